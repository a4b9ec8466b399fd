import PyProof.Rows.All
import Wide.All
import OpenK.AllK
import Wide.FinOn
import Lean
import PyProof.EqAt
import PyProof.EqKinds
import PyProof.TupleCall
import PySem.Challenge.RW_wishlots_k63_whole_other_wishes_told
set_option Elab.async false
set_option linter.all false
set_option maxRecDepth 100000
/-! THE HAND LAYER, for ints, bools, texts, own classes, LISTS and tuples (index, slices, in, append, pop ..), calls, loops. Paste it whole ahead of your own text; what your proof does not reach may be deleted. -/
namespace L2
open PySem PySem.Spec PyProof.Rows

/-- a key: an int or a str -/
abbrev Key := Sum Int Str
def keyIs : Key → Value → Bool
  | .inl k, v => Value.isInt k v
  | .inr x, v => Value.isStrOf x v
def keyH (w : World) : Key → Int
  | .inl k => hashInt k
  | .inr x => hashStr w x
theorem keyIs_shape : ∀ {k : Key} {v : Value}, keyIs k v = true → (∃ i t, k = Sum.inl i ∧ v = Value.int i t) ∨ (∃ x t, k = Sum.inr x ∧ v = Value.str x t)
  | .inl i, v, h => by
    obtain ⟨t, e⟩ := Value.isInt_shape (k := i) (v := v) h
    exact .inl ⟨i, t, rfl, e⟩
  | .inr x, v, h => by
    obtain ⟨t, e⟩ := Value.isStrOf_shape (x := x) (v := v) h
    exact .inr ⟨x, t, rfl, e⟩
theorem keyIs_int (i : Int) (t : Tok) : keyIs (.inl i) (.int i t) = true := by simp [keyIs, Value.isInt]
theorem key_ll (a b : Int) : decide ((Sum.inl a : Key) = Sum.inl b) = (a == b) := by
  by_cases e : a = b
  · subst e; simp
  · have h : ¬ (Sum.inl a : Key) = Sum.inl b := fun q => e (Sum.inl.inj q)
    rw [decide_eq_false h]
    exact (beq_eq_false_iff_ne.mpr e).symm
theorem key_rr (a b : Str) : decide ((Sum.inr a : Key) = Sum.inr b) = decide (a = b) := by
  by_cases e : a = b
  · subst e; simp
  · have h : ¬ (Sum.inr a : Key) = Sum.inr b := fun q => e (Sum.inr.inj q)
    rw [decide_eq_false h, decide_eq_false e]
theorem key_lr (a : Int) (b : Str) : decide ((Sum.inl a : Key) = Sum.inr b) = false := decide_eq_false (fun q => nomatch q)
theorem key_rl (a : Str) (b : Int) : decide ((Sum.inr a : Key) = Sum.inl b) = false := decide_eq_false (fun q => nomatch q)

def mixKind (prog : Program) (w : World) : PySem.KeyKind prog w Key where
  is := keyIs
  hash := keyH w
  inj := fun v a b ha hb => by
    rcases keyIs_shape ha with ⟨i, t, rfl, rfl⟩ | ⟨x, t, rfl, rfl⟩
    · rcases keyIs_shape hb with ⟨j, u, rfl, e⟩ | ⟨y, u, rfl, e⟩
      · injection e with e1 _; rw [e1]
      · exact nomatch e
    · rcases keyIs_shape hb with ⟨j, u, rfl, e⟩ | ⟨y, u, rfl, e⟩
      · exact nomatch e
      · injection e with e1 _; rw [e1]
  byValue := fun k v h => by
    rcases keyIs_shape h with ⟨i, t, rfl, rfl⟩ | ⟨x, t, rfl, rfl⟩ <;> rfl
  pyHash := fun hv h => by
    rcases keyIs_shape hv with ⟨i, t, rfl, rfl⟩ | ⟨x, t, rfl, rfl⟩
    · exact wpAny_pyHash_int h
    · exact wpAny_pyHash_str h
  eqBool := fun hu hv h => by
    rcases keyIs_shape hu with ⟨i, t, rfl, rfl⟩ | ⟨x, t, rfl, rfl⟩
    · rcases keyIs_shape hv with ⟨j, u, rfl, rfl⟩ | ⟨y, u, rfl, rfl⟩
      · rw [key_ll] at h; exact wpAny_eqBool_int h
      · rw [key_lr] at h; exact SeqAt.EqAt.int_str i t y u _ _ _ _ h
    · rcases keyIs_shape hv with ⟨j, u, rfl, rfl⟩ | ⟨y, u, rfl, rfl⟩
      · rw [key_rl] at h; exact SeqAt.EqAt.str_int x t j u _ _ _ _ h
      · rw [key_rr] at h; exact wpAny_eqBool_str h
  «strs» := fun k x t v h => by
    rcases keyIs_shape h with ⟨i, u, rfl, e⟩ | ⟨y, u, rfl, e⟩
    · exact nomatch e
    · injection e with e1 _
      subst e1
      cases v <;> rfl

theorem mixKind_int (prog : Program) (w : World) (i : Int) (t : Tok) : (mixKind prog w).is (.inl i) (.int i t) = true := keyIs_int i t
end L2

namespace L2
open PySem PySem.Spec PyProof.Rows

/-- a value, without the heap -/
inductive V where
  | non | bl (b : Bool) | int (i : Int) | str (x : Str) | byt (b : Array UInt8) | flt (b : UInt64) | ref (a : Addr) | ty (n : String)
  deriving DecidableEq

def RelV : V → Value → Prop
  | .non, u => u = Value.none
  | .bl b, u => u = Value.bool b
  | .int i, u => ∃ t, u = Value.int i t
  | .str x, u => ∃ t, u = Value.str x t
  | .byt b, u => ∃ t, u = Value.bytes b t
  | .flt b, u => ∃ t, u = Value.float b t
  | .ref a, u => u = Value.ref a
  | .ty n, u => u = Value.type n

abbrev Vals : List V → List Value → Prop := Paired RelV
theorem Vals.length {xs : List V} {us : List Value} (r : Vals xs us) : xs.length = us.length := Paired.length r
theorem Vals.get : ∀ {xs : List V} {us : List Value} {i : Nat} {x : V}, Vals xs us → xs[i]? = some x → ∃ u, us[i]? = some u ∧ RelV x u
  | _, _, _, _, .nil, e => by simp at e
  | _, _, 0, _, .cons r _, e => by simp at e; subst e; exact ⟨_, rfl, r⟩
  | _, _, i + 1, x, .cons _ t, e => by
    obtain ⟨u, h1, h2⟩ := Vals.get (i := i) (x := x) t (by simpa using e)
    exact ⟨u, by simpa using h1, h2⟩
theorem Vals.set {x : V} {u : Value} (r : RelV x u) : ∀ {xs : List V} {us : List Value} (i : Nat), Vals xs us → Vals (xs.set i x) (us.set i u)
  | _, _, _, .nil => .nil
  | _, _, 0, .cons _ t => .cons r t
  | _, _, i + 1, .cons q t => .cons q (Vals.set r i t)
theorem Vals.append : ∀ {xs ys : List V} {us ws : List Value}, Vals xs us → Vals ys ws → Vals (xs ++ ys) (us ++ ws)
  | _, _, _, _, .nil, s => s
  | _, _, _, _, .cons r t, s => .cons r (Vals.append t s)
theorem Vals.take : ∀ {xs : List V} {us : List Value} (n : Nat), Vals xs us → Vals (xs.take n) (us.take n)
  | _, _, 0, _ => .nil
  | _, _, _ + 1, .nil => .nil
  | _, _, n + 1, .cons r t => .cons r (Vals.take n t)
theorem Vals.drop : ∀ {xs : List V} {us : List Value} (n : Nat), Vals xs us → Vals (xs.drop n) (us.drop n)
  | _, _, 0, r => r
  | _, _, _ + 1, .nil => .nil
  | _, _, n + 1, .cons _ t => Vals.drop n t
def RelO : Option V → Option Value → Prop
  | some v, some u => RelV v u
  | none, none => True
  | _, _ => False
def KV {κ : Type} : List (κ × V) → List (κ × Value) → Prop := Paired fun (p : κ × V) (q : κ × Value) => p.1 = q.1 ∧ RelV p.2 q.2

/-- a key of a dict (00_mix): an int or a text -/
def kV : Key → V
  | .inl i => .int i
  | .inr x => .str x

/-- what stands at a tracked address -/
inductive HO where
  /-- a list -/
  | lst (xs : List V)
  /-- a tuple (never changes) -/
  | tup (xs : List V)
  /-- a dict whose keys are ints and texts; one whose keys are tuples of ints and texts (the empty one is both) -/
  | dK (kvs : List (Key × V)) | dT (kvs : List (List Key × V))
  /-- a set of ints: its members, its size -/
  | set (S : Int → Bool) (n : Nat)
  /-- an instance of the class at C, its dict at dx, its attributes -/
  | ins (C dx : Addr) (fs : List (Str × V))
  /-- the dict of the instance at x -/
  | own (x : Addr)
  /-- the dict of an exception -/
  | xd (fs : List (Str × V))
  /-- a bound method, f of x -/
  | met (f x : Addr)
  /-- a range object lo, lo + 1, .. below hi -/
  | rng (lo hi : Int)
  /-- a thing that is known to the object (the script; a dict while a loop walks it): read, never written while it is so -/
  | frz (o : Obj) (u : HO)
  /-- a code object's table -/
  | tbl (ps : Array Value)
  /-- any other thing, by what is true of its one object (a def of one's own: SetO a S n := HO.ext fun h => ..) -/
  | ext (φ : Heap → Prop)

abbrev Hp := Addr → Option HO
def upd (H : Hp) (a : Addr) (o : HO) : Hp := fun b => if b = a then some o else H b
theorem upd_same {H : Hp} {a : Addr} {o : HO} : upd H a o a = some o := by unfold upd; rw [if_pos rfl]
theorem upd_ne {H : Hp} {a b : Addr} {o : HO} (h : b ≠ a) : upd H a o b = H b := by unfold upd; rw [if_neg h]
/-- two objects of different content stand apart -/
theorem ne_of {H : Hp} {a b : Addr} {o u : HO} (h : H a = some o) (h' : H b = some u) (d : o ≠ u) : a ≠ b := by
  intro e; subst e; rw [h] at h'; exact d (Option.some.inj h')
theorem ne_of_none {H : Hp} {a b : Addr} {o : HO} (h : H a = some o) (h' : H b = none) : a ≠ b := by
  intro e; subst e; rw [h] at h'; cases h'

section
variable (P : Program) (w : World)
def ObjOk (H : Hp) (h : Heap) (a : Addr) : HO → Prop
  | .lst xs => xs.length ≤ sizeLine ∧ ∃ (its : List Value) (n : Nat), Vals xs its ∧ h.get? a = some { cls := .type "list", data := .seq its.toArray n }
  | .tup xs => xs.length ≤ sizeLine ∧ ∃ its : List Value, Vals xs its ∧ IsTup h a its.toArray
  | .dK kvs => kvs.length ≤ sizeLine ∧ (a == sysModules) = false ∧ ∃ vs, KV kvs vs ∧ h.DictOf (mixKind P w) a vs
  | .dT kvs => kvs.length ≤ sizeLine ∧ (a == sysModules) = false ∧ ∃ xs : List (List Key × Addr × Value),
      Paired (fun (p : List Key × V) (q : List Key × Addr × Value) => p.1 = q.1 ∧ H q.2.1 = some (.tup (p.1.map kV)) ∧ RelV p.2 q.2.2) kvs xs ∧
      ∃ o es ep, h.get? a = some o ∧ o.ExactDict ∧ o.data = .dict es ep ∧ es.toList = xs.map (entryOfKey (tupleKind (mixKind P w))) ∧ (xs.map (·.1)).Nodup
  | .set S n => h.SetOf (intKind P w) a S n
  | .ins C dx fs => H dx = some (.own a) ∧ fs.length ≤ 1000 ∧ dx ≠ a ∧ h.get? a = some (PySem.W.instObj C dx) ∧
      ∃ mA, h.Ns1 dx mA ∧ (∀ f, RelO (fs.lookup f) (mA f)) ∧ PySem.Within mA (fs.map (·.1))
  | .own _ => ∃ o, h.get? a = some o
  | .xd fs => ∃ mA, h.Ns1 a mA ∧ ∀ f, RelO (fs.lookup f) (mA f)
  | .rng lo hi => ∃ t u v, h.get? a = some { cls := .type "range", data := .fields #[.int lo t, .int hi u, .int 1 v] }
  | .frz o u => h.get? a = some o ∧ ObjOk H h a u
  | .tbl ps => h.get? a = some { cls := .none, data := .fields ps }
  | .met f x => h.get? a = some (PySem.W.methodObj (.ref f) (.ref x))
  | .ext φ => φ h ∧ (∃ o, h.get? a = some o) ∧ ∀ h1 h2 : Heap, φ h1 → (∀ o, h1.get? a = some o → h2.get? a = some o) → φ h2
/-- the abstract heap is held -/
def HOk (H : Hp) (h : Heap) : Prop := ∀ a o, H a = some o → ObjOk P w H h a o
end

section
variable {P : Program} {w : World} {H H' : Hp} {h h' : Heap} {a : Addr} {o : HO}
theorem ObjOk.lt (x : ObjOk P w H h a o) : a < h.objs.size := by
  cases o with
  | lst xs => obtain ⟨_, _, _, _, e⟩ := x; exact Heap.lt_size e
  | tup xs => obtain ⟨_, _, _, p⟩ := x; exact p.lt
  | dK kvs => obtain ⟨_, _, _, _, o, _, _, e, _⟩ := x; exact Heap.lt_size e
  | dT kvs => obtain ⟨_, _, _, _, o, _, _, e, _⟩ := x; exact Heap.lt_size e
  | set S n => obtain ⟨o, _, _, _, e, _⟩ := x; exact Heap.lt_size e
  | ins C dx fs => obtain ⟨_, _, _, e, _⟩ := x; exact Heap.lt_size e
  | own y => obtain ⟨_, e⟩ := x; exact Heap.lt_size e
  | xd fs => obtain ⟨_, ⟨_, _, _, e, _⟩, _⟩ := x; exact Heap.lt_size e
  | rng lo hi => obtain ⟨_, _, _, e⟩ := x; exact Heap.lt_size e
  | frz ob u => obtain ⟨e, _⟩ := x; exact Heap.lt_size e
  | tbl ps => exact Heap.lt_size (show h.get? a = some _ from x)
  | met f y => exact Heap.lt_size (show h.get? a = some _ from x)
  | ext φ => obtain ⟨_, ⟨_, e⟩, _⟩ := x; exact Heap.lt_size e
theorem Paired.mapP {α β : Type} {F G : α → β → Prop} : ∀ {l₁ : List α} {l₂ : List β}, Paired F l₁ l₂ → (∀ a b, F a b → G a b) → Paired G l₁ l₂
  | _, _, .nil, _ => .nil
  | _, _, .cons r t, f => .cons (f _ _ r) (Paired.mapP t f)
/-- what an object's description leans on: its own object, its own dict, the tuples -/
theorem ObjOk.stay (x : ObjOk P w H h a o) (k : ∀ b u, (b = a ∨ H b = some (.own a)) → h.get? b = some u → h'.get? b = some u)
    (ho : ∀ b, H b = some (.own a) → H' b = some (.own a)) (ht : ∀ b xs, H b = some (.tup xs) → H' b = some (.tup xs)) : ObjOk P w H' h' a o := by
  induction o with
  | lst xs => obtain ⟨z, its, n, r, e⟩ := x; exact ⟨z, its, n, r, k _ _ (.inl rfl) e⟩
  | tup xs => obtain ⟨z, its, r, ob, e, c⟩ := x; exact ⟨z, its, r, ob, k _ _ (.inl rfl) e, c⟩
  | dK kvs => obtain ⟨z, y, vs, r, ob, es, ep, e, c⟩ := x; exact ⟨z, y, vs, r, ob, es, ep, k _ _ (.inl rfl) e, c⟩
  | dT kvs =>
    obtain ⟨z, y, xs, r, ob, es, ep, e, c⟩ := x
    exact ⟨z, y, xs, Paired.mapP r fun p q z => ⟨z.1, ht _ _ z.2.1, z.2.2⟩, ob, es, ep, k _ _ (.inl rfl) e, c⟩
  | set S n => obtain ⟨ob, es, ep, t, e, c⟩ := x; exact ⟨ob, es, ep, t, k _ _ (.inl rfl) e, c⟩
  | ins C dx fs =>
    obtain ⟨d, z, ne, e, mA, ⟨od, es, ep, e2, c⟩, r⟩ := x
    exact ⟨ho _ d, z, ne, k _ _ (.inl rfl) e, mA, ⟨od, es, ep, k _ _ (.inr d) e2, c⟩, r⟩
  | own y => obtain ⟨ob, e⟩ := x; exact ⟨ob, k _ _ (.inl rfl) e⟩
  | xd fs => obtain ⟨mA, ⟨od, es, ep, e, c⟩, r⟩ := x; exact ⟨mA, ⟨od, es, ep, k _ _ (.inl rfl) e, c⟩, r⟩
  | rng lo hi => obtain ⟨t, u, v, e⟩ := x; exact ⟨t, u, v, k _ _ (.inl rfl) e⟩
  | frz ob u ih => obtain ⟨e, q⟩ := x; exact ⟨k _ _ (.inl rfl) e, ih q⟩
  | tbl ps =>
    have e : h.get? a = some { cls := .none, data := .fields ps } := x
    show h'.get? a = some { cls := .none, data := .fields ps }
    exact k a _ (.inl rfl) e
  | met f y =>
    have e : h.get? a = some (PySem.W.methodObj (.ref f) (.ref y)) := x
    show h'.get? a = some (PySem.W.methodObj (.ref f) (.ref y))
    exact k a _ (.inl rfl) e
  | ext φ => obtain ⟨p, ⟨o, e⟩, st⟩ := x; exact ⟨st _ _ p fun o q => k _ _ (.inl rfl) q, ⟨o, k _ _ (.inl rfl) e⟩, st⟩
theorem HOk.lt (x : HOk P w H h) (e : H a = some o) : a < h.objs.size := (x a o e).lt
theorem HOk.fresh (x : HOk P w H h) (e : h.objs.size ≤ a) : H a = none := by
  cases q : H a with
  | none => rfl
  | some u => exact absurd (Nat.lt_of_lt_of_le (x.lt q) e) (Nat.lt_irrefl _)
/-- every object of the heap is kept -/
theorem HOk.kept (x : HOk P w H h) (k : ∀ b u, h.get? b = some u → h'.get? b = some u) : HOk P w H h' := fun a o e =>
  (x a o e).stay (fun b u _ q => k b u q) (fun _ q => q) fun _ _ q => q
/-- a new object is laid and tracked -/
theorem HOk.laid (x : HOk P w H h) (k : ∀ b u, h.get? b = some u → h'.get? b = some u) (hp : h.objs.size ≤ a) (new : ObjOk P w (upd H a o) h' a o) : HOk P w (upd H a o) h' := fun b u e => by
  have hn := x.fresh hp
  by_cases hb : b = a
  · subst hb; rw [upd_same] at e; cases e; exact new
  · rw [upd_ne hb] at e
    exact (x b u e).stay (fun c v _ q => k c v q) (fun c q => by rw [upd_ne (ne_of_none q hn)]; exact q) fun c xs q => by rw [upd_ne (ne_of_none q hn)]; exact q
end

/-- what may be read as u: it is u, or a known u -/
def Rd (H : Hp) (a : Addr) (u : HO) : Prop := H a = some u ∨ ∃ o, H a = some (.frz o u)
theorem Rd.of {H : Hp} {a : Addr} {u : HO} (h : H a = some u) : Rd H a u := .inl h
theorem Rd.ok {P : Program} {w : World} {H : Hp} {h : Heap} {a : Addr} {u : HO} (r : Rd H a u) (x : HOk P w H h) : ObjOk P w H h a u := by
  rcases r with r | ⟨o, r⟩
  · exact x a u r
  · obtain ⟨_, q⟩ := x a _ r
    exact q
/-- what may be written -/
def Mut : Option HO → Prop
  | some (.lst _) => True
  | some (.dK _) => True
  | some (.dT _) => True
  | some (.set _ _) => True
  | some (.ins _ _ _) => True
  | some (.ext _) => True
  | _ => False
section
variable {P : Program} {w : World} {H : Hp} {h h' : Heap} {x e : Addr} {o' : HO}
/-- the object at e is changed: x itself, or the dict of the instance x -/
theorem HOk.write (ok : HOk P w H h) (mu : Mut (H x)) (he : e = x ∨ H e = some (.own x)) (k : ∀ b u, b ≠ e → h.get? b = some u → h'.get? b = some u) (heo : ∃ u, h'.get? e = some u)
    (new : ObjOk P w (upd H x o') h' x o') : HOk P w (upd H x o') h' := fun b u q => by
  have nown : ∀ c y, H c = some (.own y) → c ≠ x := fun c y r z => by subst z; rw [r] at mu; exact mu
  have ntup : ∀ c xs, H c = some (.tup xs) → c ≠ x := fun c xs r z => by subst z; rw [r] at mu; exact mu
  by_cases hb : b = x
  · subst hb; rw [upd_same] at q; cases q; exact new
  · rw [upd_ne hb] at q
    by_cases hbe : b = e
    · have q' : H b = some (.own x) := by
        rcases he with z | z
        · exact absurd (hbe.trans z) hb
        · rw [hbe]; exact z
      rw [q] at q'; cases q'
      obtain ⟨v, hv⟩ := heo
      exact ⟨v, by rw [hbe]; exact hv⟩
    · refine (ok b u q).stay (fun c v hc r => k c v ?_ r) (fun c r => by rw [upd_ne (nown c b r)]; exact r) fun c xs r => by rw [upd_ne (ntup c xs r)]; exact r
      rcases hc with rfl | hc
      · exact hbe
      · rintro rfl
        rcases he with z | z
        · exact nown c b hc z
        · rw [hc] at z; cases z; exact hb rfl
end

/-! ### kept unless tracked; of the frames at fs (the callers') the slots may change (an exception that passes writes there); of the records at ex (iterators) nothing is said -/
structure Un (fs ex : List Addr) (H H' : Hp) (h h' : Heap) : Prop where
  keep : ∀ b o, h.get? b = some o → H b = none → b ∉ fs → b ∉ ex → h'.get? b = some o
  slot : ∀ b o, h.get? b = some o → H b = none → b ∈ fs → b ∉ ex → ∃ sl, h'.get? b = some { o with slots := sl }
  free : ∀ b o, h.get? b = some o → H b = none → b ∉ ex → H' b = none
  there : ∀ b o, h.get? b = some o → b ∉ ex → ∃ o', h'.get? b = some o'
  tups : ∀ b xs, H b = some (.tup xs) → H' b = some (.tup xs)
  frzs : ∀ b o u, H b = some (.frz o u) → H' b = some (.frz o u)
  tbls : ∀ b ps, H b = some (.tbl ps) → ∃ more, H' b = some (.tbl (ps ++ more))
section
variable {fs fs' ex ex' : List Addr} {H H1 H2 : Hp} {h h1 h2 h' : Heap} {a x e : Addr} {o : HO}
theorem Un.any (u : Un fs ex H H1 h h1) {b : Addr} {ob : Obj} (q : h.get? b = some ob) (n : H b = none) (hx : b ∉ ex) : ∃ sl, h1.get? b = some { ob with slots := sl } := by
  by_cases hb : b ∈ fs
  · exact u.slot b ob q n hb hx
  · exact ⟨ob.slots, u.keep b ob q n hb hx⟩
theorem Un.trans (a : Un fs ex H H1 h h1) (b : Un fs ex H1 H2 h1 h2) : Un fs ex H H2 h h2 where
  keep := fun c ob q n hc hx => b.keep c ob (a.keep c ob q n hc hx) (a.free c ob q n hx) hc hx
  slot := fun c ob q n hc hx => by
    obtain ⟨sl, e1⟩ := a.slot c ob q n hc hx
    obtain ⟨sl', e2⟩ := b.slot c _ e1 (a.free c ob q n hx) hc hx
    exact ⟨sl', e2⟩
  free := fun c ob q n hx => by
    obtain ⟨o', e1⟩ := a.there c ob q hx
    exact b.free c o' e1 (a.free c ob q n hx) hx
  there := fun c ob q hx => by
    obtain ⟨o', e1⟩ := a.there c ob q hx
    exact b.there c o' e1 hx
  tups := fun c xs q => b.tups c xs (a.tups c xs q)
  frzs := fun c ob xs q => b.frzs c ob xs (a.frzs c ob xs q)
  tbls := fun c ps q => by
    obtain ⟨m1, e1⟩ := a.tbls c ps q
    obtain ⟨m2, e2⟩ := b.tbls c _ e1
    exact ⟨m1 ++ m2, by rw [e2, Array.append_assoc]⟩
theorem Un.kept (k : ∀ b u, h.get? b = some u → h'.get? b = some u) : Un fs ex H H h h' :=
  ⟨fun b ob q _ _ _ => k b ob q, fun b ob q _ _ _ => ⟨ob.slots, k b ob q⟩, fun _ _ _ n _ => n, fun b ob q _ => ⟨ob, k b ob q⟩, fun _ _ q => q, fun _ _ _ q => q, fun _ ps q => ⟨#[], by rw [q]; simp⟩⟩
theorem Un.refl : Un fs ex H H h h := Un.kept fun _ _ q => q
theorem Un.laid (k : ∀ b u, h.get? b = some u → h'.get? b = some u) (hp : h.objs.size ≤ a) (hn : H a = none) : Un fs ex H (upd H a o) h h' where
  keep := fun b u q _ _ _ => k b u q
  slot := fun b u q _ _ _ => ⟨u.slots, k b u q⟩
  free := fun b u q n _ => by rw [upd_ne (Nat.ne_of_lt (Nat.lt_of_lt_of_le (Heap.lt_size q) hp))]; exact n
  there := fun b u q _ => ⟨u, k b u q⟩
  tups := fun b xs q => by rw [upd_ne (ne_of_none q hn)]; exact q
  frzs := fun b u xs q => by rw [upd_ne (ne_of_none q hn)]; exact q
  tbls := fun b ps q => ⟨#[], by rw [upd_ne (ne_of_none q hn), q]; simp⟩
theorem Un.write (mu : Mut (H x)) (he : e = x ∨ H e = some (.own x)) (k : ∀ b u, b ≠ e → h.get? b = some u → h'.get? b = some u) (heo : ∃ u, h'.get? e = some u) : Un fs ex H (upd H x o) h h' := by
  have hx : ∀ b, H b = none → b ≠ x := fun b n z => by subst z; rw [n] at mu; exact mu
  have hb : ∀ b, H b = none → b ≠ e := fun b n z => by
    subst z
    rcases he with r | r
    · exact hx b n r
    · rw [n] at r; cases r
  have hm : ∀ b u, H b = some u → ¬ Mut (some u) → b ≠ x := fun b u q nm z => by subst z; rw [q] at mu; exact nm mu
  refine ⟨fun b u q n _ _ => k b u (hb b n) q, fun b u q n _ _ => ⟨u.slots, k b u (hb b n) q⟩, fun b u q n _ => by rw [upd_ne (hx b n)]; exact n, fun b u q _ => ?_,
    fun b xs q => by rw [upd_ne (hm b _ q fun z => z)]; exact q, fun b u xs q => by rw [upd_ne (hm b _ q fun z => z)]; exact q, fun b ps q => ⟨#[], by rw [upd_ne (hm b _ q fun z => z), q]; simp⟩⟩
  by_cases hbe : b = e
  · subst hbe; exact heo
  · exact ⟨u, k b u hbe q⟩
theorem Un.mono (u : Un fs ex H H1 h h1) (hs : ∀ b ∈ fs, b ∈ fs') (hx : ∀ b ∈ ex, b ∈ ex') : Un fs' ex' H H1 h h1 :=
  ⟨fun b ob q n hb he => u.keep b ob q n (fun z => hb (hs b z)) fun z => he (hx b z), fun _ _ q n _ he => u.any q n fun z => he (hx _ z), fun b ob q n he => u.free b ob q n fun z => he (hx b z), fun b ob q he => u.there b ob q fun z => he (hx b z), u.tups, u.frzs, u.tbls⟩
end

/-! ### the heap without what is tracked -/
def trk (h : Heap) (H : Hp) : List Addr := (List.range h.objs.size).filter fun a => (H a).isSome
def hidT (h : Heap) (H : Hp) : Heap := PySem.W.hideAll h (trk h H)
theorem hidT_size (h : Heap) (H : Hp) : (hidT h H).objs.size = h.objs.size := PySem.W.hideAll_size _ _
theorem hidT_get {h : Heap} {H : Hp} {b : Addr} {o : Obj} (e : h.get? b = some o) (n : H b = none) : (hidT h H).get? b = some o :=
  PySem.W.hideAll_get _ e fun hm => by
    have q : (H b).isSome = true := (List.mem_filter.mp hm).2
    rw [n] at q; simp at q
theorem of_hidT {h : Heap} {H : Hp} {b : Addr} {o : Obj} (e : (hidT h H).get? b = some o) : h.get? b = some o ∧ H b = none := by
  have e' : h.get? b = some o := PySem.W.of_hideAll (trk h H) e
  refine ⟨e', ?_⟩
  cases q : H b with
  | none => rfl
  | some x =>
    have hm : b ∈ trk h H := List.mem_filter.mpr ⟨List.mem_range.mpr (Heap.lt_size e'), by simp [q]⟩
    have z : (hidT h H).get? b = none := PySem.W.hideAll_none (trk h H) hm
    rw [z] at e; cases e

/-! ### OpenK's ledger, filled with every new object but one -/
def allNews (g h : Heap) (L : Addr) : List (Addr × Obj) := (List.range h.objs.size).filterMap fun a => if a = L ∨ (g.get? a).isSome = true then none else (h.get? a).map fun o => (a, o)
def rest (g h : Heap) (L d : Addr) : List (Addr × Obj) := (allNews g h L).filter fun p => decide (p.1 ≠ d)
end L2

namespace L2
open PySem PySem.Spec PyProof.Rows

/-- the module's facts, over the base: the heap at the law's entry without what is tracked there -/
structure Mod (K : PySem.W.Frag) (mg : Str → Option Value) (base : Heap) : Prop where
  kin : K.In base
  glob : base.Ns mainGlobals mg
  blt : ∃ mb, base.Ns builtinsNs mb ∧ ∀ x : Str, x ≠ "__name__" → mb x = bootBuiltins x
  nolimit : base.NoLimit

/-- the context: a def's body (or a comprehension's block) running. base: fixed through the whole law; s₀, H₀: the entry; outer: the frames whose slots others may change (a def's callers); stack: all frames that run;
   ex: iterators that were made ahead of the entry and are walked here (a comprehension's); fn: the names whose cells were made at the entry (a def: all; a comprehension's block: its own); calm: not within an except suite; pn: pins that every state bears; xe: what is wanted of an exception that leaves the code -/
structure Cx where
  prog : Program
  w : World
  K : PySem.W.Frag
  mg : Str → Option Value
  base : Heap
  A : Around
  N : List Str
  s₀ : Shared
  H₀ : Hp
  env : Env
  outer : List Env
  stack : List Env
  ex : List Addr
  fn : Str → Bool
  calm : Bool
  pn : List (Addr × Obj)
  xe : Value → Shared → Prop
/-- the callers' frames -/
def frs (l : List Env) : List Addr := l.filterMap (·.frame)
abbrev Cx.fs (X : Cx) : List Addr := frs X.outer

def Vis (sc : Scope) (x : Str) : Prop := sc.names.lookup x = some .local ∨ sc.names.lookup x = some .cell ∨ sc.names.lookup x = some .free
def Loc (sc : Scope) (x : Str) : Prop := sc.names.lookup x = some .local ∨ sc.names.lookup x = some .cell
def Look (env : Env) (h : Heap) (m : Str → Option Value) (x : Str) (u : Value) : Prop :=
  (env.kindOf x = some .local ∧ m x = some u) ∨ ((env.kindOf x = some .cell ∨ env.kindOf x = some .free) ∧ ∃ c, env.cells.lookup x = some c ∧ h.IsCell c (some u))

structure Cx.Ok (X : Cx) : Prop where
  mod : Mod X.K X.mg X.base
  kind : X.env.scope.kind = .function
  glob : X.env.globals = mainGlobals
  blt : X.env.builtins = builtinsNs
  above : X.s₀.heap.objs.size ≤ X.env.locals
  inj : ∀ x y c, X.env.cells.lookup x = some c → X.env.cells.lookup y = some c → x = y
  has : ∀ x, (X.env.kindOf x = some .cell ∨ X.env.kindOf x = some .free) → ∃ c, X.env.cells.lookup x = some c
  cab : ∀ x c, X.fn x = true → X.env.cells.lookup x = some c → X.s₀.heap.objs.size ≤ c
  hd : X.calm = true → X.A.handled = none
  frames : X.A.frames = some X.stack
  stk : X.stack = X.outer ∨ (X.stack = X.env :: X.outer ∧ X.env.frame = some X.env.locals)
  exf : ∀ b ∈ X.ex, b ≠ X.env.locals ∧ ∀ x c, X.env.cells.lookup x = some c → c ≠ b
  bs : ∀ b o, X.base.get? b = some o → X.s₀.heap.get? b = some o ∧ X.H₀ b = none
  bsz : X.base.objs.size ≤ X.s₀.heap.objs.size
  noex : ∀ b o, X.base.get? b = some o → b ∉ X.ex
  exfs : ∀ b ∈ X.ex, b ∉ X.fs
  funs : X.s₀.heap.FunFrames X.base X.outer
  frf : ∀ b ∈ X.fs, X.H₀ b = none

structure Inv (X : Cx) (pins : List (Addr × Obj)) (σ : List (Option V)) (H : Hp) (s : Shared) : Prop where
  ok : X.Ok
  os : s.os = X.s₀.os
  bare : AllBare s.gens
  base : Un X.fs X.ex X.H₀ H X.s₀.heap s.heap
  loc : ∃ m, s.heap.Ns X.env.locals m ∧ ∀ (i : Nat) (x : Str) (v : V), X.N[i]? = some x → σ[i]? = some (some v) → Vis X.env.scope x → ∃ u, RelV v u ∧ Look X.env s.heap m x u
  cell : ∀ x c, X.env.cells.lookup x = some c → ∃ v, s.heap.IsCell c v
  free : H X.env.locals = none
  freeC : ∀ x c, X.env.cells.lookup x = some c → H c = none
  pin : ∀ p ∈ X.pn ++ pins, s.heap.get? p.1 = some p.2 ∧ H p.1 = none ∧ p.1 ≠ X.env.locals ∧ p.1 ∉ X.fs ∧ ∀ v, p.2.data ≠ .cell v
  hok : HOk X.prog X.w H s.heap
  len : σ.length = X.N.length

section
variable {X : Cx} {pins : List (Addr × Obj)} {σ : List (Option V)} {H H' : Hp} {s : Shared} {h' : Heap}

theorem Cx.Ok.nofr (ok : X.Ok) {b : Addr} {o : Obj} (e : X.base.get? b = some o) : b ∉ X.fs := fun hb => by
  have := (ok.funs.mem hb).1
  rw [e] at this; cases this
theorem Inv.bs (I : Inv X pins σ H s) : ∀ b o, X.base.get? b = some o → s.heap.get? b = some o ∧ H b = none := fun b o e =>
  ⟨I.base.keep b o (I.ok.bs b o e).1 (I.ok.bs b o e).2 (I.ok.nofr e) (I.ok.noex b o e), I.base.free b o (I.ok.bs b o e).1 (I.ok.bs b o e).2 (I.ok.noex b o e)⟩
theorem Inv.bk (I : Inv X pins σ H s) : ∀ b o, X.base.get? b = some o → s.heap.get? b = some o := fun b o e => (I.bs b o e).1
theorem Inv.mod (I : Inv X pins σ H s) : Mod X.K X.mg X.base := I.ok.mod
theorem Inv.kIn (I : Inv X pins σ H s) : X.K.In s.heap := I.ok.mod.kin.keeps I.bk
theorem Inv.nolimit (I : Inv X pins σ H s) : s.heap.NoLimit := I.ok.mod.nolimit.keeps I.bk
/-- the frame over the base: for OpenK's rules (K.In X.base is I.mod.kin) -/
theorem Inv.fr (I : Inv X pins σ H s) : ∃ m, Fr X.base X.env.locals s.heap m :=
  let ⟨m, hn, _⟩ := I.loc
  ⟨m, hn, I.bk, Nat.le_trans I.ok.bsz I.ok.above⟩
theorem Inv.lt (I : Inv X pins σ H s) : X.env.locals < s.heap.objs.size := let ⟨_, hn, _⟩ := I.loc; hn.lt
theorem Inv.sz (I : Inv X pins σ H s) : X.s₀.heap.objs.size ≤ s.heap.objs.size := Nat.le_trans I.ok.above (Nat.le_of_lt I.lt)
theorem Inv.nofs (I : Inv X pins σ H s) {a : Addr} (h : s.heap.objs.size ≤ a) : a ∉ X.fs := fun hb => by
  obtain ⟨_, o, ho, _⟩ := I.ok.funs.mem hb
  exact absurd (Nat.lt_of_lt_of_le (Heap.lt_size ho) (Nat.le_trans I.sz h)) (Nat.lt_irrefl _)
theorem Inv.cne (I : Inv X pins σ H s) : ∀ x c, X.env.cells.lookup x = some c → c ≠ X.env.locals := fun x c e z => by
  obtain ⟨v, o, ho, hd⟩ := I.cell x c e
  obtain ⟨m, ⟨o', es, ep, ho', hd', _⟩, _⟩ := I.loc
  rw [z, ho'] at ho; cases ho; rw [hd'] at hd; cases hd
theorem Inv.funs (I : Inv X pins σ H s) : s.heap.FunFrames X.base X.outer := by
  have all : ∀ (l : List Env), (∀ b ∈ frs l, b ∈ X.fs) → X.s₀.heap.FunFrames X.base l → s.heap.FunFrames X.base l := by
    intro l
    induction l with
    | nil => intro _ _; trivial
    | cons env r ih =>
      intro hs hl
      obtain ⟨hk, ⟨L, o, hf, hn, ho, hd⟩, hr⟩ := hl
      have hL : L ∈ X.fs := hs L (by unfold frs; rw [List.filterMap_cons, hf]; exact List.mem_cons_self)
      obtain ⟨sl, e⟩ := I.base.slot L o ho (I.ok.frf L hL) hL fun z => I.ok.exfs L z hL
      exact ⟨hk, ⟨L, _, hf, hn, e, hd⟩, ih (fun b hb => hs b (by unfold frs; rw [List.filterMap_cons, hf]; exact List.mem_cons_of_mem _ hb)) hr⟩
  exact all X.outer (fun _ hb => hb) I.ok.funs

/-- the frames that run, for a call -/
theorem Inv.stack (I : Inv X pins σ H s) : s.heap.FunFrames X.base X.stack := by
  rcases I.ok.stk with e | ⟨e, hf⟩
  · rw [e]; exact I.funs
  · rw [e]
    obtain ⟨m, hn, _⟩ := I.loc
    refine .cons (by rw [I.ok.kind]; decide) hf hn ?_ I.funs
    exact Heap.get?_none_of_le (Nat.le_trans I.ok.bsz I.ok.above)
theorem Inv.stkSub (I : Inv X pins σ H s) : ∀ b ∈ frs X.stack, b ∈ X.env.locals :: X.fs := fun b hb => by
  rcases I.ok.stk with e | ⟨e, hf⟩
  · rw [e] at hb; exact List.mem_cons_of_mem _ hb
  · rw [e] at hb
    unfold frs at hb
    rw [List.filterMap_cons, hf] at hb
    exact hb
theorem Inv.stkFree (I : Inv X pins σ H s) : ∀ b ∈ frs X.stack, H b = none := fun b hb => by
  rcases List.mem_cons.mp (I.stkSub b hb) with e | hb
  · rw [e]; exact I.free
  · obtain ⟨_, o, ho, _⟩ := I.ok.funs.mem hb
    exact I.base.free b o ho (I.ok.frf b hb) fun z => I.ok.exfs b z hb

/-- THE STEP: the untracked objects but the frame and the records at ch are kept (the callers' frames up to slots), the frame's map is kept, the new abstract heap is held -/
theorem Inv.step {g' : Array GenState} {t' : Nat} {d' : Drawn} {ch : List Addr} (I : Inv X pins σ H s)
    (hch : ∀ b ∈ ch, (b ∈ X.ex ∨ X.s₀.heap.objs.size ≤ b) ∧ b ≠ X.env.locals ∧ (∀ x c, X.env.cells.lookup x = some c → c ≠ b) ∧ ∀ p ∈ X.pn ++ pins, p.1 ≠ b)
    (keep : ∀ b o, b ≠ X.env.locals → b ∉ X.fs → b ∉ ch → s.heap.get? b = some o → H b = none → h'.get? b = some o)
    (slot : ∀ b o, b ≠ X.env.locals → b ∈ X.fs → b ∉ ch → s.heap.get? b = some o → H b = none → ∃ sl, h'.get? b = some { o with slots := sl }) (free : ∀ b o, b ∉ ch → s.heap.get? b = some o → H b = none → H' b = none)
    (there : ∀ b o, b ∉ ch → s.heap.get? b = some o → ∃ o', h'.get? b = some o')
    (tups : ∀ b xs, H b = some (.tup xs) → H' b = some (.tup xs)) (frzs : ∀ b o u, H b = some (.frz o u) → H' b = some (.frz o u)) (tbls : ∀ b ps, H b = some (.tbl ps) → ∃ more, H' b = some (.tbl (ps ++ more)))
    (ns : ∀ m, s.heap.Ns X.env.locals m → h'.Ns X.env.locals m) (hok : HOk X.prog X.w H' h') (hg : AllBare g') :
    Inv X pins σ H' { s with heap := h', gens := g', drawn := d', toks := t' } := by
  have neL : ∀ b o, X.s₀.heap.get? b = some o → b ≠ X.env.locals := fun b o e => Nat.ne_of_lt (Nat.lt_of_lt_of_le (Heap.lt_size e) I.ok.above)
  have neC : ∀ b o, X.s₀.heap.get? b = some o → b ∉ X.ex → b ∉ ch := fun b o e hx hb => by
    rcases (hch b hb).1 with z | z
    · exact hx z
    · exact absurd (Nat.lt_of_lt_of_le (Heap.lt_size e) z) (Nat.lt_irrefl _)
  have cellK : ∀ x c, X.env.cells.lookup x = some c → ∀ v, s.heap.IsCell c v → h'.IsCell c v := fun x c e v ⟨o, ho, hd⟩ => by
    have nch : c ∉ ch := fun z => (hch c z).2.2.1 x c e rfl
    by_cases hc : c ∈ X.fs
    · obtain ⟨sl, q⟩ := slot c o (I.cne x c e) hc nch ho (I.freeC x c e)
      exact ⟨_, q, hd⟩
    · exact ⟨o, keep c o (I.cne x c e) hc nch ho (I.freeC x c e), hd⟩
  refine ⟨I.ok, I.os, hg, ⟨fun b o e n hb hx => ?_, fun b o e n hb hx => ?_, fun b o e n hx => ?_, fun b o e hx => ?_, fun b xs e => tups b xs (I.base.tups b xs e), fun b o xs e => frzs b o xs (I.base.frzs b o xs e), fun b ps e => ?_⟩, ?_, fun x c e => ?_, ?_, fun x c e => ?_, fun p hp => ?_, hok, I.len⟩
  · exact keep b o (neL b o e) hb (neC b o e hx) (I.base.keep b o e n hb hx) (I.base.free b o e n hx)
  · obtain ⟨sl, e1⟩ := I.base.slot b o e n hb hx
    obtain ⟨sl', e2⟩ := slot b _ (neL b o e) hb (neC b o e hx) e1 (I.base.free b o e n hx)
    exact ⟨sl', e2⟩
  · obtain ⟨o', e1⟩ := I.base.there b o e hx
    exact free b o' (neC b o e hx) e1 (I.base.free b o e n hx)
  · obtain ⟨o', e1⟩ := I.base.there b o e hx
    exact there b o' (neC b o e hx) e1
  · obtain ⟨m1, e1⟩ := I.base.tbls b ps e
    obtain ⟨m2, e2⟩ := tbls b _ e1
    exact ⟨m1 ++ m2, by rw [e2, Array.append_assoc]⟩
  · obtain ⟨m, hn, hl⟩ := I.loc
    refine ⟨m, ns m hn, fun i x v e1 e2 e3 => ?_⟩
    obtain ⟨u, r, l⟩ := hl i x v e1 e2 e3
    refine ⟨u, r, ?_⟩
    rcases l with l | ⟨k, c, e, z⟩
    · exact .inl l
    · exact .inr ⟨k, c, e, cellK x c e _ z⟩
  · obtain ⟨v, z⟩ := I.cell x c e
    exact ⟨v, cellK x c e v z⟩
  · obtain ⟨m, ⟨o, _, _, ho, _⟩, _⟩ := I.loc
    exact free _ o (fun z => (hch _ z).2.1 rfl) ho I.free
  · obtain ⟨v, o, ho, hd⟩ := I.cell x c e
    exact free c o (fun z => (hch c z).2.2.1 x c e rfl) ho (I.freeC x c e)
  · obtain ⟨e, n, ne, nf, d⟩ := I.pin p hp
    have nch : p.1 ∉ ch := fun z => (hch p.1 z).2.2.2 p hp rfl
    exact ⟨keep p.1 p.2 ne nf nch e n, free p.1 p.2 nch e n, ne, nf, d⟩
/-- .. where the frame's own object is kept too -/
theorem Inv.un {t' : Nat} (I : Inv X pins σ H s) (u : Un X.fs [] H H' s.heap h') (hok : HOk X.prog X.w H' h') : Inv X pins σ H' { s with heap := h', toks := t' } := by
  obtain ⟨m, ⟨o, es, ep, ho, r⟩, _⟩ := id I.loc
  obtain ⟨sl, hL⟩ := u.any ho I.free (by simp)
  exact I.step (g' := s.gens) (d' := s.drawn) (ch := []) (fun _ z => nomatch z) (fun b o _ hb _ e n => u.keep b o e n hb (by simp)) (fun b o _ hb _ e n => u.slot b o e n hb (by simp)) (fun b o _ e n => u.free b o e n (by simp)) (fun b o _ e => u.there b o e (by simp)) u.tups u.frzs u.tbls (fun m' hm => by
    obtain ⟨o', es', ep', ho', r'⟩ := hm
    rw [ho] at ho'; cases ho'
    exact ⟨_, es', ep', hL, r'⟩) hok I.bare
/-- behind a call (or a comprehension's block): the slots of this frame may have changed too, the records at ch may have turned -/
theorem Inv.call {g' : Array GenState} {t' : Nat} {d' : Drawn} {ch : List Addr} (I : Inv X pins σ H s) (u : Un (frs X.stack) ch H H' s.heap h') (hok : HOk X.prog X.w H' h') (hg : AllBare g')
    (hch : ∀ b ∈ ch, (b ∈ X.ex ∨ X.s₀.heap.objs.size ≤ b) ∧ b ≠ X.env.locals ∧ (∀ x c, X.env.cells.lookup x = some c → c ≠ b) ∧ ∀ p ∈ X.pn ++ pins, p.1 ≠ b) :
    Inv X pins σ H' { s with heap := h', gens := g', drawn := d', toks := t' } := by
  obtain ⟨m, ⟨o, es, ep, ho, r⟩, _⟩ := id I.loc
  obtain ⟨sl, hL⟩ := u.any ho I.free fun z => (hch _ z).2.1 rfl
  exact I.step (ch := ch) hch (fun b o hL hb hc e n => u.keep b o e n (fun z => (List.mem_cons.mp (I.stkSub b z)).elim hL hb) hc) (fun b o _ _ hc e n => u.any e n hc) (fun b o hc e n => u.free b o e n hc) (fun b o hc e => u.there b o e hc) u.tups u.frzs u.tbls (fun m' hm => by
    obtain ⟨o', es', ep', ho', r'⟩ := hm
    rw [ho] at ho'; cases ho'
    exact ⟨_, es', ep', hL, r'⟩) hok hg
/-- an untracked record of ours (an iterator) has turned -/
theorem Inv.turned {t' : Nat} {it : Addr} (I : Inv X pins σ H s) (k : ∀ b o, b ≠ it → s.heap.get? b = some o → h'.get? b = some o) (hn : H it = none) (hL : it ≠ X.env.locals)
    (h1 : it ∈ X.ex ∨ X.s₀.heap.objs.size ≤ it) (h2 : ∀ x c, X.env.cells.lookup x = some c → c ≠ it) (h3 : ∀ p ∈ X.pn ++ pins, p.1 ≠ it) : Inv X pins σ H { s with heap := h', toks := t' } := by
  have nit : ∀ b u, H b = some u → b ≠ it := fun b u e z => by rw [z, hn] at e; cases e
  refine I.step (g' := s.gens) (d' := s.drawn) (ch := [it]) (fun b hb => ?_) (fun b o _ _ hc e _ => k b o (fun z => hc (by simp [z])) e) (fun b o _ _ hc e _ => ⟨o.slots, k b o (fun z => hc (by simp [z])) e⟩) (fun _ _ _ _ n => n)
    (fun b o hc e => ⟨o, k b o (fun z => hc (by simp [z])) e⟩) (fun _ _ e => e) (fun _ _ _ e => e) (fun b ps e => ⟨#[], by rw [e]; simp⟩) (fun m hm => ?_) (fun b u e => ?_) I.bare
  · have e : b = it := by simpa using hb
    subst e
    exact ⟨h1, hL, h2, h3⟩
  · obtain ⟨o, es, ep, ho, r⟩ := hm
    exact ⟨o, es, ep, k _ o (Ne.symm hL) ho, r⟩
  · refine (I.hok b u e).stay (fun c v hc q => k c v ?_ q) (fun _ q => q) fun _ _ q => q
    rcases hc with z | z
    · rw [z]; exact nit b u e
    · exact nit c _ z
theorem Inv.tok (I : Inv X pins σ H s) (t : Nat) : Inv X pins σ H { s with toks := t } := I.un (h' := s.heap) (t' := t) Un.refl I.hok
/-- all objects kept -/
theorem Inv.kept {t' : Nat} (I : Inv X pins σ H s) (k : ∀ b u, s.heap.get? b = some u → h'.get? b = some u) : Inv X pins σ H { s with heap := h', toks := t' } := I.un (Un.kept k) (I.hok.kept k)
/-- a new object laid and tracked -/
theorem Inv.laid {a : Addr} {o : HO} {t' : Nat} (I : Inv X pins σ H s) (k : ∀ b u, s.heap.get? b = some u → h'.get? b = some u) (hp : s.heap.objs.size ≤ a) (new : ObjOk X.prog X.w (upd H a o) h' a o) :
    Inv X pins σ (upd H a o) { s with heap := h', toks := t' } := I.un (Un.laid k hp (I.hok.fresh hp)) (I.hok.laid k hp new)
/-- an object written -/
theorem Inv.write {x e : Addr} {o : HO} {t' : Nat} (I : Inv X pins σ H s) (mu : Mut (H x)) (he : e = x ∨ H e = some (.own x)) (k : ∀ b u, b ≠ e → s.heap.get? b = some u → h'.get? b = some u) (heo : ∃ u, h'.get? e = some u)
    (new : ObjOk X.prog X.w (upd H x o) h' x o) : Inv X pins σ (upd H x o) { s with heap := h', toks := t' } := I.un (Un.write mu he k heo) (I.hok.write mu he k heo new)
/-- forgetting slots, pins -/
theorem Inv.weak {σ' : List (Option V)} (I : Inv X pins σ H s) (hl : σ'.length = σ.length) (w : ∀ (i : Nat) v, σ'[i]? = some (some v) → σ[i]? = some (some v)) : Inv X pins σ' H s :=
  ⟨I.ok, I.os, I.bare, I.base, let ⟨m, hn, hl'⟩ := I.loc; ⟨m, hn, fun i x v e1 e2 e3 => hl' i x v e1 (w i v e2) e3⟩, I.cell, I.free, I.freeC, I.pin, I.hok, hl.trans I.len⟩
theorem Inv.pins_of {pins' : List (Addr × Obj)} (I : Inv X pins σ H s) (h : ∀ p ∈ pins', s.heap.get? p.1 = some p.2 ∧ H p.1 = none ∧ p.1 ≠ X.env.locals ∧ p.1 ∉ X.fs ∧ ∀ v, p.2.data ≠ .cell v) : Inv X pins' σ H s :=
  ⟨I.ok, I.os, I.bare, I.base, I.loc, I.cell, I.free, I.freeC, fun p hp => (List.mem_append.mp hp).elim (fun z => I.pin p (List.mem_append_left _ z)) (h p), I.hok, I.len⟩

theorem nodup_ix {N : List Str} (hN : N.Nodup) {i j : Nat} {x : Str} (a : N[i]? = some x) (b : N[j]? = some x) : i = j := by
  obtain ⟨h1, e1⟩ := List.getElem?_eq_some_iff.mp a
  obtain ⟨h2, e2⟩ := List.getElem?_eq_some_iff.mp b
  exact (List.getElem_inj hN).mp (e1.trans e2.symm)

/-- a name is stored; what changed -/
theorem store_ok2 {M : Model} {A : Around} {E : Value → Shared → Prop} {i : Nat} {x : Str} {v : V} {u : Value} {Q : Unit → Shared → Prop} (I : Inv X pins σ H s) (hN : X.N.Nodup) (hi : X.N[i]? = some x) (hx : Loc X.env.scope x) (r : RelV v u)
    (h : ∀ s', Inv X pins (σ.set i (some v)) H s' → (∃ a, Heap.SameBut a s.heap s'.heap ∧ (a = X.env.locals ∨ X.env.cells.lookup x = some a)) → Q () s') (hf : X.fn x = true ∨ X.env.scope.names.lookup x = some .local := by first | exact .inl rfl | exact .inr rfl | assumption) : wpAny M A (storeName X.env x u) Q E s := by
  obtain ⟨m, hn, hl⟩ := id I.loc
  have hcls : (X.env.scope.kind == .class || (X.env.scope.kind == .module && X.env.locals != X.env.globals)) = false := by rw [I.ok.kind]; rfl
  have hiσ : i < σ.length := by rw [I.len]; exact (List.getElem?_eq_some_iff.mp hi).1
  have cne := I.cne
  have tracked : ∀ {a : Addr} {h' : Heap}, (∃ o, s.heap.get? a = some o ∧ H a = none) → Heap.SameBut a s.heap h' → HOk X.prog X.w H h' := fun {a h'} ha hs b ob e => by
    obtain ⟨_, _, hfree⟩ := ha
    refine (I.hok b ob e).stay (fun c w' hc q => (hs.2 c ?_).trans q) (fun _ q => q) fun _ _ q => q
    rintro rfl
    rcases hc with rfl | hc
    · rw [hfree] at e; cases e
    · rw [hfree] at hc; cases hc
  rcases hx with hk | hk
  · refine wpAny_storeName_local hk hn (fun h' hn' hs => ?_) hcls
    obtain ⟨oL, _, _, hoL, _⟩ := id hn
    refine h _ ⟨I.ok, I.os, I.bare, ⟨fun b o e n hb hx => ?_, fun b o e n hb hx => ?_, I.base.free, fun b o e hx => ?_, I.base.tups, I.base.frzs, I.base.tbls⟩, ⟨_, hn', fun j y v' e1 e2 e3 => ?_⟩, fun y c e => ?_, I.free, I.freeC, fun p hp => ?_, tracked ⟨oL, hoL, I.free⟩ hs, by simpa using I.len⟩ ⟨_, hs, .inl rfl⟩
    · exact (hs.2 b (Nat.ne_of_lt (Nat.lt_of_lt_of_le (Heap.lt_size e) I.ok.above))).trans (I.base.keep b o e n hb hx)
    · obtain ⟨sl, e1⟩ := I.base.slot b o e n hb hx
      exact ⟨sl, (hs.2 b (Nat.ne_of_lt (Nat.lt_of_lt_of_le (Heap.lt_size e) I.ok.above))).trans e1⟩
    · obtain ⟨o', e1⟩ := I.base.there b o e hx
      exact ⟨o', (hs.2 b (Nat.ne_of_lt (Nat.lt_of_lt_of_le (Heap.lt_size e) I.ok.above))).trans e1⟩
    · by_cases hj : j = i
      · subst hj
        rw [hi] at e1; cases e1
        rw [List.getElem?_set_self hiσ] at e2
        cases e2
        exact ⟨u, r, .inl ⟨hk, by simp⟩⟩
      · rw [List.getElem?_set_ne (Ne.symm hj)] at e2
        obtain ⟨u', r', q⟩ := hl j y v' e1 e2 e3
        refine ⟨u', r', ?_⟩
        rcases q with ⟨k, e⟩ | ⟨k, c, e, z⟩
        · refine .inl ⟨k, ?_⟩
          have : y ≠ x := fun e => hj (nodup_ix hN e1 (e ▸ hi))
          simp [this, e]
        · exact .inr ⟨k, c, e, z.sameBut hs (cne y c e)⟩
    · obtain ⟨w', z⟩ := I.cell y c e
      exact ⟨w', z.sameBut hs (cne y c e)⟩
    · obtain ⟨e, n, ne, nf, d⟩ := I.pin p hp
      exact ⟨(hs.2 p.1 ne).trans e, n, ne, nf, d⟩
  · have hfn : X.fn x = true := by
      rcases hf with z | z
      · exact z
      · rw [z] at hk; cases hk
    obtain ⟨c, hc⟩ := I.ok.has x (.inl hk)
    obtain ⟨w', z⟩ := I.cell x c hc
    refine wpAny_storeName_cell I.ok.kind hk hc z (fun h' hc' hs => ?_)
    obtain ⟨oc, hoc, hocd⟩ := id z
    refine h { s with heap := h' } ⟨I.ok, I.os, I.bare, ⟨fun b o e n hb hx => ?_, fun b o e n hb hx => ?_, I.base.free, fun b o e hx => ?_, I.base.tups, I.base.frzs, I.base.tbls⟩, ⟨m, hn.sameBut hs (Ne.symm (cne x c hc)), fun j y v' e1 e2 e3 => ?_⟩, fun y c' e => ?_, I.free, I.freeC, fun p hp => ?_, tracked ⟨oc, hoc, I.freeC x c hc⟩ hs, by simpa using I.len⟩ ⟨c, hs, .inr hc⟩
    · exact (hs.2 b (Nat.ne_of_lt (Nat.lt_of_lt_of_le (Heap.lt_size e) (I.ok.cab x c hfn hc)))).trans (I.base.keep b o e n hb hx)
    · obtain ⟨sl, e1⟩ := I.base.slot b o e n hb hx
      exact ⟨sl, (hs.2 b (Nat.ne_of_lt (Nat.lt_of_lt_of_le (Heap.lt_size e) (I.ok.cab x c hfn hc)))).trans e1⟩
    · obtain ⟨o', e1⟩ := I.base.there b o e hx
      exact ⟨o', (hs.2 b (Nat.ne_of_lt (Nat.lt_of_lt_of_le (Heap.lt_size e) (I.ok.cab x c hfn hc)))).trans e1⟩
    · by_cases hj : j = i
      · subst hj
        rw [hi] at e1; cases e1
        rw [List.getElem?_set_self hiσ] at e2
        cases e2
        exact ⟨u, r, .inr ⟨.inl hk, c, hc, hc'⟩⟩
      · rw [List.getElem?_set_ne (Ne.symm hj)] at e2
        obtain ⟨u', r', q⟩ := hl j y v' e1 e2 e3
        refine ⟨u', r', ?_⟩
        rcases q with q | ⟨k, c', e, z'⟩
        · exact .inl q
        · refine .inr ⟨k, c', e, z'.sameBut hs ?_⟩
          rintro rfl
          exact hj (nodup_ix hN e1 (I.ok.inj _ _ _ e hc ▸ hi))
    · by_cases hcc : c' = c
      · subst hcc; exact ⟨_, hc'⟩
      · obtain ⟨w2, z2⟩ := I.cell y c' e
        exact ⟨w2, z2.sameBut hs hcc⟩
    · obtain ⟨e, n, ne, nf, d⟩ := I.pin p hp
      refine ⟨(hs.2 p.1 ?_).trans e, n, ne, nf, d⟩
      intro q
      rw [q, hoc] at e
      have q' : oc = p.2 := Option.some.inj e
      exact d w' (by rw [← q']; exact hocd)
theorem store_ok {M : Model} {A : Around} {E : Value → Shared → Prop} {i : Nat} {x : Str} {v : V} {u : Value} {Q : Unit → Shared → Prop} (I : Inv X pins σ H s) (hN : X.N.Nodup) (hi : X.N[i]? = some x) (hx : Loc X.env.scope x) (r : RelV v u)
    (h : ∀ s', Inv X pins (σ.set i (some v)) H s' → Q () s') (hf : X.fn x = true ∨ X.env.scope.names.lookup x = some .local := by first | exact .inl rfl | exact .inr rfl | assumption) : wpAny M A (storeName X.env x u) Q E s :=
  store_ok2 I hN hi hx r (fun s' I' _ => h s' I') hf
/-- behind a call or a block, the state as it is -/
theorem Inv.call' {s' : Shared} {ch : List Addr} (I : Inv X pins σ H s) (ho : s'.os = s.os) (u : Un (frs X.stack) ch H H' s.heap s'.heap) (hok : HOk X.prog X.w H' s'.heap) (hg : AllBare s'.gens)
    (hch : ∀ b ∈ ch, (b ∈ X.ex ∨ X.s₀.heap.objs.size ≤ b) ∧ b ≠ X.env.locals ∧ (∀ x c, X.env.cells.lookup x = some c → c ≠ b) ∧ ∀ p ∈ X.pn ++ pins, p.1 ≠ b) : Inv X pins σ H' s' := by
  obtain ⟨h', g', d', t', o'⟩ := s'
  have e : o' = s.os := ho
  subst e
  exact I.call (g' := g') (t' := t') (d' := d') u hok hg hch
end

/-! ### the judgements -/
/-- an exception: its class, its own dict's address (where it has one), the abstract heap behind it -/
abbrev XK := Value → Option Addr → Hp → Prop
abbrev St := List (Option V)
abbrev VK := V → Hp → Prop
/-- an expression's reading; a test's; an argument list's -/
abbrev TE := St → Hp → VK → Prop
abbrev TT := St → Hp → (Bool → Hp → Prop) → Prop
abbrev TA := St → Hp → (List V → Hp → Prop) → Prop
/-- what is wanted behind a statement -/
structure Ends where
  nx : St → Hp → Prop
  rt : VK
  bk : St → Hp → Prop := fun _ _ => False
  ct : St → Hp → Prop := fun _ _ => False
abbrev TS := Ends → St → Hp → Prop

def EP (X : Cx) (pins : List (Addr × Obj)) (σ : St) (Q : VK) (u : Value) (s' : Shared) : Prop := ∃ v H', Inv X pins σ H' s' ∧ RelV v u ∧ Q v H'
def TP (X : Cx) (pins : List (Addr × Obj)) (σ : St) (Q : Bool → Hp → Prop) (b : Bool) (s' : Shared) : Prop := ∃ H', Inv X pins σ H' s' ∧ Q b H'
def AP (X : Cx) (pins : List (Addr × Obj)) (σ : St) (Q : List V → Hp → Prop) (us : List Value) (s' : Shared) : Prop := ∃ vs H', Inv X pins σ H' s' ∧ Vals vs us ∧ Q vs H'
def SP (X : Cx) (pins : List (Addr × Obj)) (D : Ends) (f : Flow) (s' : Shared) : Prop :=
  match f with
  | .next => ∃ σ' H', Inv X pins σ' H' s' ∧ D.nx σ' H'
  | .brk => ∃ σ' H', Inv X pins σ' H' s' ∧ D.bk σ' H'
  | .cont => ∃ σ' H', Inv X pins σ' H' s' ∧ D.ct σ' H'
  | .ret u => ∃ v σ' H', Inv X pins σ' H' s' ∧ RelV v u ∧ D.rt v H'

def PE (X : Cx) (e : Expr) (t : TE) : Prop :=
  ∀ (pins : List (Addr × Obj)) (s : Shared) (σ : St) (H : Hp) (Q : VK), Inv X pins σ H s → t σ H Q → wpAny (model X.prog X.w) X.A (eval e X.env) (EP X pins σ Q) X.xe s
def PT (X : Cx) (e : Expr) (t : TT) : Prop :=
  ∀ (pins : List (Addr × Obj)) (s : Shared) (σ : St) (H : Hp) (Q : Bool → Hp → Prop), Inv X pins σ H s → t σ H Q → wpAny (model X.prog X.w) X.A (isTrue e X.env (eval e X.env)) (TP X pins σ Q) X.xe s
/-- a test whatever its 'whole' is (and, or) -/
def PW (X : Cx) (e : Expr) (t : TT) : Prop :=
  ∀ (whole : Sem Value) (pins : List (Addr × Obj)) (s : Shared) (σ : St) (H : Hp) (Q : Bool → Hp → Prop), Inv X pins σ H s → t σ H Q → wpAny (model X.prog X.w) X.A (isTrue e X.env whole) (TP X pins σ Q) X.xe s
theorem PW.pt {X : Cx} {e : Expr} {t : TT} (h : PW X e t) : PT X e t := h _
/-- an argument list (no star), from the left -/
def PA (X : Cx) (es : List Expr) (t : TA) : Prop :=
  ∀ (pos : Pos) (pins : List (Addr × Obj)) (s : Shared) (σ : St) (H : Hp) (Q : List V → Hp → Prop), Inv X pins σ H s → t σ H Q → wpAny (model X.prog X.w) X.A (spliced (backTo pos (starEach es X.env))) (AP X pins σ Q) X.xe s
def PS (X : Cx) (st : Stmt) (t : TS) : Prop :=
  ∀ (pins : List (Addr × Obj)) (s : Shared) (σ : St) (H : Hp) (D : Ends), Inv X pins σ H s → t D σ H → wpAny (model X.prog X.w) X.A (exec st X.env) (SP X pins D) X.xe s
def PSs (X : Cx) (st : List Stmt) (t : TS) : Prop :=
  ∀ (pins : List (Addr × Obj)) (s : Shared) (σ : St) (H : Hp) (D : Ends), Inv X pins σ H s → t D σ H → wpAny (model X.prog X.w) X.A (execs st X.env) (SP X pins D) X.xe s
/-- weaken the end -/
theorem thn {α : Type} {t : Sem α} {Q Q' : α → Shared → Prop} {M : Model} {A : Around} {E : Value → Shared → Prop} {s : Shared} (h : wpAny M A t Q E s) (hQ : ∀ a s, Q a s → Q' a s) : wpAny M A t Q' E s := wpAny_mono h hQ fun _ _ x => x
end L2

namespace L2
open PySem PySem.Spec PyProof.Rows
section
variable {X : Cx}

/-! ### names and constants -/
def tVar (i : Nat) : TE := fun σ H Q => ∃ v, σ[i]? = some (some v) ∧ Q v H
def tC (v : V) : TE := fun _ H Q => Q v H
theorem pe_var {i : Nat} {x : Str} {pos : Pos} (hN : X.N[i]? = some x) (hv : Vis X.env.scope x) (hd : (x == ("__debug__" : Str)) = false := by decide) (hcd : (x == ("__classdict__" : Str)) = false := by decide) : PE X (.Name x pos) (tVar i) := by
  intro pins s σ H Q I h
  obtain ⟨v, e, h⟩ := h
  obtain ⟨m, hn, hl⟩ := I.loc
  obtain ⟨u, r, l⟩ := hl i x v hN e hv
  have fin : EP X pins σ Q u s := ⟨v, H, I, r, h⟩
  rcases l with ⟨hk, hm⟩ | ⟨hk, c, hc, hcell⟩
  · exact wpAny_Name (wpAny_loadName_local I.ok.kind hk hn hm fin) hd
  · rcases hk with hk | hk
    · exact wpAny_Name (wpAny_loadName_cell I.ok.kind hk hc hcell fin) hd
    · exact wpAny_Name (wpAny_loadName_free I.ok.kind hk hc hcell fin hcd) hd
theorem pe_int {i j pos} : PE X (.Constant (.int i) j pos) (tC (.int i)) := fun _ _ _ H _ I h => wpAny_Constant_int ⟨.int i, H, I.tok _, ⟨_, rfl⟩, h⟩
theorem pe_bl {b j pos} : PE X (.Constant (.bool b) j pos) (tC (.bl b)) := fun _ _ _ H _ I h => Constant_bool ⟨.bl b, H, I, rfl, h⟩
theorem pe_str {x j pos} : PE X (.Constant (.str x) j pos) (tC (.str x)) := fun _ _ _ H _ I h => Calls.Constant_str ⟨.str x, H, I.tok _, ⟨_, rfl⟩, h⟩

/-- a global name of the def -/
def Gl (X : Cx) (x : Str) : Prop := X.env.kindOf x = some .globalImplicit
theorem ld_glob {E : Value → Shared → Prop} {pins : List (Addr × Obj)} {s : Shared} {σ : St} {H : Hp} {x : Str} {u : Value} {pos : Pos} {Q : Value → Shared → Prop} (I : Inv X pins σ H s) (hg : Gl X x) (hm : X.mg x = some u) (h : Q u s)
    (hd : (x == ("__debug__" : Str)) = false := by decide) : wpAny (model X.prog X.w) X.A (eval (.Name x pos) X.env) Q E s :=
  Calls.Name_function_global I.ok.kind hg (Calls.loadGlobal_global (by rw [I.ok.glob]; exact I.mod.glob.keeps I.bk) hm h) hd
theorem ld_blt {E : Value → Shared → Prop} {pins : List (Addr × Obj)} {s : Shared} {σ : St} {H : Hp} {x : Str} {u : Value} {pos : Pos} {Q : Value → Shared → Prop} (I : Inv X pins σ H s) (hg : Gl X x) (hm : X.mg x = none) (hv : bootBuiltins x = some u) (h : Q u s)
    (hn : x ≠ "__name__" := by decide) (hd : (x == ("__debug__" : Str)) = false := by decide) : wpAny (model X.prog X.w) X.A (eval (.Name x pos) X.env) Q E s := by
  obtain ⟨mb, h1, h2⟩ := I.mod.blt
  exact Calls.Name_function_global I.ok.kind hg (Calls.loadGlobal_builtin (by rw [I.ok.glob]; exact I.mod.glob.keeps I.bk) hm (by rw [I.ok.blt]; exact h1.keeps I.bk) ((h2 x hn).trans hv) h) hd
theorem pe_bltn {x : Str} {v : V} {u : Value} {pos : Pos} (hg : Gl X x) (hm : X.mg x = none) (hv : bootBuiltins x = some u) (r : RelV v u) (hn : x ≠ "__name__" := by decide) (hd : (x == ("__debug__" : Str)) = false := by decide) : PE X (.Name x pos) (tC v) :=
  fun _ _ _ H _ I h => ld_blt I hg hm hv ⟨v, H, I, r, h⟩ hn hd

/-! ### arithmetic -/
/-- two ints -/
def t2I (ta tb : TE) (k : Int → Int → Hp → Prop) : St → Hp → Prop := fun σ H => ta σ H fun x H1 => tb σ H1 fun y H2 => ∃ i j, x = .int i ∧ y = .int j ∧ k i j H2
def tAdd (ta tb : TE) : TE := fun σ H Q => t2I ta tb (fun i j H2 => Q (.int (i + j)) H2) σ H
def tSub (ta tb : TE) : TE := fun σ H Q => t2I ta tb (fun i j H2 => Q (.int (i - j)) H2) σ H
/-- the left factor below 2^64 -/
def tMul (ta tb : TE) : TE := fun σ H Q => t2I ta tb (fun i j H2 => (-(2 ^ 64) < i ∧ i < 2 ^ 64) ∧ Q (.int (i * j)) H2) σ H
variable {a b : Expr} {ta tb : TE} {pos : Pos}
/-! ### comparisons -/
def PC (X : Cx) (op : CmpOp) (a b : Expr) (t : TE) : Prop :=
  ∀ (pins : List (Addr × Obj)) (s : Shared) (σ : St) (H : Hp) (Q : VK), Inv X pins σ H s → t σ H Q →
    wpAny (model X.prog X.w) X.A (eval a X.env) (fun v s₁ => wpAny (model X.prog X.w) X.A (eval b X.env) (fun u s₂ => wpAny (model X.prog X.w) X.A (compareOp op v u) (EP X pins σ Q) X.xe s₂) X.xe s₁) X.xe s
def tCmp (p : Int → Int → Bool) (ta tb : TE) : TE := fun σ H Q => t2I ta tb (fun i j H2 => Q (.bl (p i j)) H2) σ H
abbrev tLt : TE → TE → TE := tCmp fun i j => decide (i < j)
abbrev tLe : TE → TE → TE := tCmp fun i j => decide (i ≤ j)
abbrev tGt : TE → TE → TE := tCmp fun i j => decide (j < i)
abbrev tGe : TE → TE → TE := tCmp fun i j => decide (j ≤ i)
abbrev tEqI : TE → TE → TE := tCmp fun i j => decide (i = j)
abbrev tNeI : TE → TE → TE := tCmp fun i j => !decide (i = j)
/-- is None -/
def tIsN (ta : TE) : TE := fun σ H Q => ta σ H fun x H1 => Q (.bl (decide (x = .non))) H1
def tNotN (ta : TE) : TE := fun σ H Q => ta σ H fun x H1 => Q (.bl (!decide (x = .non))) H1
/-- a comparison as a value, as a test -/
def tB (t : TE) : TT := fun σ H Q => t σ H fun x H1 => ∃ c, x = .bl c ∧ Q c H1
/-- an expression whose value is a bool, as a test -/
theorem pt_val {e : Expr} {t : TE} (h : PE X e t) (he : ∀ whole, isTrue e X.env whole = (do let v ← whole; standAt e.pos; holding [v] (truthy v)) := by intro _; rfl) : PT X e (tB t) := by
  intro pins s σ H Q I hw
  refine isTrue_plain (thn (h pins s σ H _ I hw) fun v s1 ⟨x, H1, I1, r1, q1⟩ => ?_) (he _)
  obtain ⟨d, rfl, q⟩ := q1
  cases r1
  exact wpAny_truthy_bool ⟨H1, I1, q⟩

/-! ### and, or, not -/
variable {tA tB' : TT} {rest : List Expr}
def tAnd (t u : TT) : TT := fun σ H Q => t σ H fun c H1 => if c = true then u σ H1 Q else Q false H1
def tOr (t u : TT) : TT := fun σ H Q => t σ H fun c H1 => if c = true then Q true H1 else u σ H1 Q
def tNot (t : TT) : TT := fun σ H Q => t σ H fun c H1 => Q (!c) H1
theorem pw_and1 (ha : PT X a tA) : PW X (.BoolOp .And [a] pos) tA := by
  intro wh pins s σ H Q I h
  refine isTrue_and (thn (ha pins s σ H Q I h) fun c s1 e => ?_)
  cases c with
  | true => exact isTrue_and_nil e
  | false => exact e
theorem pw_or1 (ha : PT X a tA) : PW X (.BoolOp .Or [a] pos) tA := by
  intro wh pins s σ H Q I h
  refine isTrue_or (thn (ha pins s σ H Q I h) fun c s1 e => ?_)
  cases c with
  | false => exact isTrue_or_nil e
  | true => exact e
theorem pw_and (ha : PT X a tA) (hb : PW X (.BoolOp .And (b :: rest) pos) tB') : PW X (.BoolOp .And (a :: b :: rest) pos) (tAnd tA tB') := by
  intro wh pins s σ H Q I h
  refine isTrue_and (thn (ha pins s σ H _ I h) fun c s1 ⟨H1, I1, q1⟩ => ?_)
  cases c with
  | true => exact hb wh pins s1 σ H1 Q I1 q1
  | false => exact ⟨H1, I1, q1⟩
theorem pw_or (ha : PT X a tA) (hb : PW X (.BoolOp .Or (b :: rest) pos) tB') : PW X (.BoolOp .Or (a :: b :: rest) pos) (tOr tA tB') := by
  intro wh pins s σ H Q I h
  refine isTrue_or (thn (ha pins s σ H _ I h) fun c s1 ⟨H1, I1, q1⟩ => ?_)
  cases c with
  | true => exact ⟨H1, I1, q1⟩
  | false => exact hb wh pins s1 σ H1 Q I1 q1
theorem pt_not (ha : PT X a tA) : PT X (.UnaryOp .Not a pos) (tNot tA) := by
  intro pins s σ H Q I h
  exact isTrue_not (ha pins s σ H (fun c H1 => Q (!c) H1) I h)
/-- .. as values (bools) -/
def tAndV (ta tb : TE) : TE := fun σ H Q => ta σ H fun x H1 => ∃ c, x = .bl c ∧ if c = true then tb σ H1 Q else Q (.bl false) H1
def tOrV (ta tb : TE) : TE := fun σ H Q => ta σ H fun x H1 => ∃ c, x = .bl c ∧ if c = true then Q (.bl true) H1 else tb σ H1 Q
def tNotV (ta : TE) : TE := fun σ H Q => ta σ H fun x H1 => ∃ c, x = .bl c ∧ Q (.bl (!c)) H1
theorem pe_one {op} {t : TE} (h : PE X a t) : PE X (.BoolOp op [a] pos) t := fun pins s σ H Q I hw => BoolOp_one (h pins s σ H Q I hw)
theorem pe_and (ha : PE X a ta) (hb : PE X (.BoolOp .And (b :: rest) pos) tb) : PE X (.BoolOp .And (a :: b :: rest) pos) (tAndV ta tb) := by
  intro pins s σ H Q I h
  refine BoolOp_and (thn (ha pins s σ H _ I h) fun v s1 ⟨x, H1, I1, r1, q1⟩ => ?_)
  obtain ⟨c, rfl, q1⟩ := q1
  cases r1
  refine wpAny_truthy_bool ?_
  cases c with
  | true => exact hb pins s1 σ H1 Q I1 q1
  | false => exact ⟨.bl false, H1, I1, rfl, q1⟩
theorem pe_not (ha : PE X a ta) : PE X (.UnaryOp .Not a pos) (tNotV ta) := by
  intro pins s σ H Q I h
  refine UnaryOp_ (thn (ha pins s σ H _ I h) fun v s1 ⟨x, H1, I1, r1, q1⟩ => ?_)
  obtain ⟨c, rfl, q1⟩ := q1
  cases r1
  exact not_of (wpAny_truthy_bool ⟨.bl (!c), H1, I1, rfl, q1⟩)
/-- a if t else b -/
def tIf (t : TT) (ta tb : TE) : TE := fun σ H Q => t σ H fun c H1 => if c = true then ta σ H1 Q else tb σ H1 Q
end
end L2

namespace L2
open PySem PySem.Spec PyProof.Rows

/-! ### a list, a tuple that is read: tracked, frozen, or an object of the module -/
def SqL (K : PySem.W.Frag) (H : Hp) (a : Addr) (xs : List V) : Prop :=
  Rd H a (.lst xs) ∨
    ∃ (o : Obj) (its : Array Value) (n : Nat), K.lookup a = some o ∧ o.cls = .type "list" ∧ o.dict = none ∧ o.data = .seq its n ∧ its.size ≤ sizeLine ∧ Vals xs its.toList
def SqT (K : PySem.W.Frag) (H : Hp) (a : Addr) (xs : List V) : Prop :=
  Rd H a (.tup xs) ∨
    ∃ (o : Obj) (its : Array Value) (n : Nat), K.lookup a = some o ∧ o.cls = .type "tuple" ∧ o.data = .seq its n ∧ its.size ≤ sizeLine ∧ Vals xs its.toList
def absV : Value → Option V
  | .none => some .non
  | .bool b => some (.bl b)
  | .int i _ => some (.int i)
  | .str x _ => some (.str x)
  | .bytes b _ => some (.byt b)
  | .float b _ => some (.flt b)
  | .ref a => some (.ref a)
  | .type n => some (.ty n)
  | _ => none
theorem RelV.abs {x : V} {u : Value} (r : RelV x u) : absV u = some x := by
  cases x with
  | non => cases r; rfl
  | bl _ => cases r; rfl
  | int _ => obtain ⟨t, rfl⟩ := r; rfl
  | str _ => obtain ⟨t, rfl⟩ := r; rfl
  | byt _ => obtain ⟨t, rfl⟩ := r; rfl
  | flt _ => obtain ⟨t, rfl⟩ := r; rfl
  | ref _ => cases r; rfl
  | ty _ => cases r; rfl
theorem RelV.inj {x y : V} {u : Value} (r : RelV x u) (q : RelV y u) : x = y := Option.some.inj (r.abs.symm.trans q.abs)
theorem Vals.inj : ∀ {xs ys : List V} {us : List Value}, Vals xs us → Vals ys us → xs = ys
  | _, _, _, .nil, .nil => rfl
  | _, _, _, .cons r t, .cons r' t' => by rw [r.inj r', Vals.inj t t']
section
variable {X : Cx} {pins : List (Addr × Obj)} {σ : St} {H : Hp} {s : Shared} {a : Addr} {xs ys : List V}
theorem SqL.of {K : PySem.W.Frag} (h : H a = some (.lst xs)) : SqL K H a xs := .inl (.inl h)
theorem SqT.of {K : PySem.W.Frag} (h : H a = some (.tup xs)) : SqT K H a xs := .inl (.inl h)
theorem Inv.list (I : Inv X pins σ H s) (h : SqL X.K H a xs) : ∃ its : List Value, Vals xs its ∧ PlainL s.heap a its.toArray ∧ xs.length ≤ sizeLine := by
  rcases h with h | ⟨o, its, n, hk, hc, hd, hs, hz, r⟩
  · obtain ⟨z, its, n, r, e⟩ := h.ok I.hok
    exact ⟨its, r, ⟨_, n, e, rfl, rfl, rfl⟩, z⟩
  · refine ⟨its.toList, r, ⟨o, n, I.kIn a o hk, hc, hd, by simpa using hs⟩, ?_⟩
    have e := r.length
    simp only [Array.length_toList] at e
    omega
theorem Inv.tuple (I : Inv X pins σ H s) (h : SqT X.K H a xs) : ∃ its : List Value, Vals xs its ∧ IsTup s.heap a its.toArray ∧ xs.length ≤ sizeLine := by
  rcases h with h | ⟨o, its, n, hk, hc, hs, hz, r⟩
  · obtain ⟨z, its, r, p⟩ := h.ok I.hok
    exact ⟨its, r, p, z⟩
  · refine ⟨its.toList, r, ⟨o, I.kIn a o hk, hc, n, by simpa using hs⟩, ?_⟩
    have e := r.length
    simp only [Array.length_toList] at e
    omega
theorem Inv.list_inj (I : Inv X pins σ H s) (h : SqL X.K H a xs) (h' : SqL X.K H a ys) : xs = ys := by
  obtain ⟨its, r, ⟨o, n, e, _, _, d⟩, _⟩ := I.list h
  obtain ⟨its', r', ⟨o', n', e', _, _, d'⟩, _⟩ := I.list h'
  rw [e] at e'; cases e'
  rw [d] at d'
  injection d' with d1 _
  have : its = its' := by simpa using congrArg Array.toList d1
  subst this
  exact r.inj r'
theorem Inv.tuple_inj (I : Inv X pins σ H s) (h : SqT X.K H a xs) (h' : SqT X.K H a ys) : xs = ys := by
  obtain ⟨its, r, ⟨o, e, _, n, d⟩, _⟩ := I.tuple h
  obtain ⟨its', r', ⟨o', e', _, n', d'⟩, _⟩ := I.tuple h'
  rw [e] at e'; cases e'
  rw [d] at d'
  injection d' with d1 _
  have : its = its' := by simpa using congrArg Array.toList d1
  subst this
  exact r.inj r'
end

/-! ### another wish about exceptions -/
abbrev Cx.wish (X : Cx) (E : Value → Shared → Prop) : Cx := { X with xe := E }
/-- no exception leaves -/
abbrev Cx.nox (X : Cx) : Cx := X.wish fun _ _ => False
theorem Cx.Ok.wish {X : Cx} (ok : X.Ok) (E : Value → Shared → Prop) : (X.wish E).Ok :=
  ⟨ok.mod, ok.kind, ok.glob, ok.blt, ok.above, ok.inj, ok.has, ok.cab, ok.hd, ok.frames, ok.stk, ok.exf, ok.bs, ok.bsz, ok.noex, ok.exfs, ok.funs, ok.frf⟩
theorem Cx.Ok.unwish {X : Cx} {E : Value → Shared → Prop} (ok : (X.wish E).Ok) : X.Ok :=
  ⟨ok.mod, ok.kind, ok.glob, ok.blt, ok.above, ok.inj, ok.has, ok.cab, ok.hd, ok.frames, ok.stk, ok.exf, ok.bs, ok.bsz, ok.noex, ok.exfs, ok.funs, ok.frf⟩
section
variable {X : Cx} {pins : List (Addr × Obj)} {σ : St} {H : Hp} {s : Shared} {E : Value → Shared → Prop}
theorem Inv.wish (I : Inv X pins σ H s) (E : Value → Shared → Prop) : Inv (X.wish E) pins σ H s := ⟨I.ok.wish E, I.os, I.bare, I.base, I.loc, I.cell, I.free, I.freeC, I.pin, I.hok, I.len⟩
theorem Inv.unwish (I : Inv (X.wish E) pins σ H s) : Inv X pins σ H s := ⟨I.ok.unwish, I.os, I.bare, I.base, I.loc, I.cell, I.free, I.freeC, I.pin, I.hok, I.len⟩
theorem SP.unwish {D : Ends} {f : Flow} {s' : Shared} (h : SP (X.wish E) pins D f s') : SP X pins D f s' := by
  cases f with
  | next => obtain ⟨σ', H', I, q⟩ := h; exact ⟨σ', H', I.unwish, q⟩
  | brk => obtain ⟨σ', H', I, q⟩ := h; exact ⟨σ', H', I.unwish, q⟩
  | cont => obtain ⟨σ', H', I, q⟩ := h; exact ⟨σ', H', I.unwish, q⟩
  | ret u => obtain ⟨v, σ', H', I, r, q⟩ := h; exact ⟨v, σ', H', I.unwish, r, q⟩
theorem PE.nox {e : Expr} {t : TE} (h : PE X.nox e t) : PE X e t := fun pins s σ H Q I hw =>
  wpAny_mono (h pins s σ H Q (I.wish _) hw) (fun _ _ ⟨v, H', I', r, q⟩ => ⟨v, H', I'.unwish, r, q⟩) fun _ _ z => False.elim z
theorem PT.nox {e : Expr} {t : TT} (h : PT X.nox e t) : PT X e t := fun pins s σ H Q I hw =>
  wpAny_mono (h pins s σ H Q (I.wish _) hw) (fun _ _ ⟨H', I', q⟩ => ⟨H', I'.unwish, q⟩) fun _ _ z => False.elim z
theorem PSs.nox {st : List Stmt} {t : TS} (h : PSs X.nox st t) : PSs X st t := fun pins s σ H D I hw =>
  wpAny_mono (h pins s σ H D (I.wish _) hw) (fun _ _ q => q.unwish) fun _ _ z => False.elim z
end

/-! ### blocks and small statements -/
section
variable {X : Cx} {st : Stmt} {rest : List Stmt} {t u : TS} {e : Expr} {te : TE} {pos : Pos}
def tNext : TS := fun D σ H => D.nx σ H
def tSeq (t u : TS) : TS := fun D σ H => t { D with nx := u D } σ H
theorem pss_nil : PSs X [] tNext := fun _ _ σ H _ I h => wpAny_execs_nil ⟨σ, H, I, h⟩
theorem pss_cons (h1 : PS X st t) (h2 : PSs X rest u) : PSs X (st :: rest) (tSeq t u) := by
  intro pins s σ H D I h
  refine wpAny_execs_cons (thn (h1 pins s σ H { D with nx := u D } I h) fun f s1 q => ?_)
  cases f with
  | next =>
    obtain ⟨σ', H', I', q⟩ := q
    exact h2 pins s1 σ' H' D I' q
  | ret v => exact q
  | brk => exact q
  | cont => exact q
theorem pss_one (h1 : PS X st t) : PSs X [st] t := by
  intro pins s σ H D I h
  refine wpAny_execs_cons (thn (h1 pins s σ H D I h) fun f s1 q => ?_)
  cases f with
  | next => exact wpAny_execs_nil q
  | ret v => exact q
  | brk => exact q
  | cont => exact q
def tBreak : TS := fun D σ H => D.bk σ H
def tCont : TS := fun D σ H => D.ct σ H
/-- in a def's body nothing is shown -/
theorem Inv.quiet {pins : List (Addr × Obj)} {σ : St} {H : Hp} {s : Shared} (I : Inv X pins σ H s) : interactive X.env = false := by simp [interactive, I.ok.kind]
/-- an expression whose value is dropped -/
def tDrop (te : TE) : TS := fun D σ H => te σ H fun _ H1 => D.nx σ H1
theorem ps_expr (he : PE X e te) (hs : swapsWith e none pos.line X.env = pure false := by rfl) : PS X (.Expr e pos) (tDrop te) := by
  intro pins s σ H D I h
  exact wpAny_Expr_any (thn (he pins s σ H _ I h) fun v s1 ⟨x, H1, I1, r1, q1⟩ => ⟨σ, H1, I1, q1⟩) I.quiet hs
def tRet (te : TE) : TS := fun D σ H => te σ H D.rt
theorem ps_ret (he : PE X e te) : PS X (.Return (some e) pos) (tRet te) := by
  intro pins s σ H D I h
  exact wpAny_Return_some (thn (he pins s σ H _ I h) fun v s1 ⟨x, H1, I1, r1, q1⟩ => ⟨x, σ, H1, I1, r1, q1⟩)
def tRetN : TS := fun D _ H => D.rt .non H
def tIfS (c : TT) (t u : TS) : TS := fun D σ H => c σ H fun b H1 => if b = true then t D σ H1 else u D σ H1
theorem ps_if {c : Expr} {a b : List Stmt} {tc : TT} (hc : PT X c tc) (ha : PSs X a t) (hb : PSs X b u) : PS X (.If c a b pos) (tIfS tc t u) := by
  intro pins s σ H D I h
  refine wpAny_If (thn (hc pins s σ H _ I h) fun d s1 ⟨H1, I1, q1⟩ => ?_)
  cases d with
  | true => exact ha pins s1 σ H1 D I1 q1
  | false => exact hb pins s1 σ H1 D I1 q1
/-- code that the proof never comes to -/
def tNever : TS := fun _ _ _ => False
end

/-! ### targets -/
abbrev TG := V → St → Hp → (St → Hp → Prop) → Prop
abbrev TGs := List V → St → Hp → (St → Hp → Prop) → Prop
def PG (X : Cx) (target : Expr) (t : TG) : Prop :=
  ∀ (pins : List (Addr × Obj)) (s : Shared) (σ : St) (H : Hp) (v : V) (u : Value) (Q : St → Hp → Prop), Inv X pins σ H s → RelV v u → t v σ H Q →
    wpAny (model X.prog X.w) X.A (assign target X.env u) (fun _ s' => ∃ σ' H', Inv X pins σ' H' s' ∧ Q σ' H') X.xe s
/-- several targets, one after another -/
def PGs (X : Cx) (ts : List Expr) (t : TGs) : Prop :=
  ∀ (pins : List (Addr × Obj)) (s : Shared) (σ : St) (H : Hp) (vs : List V) (us : List Value) (Q : St → Hp → Prop), Inv X pins σ H s → Vals vs us → t vs σ H Q →
    wpAny (model X.prog X.w) X.A (assignInOrder ((assignEach ts X.env).map (·.2)) us) (fun _ s' => ∃ σ' H', Inv X pins σ' H' s' ∧ Q σ' H') X.xe s
/-- o[i] = v, by values -/
abbrev TSet := V → V → V → Hp → (Hp → Prop) → Prop
def PSet (X : Cx) (t : TSet) : Prop :=
  ∀ (pins : List (Addr × Obj)) (s : Shared) (σ : St) (H : Hp) (o i v : V) (ov iv u : Value) (Q : Hp → Prop), Inv X pins σ H s → RelV o ov → RelV i iv → RelV v u → t o i v H Q →
    wpAny (model X.prog X.w) X.A (setItem ov iv u) (fun _ s' => ∃ H', Inv X pins σ H' s' ∧ Q H') X.xe s
/-- a op= b, by values -/
abbrev TIp := V → V → Hp → VK → Prop
def PIp (X : Cx) (op : Operator) (t : TIp) : Prop :=
  ∀ (pins : List (Addr × Obj)) (s : Shared) (σ : St) (H : Hp) (x y : V) (v u : Value) (Q : VK), Inv X pins σ H s → RelV x v → RelV y u → t x y H Q →
    wpAny (model X.prog X.w) X.A (inplaceOp op v u) (EP X pins σ Q) X.xe s
section
variable {X : Cx} {pos : Pos}
def gName (i : Nat) : TG := fun v σ H Q => Q (σ.set i (some v)) H
theorem pg_name {i : Nat} {x : Str} (hN : X.N.Nodup) (hi : X.N[i]? = some x) (hx : Loc X.env.scope x) (hf : X.fn x = true ∨ X.env.scope.names.lookup x = some .local := by first | exact .inl rfl | exact .inr rfl | assumption) : PG X (.Name x pos) (gName i) := by
  intro pins s σ H v u Q I r h
  exact wpAny_assign_Name (store_ok I hN hi hx r (fun s' I' => ⟨_, H, I', h⟩) hf)
def gNil : TGs := fun vs σ H Q => vs = [] ∧ Q σ H
def gCons (t : TG) (u : TGs) : TGs := fun vs σ H Q => ∃ v r, vs = v :: r ∧ t v σ H fun σ' H' => u r σ' H' Q
theorem pgs_nil : PGs X [] gNil := by
  intro pins s σ H vs us Q I r h
  obtain ⟨e, h⟩ := h
  subst e
  cases r
  exact assignInOrder_nil ⟨σ, H, I, h⟩
theorem pgs_cons {e : Expr} {es : List Expr} {t : TG} {u : TGs} (h1 : PG X e t) (h2 : PGs X es u)
    (hs : (assignEach (e :: es) X.env).map (·.2) = assign e X.env :: (assignEach es X.env).map (·.2) := by rfl) : PGs X (e :: es) (gCons t u) := by
  intro pins s σ H vs us Q I r h
  obtain ⟨v, vr, e1, h⟩ := h
  subst e1
  cases r with
  | cons r rr =>
    rw [hs]
    refine assignInOrder_cons (thn (h1 pins s σ H _ _ _ I r h) fun _ s1 ⟨σ1, H1, I1, q1⟩ => ?_)
    exact h2 pins s1 σ1 H1 _ _ Q I1 rr q1
/-- (a, b, ..) = a tuple of that length -/
def gTup (K : PySem.W.Frag) (n : Nat) (t : TGs) : TG := fun v σ H Q => ∃ a xs, v = .ref a ∧ SqT K H a xs ∧ xs.length = n ∧ t xs σ H Q
theorem pg_tup {es : List Expr} {k : Nat} {t : TGs} {n : Nat} (hc : X.calm = true) (h : PGs X es t)
    (hn : (assignEach es X.env).length = n := by rfl) (hst : (assignEach es X.env).findIdx? (·.1) = none := by rfl) : PG X (.Tuple es k pos) (gTup X.K n t) := by
  intro pins s σ H v u Q I r hw
  obtain ⟨a, xs, e1, hq, hl, hw⟩ := hw
  subst e1
  cases r
  obtain ⟨its, rv, ht, hz⟩ := I.tuple hq
  refine assign_Tuple_tuple (I.ok.hd hc) ht (by simp [hn, ← hl, rv.length]) hst fun h' hx => ?_
  have I1 : Inv X pins σ H { s with heap := h' } := I.kept (t' := s.toks) fun b o e => hx b o (Nat.ne_of_lt (Heap.lt_size e)) e
  exact h pins _ σ H xs _ Q I1 (by simpa using rv) hw
/-- o[i] = .. -/
def gSub (to ti : TE) (t : TSet) : TG := fun v σ H Q => to σ H fun o H1 => ti σ H1 fun i H2 => t o i v H2 fun H3 => Q σ H3
theorem pg_sub {o i : Expr} {to ti : TE} {t : TSet} (ho : PE X o to) (hi : PE X i ti) (hs : PSet X t)
    (ha : ∀ v, assign (.Subscript o i pos) X.env v = (do
      let ov ← holding [v] (eval o X.env)
      let iv ← holding [v, ov] (eval i X.env)
      standAt pos
      holding [v, ov, iv] (setItem ov iv v)
      release [v, ov, iv] []) := by intro _; rfl) : PG X (.Subscript o i pos) (gSub to ti t) := by
  intro pins s σ H v u Q I r h
  rw [ha]
  refine wpAny_bind (wpAny_holding (thn (ho pins s σ H _ I h) fun ov s1 ⟨x, H1, I1, r1, q1⟩ => ?_))
  refine wpAny_bind (wpAny_holding (thn (hi pins s1 σ H1 _ I1 q1) fun iv s2 ⟨y, H2, I2, r2, q2⟩ => ?_))
  refine wpAny_bind (wpAny_standAt (wpAny_bind (wpAny_holding (thn (hs pins s2 σ H2 x y v ov iv u _ I2 r1 r2 r q2) fun _ s3 ⟨H3, I3, q3⟩ => ?_))))
  exact wpAny_release ⟨σ, H3, I3, q3⟩
/-- target = value -/
def tAsg (te : TE) (g : TG) : TS := fun D σ H => te σ H fun x H1 => g x σ H1 D.nx
theorem ps_asg {tg e : Expr} {te : TE} {g : TG} (he : PE X e te) (hg : PG X tg g) (hs : swapsWithSole [tg] e pos.line X.env = pure false := by rfl) (hw : swappedStores [tg] e X.env = pure none := by rfl)
    (h1 : (assignEach [tg] X.env).map (·.2) = [assign tg X.env] := by rfl) : PS X (.Assign [tg] e pos) (tAsg te g) := by
  intro pins s σ H D I h
  refine wpAny_Assign_stores (thn (he pins s σ H _ I h) fun v s1 ⟨x, H1, I1, r1, q1⟩ => ?_) hs hw
  rw [h1]
  exact thn (hg pins s1 σ H1 x v _ I1 r1 q1) fun _ s2 q => q
/-- name = value -/
theorem ps_set {i : Nat} {x : Str} {e : Expr} {te : TE} {pos' : Pos} (hN : X.N.Nodup) (hi : X.N[i]? = some x) (hx : Loc X.env.scope x) (he : PE X e te) (hs : swapsWith e (some (.Name x pos')) pos.line X.env = pure false := by rfl) (hf : X.fn x = true ∨ X.env.scope.names.lookup x = some .local := by first | exact .inl rfl | exact .inr rfl | assumption) :
    PS X (.Assign [.Name x pos'] e pos) (tAsg te (gName i)) := by
  intro pins s σ H D I h
  refine wpAny_Assign_Name (thn (he pins s σ H _ I h) fun v s1 ⟨y, H1, I1, r1, q1⟩ => ?_) hs
  exact store_ok I1 hN hi hx r1 (fun s2 I2 => ⟨_, H1, I2, q1⟩) hf
/-- a, b = x, y with plain local names: stored from the right; the pair itself is not tracked (the opening rows as in PyProof/Rows/TupAssign.lean:23) -/
def tPar (i j : Nat) (ta : TA) : TS := fun D σ H => ta σ H fun vs H1 => ∃ v w, vs = [v, w] ∧ D.nx ((σ.set i (some v)).set j (some w)) H1
theorem ps_par {i j : Nat} {x y : Str} {a b : Expr} {ta : TA} {px py pt : Pos} {kt k2 pt2} (hc : X.calm = true) (hN : X.N.Nodup) (hi : X.N[i]? = some x) (hj : X.N[j]? = some y) (hij : i ≠ j)
    (hx : X.env.scope.names.lookup x = some .local) (hy : X.env.scope.names.lookup y = some .local) (ha : PA X [a, b] ta)
    (hw : swappedStores [.Tuple [.Name x px, .Name y py] kt pt] (.Tuple [a, b] k2 pt2) X.env = pure (some [x, y]))
    (hs : swapsWithSole [.Tuple [.Name x px, .Name y py] kt pt] (.Tuple [a, b] k2 pt2) pos.line X.env = pure false := by rfl) :
    PS X (.Assign [.Tuple [.Name x px, .Name y py] kt pt] (.Tuple [a, b] k2 pt2) pos) (tPar i j ta) := by
  intro pins s σ H D I h
  rw [exec_Assign_arm]
  refine wpAny_bind (wpAny_standAt ?_)
  rw [hs]
  refine wpAny_bind (wpAny_pure ?_)
  rw [if_neg (by decide)]
  refine wpAny_bind (Tuple_ (thn (ha _ pins s σ H _ I h) fun us s1 ⟨vs, H1, I1, r1, q1⟩ => ?_))
  obtain ⟨v, w, e1, q1⟩ := q1
  subst e1
  obtain ⟨u1, u2, rfl, rv, rw'⟩ : ∃ u1 u2, us = [u1, u2] ∧ RelV v u1 ∧ RelV w u2 := by
    cases r1 with
    | cons p q =>
      cases q with
      | cons p' q' =>
        cases q'
        exact ⟨_, _, rfl, p, p'⟩
  refine wpAny_newObj_type ?_ (by show 2 ≤ sizeLine; decide)
  have I2 : Inv X pins σ H1 { s1 with heap := s1.heap.push { cls := .type "tuple", data := .seq [u1, u2].toArray } } := I1.kept (t' := s1.toks) fun b o e => Heap.get?_push_of_some _ e
  rw [hw]
  refine wpAny_bind (wpAny_pure ?_)
  show wpAny (model X.prog X.w) X.A (do rule "assign.swapped-stores"; let items ← unpackItems (.ref s1.heap.objs.size) 2 none; assignInOrder [fun v => bindName X.env y v, fun v => bindName X.env x v] items.reverse; pure Flow.next) _ _ _
  refine wpAny_bind (wpAny_rule (wpAny_bind (unpackItems_tuple (items := #[u1, u2]) (I.ok.hd hc) (IsTup.new s1.heap _) fun h' hx' => ?_)))
  have I3 := I2.kept (h' := h') (t' := s1.toks) fun b o e => hx' b o (Nat.ne_of_lt (Heap.lt_size e)) e
  show wpAny _ _ (assignInOrder [fun v => bindName X.env y v, fun v => bindName X.env x v] [u2, u1] >>= fun _ => pure Flow.next) _ _ _
  refine wpAny_bind (assignInOrder_cons (wpAny_bindName (store_ok I3 hN hj (.inl hy) rw' (fun s2 I4 => ?_) (.inr hy))))
  refine assignInOrder_cons (wpAny_bindName (store_ok I4 hN hi (.inl hx) rv (fun s3 I5 => assignInOrder_nil (wpAny_pure ?_)) (.inr hx)))
  rw [List.set_comm _ _ (Ne.symm hij)] at I5
  exact ⟨_, H1, I5, q1⟩
/-- name op= e -/
def tAug (i : Nat) (te : TE) (ti : TIp) : TS := fun D σ H => ∃ x, σ[i]? = some (some x) ∧ te σ H fun y H1 => ti x y H1 fun z H2 => D.nx (σ.set i (some z)) H2
/-- o[i] op= e -/
def tAugS (to ti te : TE) (tget : V → V → Hp → VK → Prop) (tip : TIp) (tset : TSet) : TS := fun D σ H => to σ H fun o H1 => ti σ H1 fun i H2 => tget o i H2 fun x H3 => te σ H3 fun y H4 => tip x y H4 fun z H5 => tset o i z H5 fun H6 => D.nx σ H6
/-- o[i], by values -/
def PGet (X : Cx) (t : V → V → Hp → VK → Prop) : Prop :=
  ∀ (pins : List (Addr × Obj)) (s : Shared) (σ : St) (H : Hp) (o i : V) (ov iv : Value) (Q : VK), Inv X pins σ H s → RelV o ov → RelV i iv → t o i H Q →
    wpAny (model X.prog X.w) X.A (getItem ov iv) (EP X pins σ Q) X.xe s
/-- ints -/
def ipI (f : Int → Int → Int) : TIp := fun x y H Q => ∃ i j, x = .int i ∧ y = .int j ∧ Q (.int (f i j)) H
end

/-! ### while -/
section
variable {X : Cx} {pos : Pos}
/-- the invariant W with its measure -/
def tWhile (c : TT) (tb : TS) : TS := fun D σ H => ∃ W : Nat → St → Hp → Prop, (∃ m, W m σ H) ∧ ∀ m σ H, W m σ H →
  c σ H fun b H1 => if b = true then ∃ N : St → Hp → Prop, (∀ σ' H', N σ' H' → ∃ m', m' < m ∧ W m' σ' H') ∧ tb { D with nx := N, ct := N, bk := D.nx } σ H1 else D.nx σ H1
theorem ps_while {c : Expr} {body : List Stmt} {tc : TT} {tb : TS} (hp : PassesOwn (model X.prog X.w) X.A X.env X.xe) (hc : PT X c tc) (hb : PSs X body tb) : PS X (.While c body [] pos) (tWhile tc tb) := by
  intro pins s σ H D I h
  obtain ⟨W, ⟨m0, w0⟩, turn⟩ := h
  refine wpAny_While (codeAny_whileLoop (fun n s' => ∃ σ' H', Inv X pins σ' H' s' ∧ W n σ' H') ?_ m0 ⟨σ, H, I, w0⟩)
  rintro n s1 ⟨σ1, H1, I1, w1⟩
  refine wpAny_passesOwn hp (thn (hc pins s1 σ1 H1 _ I1 (turn n σ1 H1 w1)) fun b s2 ⟨H2, I2, q2⟩ => ?_)
  cases b with
  | true =>
    obtain ⟨N, hN, q2⟩ := q2
    rw [if_pos rfl]
    refine wpAny_passesOwn hp (thn (hb pins s2 σ1 H2 _ I2 q2) fun f s3 q3 => ?_)
    cases f with
    | next =>
      obtain ⟨σ3, H3, I3, n3⟩ := q3
      obtain ⟨m', hm, w3⟩ := hN σ3 H3 n3
      exact ⟨m', hm, σ3, H3, I3, w3⟩
    | cont =>
      obtain ⟨σ3, H3, I3, n3⟩ := q3
      obtain ⟨m', hm, w3⟩ := hN σ3 H3 n3
      exact ⟨m', hm, σ3, H3, I3, w3⟩
    | brk => exact q3
    | ret v => exact q3
  | false =>
    rw [if_neg Bool.false_ne_true]
    exact wpAny_execs_nil ⟨σ1, H2, I2, q2⟩
end

/-! ### what a loop or a comprehension walks -/
/-- at turn i: it yields x (the heap may grow), or it stops -/
structure It where
  go : Nat → Hp → Prop
  yld : Nat → Hp → V → Hp → Prop
  stop : Nat → Hp → Prop
/-- the iterator's own objects may turn: they are not the frame's, not pinned, younger than the entry (or a comprehension's own) -/
def FpOk (X : Cx) (pins : List (Addr × Obj)) (H : Hp) (b : Addr) : Prop :=
  H b = none ∧ b ≠ X.env.locals ∧ b ∉ X.fs ∧ (b ∈ X.ex ∨ X.s₀.heap.objs.size ≤ b) ∧ (∀ x c, X.env.cells.lookup x = some c → c ≠ b) ∧ ∀ p ∈ X.pn ++ pins, p.1 ≠ b
theorem Inv.fpOk {X : Cx} {pins : List (Addr × Obj)} {σ : St} {H H' : Hp} {s : Shared} {b : Addr} (I : Inv X pins σ H s) (hb : s.heap.objs.size ≤ b) (hn : H' b = none) : FpOk X pins H' b := by
  refine ⟨hn, Nat.ne_of_gt (Nat.lt_of_lt_of_le I.lt hb), I.nofs hb, .inr (Nat.le_trans I.sz hb), fun x c e z => ?_, fun p hp z => ?_⟩
  · obtain ⟨v, q⟩ := I.cell x c e
    exact absurd (Nat.lt_of_lt_of_le q.lt (by rw [z]; exact hb)) (Nat.lt_irrefl _)
  · exact absurd (Nat.lt_of_lt_of_le (Heap.lt_size (I.pin p hp).1) (by rw [z]; exact hb)) (Nat.lt_irrefl _)
structure Turn (P : Program) (w : World) (K : PySem.W.Frag) (tg : Expr) (J : It) (fp : List Addr) (it : Addr) (tn : Nat → Heap → Prop) : Prop where
  mem : it ∈ fp
  obj : ∀ i h, tn i h → ∀ b ∈ fp, ∃ o, h.get? b = some o ∧ ∀ v, o.data ≠ .cell v
  keep : ∀ i h h', tn i h → (∀ b ∈ fp, ∀ o, h.get? b = some o → h'.get? b = some o) → tn i h'
  item : ∀ (X : Cx), X.prog = P → X.w = w → X.K = K → X.calm = true → ∀ (i : Nat) (pins : List (Addr × Obj)) (s : Shared) (σ : St) (H : Hp) (E : Value → Shared → Prop), Inv X pins σ H s → (∀ b ∈ fp, FpOk X pins H b) → tn i s.heap → J.go i H →
    wpAny (model P w) X.A (pyNext (.ref it)) (fun r s1 => ∃ u, r = some u ∧
      wpAny (model P w) X.A (letOwnedTupleGo tg (.ref it) u) (fun _ s2 => ∃ x H', Inv X pins σ H' s2 ∧ RelV x u ∧ J.yld i H x H' ∧ tn (i + 1) s2.heap ∧ ∀ b ∈ fp, H' b = none) E s1) E s
  done : ∀ (X : Cx), X.prog = P → X.w = w → X.K = K → X.calm = true → ∀ (i : Nat) (pins : List (Addr × Obj)) (s : Shared) (σ : St) (H : Hp) (E : Value → Shared → Prop), Inv X pins σ H s → (∀ b ∈ fp, FpOk X pins H b) → tn i s.heap → J.stop i H →
    wpAny (model P w) X.A (pyNext (.ref it)) (fun r s1 => r = none ∧ Inv X pins σ H s1) E s
  self : ∀ (A : Around) (i : Nat) (s : Shared) (Q : Value → Shared → Prop) (E : Value → Shared → Prop), tn i s.heap → Q (.ref it) s → wpAny (model P w) A (pyIter (.ref it)) Q E s
abbrev TI := St → Hp → (It → Hp → Prop) → Prop
/-- an iterator has come -/
def PIE (X : Cx) (pins : List (Addr × Obj)) (σ : St) (tg : Expr) (R : It → Hp → Prop) (itv : Value) (s2 : Shared) : Prop :=
  ∃ (it : Addr) (fp : List Addr) (tn : Nat → Heap → Prop) (J : It) (H' : Hp), itv = .ref it ∧ Inv X pins σ H' s2 ∧ Turn X.prog X.w X.K tg J fp it tn ∧ tn 0 s2.heap ∧ (∀ b ∈ fp, FpOk X pins H' b) ∧ R J H'
def PI (X : Cx) (tg iter : Expr) (wi : TI) : Prop :=
  ∀ (pins : List (Addr × Obj)) (s : Shared) (σ : St) (H : Hp) (R : It → Hp → Prop), Inv X pins σ H s → wi σ H R →
    wpAny (model X.prog X.w) X.A (eval iter X.env) (fun v s1 => wpAny (model X.prog X.w) X.A (pyIter v) (PIE X pins σ tg R) X.xe s1) X.xe s

/-- the step ahead of the store is nothing for an iterator that keeps no tuple -/
theorem go_of {M : Model} {A : Around} {E : Value → Shared → Prop} {s : Shared} {tg : Expr} {it : Addr} {u : Value} {o : Obj} {n : String} {vs : Array Value} {Q : Unit → Shared → Prop} (ho : s.heap.get? it = some o) (hc : o.cls = .type n) (hd : o.data = .fields vs)
    (hn : ["enumerate", "zip", "dict_itemiterator", "dict_reverseitemiterator", "odict_iterator", "itertools.zip_longest", "itertools.pairwise"].contains n = false) (hQ : Q () s) : wpAny M A (letOwnedTupleGo tg (.ref it) u) Q E s := by
  unfold letOwnedTupleGo
  cases tg <;> first
    | exact wpAny_pure hQ
    | (cases u <;> first
        | exact wpAny_pure hQ
        | (refine wpAny_bind (wpAny_load ho ?_)
           rw [hc, hd]
           show wpAny M A (if (["enumerate", "zip", "dict_itemiterator", "dict_reverseitemiterator", "odict_iterator", "itertools.zip_longest", "itertools.pairwise"].contains n && vs[0]? == some (rawInt _)) = true then _ else _) Q E s
           rw [if_neg (by intro h; rw [hn, Bool.false_and] at h; cases h)]
           exact wpAny_pure hQ))

/-- the list at a, as it stands at each turn (a loop may append to it) -/
def Itl (K : PySem.W.Frag) (a : Addr) : It :=
  ⟨fun i H => ∃ xs x, SqL K H a xs ∧ xs[i]? = some x, fun i H x H' => H' = H ∧ ∀ xs, SqL K H a xs → xs[i]? = some x, fun i H => ∃ xs, SqL K H a xs ∧ xs.length ≤ i⟩
def Itt (K : PySem.W.Frag) (a : Addr) : It :=
  ⟨fun i H => ∃ xs x, SqT K H a xs ∧ xs[i]? = some x, fun i H x H' => H' = H ∧ ∀ xs, SqT K H a xs → xs[i]? = some x, fun i H => ∃ xs, SqT K H a xs ∧ xs.length ≤ i⟩
/-- lo, lo + 1, .. (n of them) -/
def Itr (lo : Int) (n : Nat) : It := ⟨fun i _ => i < n, fun i H x H' => H' = H ∧ x = .int (lo + i), fun i _ => n ≤ i⟩
theorem turn_list {P : Program} {w : World} {K : PySem.W.Frag} {tg : Expr} (a it : Addr) : Turn P w K tg (Itl K a) [it] it (fun i h => h.IsListIter it a i) where
  mem := by simp
  obj := fun i h st b hb => by
    have e : b = it := by simpa using hb
    subst e
    obtain ⟨o, e, c, d⟩ := st
    exact ⟨o, e, fun v z => by rw [d] at z; cases z⟩
  keep := fun i h h' st k => st.at fun o e => k it (by simp) o e
  item := by
    intro X hP hw hK hc i pins s σ H E I hf st hg
    subst hP hw hK
    obtain ⟨xs, x, hq, hx⟩ := hg
    obtain ⟨its, rv, p, hz⟩ := I.list hq
    obtain ⟨u, hu, ru⟩ := rv.get hx
    obtain ⟨f0, f1, f2, f3, f4, f5⟩ := hf it (by simp)
    refine wpAny_pyNext_list_item st p.isList (x := u) (by simpa using hu) fun h' st' sb => ?_
    have I1 : Inv X pins σ H { s with heap := h' } := I.turned (t' := s.toks) (fun b o hb e => (sb.2 b hb).trans e) f0 f1 f3 f4 f5
    obtain ⟨o, e, c, d⟩ := id st'
    exact ⟨u, rfl, go_of (s := { s with heap := h' }) e c d (by decide) ⟨x, H, I1, ru, ⟨rfl, fun ys hy => by rw [I.list_inj hy hq]; exact hx⟩, st', fun b hb => (hf b hb).1⟩⟩
  done := by
    intro X hP hw hK hc i pins s σ H E I hf st hg
    subst hP hw hK
    obtain ⟨xs, hq, hx⟩ := hg
    obtain ⟨its, rv, p, hz⟩ := I.list hq
    obtain ⟨f0, f1, f2, f3, f4, f5⟩ := hf it (by simp)
    have hl := rv.length
    exact wpAny_pyNext_list_end (I.ok.hd hc) st p.isList (by simp; omega) fun h' eb => ⟨rfl, I.turned (t' := s.toks) (fun b o hb e => eb b o hb e) f0 f1 f3 f4 f5⟩
  self := fun _ _ _ _ _ st h => wpAny_pyIter_listiter st h
theorem turn_tuple {P : Program} {w : World} {K : PySem.W.Frag} {tg : Expr} (a it : Addr) : Turn P w K tg (Itt K a) [it] it (fun i h => h.IsTupleIter it a i) where
  mem := by simp
  obj := fun i h st b hb => by
    have e : b = it := by simpa using hb
    subst e
    obtain ⟨o, e, c, d⟩ := st
    exact ⟨o, e, fun v z => by rw [d] at z; cases z⟩
  keep := fun i h h' st k => st.at fun o e => k it (by simp) o e
  item := by
    intro X hP hw hK hc i pins s σ H E I hf st hg
    subst hP hw hK
    obtain ⟨xs, x, hq, hx⟩ := hg
    obtain ⟨its, rv, p, hz⟩ := I.tuple hq
    obtain ⟨u, hu, ru⟩ := rv.get hx
    obtain ⟨f0, f1, f2, f3, f4, f5⟩ := hf it (by simp)
    refine wpAny_pyNext_tuple_item st (show s.heap.IsTuple a its.toArray from p) (x := u) (by simpa using hu) fun h' st' sb => ?_
    have I1 : Inv X pins σ H { s with heap := h' } := I.turned (t' := s.toks) (fun b o hb e => (sb.2 b hb).trans e) f0 f1 f3 f4 f5
    obtain ⟨o, e, c, d⟩ := id st'
    exact ⟨u, rfl, go_of (s := { s with heap := h' }) e c d (by decide) ⟨x, H, I1, ru, ⟨rfl, fun ys hy => by rw [I.tuple_inj hy hq]; exact hx⟩, st', fun b hb => (hf b hb).1⟩⟩
  done := by
    intro X hP hw hK hc i pins s σ H E I hf st hg
    subst hP hw hK
    obtain ⟨xs, hq, hx⟩ := hg
    obtain ⟨its, rv, p, hz⟩ := I.tuple hq
    obtain ⟨f0, f1, f2, f3, f4, f5⟩ := hf it (by simp)
    have hl := rv.length
    exact wpAny_pyNext_tuple_end (I.ok.hd hc) st (show s.heap.IsTuple a its.toArray from p) (by simp; omega) fun h' eb => ⟨rfl, I.turned (t' := s.toks) (fun b o hb e => eb b o hb e) f0 f1 f3 f4 f5⟩
  self := fun _ _ _ _ _ st h => wpAny_pyIter_tupleiter st h
theorem turn_range {P : Program} {w : World} {K : PySem.W.Frag} {tg : Expr} (it : Addr) (lo : Int) (n : Nat) : Turn P w K tg (Itr lo n) [it] it (fun i h => IsRangeIter h it (lo + (i : Nat) * 1) ((n : Int) - (i : Nat)) 1) where
  mem := by simp
  obj := fun i h st b hb => by
    have e : b = it := by simpa using hb
    subst e
    exact ⟨_, st, fun v z => by
      have z' : Data.fields _ = Data.cell v := z
      cases z'⟩
  keep := fun i h h' st k => k it (by simp) _ st
  item := by
    intro X hP hw hK hc i pins s σ H E I hf st hg
    subst hP hw hK
    obtain ⟨f0, f1, f2, f3, f4, f5⟩ := hf it (by simp)
    have W := Walks.range (prog := X.prog) (w := X.w) (I.ok.hd hc) it lo 1 n
    refine W.item i s _ _ hg st fun v h' tk hv st' kk => ?_
    obtain ⟨t, rfl⟩ := hv
    have I1 : Inv X pins σ H { s with heap := h', toks := tk } := I.turned (fun b o hb e => kk b o (by simpa using hb) e) f0 f1 f3 f4 f5
    refine ⟨_, rfl, go_of (s := { s with heap := h', toks := tk }) (n := "range_iterator") st' rfl rfl (by decide) ⟨.int (lo + i), H, I1, ⟨t, ?_⟩, ⟨rfl, rfl⟩, st', fun b hb => (hf b hb).1⟩⟩
    rw [Int.mul_one]
  done := by
    intro X hP hw hK hc i pins s σ H E I hf st hg
    subst hP hw hK
    obtain ⟨f0, f1, f2, f3, f4, f5⟩ := hf it (by simp)
    exact wpAny_pyNext_range_end (I.ok.hd hc) st (by have : n ≤ i := hg; omega) fun h' eb => ⟨rfl, I.turned (t' := s.toks) (fun b o hb e => eb b o hb e) f0 f1 f3 f4 f5⟩
  self := fun _ _ _ _ _ st h => wpAny_pyIter_rangeiter st h
end L2

namespace L2
open PySem PySem.Spec PyProof.Rows
section
variable {X : Cx} {tg : Expr}
def iList (K : PySem.W.Frag) (tl : TE) : TI := fun σ H R => tl σ H fun x H1 => ∃ a, x = .ref a ∧ (∃ xs, SqL K H1 a xs) ∧ R (Itl K a) H1
def iTup (K : PySem.W.Frag) (tl : TE) : TI := fun σ H R => tl σ H fun x H1 => ∃ a, x = .ref a ∧ (∃ xs, SqT K H1 a xs) ∧ R (Itt K a) H1
theorem pi_list {l : Expr} {tl : TE} (hl : PE X l tl) : PI X tg l (iList X.K tl) := by
  intro pins s σ H R I h
  refine thn (hl pins s σ H _ I h) fun v s1 ⟨x, H1, I1, r1, q1⟩ => ?_
  obtain ⟨a, e, ⟨xs, hq⟩, q⟩ := q1
  subst e
  cases r1
  obtain ⟨its, rv, p, hz⟩ := I1.list hq
  refine wpAny_pyIter_list p.isList ?_
  refine ⟨s1.heap.objs.size, [s1.heap.objs.size], _, _, H1, rfl, I1.kept (t' := s1.toks) fun b o e => Heap.get?_push_of_some _ e, turn_list a _, ⟨_, Heap.get?_push_size _ rfl, rfl, rfl⟩, fun b hb => ?_, q⟩
  have e : b = s1.heap.objs.size := by simpa using hb
  subst e
  exact I1.fpOk (Nat.le_refl _) (I1.hok.fresh (Nat.le_refl _))
theorem pi_tup {l : Expr} {tl : TE} (hl : PE X l tl) : PI X tg l (iTup X.K tl) := by
  intro pins s σ H R I h
  refine thn (hl pins s σ H _ I h) fun v s1 ⟨x, H1, I1, r1, q1⟩ => ?_
  obtain ⟨a, e, ⟨xs, hq⟩, q⟩ := q1
  subst e
  cases r1
  obtain ⟨its, rv, p, hz⟩ := I1.tuple hq
  refine wpAny_pyIter_tuple (show s1.heap.IsTuple a its.toArray from p) ?_
  refine ⟨s1.heap.objs.size, [s1.heap.objs.size], _, _, H1, rfl, I1.kept (t' := s1.toks) fun b o e => Heap.get?_push_of_some _ e, turn_tuple a _, ⟨_, Heap.get?_push_size _ rfl, rfl, rfl⟩, fun b hb => ?_, q⟩
  have e : b = s1.heap.objs.size := by simpa using hb
  subst e
  exact I1.fpOk (Nat.le_refl _) (I1.hok.fresh (Nat.le_refl _))
/-- a range object just made, walked -/
theorem range_it {pins : List (Addr × Obj)} {σ : St} {H : Hp} {s : Shared} {R : It → Hp → Prop} {E : Value → Shared → Prop} {lo hi : Int} {t u v : Tok} {tk : Nat} (I : Inv X pins σ H s) (h1 : -(2 ^ 62) ≤ lo) (h2 : lo < 2 ^ 62) (h3 : -(2 ^ 62) ≤ hi) (h4 : hi < 2 ^ 62)
    (q : R (Itr lo (hi - lo).toNat) H) : wpAny (model X.prog X.w) X.A (pyIter (.ref s.heap.objs.size)) (PIE X pins σ tg R) E { s with heap := s.heap.push { cls := .type "range", data := .fields #[.int lo t, .int hi u, .int 1 v] }, toks := tk } := by
  refine wpAny_pyIter_range (IsRange.new ..) (small_one h1 h2 h3 h4) ?_
  have I1 : Inv X pins σ H { s with heap := s.heap.push { cls := .type "range", data := .fields #[.int lo t, .int hi u, .int 1 v] }, toks := tk } := I.kept fun b o e => Heap.get?_push_of_some _ e
  refine ⟨(s.heap.push { cls := .type "range", data := .fields #[.int lo t, .int hi u, .int 1 v] }).objs.size, [(s.heap.push { cls := .type "range", data := .fields #[.int lo t, .int hi u, .int 1 v] }).objs.size], _, _, H, rfl,
    I1.kept (t' := tk) fun b o e => Heap.get?_push_of_some _ e, turn_range _ lo (hi - lo).toNat, ?_, fun b hb => ?_, q⟩
  · have e1 : lo + ((0 : Nat) : Int) * 1 = lo := by simp
    have e2 : (((hi - lo).toNat : Nat) : Int) - ((0 : Nat) : Int) = Builtin.Range.rangeSize lo hi 1 := by rw [rangeSize_one]; split <;> omega
    show IsRangeIter _ _ (lo + ((0 : Nat) : Int) * 1) ((((hi - lo).toNat : Nat) : Int) - ((0 : Nat) : Int)) 1
    rw [e1, e2]
    exact Heap.get?_push_size _ rfl
  · have e : b = (s.heap.push { cls := .type "range", data := .fields #[.int lo t, .int hi u, .int 1 v] }).objs.size := by simpa using hb
    subst e
    exact I1.fpOk (Nat.le_refl _) (I1.hok.fresh (Nat.le_refl _))
def iRng1 (ta : TA) : TI := fun σ H R => ta σ H fun vs H1 => ∃ j : Int, vs = [.int j] ∧ -(2 ^ 62) ≤ j ∧ j < 2 ^ 62 ∧ R (Itr 0 j.toNat) H1
def iRng2 (ta : TA) : TI := fun σ H R => ta σ H fun vs H1 => ∃ i j : Int, vs = [.int i, .int j] ∧ (-(2 ^ 62) ≤ i ∧ i < 2 ^ 62 ∧ -(2 ^ 62) ≤ j ∧ j < 2 ^ 62) ∧ R (Itr i (j - i).toNat) H1
theorem pi_range1 {a : Expr} {ta : TA} {p pos : Pos} (hg : Gl X "range") (hm : X.mg "range" = none) (ha : PA X [a] ta) (hs : starEach [a] X.env = [(false, eval a X.env)] := by rfl) : PI X tg (.Call (.Name "range" p) [a] [] pos) (iRng1 ta) := by
  intro pins s σ H R I h
  refine Call_ (ld_blt I hg hm boot_range (PyProof.Rows.callWith_type1 (thn (ha pos pins s σ H _ I h) fun us s1 ⟨vs, H1, I1, r1, q1⟩ => ?_) hs rfl))
  obtain ⟨j, e, q1, q2, q⟩ := q1
  subst e
  cases r1 with
  | cons r rr =>
    cases rr
    obtain ⟨t, rfl⟩ := r
    exact call_range_1 (range_it I1 (by omega) (by omega) q1 q2 (by simpa using q))
theorem pi_range2 {a b : Expr} {ta : TA} {p pos : Pos} (hg : Gl X "range") (hm : X.mg "range" = none) (ha : PA X [a, b] ta) (hs : starEach [a, b] X.env = [(false, eval a X.env), (false, eval b X.env)] := by rfl) (hs2 : starEach [b] X.env = [(false, eval b X.env)] := by rfl) :
    PI X tg (.Call (.Name "range" p) [a, b] [] pos) (iRng2 ta) := by
  intro pins s σ H R I h
  refine Call_ (ld_blt I hg hm boot_range (PyProof.Rows.callWith_type1 (thn (ha pos pins s σ H _ I h) fun us s1 ⟨vs, H1, I1, r1, q1⟩ => ?_) (by rw [hs, hs2]) (by rw [hs2]; rfl)))
  obtain ⟨i, j, e, ⟨q1, q2, q3, q4⟩, q⟩ := q1
  subst e
  cases r1 with
  | cons r rr =>
    cases rr with
    | cons r' rr =>
      cases rr
      obtain ⟨t, rfl⟩ := r
      obtain ⟨t', rfl⟩ := r'
      exact call_range_2 (range_it I1 q1 q2 q3 q4 q)

/-! ### for -/
/-- W: the invariant by the turn and a measure; N: what the body is to reach -/
def tFor (wi : TI) (g : TG) (tb : TS) : TS := fun D σ H => wi σ H fun J H1 => ∃ W : Nat → Nat → St → Hp → Prop, (∃ m, W 0 m σ H1) ∧ ∀ i m σ H, W i m σ H →
  (J.stop i H ∧ D.nx σ H) ∨ (J.go i H ∧ ∃ N : St → Hp → Prop, (∀ σ' H', N σ' H' → ∃ m', m' < m ∧ W (i + 1) m' σ' H') ∧ ∀ x H', J.yld i H x H' → g x σ H' fun σ2 H2 => tb { D with nx := N, ct := N, bk := D.nx } σ2 H2)
/-- the records at fp as they stand -/
def pinsAt (fp : List Addr) (h : Heap) : List (Addr × Obj) := fp.filterMap fun b => (h.get? b).map fun o => (b, o)
theorem mem_pinsAt {fp : List Addr} {h : Heap} {b : Addr} {o : Obj} (hb : b ∈ fp) (e : h.get? b = some o) : (b, o) ∈ pinsAt fp h := List.mem_filterMap.mpr ⟨b, hb, by rw [e]; rfl⟩
theorem of_pinsAt {fp : List Addr} {h : Heap} {p : Addr × Obj} (hp : p ∈ pinsAt fp h) : p.1 ∈ fp ∧ h.get? p.1 = some p.2 := by
  obtain ⟨b, hb, e⟩ := List.mem_filterMap.mp hp
  cases q : h.get? b with
  | none => rw [q] at e; cases e
  | some o =>
    rw [q] at e
    have e' : (b, o) = p := Option.some.inj e
    subst e'
    exact ⟨hb, q⟩
theorem Inv.pinned {pins : List (Addr × Obj)} {σ : St} {H : Hp} {s : Shared} {fp : List Addr} (I : Inv X pins σ H s) (hf : ∀ b ∈ fp, FpOk X pins H b) (ho : ∀ b ∈ fp, ∃ o, s.heap.get? b = some o ∧ ∀ v, o.data ≠ .cell v) : Inv X (pins ++ pinsAt fp s.heap) σ H s :=
  I.pins_of fun p hp => (List.mem_append.mp hp).elim (fun z => I.pin p (List.mem_append_right _ z)) fun z => by
    obtain ⟨hb, e⟩ := of_pinsAt z
    obtain ⟨f0, f1, f2, _⟩ := hf p.1 hb
    obtain ⟨o, e', d⟩ := ho p.1 hb
    rw [e] at e'; cases e'
    exact ⟨e, f0, f1, f2, d⟩
theorem Inv.unpinned {pins pl : List (Addr × Obj)} {σ : St} {H : Hp} {s : Shared} (I : Inv X (pins ++ pl) σ H s) : Inv X pins σ H s := I.pins_of fun p hp => I.pin p (List.mem_append_right _ (List.mem_append_left _ hp))
theorem ps_for {iter : Expr} {body : List Stmt} {wi : TI} {g : TG} {tb : TS} {pos : Pos} (hp : PassesOwn (model X.prog X.w) X.A X.env X.xe) (hc : X.calm = true) (hi : PI X tg iter wi) (hg : PG X tg g) (hb : PSs X body tb)
    (hs : ∀ x, foldedSetIterable iter X.env x = pure x := by intro _; rfl) : PS X (.For tg iter body [] pos) (tFor wi g tb) := by
  intro pins s σ H D I h
  refine wpAny_For (thn (hi pins s σ H _ I h) fun v s1 h1 => thn h1 fun itv s2 h2 => ?_) hs
  obtain ⟨it, fp, tn, J, H2, e, I2, T, st2, f2, W, ⟨m0, w0⟩, turn⟩ := h2
  subst e
  -- what stays true of the iterator's objects through the loop
  have stat : ∀ {H' : Hp}, (∀ b ∈ fp, H' b = none) → ∀ b ∈ fp, FpOk X pins H' b := fun hn b hb => ⟨hn b hb, (f2 b hb).2⟩
  refine codeAny_forLoop_any (fun n s' => ∃ i σ' H', Inv X pins σ' H' s' ∧ tn i s'.heap ∧ (∀ b ∈ fp, H' b = none) ∧ W i n σ' H') ?_ m0 ⟨0, σ, H2, I2, st2, fun b hb => (f2 b hb).1, w0⟩
  rintro n s3 ⟨i, σ3, H3, I3, st3, fr3, w3⟩
  rcases turn i n σ3 H3 w3 with ⟨stop, qn⟩ | ⟨go, N, hN, step⟩
  · refine wpAny_passesOwn hp (thn (T.done X rfl rfl rfl hc i pins s3 σ3 H3 X.xe I3 (stat fr3) st3 stop) fun r s4 ⟨hr, I4⟩ => ?_)
    subst hr
    exact wpAny_execs_nil ⟨σ3, H3, I4, qn⟩
  · refine wpAny_passesOwn hp (thn (T.item X rfl rfl rfl hc i pins s3 σ3 H3 X.xe I3 (stat fr3) st3 go) fun r s4 ⟨u, hr, h4⟩ => ?_)
    subst hr
    refine wpAny_passesOwn hp (thn h4 fun _ s5 ⟨x, H5, I5, r5, y5, st5, fr5⟩ => ?_)
    have I5' := I5.pinned (stat fr5) (T.obj _ _ st5)
    refine wpAny_passesOwn hp (thn (hg _ s5 σ3 H5 x u _ I5' r5 (step x H5 y5)) fun _ s6 ⟨σ6, H6, I6, q6⟩ => ?_)
    refine wpAny_passesOwn hp (thn (hb _ s6 σ6 H6 _ I6 q6) fun f s7 q7 => ?_)
    have again : ∀ {σ7 : St} {H7 : Hp}, Inv X (pins ++ pinsAt fp s5.heap) σ7 H7 s7 → N σ7 H7 → ∃ m, m < n ∧ ∃ i σ' H', Inv X pins σ' H' s7 ∧ tn i s7.heap ∧ (∀ b ∈ fp, H' b = none) ∧ W i m σ' H' := fun {σ7 H7} I7 n7 => by
      obtain ⟨m', hm, w7⟩ := hN σ7 H7 n7
      refine ⟨m', hm, i + 1, σ7, H7, I7.unpinned, T.keep _ _ _ st5 fun b hb o e => (I7.pin (b, o) (List.mem_append_right _ (List.mem_append_right _ (mem_pinsAt hb e)))).1, fun b hb => ?_, w7⟩
      obtain ⟨o, e, d⟩ := T.obj _ _ st5 b hb
      exact (I7.pin (b, o) (List.mem_append_right _ (List.mem_append_right _ (mem_pinsAt hb e)))).2.1
    cases f with
    | next => obtain ⟨σ7, H7, I7, n7⟩ := q7; exact again I7 n7
    | cont => obtain ⟨σ7, H7, I7, n7⟩ := q7; exact again I7 n7
    | brk => obtain ⟨σ7, H7, I7, q7⟩ := q7; exact ⟨σ7, H7, I7.unpinned, q7⟩
    | ret v => obtain ⟨x7, σ7, H7, I7, r7, q7⟩ := q7; exact ⟨x7, σ7, H7, I7.unpinned, r7, q7⟩
end

/-! ### the forms one uses -/
/-- over a list that the body leaves as it is -/
theorem for_list {K : PySem.W.Frag} {a : Addr} {xs : List V} {g : TG} {tb : TS} {D : Ends} {σ : St} {H : Hp} (Pv : Nat → St → Hp → Prop) (h0 : Pv 0 σ H) (hl : ∀ i σ H, i ≤ xs.length → Pv i σ H → SqL K H a xs)
    (hs : ∀ i x σ H, xs[i]? = some x → Pv i σ H → g x σ H fun σ2 H2 => tb { D with nx := Pv (i + 1), ct := Pv (i + 1), bk := D.nx } σ2 H2) (hd : ∀ σ H, Pv xs.length σ H → D.nx σ H) :
    ∃ W : Nat → Nat → St → Hp → Prop, (∃ m, W 0 m σ H) ∧ ∀ i m σ H, W i m σ H →
      ((Itl K a).stop i H ∧ D.nx σ H) ∨ ((Itl K a).go i H ∧ ∃ N : St → Hp → Prop, (∀ σ' H', N σ' H' → ∃ m', m' < m ∧ W (i + 1) m' σ' H') ∧ ∀ x H', (Itl K a).yld i H x H' → g x σ H' fun σ2 H2 => tb { D with nx := N, ct := N, bk := D.nx } σ2 H2) := by
  refine ⟨fun i m σ H => m = xs.length - i ∧ i ≤ xs.length ∧ Pv i σ H, ⟨xs.length, by simp, Nat.zero_le _, h0⟩, ?_⟩
  rintro i m σ H ⟨rfl, hi, p⟩
  have q := hl i σ H hi p
  by_cases hlt : i < xs.length
  · refine .inr ⟨⟨xs, xs[i], q, by simp [hlt]⟩, Pv (i + 1), fun σ' H' p' => ⟨xs.length - (i + 1), by omega, rfl, hlt, p'⟩, fun x H' y => ?_⟩
    obtain ⟨e, y⟩ := y
    subst e
    exact hs i x σ _ (y xs q) p
  · have e : i = xs.length := by omega
    subst e
    exact .inl ⟨⟨xs, q, Nat.le_refl _⟩, hd σ H p⟩
theorem for_tup {K : PySem.W.Frag} {a : Addr} {xs : List V} {g : TG} {tb : TS} {D : Ends} {σ : St} {H : Hp} (Pv : Nat → St → Hp → Prop) (h0 : Pv 0 σ H) (hl : ∀ i σ H, i ≤ xs.length → Pv i σ H → SqT K H a xs)
    (hs : ∀ i x σ H, xs[i]? = some x → Pv i σ H → g x σ H fun σ2 H2 => tb { D with nx := Pv (i + 1), ct := Pv (i + 1), bk := D.nx } σ2 H2) (hd : ∀ σ H, Pv xs.length σ H → D.nx σ H) :
    ∃ W : Nat → Nat → St → Hp → Prop, (∃ m, W 0 m σ H) ∧ ∀ i m σ H, W i m σ H →
      ((Itt K a).stop i H ∧ D.nx σ H) ∨ ((Itt K a).go i H ∧ ∃ N : St → Hp → Prop, (∀ σ' H', N σ' H' → ∃ m', m' < m ∧ W (i + 1) m' σ' H') ∧ ∀ x H', (Itt K a).yld i H x H' → g x σ H' fun σ2 H2 => tb { D with nx := N, ct := N, bk := D.nx } σ2 H2) := by
  refine ⟨fun i m σ H => m = xs.length - i ∧ i ≤ xs.length ∧ Pv i σ H, ⟨xs.length, by simp, Nat.zero_le _, h0⟩, ?_⟩
  rintro i m σ H ⟨rfl, hi, p⟩
  have q := hl i σ H hi p
  by_cases hlt : i < xs.length
  · refine .inr ⟨⟨xs, xs[i], q, by simp [hlt]⟩, Pv (i + 1), fun σ' H' p' => ⟨xs.length - (i + 1), by omega, rfl, hlt, p'⟩, fun x H' y => ?_⟩
    obtain ⟨e, y⟩ := y
    subst e
    exact hs i x σ _ (y xs q) p
  · have e : i = xs.length := by omega
    subst e
    exact .inl ⟨⟨xs, q, Nat.le_refl _⟩, hd σ H p⟩
theorem for_range {lo : Int} {n : Nat} {g : TG} {tb : TS} {D : Ends} {σ : St} {H : Hp} (Pv : Nat → St → Hp → Prop) (h0 : Pv 0 σ H)
    (hs : ∀ i σ H, i < n → Pv i σ H → g (.int (lo + i)) σ H fun σ2 H2 => tb { D with nx := Pv (i + 1), ct := Pv (i + 1), bk := D.nx } σ2 H2) (hd : ∀ σ H, Pv n σ H → D.nx σ H) :
    ∃ W : Nat → Nat → St → Hp → Prop, (∃ m, W 0 m σ H) ∧ ∀ i m σ H, W i m σ H →
      ((Itr lo n).stop i H ∧ D.nx σ H) ∨ ((Itr lo n).go i H ∧ ∃ N : St → Hp → Prop, (∀ σ' H', N σ' H' → ∃ m', m' < m ∧ W (i + 1) m' σ' H') ∧ ∀ x H', (Itr lo n).yld i H x H' → g x σ H' fun σ2 H2 => tb { D with nx := N, ct := N, bk := D.nx } σ2 H2) := by
  refine ⟨fun i m σ H => m = n - i ∧ i ≤ n ∧ Pv i σ H, ⟨n, by simp, Nat.zero_le _, h0⟩, ?_⟩
  rintro i m σ H ⟨rfl, hi, p⟩
  by_cases hlt : i < n
  · refine .inr ⟨hlt, Pv (i + 1), fun σ' H' p' => ⟨n - (i + 1), by omega, rfl, hlt, p'⟩, fun x H' y => ?_⟩
    obtain ⟨e, y⟩ := y
    subst e y
    exact hs i σ _ hlt p
  · have e : i = n := by omega
    subst e
    exact .inl ⟨Nat.le_refl _, hd σ H p⟩
end L2

namespace L2
open PySem PySem.Spec PyProof.Rows

abbrev R2 := V → V → Hp → VK → Prop
/-- a two-place operation on values: f is binaryOp op, inplaceOp op or compareOp op -/
def OpR (X : Cx) (f : Value → Value → Sem Value) (r : R2) : Prop :=
  ∀ (pins : List (Addr × Obj)) (s : Shared) (σ : St) (H : Hp) (x y : V) (v u : Value) (Q : VK), Inv X pins σ H s → RelV x v → RelV y u → r x y H Q →
    wpAny (model X.prog X.w) X.A (f v u) (EP X pins σ Q) X.xe s
/-- a one-place operation -/
def UnR (X : Cx) (f : Value → Sem Value) (r : V → Hp → VK → Prop) : Prop :=
  ∀ (pins : List (Addr × Obj)) (s : Shared) (σ : St) (H : Hp) (x : V) (v : Value) (Q : VK), Inv X pins σ H s → RelV x v → r x H Q →
    wpAny (model X.prog X.w) X.A (f v) (EP X pins σ Q) X.xe s
/-- a call of a value that is known (a builtin, a type) with values -/
def CallR (X : Cx) (f : Value) (r : List V → Hp → VK → Prop) : Prop :=
  ∀ (pins : List (Addr × Obj)) (s : Shared) (σ : St) (H : Hp) (xs : List V) (us : List Value) (Q : VK), Inv X pins σ H s → Vals xs us → r xs H Q →
    wpAny (model X.prog X.w) X.A (call f us) (EP X pins σ Q) X.xe s
/-- a value's truth -/
def TruR (X : Cx) (r : V → Hp → (Bool → Hp → Prop) → Prop) : Prop :=
  ∀ (pins : List (Addr × Obj)) (s : Shared) (σ : St) (H : Hp) (x : V) (v : Value) (Q : Bool → Hp → Prop), Inv X pins σ H s → RelV x v → r x H Q →
    wpAny (model X.prog X.w) X.A (truthy v) (TP X pins σ Q) X.xe s

def tOp (r : R2) (ta tb : TE) : TE := fun σ H Q => ta σ H fun x H1 => tb σ H1 fun y H2 => r x y H2 Q
def tUn (r : V → Hp → VK → Prop) (ta : TE) : TE := fun σ H Q => ta σ H fun x H1 => r x H1 Q
/-- ints in, under C, and a value out -/
def rI (C : Int → Int → Prop) (g : Int → Int → V) : R2 := fun x y H Q => ∃ i j, x = .int i ∧ y = .int j ∧ C i j ∧ Q (g i j) H
def rI0 (g : Int → Int → V) : R2 := fun x y H Q => ∃ i j, x = .int i ∧ y = .int j ∧ Q (g i j) H
def rU (g : Int → V) : V → Hp → VK → Prop := fun x H Q => ∃ i, x = .int i ∧ Q (g i) H

section
variable {X : Cx} {a b c : Expr} {ta tb tc : TE} {pos : Pos}

theorem binT (ha : PE X a ta) (hb : PE X b tb) {pins : List (Addr × Obj)} {s : Shared} {σ : St} {H : Hp} {R : V → V → Hp → Prop} (I : Inv X pins σ H s)
    (h : ta σ H fun x H1 => tb σ H1 fun y H2 => R x y H2) {Q : Value → Shared → Prop} {f : Value → Value → Sem Value}
    (hf : ∀ v u s2 x y H2, Inv X pins σ H2 s2 → RelV x v → RelV y u → R x y H2 → wpAny (model X.prog X.w) X.A (f v u) Q X.xe s2) :
    wpAny (model X.prog X.w) X.A (eval a X.env) (fun v s₁ => wpAny (model X.prog X.w) X.A (eval b X.env) (fun u s₂ => wpAny (model X.prog X.w) X.A (f v u) Q X.xe s₂) X.xe s₁) X.xe s := by
  refine thn (ha pins s σ H _ I h) fun v s1 ⟨x, H1, I1, r1, q1⟩ => ?_
  refine thn (hb pins s1 σ H1 _ I1 q1) fun u s2 ⟨y, H2, I2, r2, q2⟩ => ?_
  exact hf v u s2 x y H2 I2 r1 r2 q2

theorem pe_op {op : Operator} {r : R2} (ho : OpR X (binaryOp op) r) (ha : PE X a ta) (hb : PE X b tb) : PE X (.BinOp a op b pos) (tOp r ta tb) := by
  intro pins s σ H Q I h
  exact wpAny_BinOp (binT ha hb I h fun v u s2 x y H2 I2 rx ry q => ho pins s2 σ H2 x y v u Q I2 rx ry q)
theorem pe_un {op : UnaryOp} {r : V → Hp → VK → Prop} (ho : UnR X (unaryOp op) r) (ha : PE X a ta) : PE X (.UnaryOp op a pos) (tUn r ta) := by
  intro pins s σ H Q I h
  exact UnaryOp_ (thn (ha pins s σ H _ I h) fun v s1 ⟨x, H1, I1, r1, q1⟩ => ho pins s1 σ H1 x v Q I1 r1 q1)
/-! ### ints -/
theorem opI {f : Value → Value → Sem Value} {C : Int → Int → Prop} {g : Int → Int → Int}
    (rule : ∀ (i j : Int) (t u : Tok) (s : Shared) (Q : Value → Shared → Prop) (E : Value → Shared → Prop), C i j → Q (.int (g i j) s.toks) { s with toks := s.toks + 1 } → wpAny (model X.prog X.w) X.A (f (.int i t) (.int j u)) Q E s) :
    OpR X f (rI C fun i j => .int (g i j)) := by
  intro pins s σ H x y v u Q I rx ry h
  obtain ⟨i, j, rfl, rfl, hc, q⟩ := h
  obtain ⟨t, rfl⟩ := rx
  obtain ⟨t', rfl⟩ := ry
  exact rule i j t t' s _ _ hc ⟨.int (g i j), H, I.tok _, ⟨_, rfl⟩, q⟩
theorem opI0 {f : Value → Value → Sem Value} {g : Int → Int → Int}
    (rule : ∀ (i j : Int) (t u : Tok) (s : Shared) (Q : Value → Shared → Prop) (E : Value → Shared → Prop), Q (.int (g i j) s.toks) { s with toks := s.toks + 1 } → wpAny (model X.prog X.w) X.A (f (.int i t) (.int j u)) Q E s) :
    OpR X f (rI0 fun i j => .int (g i j)) := by
  intro pins s σ H x y v u Q I rx ry h
  obtain ⟨i, j, rfl, rfl, q⟩ := h
  obtain ⟨t, rfl⟩ := rx
  obtain ⟨t', rfl⟩ := ry
  exact rule i j t t' s _ _ ⟨.int (g i j), H, I.tok _, ⟨_, rfl⟩, q⟩
theorem opB0 {f : Value → Value → Sem Value} {g : Int → Int → Bool}
    (rule : ∀ (i j : Int) (t u : Tok) (s : Shared) (Q : Value → Shared → Prop) (E : Value → Shared → Prop), Q (.bool (g i j)) s → wpAny (model X.prog X.w) X.A (f (.int i t) (.int j u)) Q E s) :
    OpR X f (rI0 fun i j => .bl (g i j)) := by
  intro pins s σ H x y v u Q I rx ry h
  obtain ⟨i, j, rfl, rfl, q⟩ := h
  obtain ⟨t, rfl⟩ := rx
  obtain ⟨t', rfl⟩ := ry
  exact rule i j t t' s _ _ ⟨.bl (g i j), H, I, rfl, q⟩

def CDiv (i j : Int) : Prop := 0 < j ∧ j < 1073741824
def CDivN (i j : Int) : Prop := j ≠ 0 ∧ j.natAbs < 1073741824
def CPow (i j : Int) : Prop := 0 ≤ j ∧ j ≤ 1000000 ∧ i.natAbs < 2 ^ 64
def CMul (i j : Int) : Prop := (-(2 ^ 64) < i ∧ i < 2 ^ 64) ∨ (-(2 ^ 64) < j ∧ j < 2 ^ 64)
theorem CMul.ok {i j : Int} (h : CMul i j) : IntMulOk i j := by
  rcases h with ⟨h1, h2⟩ | ⟨h1, h2⟩
  · exact .of_left (intBits_le_64 h1 h2)
  · exact .of_right (intBits_le_64 h1 h2)
theorem op_add : OpR X (binaryOp .Add) (rI0 fun i j => .int (i + j)) := opI0 fun _ _ _ _ _ _ _ q => add_int q
theorem op_sub : OpR X (binaryOp .Sub) (rI0 fun i j => .int (i - j)) := opI0 fun _ _ _ _ _ _ _ q => sub_int q
/-- % by a positive divisor of any size -/
theorem op_mod : OpR X (binaryOp .Mod) (rI (fun _ j => 0 < j) fun i j => .int (i % j)) := opI fun i j _ _ _ _ _ hc q => by
  have h1 : (0 : Int) < j := hc
  exact mod_int' (by omega) (by rw [Int.fmod_eq_emod_of_nonneg i (by omega)]; exact q)
theorem unI {f : Value → Sem Value} {g : Int → Int}
    (rule : ∀ (i : Int) (t : Tok) (s : Shared) (Q : Value → Shared → Prop) (E : Value → Shared → Prop), Q (.int (g i) s.toks) { s with toks := s.toks + 1 } → wpAny (model X.prog X.w) X.A (f (.int i t)) Q E s) :
    UnR X f (rU fun i => .int (g i)) := by
  intro pins s σ H x v Q I rx h
  obtain ⟨i, rfl, q⟩ := h
  obtain ⟨t, rfl⟩ := rx
  exact rule i t s _ _ ⟨.int (g i), H, I.tok _, ⟨_, rfl⟩, q⟩
theorem un_neg : UnR X (unaryOp .USub) (rU fun i => .int (-i)) := unI fun _ _ _ _ _ q => neg_int q
/-! ### bools among ints: n += (a < b) -/
end

/-! ### comparisons -/
/-- the scalars that == tells apart as data does -/
def scal : V → V → Bool
  | .non, .non => true | .non, .int _ => true | .int _, .non => true | .non, .bl _ => true | .bl _, .non => true | .non, .str _ => true | .str _, .non => true
  | .int _, .int _ => true | .bl _, .bl _ => true | .str _, .str _ => true | .byt _, .byt _ => true
  | .int _, .str _ => true | .str _, .int _ => true | .bl _, .str _ => true | .str _, .bl _ => true
  | _, _ => false
def rEq : R2 := fun x y H Q => scal x y = true ∧ Q (.bl (decide (x = y))) H
def rNe : R2 := fun x y H Q => scal x y = true ∧ Q (.bl (!decide (x = y))) H

theorem dec_int {i j : Int} : decide (V.int i = V.int j) = (i == j) := by
  rw [Bool.eq_iff_iff]
  simp
theorem dec_bl {i j : Bool} : decide (V.bl i = V.bl j) = (i == j) := by
  rw [Bool.eq_iff_iff]
  simp
theorem dec_str {i j : Str} : decide (V.str i = V.str j) = (i == j) := by
  rw [Bool.eq_iff_iff]
  simp
theorem dec_byt {i j : Array UInt8} : decide (V.byt i = V.byt j) = (i.toList == j.toList) := by
  rw [Bool.eq_iff_iff]
  cases i
  cases j
  simp

section
variable {X : Cx} {a b c : Expr} {ta tb tc : TE} {pos : Pos}
theorem fin_bl {pins : List (Addr × Obj)} {σ : St} {H : Hp} {s : Shared} {Q : VK} {k k' : Bool} (I : Inv X pins σ H s) (q : Q (.bl k) H) (e : k = k') : EP X pins σ Q (.bool k') s := by
  subst e
  exact ⟨.bl k, H, I, rfl, q⟩
theorem op_eq : OpR X (compareOp .Eq) rEq := by
  intro pins s σ H x y v u Q I rx ry h
  obtain ⟨hs, q⟩ := h
  cases x with
  | non =>
    cases rx
    cases y with
    | non => cases ry; exact PySem.EqNone.eq_none_none (fin_bl I q (by simp))
    | bl j => cases ry; exact PySem.EqNone.eq_none_bool (fin_bl I q (by simp))
    | int j => obtain ⟨t', rfl⟩ := ry; exact PySem.EqNone.eq_none_int (fin_bl I q (by simp))
    | str j => obtain ⟨t', rfl⟩ := ry; exact PySem.EqNone.eq_none_str (fin_bl I q (by simp))
    | _ => exact absurd (show false = true from hs) Bool.false_ne_true
  | bl i =>
    cases rx
    cases y with
    | non => cases ry; exact PySem.EqNone.eq_bool_none (fin_bl I q (by simp))
    | bl j => cases ry; exact eq_bool (fin_bl I q dec_bl)
    | str j => obtain ⟨t', rfl⟩ := ry; exact PySem.EqMixed.eq_bool_str (fin_bl I q (by simp))
    | _ => exact absurd (show false = true from hs) Bool.false_ne_true
  | int i =>
    obtain ⟨t, rfl⟩ := rx
    cases y with
    | non => cases ry; exact PySem.EqNone.eq_int_none (fin_bl I q (by simp))
    | int j => obtain ⟨t', rfl⟩ := ry; exact eq_int (fin_bl I q dec_int)
    | str j => obtain ⟨t', rfl⟩ := ry; exact PySem.EqMixed.eq_int_str (fin_bl I q (by simp))
    | _ => exact absurd (show false = true from hs) Bool.false_ne_true
  | str i =>
    obtain ⟨t, rfl⟩ := rx
    cases y with
    | non => cases ry; exact PySem.EqNone.eq_str_none (fin_bl I q (by simp))
    | bl j => cases ry; exact PySem.EqMixed.eq_str_bool (fin_bl I q (by simp))
    | int j => obtain ⟨t', rfl⟩ := ry; exact PySem.EqMixed.eq_str_int (fin_bl I q (by simp))
    | str j => obtain ⟨t', rfl⟩ := ry; exact eq_str (fin_bl I q dec_str)
    | _ => exact absurd (show false = true from hs) Bool.false_ne_true
  | byt i =>
    obtain ⟨t, rfl⟩ := rx
    cases y with
    | byt j => obtain ⟨t', rfl⟩ := ry; exact PySem.W.eq_bytes (fin_bl I q dec_byt)
    | _ => exact absurd (show false = true from hs) Bool.false_ne_true
  | _ => cases y <;> exact absurd (show false = true from hs) Bool.false_ne_true
theorem op_ne : OpR X (compareOp .NotEq) rNe := by
  intro pins s σ H x y v u Q I rx ry h
  obtain ⟨hs, q⟩ := h
  cases x with
  | non =>
    cases rx
    cases y with
    | non => cases ry; exact PySem.EqNone.ne_none_none (fin_bl I q (by simp))
    | bl j => cases ry; exact PySem.EqNone.ne_none_bool (fin_bl I q (by simp))
    | int j => obtain ⟨t', rfl⟩ := ry; exact PySem.EqNone.ne_none_int (fin_bl I q (by simp))
    | str j => obtain ⟨t', rfl⟩ := ry; exact PySem.EqNone.ne_none_str (fin_bl I q (by simp))
    | _ => exact absurd (show false = true from hs) Bool.false_ne_true
  | bl i =>
    cases rx
    cases y with
    | non => cases ry; exact PySem.EqNone.ne_bool_none (fin_bl I q (by simp))
    | bl j => cases ry; exact ne_bool (fin_bl I q (congrArg not dec_bl))
    | str j => obtain ⟨t', rfl⟩ := ry; exact PySem.EqMixed.ne_bool_str (fin_bl I q (by simp))
    | _ => exact absurd (show false = true from hs) Bool.false_ne_true
  | int i =>
    obtain ⟨t, rfl⟩ := rx
    cases y with
    | non => cases ry; exact PySem.EqNone.ne_int_none (fin_bl I q (by simp))
    | int j => obtain ⟨t', rfl⟩ := ry; exact ne_int (fin_bl I q (congrArg not dec_int))
    | str j => obtain ⟨t', rfl⟩ := ry; exact PySem.EqMixed.ne_int_str (fin_bl I q (by simp))
    | _ => exact absurd (show false = true from hs) Bool.false_ne_true
  | str i =>
    obtain ⟨t, rfl⟩ := rx
    cases y with
    | non => cases ry; exact PySem.EqNone.ne_str_none (fin_bl I q (by simp))
    | bl j => cases ry; exact PySem.EqMixed.ne_str_bool (fin_bl I q (by simp))
    | int j => obtain ⟨t', rfl⟩ := ry; exact PySem.EqMixed.ne_str_int (fin_bl I q (by simp))
    | str j => obtain ⟨t', rfl⟩ := ry; exact ne_str (fin_bl I q (congrArg not dec_str))
    | _ => exact absurd (show false = true from hs) Bool.false_ne_true
  | byt i =>
    obtain ⟨t, rfl⟩ := rx
    cases y with
    | byt j => obtain ⟨t', rfl⟩ := ry; exact PySem.W.ne_bytes (fin_bl I q (congrArg not dec_byt))
    | _ => exact absurd (show false = true from hs) Bool.false_ne_true
  | _ => cases y <;> exact absurd (show false = true from hs) Bool.false_ne_true

theorem op_lt : OpR X (compareOp .Lt) (rI0 fun i j => .bl (decide (i < j))) := opB0 fun _ _ _ _ _ _ _ q => lt_int q
theorem op_gt : OpR X (compareOp .Gt) (rI0 fun i j => .bl (decide (j < i))) := opB0 fun _ _ _ _ _ _ _ q => gt_int q
/-- is, is not of two objects that are tracked lists or instances -/
def isObj : HO → Bool
  | .lst _ => true
  | .ins _ _ _ => true
  | _ => false
/-- two rules for one operation: by cases -/
theorem OpR.or {f : Value → Value → Sem Value} {r r' : R2} (h : OpR X f r) (h' : OpR X f r') : OpR X f (fun x y H Q => r x y H Q ∨ r' x y H Q) := by
  intro pins s σ H x y v u Q I rx ry q
  rcases q with q | q
  · exact h pins s σ H x y v u Q I rx ry q
  · exact h' pins s σ H x y v u Q I rx ry q

theorem nomark (b : Expr) {op : CmpOp} (h : op ≠ .In := by decide) (h2 : op ≠ .NotIn := by decide) : behindInMarks op b = false := by
  have e1 : (op == CmpOp.In) = false := by cases op <;> first | rfl | exact absurd rfl h
  have e2 : (op == CmpOp.NotIn) = false := by cases op <;> first | rfl | exact absurd rfl h2
  cases b <;> simp [behindInMarks, e1, e2]
/-- a comparison as a value; hm: nomark b, or (for in, not in) by with_unfolding_all rfl -/
theorem pe_cmpR {op : CmpOp} {r : R2} (ho : OpR X (compareOp op) r) (ha : PE X a ta) (hb : PE X b tb) (hm : behindInMarks op b = false) : PE X (.Compare a [op] [b] pos) (tOp r ta tb) := by
  intro pins s σ H Q I h
  exact wpAny_Compare1 (binT ha hb I h fun v u s2 x y H2 I2 rx ry q => ho pins s2 σ H2 x y v u Q I2 rx ry q) hm
/-- a reading of a value as a test -/
def tTest (t : TE) : TT := fun σ H Q => t σ H fun x H' => ∃ k, x = .bl k ∧ Q k H'
theorem pt_cmpR {op : CmpOp} {r : R2} (ho : OpR X (compareOp op) r) (ha : PE X a ta) (hb : PE X b tb) (hm : behindInMarks op b = false) : PT X (.Compare a [op] [b] pos) (tTest (tOp r ta tb)) := by
  intro pins s σ H Q I h
  refine wpAny_isTrue_Compare1 (thn (ha pins s σ H _ I h) fun v s1 ⟨x, H1, I1, r1, q1⟩ => thn (hb pins s1 σ H1 _ I1 q1) fun u s2 ⟨y, H2, I2, r2, q2⟩ =>
    thn (ho pins s2 σ H2 x y v u _ I2 r1 r2 q2) fun c s3 ⟨z, H3, I3, r3, k, e, q3⟩ => ?_) hm
  subst e
  cases r3
  exact wpAny_truthy_bool ⟨H3, I3, q3⟩
/-- a op1 b op2 c -/
def tChain (r r' : R2) (ta tb tc : TE) : TE := fun σ H Q => ta σ H fun x H1 => tb σ H1 fun y H2 => r x y H2 fun z H3 => ∃ k, z = .bl k ∧
  (if k = true then tc σ H3 fun w' H4 => r' y w' H4 Q else Q (.bl false) H3)
/-! ### truth -/
/-- a value's truth by the abstract heap -/
def TruV (K : PySem.W.Frag) (x : V) (H : Hp) (k : Bool) : Prop :=
  match x with
  | .non => k = false
  | .bl b => k = b
  | .int i => k = (i != 0)
  | .str y => y.length ≤ sizeLine ∧ k = ((y.length : Int) != 0)
  | .byt y => y.size ≤ sizeLine ∧ k = ((y.size : Int) != 0)
  | .ref p => (∃ xs, SqL K H p xs ∧ k = !xs.isEmpty) ∨ (∃ xs, SqT K H p xs ∧ k = !xs.isEmpty) ∨ ∃ kvs, H p = some (.dK kvs) ∧ k = !kvs.isEmpty
  | _ => False
theorem line63 : (sizeLine : Nat) < 2 ^ 63 := by rw [sizeLine_eq]; decide
/-! ### strs and bytes -/
def PlainIxT (b : Expr) : Prop := ∀ o i, subscripted b false o i = operate [o, i] (getItem o i)
/-! ### scalar builtins, by CallR -/
theorem vals1 {x : V} {us : List Value} (r : Vals [x] us) : ∃ u, us = [u] ∧ RelV x u := by
  cases r with
  | cons r1 r2 => cases r2; exact ⟨_, rfl, r1⟩
theorem vals2 {x y : V} {us : List Value} (r : Vals [x, y] us) : ∃ u w', us = [u, w'] ∧ RelV x u ∧ RelV y w' := by
  cases r with
  | cons r1 r2 =>
    cases r2 with
    | cons r3 r4 => cases r4; exact ⟨_, _, rfl, r1, r3⟩
theorem call_abs : CallR X (.builtin "abs") (fun xs H Q => ∃ i, xs = [.int i] ∧ Q (.int (if i < 0 then -i else i)) H) := by
  intro pins s σ H xs us Q I r h
  obtain ⟨i, rfl, q⟩ := h
  obtain ⟨u, rfl, t, rfl⟩ := vals1 r
  exact call_abs_int fun u tk => ⟨.int (if i < 0 then -i else i), H, I.tok _, ⟨_, rfl⟩, q⟩
/-- len of a str, a bytes, a list, a tuple -/
def LenV (K : PySem.W.Frag) (x : V) (H : Hp) (n : Nat) : Prop :=
  match x with
  | .str y => y.length ≤ sizeLine ∧ n = y.length
  | .byt y => y.size ≤ sizeLine ∧ n = y.size
  | .ref p => (∃ xs, SqL K H p xs ∧ n = xs.length) ∨ ∃ xs, SqT K H p xs ∧ n = xs.length
  | _ => False
end
end L2

namespace L2
open PySem PySem.Spec PyProof.Rows

/-! ### an instance, its attributes a map -/
structure ObjM (h : Heap) (x dx C : Addr) (mA : Str → Option Value) : Prop where
  obj : h.get? x = some (PySem.W.instObj C dx)
  ns : h.Ns1 dx mA
  ne : dx ≠ x

section
variable {prog : Program} {w : World} {A : Around} {E : Value → Shared → Prop} {s : Shared} {K : PySem.W.Frag} {x dx C f : Addr} {mA : Str → Option Value} {name : Str} {v : Value}

end

/-! ### the attributes as a list of pairs -/
def putF (f : Str) (v : V) : List (Str × V) → List (Str × V)
  | [] => [(f, v)]
  | (g, x) :: r => if g = f then (g, v) :: r else (g, x) :: putF f v r
section
variable {P : Program} {w : World} {H H' : Hp} {h h' : Heap} {a C dx : Addr} {fs fs' : List (Str × V)}
end

/-! ### what of the text a class must have -/
structure Cls (K : PySem.W.Frag) (C : Addr) : Prop where
  pg : PySem.W.plainGet K C Str.empty = true
  hd : PySem.W.hasDictIn K C = true
  po : PySem.W.plainOver K C = true
  sa : PySem.W.findIn K (.ref C) "__setattr__" = some (some (.builtin "object.__setattr__"))
theorem Cls.get {K : PySem.W.Frag} {C : Addr} (c : Cls K C) (f : Str) : PySem.W.plainGet K C f = true := c.pg
/-- no class of it has the name -/
def NoAttr (K : PySem.W.Frag) (C : Addr) (f : Str) : Prop := PySem.W.findIn K (.ref C) f = some none
/-- a constant of the class -/
structure Con (K : PySem.W.Frag) (C : Addr) (f : Str) (v : V) (u : Value) : Prop where
  at_ : PySem.W.findIn K (.ref C) f = some (some u)
  rel : RelV v u
  get : PySem.W.specialIn K u "__get__" = some none
  cp : PySem.W.copiedNames.contains f = false
/-- a method: a plain def of the class or of one above it -/
structure Meth (K : PySem.W.Frag) (C : Addr) (m : Str) (f : Addr) : Prop where
  at_ : PySem.W.findIn K (.ref C) m = some (some (.ref f))
  fn : PySem.W.isFn K (.ref f) = true
  kp : PySem.W.keepIn K (.ref f) = true

section
variable {X : Cx} {pins : List (Addr × Obj)} {σ : St} {H : Hp} {s : Shared} {a C dx : Addr} {fs : List (Str × V)} {f : Str} {v : V} {A : Around} {E : Value → Shared → Prop}

/-- a new instance, tracked, without attributes -/
theorem Inv.made (I : Inv X pins σ H s) : Inv X pins σ (upd (upd H s.heap.objs.size (.own (s.heap.objs.size + 1))) (s.heap.objs.size + 1) (.ins C s.heap.objs.size []))
    { s with heap := (s.heap.push PySem.W.emptyDict).push (PySem.W.instObj C s.heap.objs.size) } := by
  have e1 : (s.heap.push PySem.W.emptyDict).get? s.heap.objs.size = some PySem.W.emptyDict := Heap.get?_push_size s.heap rfl
  have e2 : ((s.heap.push PySem.W.emptyDict).push (PySem.W.instObj C s.heap.objs.size)).get? (s.heap.objs.size + 1) = some (PySem.W.instObj C s.heap.objs.size) := by
    have := Heap.get?_push_size (s.heap.push PySem.W.emptyDict) (o := PySem.W.instObj C s.heap.objs.size) rfl
    rwa [Heap.size_push] at this
  have e3 : (s.heap.push PySem.W.emptyDict).Ns s.heap.objs.size (fun _ => none) := ⟨PySem.W.emptyDict, #[], _, e1, rfl, (fun e he => absurd he (by simp)), fun _ => rfl⟩
  have I1 := I.laid (a := s.heap.objs.size) (o := .own (s.heap.objs.size + 1)) (h' := s.heap.push PySem.W.emptyDict) (t' := s.toks) (fun b u q => Heap.get?_push_of_some _ q) (Nat.le_refl _) ⟨_, e1⟩
  refine I1.laid (a := s.heap.objs.size + 1) (o := .ins C s.heap.objs.size []) (t' := s.toks) (fun b u q => Heap.get?_push_of_some _ q) (Nat.le_of_eq (Heap.size_push _ _)) ?_
  have ne : s.heap.objs.size ≠ s.heap.objs.size + 1 := Nat.ne_of_lt (Nat.lt_succ_self _)
  refine ⟨by rw [upd_ne ne, upd_same], Nat.zero_le _, ne, e2, fun _ => none, (Heap.Ns1.of_empty e3).at fun o q => Heap.get?_push_of_some _ q, fun _ => True.intro, fun y hy => absurd rfl hy⟩

end

/-! ### readings and rules -/
/-- e.f, an attribute of the instance -/
def tFld (K : PySem.W.Frag) (ta : TE) (f : Str) : TE := fun σ H Q => ta σ H fun x H1 => ∃ a C dx fs v, x = .ref a ∧ H1 a = some (.ins C dx fs) ∧ Cls K C ∧ NoAttr K C f ∧ fs.lookup f = some v ∧ Q v H1
/-- e.f, a constant of the class -/
def tCon (K : PySem.W.Frag) (ta : TE) (f : Str) : TE := fun σ H Q => ta σ H fun x H1 => ∃ a C dx fs v u, x = .ref a ∧ H1 a = some (.ins C dx fs) ∧ Cls K C ∧ Con K C f v u ∧ fs.lookup f = none ∧ Q v H1
/-- e.f = value -/
def sFld (K : PySem.W.Frag) (ta tv : TE) (f : Str) : TS := fun D σ H => tv σ H fun y H1 => ta σ H1 fun x H2 => ∃ a C dx fs, x = .ref a ∧ H2 a = some (.ins C dx fs) ∧ Cls K C ∧ NoAttr K C f ∧ fs.length < 1000 ∧
  D.nx σ (upd H2 a (.ins C dx (putF f y fs)))
/-- an augmented operator on two values -/
def InOp (X : Cx) (op : Operator) (rd : V → V → Hp → VK → Prop) : Prop :=
  ∀ (pins : List (Addr × Obj)) (s : Shared) (σ : St) (H : Hp) (x y : V) (u v : Value) (Q : VK), Inv X pins σ H s → RelV x u → RelV y v → rd x y H Q → wpAny (model X.prog X.w) X.A (inplaceOp op u v) (EP X pins σ Q) X.xe s
/-- e.f op= value -/
def sFldAug (K : PySem.W.Frag) (ta tv : TE) (rd : V → V → Hp → VK → Prop) (f : Str) : TS := fun D σ H => ta σ H fun x H1 => ∃ a C dx fs v, x = .ref a ∧ H1 a = some (.ins C dx fs) ∧ Cls K C ∧ NoAttr K C f ∧ fs.lookup f = some v ∧
  tv σ H1 fun y H2 => rd v y H2 fun z H3 => ∃ dx' fs', H3 a = some (.ins C dx' fs') ∧ fs'.length < 1000 ∧ D.nx σ (upd H3 a (.ins C dx' (putF f z fs')))

section
variable {X : Cx} {o e value : Expr} {f : Str} {pos pos' tpos : Pos} {ta tv : TE}
def rAdd : V → V → Hp → VK → Prop := fun x y H Q => ∃ i j, x = .int i ∧ y = .int j ∧ Q (.int (i + j)) H
def rSub : V → V → Hp → VK → Prop := fun x y H Q => ∃ i j, x = .int i ∧ y = .int j ∧ Q (.int (i - j)) H
end

/-! ### isinstance -/
section
variable {X : Cx} {pins : List (Addr × Obj)} {σ : St} {H : Hp} {s : Shared} {A : Around} {E : Value → Shared → Prop} {Q : Value → Shared → Prop} {c : Value} {b : Bool}
/-- the type of a value, as the fragment's deciders take it; for an instance its class -/
inductive TyOf (K : PySem.W.Frag) (H : Hp) : V → Value → Prop where
  | non : TyOf K H .non (.type "NoneType")
  | bl (x : Bool) : TyOf K H (.bl x) (.type "bool")
  | int (i : Int) : TyOf K H (.int i) (.type "int")
  | str (x : Str) : TyOf K H (.str x) (.type "str")
  | flt (x : UInt64) : TyOf K H (.flt x) (.type "float")
  | lst {a : Addr} {xs : List V} (e : H a = some (.lst xs)) : TyOf K H (.ref a) (.type "list")
  | frz {a : Addr} {o : Obj} {xs : List V} (e : H a = some (.frz o (.lst xs))) : TyOf K H (.ref a) (.type "list")
  | tup {a : Addr} {xs : List V} (e : H a = some (.tup xs)) : TyOf K H (.ref a) (.type "tuple")
  | dK {a : Addr} {kvs : List (Key × V)} (e : H a = some (.dK kvs)) : TyOf K H (.ref a) (.type "dict")
  | dT {a : Addr} {kvs : List (List Key × V)} (e : H a = some (.dT kvs)) : TyOf K H (.ref a) (.type "dict")
  | ins {a C dx : Addr} {fs : List (Str × V)} (e : H a = some (.ins C dx fs)) (cl : Cls K C) (ha : PySem.W.findIn K (.ref C) "__class__" = some (some (.builtin "object.__class__")))
      (hn : PySem.W.specialIn K (.builtin "object.__class__") "__get__" = some (some (.builtin "getset_descriptor.__get__"))) (htk : PySem.W.takesIn K (.builtin "object.__class__") = some true)
      (hm : PySem.W.mroIn K C (.type "object") = some true) : TyOf K H (.ref a) (.ref C)
end
end L2

namespace L2
open PySem PySem.Spec PyProof.Rows

/-! ### room -/
structure Room (k : Nat) (A : Around) : Prop where
  hd : A.handled = none
  dp : A.depth + 3 * k + 5 < recursionLimit
  un : A.units + 16 * k + 200 < cLine
theorem Room.mono {j k : Nat} {A : Around} (r : Room k A) (h : j ≤ k) : Room j A := ⟨r.hd, by have := r.dp; omega, by have := r.un; omega⟩
theorem Room.deeper {k : Nat} {A : Around} (r : Room (k + 1) A) (env : Env) : Room k (A.deeper env) :=
  ⟨r.hd, by have := r.dp; show A.depth + 1 + 3 * k + 5 < _; omega, by have := r.un; show A.units + 3 + 16 * k + 200 < _; omega⟩
theorem Room.in1 {k : Nat} {A : Around} (r : Room (k + 1) A) : Room k A.in1 :=
  ⟨r.hd, by have := r.dp; show A.depth + 3 * k + 5 < _; omega, by have := r.un; show A.units + 1 + 16 * k + 200 < _; omega⟩
theorem Room.depth {k : Nat} {A : Around} (r : Room k A) : A.depth < recursionLimit := by have := r.dp; omega
theorem Room.units {k : Nat} {A : Around} (r : Room k A) : A.units + 64 < cLine := by have := r.un; omega
/-! ### argument lists and displays -/
def tNil : TA := fun _ H Q => Q [] H
def tCons (ta : TE) (tr : TA) : TA := fun σ H Q => ta σ H fun x H1 => tr σ H1 fun xs H2 => Q (x :: xs) H2
section
variable {X : Cx} {e : Expr} {es : List Expr} {te : TE} {t : TA} {pos : Pos}
theorem pa_nil : PA X [] tNil := fun _ _ _ _ H Q I h => Calls.spliced_nil ⟨[], H, I, .nil, h⟩
theorem pa_cons (ha : PE X e te) (hr : PA X es t) (hs : starEach (e :: es) X.env = (false, eval e X.env) :: starEach es X.env := by rfl) : PA X (e :: es) (tCons te t) := by
  intro pos pins s σ H Q I h
  rw [hs]
  show wpAny _ _ (spliced ((false, eval e X.env) :: backTo pos (starEach es X.env))) _ _ s
  refine Calls.spliced_cons (thn (ha pins s σ H _ I h) fun u s1 ⟨x, H1, I1, r1, q1⟩ => ?_)
  exact thn (hr pos pins s1 σ H1 _ I1 q1) fun us s2 ⟨xs, H2, I2, r2, q2⟩ => ⟨x :: xs, H2, I2, .cons r1 r2, q2⟩

/-- a tuple, a list of written items -/
def tTup (t : TA) : TE := fun σ H Q => t σ H fun xs H1 => xs.length ≤ sizeLine ∧ ∀ p, H1 p = none → Q (.ref p) (upd H1 p (.tup xs))
def tLst (t : TA) : TE := fun σ H Q => t σ H fun xs H1 => xs.length ≤ sizeLine ∧ ∀ p, H1 p = none → Q (.ref p) (upd H1 p (.lst xs))
theorem pe_tup {x1} (h : PA X es t) : PE X (.Tuple es x1 pos) (tTup t) := by
  intro pins s σ H Q I hq
  refine wpAny_Tuple_spliced (thn (h pos pins s σ H _ I hq) fun us s1 ⟨xs, H1, I1, r, z, q⟩ => ⟨by rw [← r.length]; exact z, ?_⟩)
  have hf : H1 s1.heap.objs.size = none := I1.hok.fresh (Nat.le_refl _)
  refine ⟨.ref s1.heap.objs.size, upd H1 s1.heap.objs.size (.tup xs), I1.laid (t' := s1.toks) (fun b u e => Heap.get?_push_of_some _ e) (Nat.le_refl _) ?_, rfl, q _ hf⟩
  exact ⟨z, us, r, ⟨_, Heap.get?_push_size _ rfl, rfl, _, rfl⟩⟩
theorem pe_lst (h : PA X es t) : PE X (.List es pos) (tLst t) := by
  intro pins s σ H Q I hq
  refine wpAny_List_spliced (thn (h pos pins s σ H _ I hq) fun us s1 ⟨xs, H1, I1, r, z, q⟩ => ⟨by rw [← r.length]; exact z, ?_⟩)
  have hf : H1 s1.heap.objs.size = none := I1.hok.fresh (Nat.le_refl _)
  refine ⟨.ref s1.heap.objs.size, upd H1 s1.heap.objs.size (.lst xs), I1.laid (t' := s1.toks) (fun b u e => Heap.get?_push_of_some _ e) (Nat.le_refl _) ?_, rfl, q _ hf⟩
  exact ⟨z, us, 0, r, Heap.get?_push_size _ rfl⟩
end

/-! ### what a def promises -/
/-- a def's promise: the bound arguments in the parameters' order, the heap, the wanted end, the wanted exception -/
abbrev Sp := List V → Hp → VK → XK → Prop
/-- how an exception lies behind a call (file 08 gives it): the callers' frames, abstract heap and state ahead of the call, the wish, the exception, the state -/
abbrev CXT := List Env → Hp → Shared → XK → Value → Shared → Prop

/-- the state at a call -/
structure Env0 (P : Program) (w : World) (K : PySem.W.Frag) (mg : Str → Option Value) (base : Heap) (A : Around) (outer : List Env) (s : Shared) (H : Hp) : Prop where
  frames : A.frames = some outer
  mod : Mod K mg base
  bs : ∀ b o, base.get? b = some o → s.heap.get? b = some o ∧ H b = none
  bsz : base.objs.size ≤ s.heap.objs.size
  funs : s.heap.FunFrames base outer
  frf : ∀ b ∈ frs outer, H b = none
  hok : HOk P w H s.heap
  bare : AllBare s.gens
/-- a call's end -/
def CE (outer : List Env) (P : Program) (w : World) (H : Hp) (s : Shared) (Q : VK) (u : Value) (s' : Shared) : Prop :=
  ∃ v H', s'.os = s.os ∧ AllBare s'.gens ∧ Un (frs outer) [] H H' s.heap s'.heap ∧ HOk P w H' s'.heap ∧ RelV v u ∧ Q v H'
def CR (CX : CXT) (outer : List Env) (P : Program) (w : World) (H : Hp) (s : Shared) (Q : VK) (E : XK) (r : Result) (s' : Shared) : Prop :=
  match r with
  | .ok (.ret u) => CE outer P w H s Q u s'
  | .ok _ => False
  | .error e => CX outer H s E e s'
structure FnOk (P : Program) (w : World) (K : PySem.W.Frag) (mg : Str → Option Value) (base : Heap) (CX : CXT) (k : Nat) (f : Addr) (fd : FuncData) (ps : List Str) (sp : Sp) : Prop where
  len : ∀ vs H Q E, sp vs H Q E → vs.length = ps.length
  run : ∀ (A : Around) (outer : List Env) (s : Shared) (H : Hp) (args : Args) (us : List Value) (vs : List V) (Q : VK) (E : XK), Room k A → Env0 P w K mg base A outer s H → BindsTo s fd args (ps.zip us) → Vals vs us → sp vs H Q E →
    codeAny (model P w) A (.call (.ref f) args) (CR CX outer P w H s Q E) s
theorem FnOk.mono {P : Program} {w : World} {K : PySem.W.Frag} {mg : Str → Option Value} {base : Heap} {CX : CXT} {j k : Nat} {f : Addr} {fd : FuncData} {ps : List Str} {sp : Sp} (F : FnOk P w K mg base CX j f fd ps sp) (h : j ≤ k) :
    FnOk P w K mg base CX k f fd ps sp := ⟨F.len, fun A outer s H args us vs Q E hr => F.run A outer s H args us vs Q E (hr.mono h)⟩
/-- a weaker promise -/
theorem FnOk.imp {P : Program} {w : World} {K : PySem.W.Frag} {mg : Str → Option Value} {base : Heap} {CX : CXT} {k : Nat} {f : Addr} {fd : FuncData} {ps : List Str} {sp sp' : Sp} (F : FnOk P w K mg base CX k f fd ps sp)
    (h : ∀ vs H Q E, sp' vs H Q E → sp vs H Q E) : FnOk P w K mg base CX k f fd ps sp' :=
  ⟨fun vs H Q E q => F.len vs H Q E (h _ _ _ _ q), fun A outer s H args us vs Q E hr he hb hv hs => F.run A outer s H args us vs Q E hr he hb hv (h _ _ _ _ hs)⟩

theorem Env0.in1 {P : Program} {w : World} {K : PySem.W.Frag} {mg : Str → Option Value} {base : Heap} {A : Around} {outer : List Env} {s : Shared} {H : Hp} (e : Env0 P w K mg base A outer s H) :
    Env0 P w K mg base A.in1 outer s H := ⟨e.frames, e.mod, e.bs, e.bsz, e.funs, e.frf, e.hok, e.bare⟩

section
variable {X : Cx} {pins : List (Addr × Obj)} {σ : St} {H : Hp} {s s' : Shared}
/-- from a body: what a callee wants -/
theorem Inv.env0 (I : Inv X pins σ H s) : Env0 X.prog X.w X.K X.mg X.base X.A X.stack s H :=
  ⟨I.ok.frames, I.ok.mod, I.bs, Nat.le_trans I.ok.bsz I.sz, I.stack, I.stkFree, I.hok, I.bare⟩
/-- behind a call -/
theorem Inv.after {Q : VK} {u : Value} (I : Inv X pins σ H s) (h : CE X.stack X.prog X.w H s Q u s') : EP X pins σ Q u s' := by
  obtain ⟨v, H', os, bare, un, hok, r, q⟩ := h
  obtain ⟨hh, g, d, t, os'⟩ := s'
  obtain rfl : os' = s.os := os
  exact ⟨v, H', I.call (h' := hh) (g' := g) (d' := d) (t' := t) (ch := []) un hok bare (fun b z => absurd z (by simp)), r, q⟩
end

/-! ### calls -/
/-- f(..): the written arguments, then the defaults dvs; E: what is wanted of an exception -/
def tCall (sp : Sp) (dvs : List V) (E : XK) (t : TA) : TE := fun σ H Q => t σ H fun vs H1 => sp (vs ++ dvs) H1 Q E
/-- o.m(..) of an instance of the class at C -/
def tMeth (C : Addr) (m : Str) (sp : Sp) (dvs : List V) (E : XK) (ta : TE) (t : TA) : TE := fun σ H Q => ta σ H fun x H1 => ∃ a dx fs, x = .ref a ∧ H1 a = some (.ins C dx fs) ∧ fs.lookup m = none ∧
  t σ H1 fun vs H2 => sp (x :: (vs ++ dvs)) H2 Q E
/-- C(..): a new instance and its dict, then __init__ -/
def tMake (C : Addr) (sp : Sp) (dvs : List V) (E : XK) (t : TA) : TE := fun σ H Q => t σ H fun vs H1 => ∀ x dx, H1 x = none → H1 dx = none → dx ≠ x →
  sp (.ref x :: (vs ++ dvs)) (upd (upd H1 dx (.own x)) x (.ins C dx [])) (fun v H2 => v = .non ∧ Q (.ref x) H2) E

/-- how the parameters are bound: us the positional arguments, kw the keywords' values by name, ds the defaults that fill up -/
def Binds (K : PySem.W.Frag) (fd : FuncData) (ps : List Str) (ds : List Value) : Prop :=
  ∀ (s : Shared) (us : List Value), K.In s.heap → (us ++ ds).length = ps.length → BindsTo s fd ⟨us, []⟩ (ps.zip (us ++ ds))
/-- every parameter is given -/
theorem Binds.all {K : PySem.W.Frag} {fd : FuncData} {ps : List Str} (h : ∀ us : List Value, us.length = ps.length → bindArgs fd ⟨us, []⟩ = pure (ps.zip us)) : Binds K fd ps [] := fun s us _ hl => by
  rw [List.append_nil] at hl ⊢
  exact .of_eq (h us hl)

/-- an exception of a callee reaches what this body wants of exceptions -/
def Passes (CX : CXT) (X : Cx) (E : XK) : Prop := ∀ (pins : List (Addr × Obj)) (σ : St) (H : Hp) (s : Shared) (e : Value) (s' : Shared), Inv X pins σ H s → CX X.stack H s E e s' → X.xe e s'

section
variable {X : Cx} {CX : CXT} {k : Nat} {f C : Addr} {fd : FuncData} {ps : List Str} {sp : Sp} {dvs : List V} {ds : List Value} {E : XK} {x m : Str} {p pos apos : Pos} {e o : Expr} {es : List Expr} {ta : TE} {t : TA}

/-- the callee runs -/
theorem run_fn {pins : List (Addr × Obj)} {σ : St} {H : Hp} {s : Shared} {Q : VK} {us : List Value} {vs : List V} (F : FnOk X.prog X.w X.K X.mg X.base CX k f fd ps sp) (hr : Room k X.A) (hb : Binds X.K fd ps ds) (hd : Vals dvs ds) (hx : Passes CX X E)
    (I : Inv X pins σ H s) (r : Vals vs us) (h : sp (vs ++ dvs) H Q E) : wpAny (model X.prog X.w) X.A (call (.ref f) us) (EP X pins σ Q) X.xe s := by
  have r2 : Vals (vs ++ dvs) (us ++ ds) := r.append hd
  have hl : (us ++ ds).length = ps.length := by rw [← r2.length]; exact F.len _ _ _ _ h
  refine wpAny_call (codeAny_mono (F.run X.A X.stack s H ⟨us, []⟩ (us ++ ds) (vs ++ dvs) Q E hr I.env0 (hb s us I.kIn hl) r2 h) fun r s' hq => ?_)
  cases r with
  | error e => exact hx pins σ H s e s' I hq
  | ok fl =>
    cases fl with
    | ret u => exact I.after hq
    | next => exact False.elim hq
    | brk => exact False.elim hq
    | cont => exact False.elim hq

theorem pe_call (F : FnOk X.prog X.w X.K X.mg X.base CX k f fd ps sp) (hr : Room k X.A) (hg : Gl X x) (hm : X.mg x = some (.ref f)) (hk : PySem.W.keepIn X.K (.ref f) = true) (hb : Binds X.K fd ps ds) (hd : Vals dvs ds) (hx : Passes CX X E)
    (ha : PA X (e :: es) t) (hdb : (x == ("__debug__" : Str)) = false := by decide) (he : starEach (e :: es) X.env = (false, eval e X.env) :: starEach es X.env := by rfl) (hpl : (backTo pos (starEach es X.env)).any (·.1) = false := by rfl) :
    PE X (.Call (.Name x p) (e :: es) [] pos) (tCall sp dvs E t) := by
  intro pins s σ H Q I h
  refine wpAny_Call_Name_kw (ld_glob I hg hm ?_ hdb)
  refine PySem.W.callWith_K (h₀ := X.base) I.ok.mod.kin hk (thn (ha pos pins s σ H _ I h) fun us s1 ⟨vs, H1, I1, r, q⟩ => ⟨I1.kIn, ?_⟩) he hpl
  exact run_fn F hr hb hd hx I1 r q
/-- what a class must have to be made -/
structure Mk (K : PySem.W.Frag) (C f : Addr) : Prop where
  makes : PySem.W.makesIn K C = true
  init : PySem.W.findIn K (.ref C) "__init__" = some (some (.ref f))
  fn : PySem.W.isFn K (.ref f) = true
  kp : PySem.W.keepIn K (.ref C) = true

end

/-! ### keywords -/
/-- the values of the keywords, from the left -/
def PK (X : Cx) (kws : List Keyword) (t : TA) : Prop :=
  ∀ (pos : Pos) (pins : List (Addr × Obj)) (s : Shared) (σ : St) (H : Hp) (Q : List V → Hp → Prop), Inv X pins σ H s → t σ H Q → wpAny (model X.prog X.w) X.A (evalAll ((backToKw pos (keywordEach kws X.env)).map (·.2))) (AP X pins σ Q) X.xe s
section
variable {X : Cx} {CX : CXT} {k : Nat} {f C : Addr} {fd : FuncData} {ps ks : List Str} {sp : Sp} {E : XK} {x m : Str} {p pos apos kpos : Pos} {e o : Expr} {es : List Expr} {kws : List Keyword} {te ta : TE} {t tk : TA} {nm : Option Str}
/-- how a call with keywords binds: g puts the positional values us and the keywords' values ws (names ks) in the parameters' order, defaults among them -/
structure KBinds (K : PySem.W.Frag) (fd : FuncData) (ps ks : List Str) (g : List Value → List Value → List Value) (gV : List V → List V → List V) : Prop where
  to : ∀ (s : Shared) (us ws : List Value), K.In s.heap → (g us ws).length = ps.length → BindsTo s fd ⟨us, ks.zip ws⟩ (ps.zip (g us ws))
  rel : ∀ {vs : List V} {us : List Value} {zs : List V} {ws : List Value}, Vals vs us → Vals zs ws → Vals (gV vs zs) (g us ws)
def tCallK (sp : Sp) (gV : List V → List V → List V) (E : XK) (t tk : TA) : TE := fun σ H Q => t σ H fun vs H1 => tk σ H1 fun zs H2 => sp (gV vs zs) H2 Q E
variable {g : List Value → List Value → List Value} {gV : List V → List V → List V}
end

/-! ### a def's body keeps its promise -/
/-- names: the parameters first -/
structure FnScope (N P : List Str) (sc : Scope) : Prop where
  kind : sc.kind = .function
  co : sc.isCoroutine = false
  gen : sc.isGenerator = false
  nd : N.Nodup
  pre : N.take P.length = P
  par : ∀ x ∈ P, sc.names.lookup x = some .local ∨ sc.names.lookup x = some .cell
  nofree : ∀ y ∈ sc.names, y.2 ≠ .free

theorem bindL_out {kindOf : Str → Option NameKind} {x : Str} : ∀ {binds : List (Str × Value)} {m : Str → Option Value}, (∀ v, (x, v) ∉ binds) → bindL kindOf binds m x = m x
  | [], _, _ => rfl
  | (n, v) :: r, m, h => by
    unfold bindL
    rw [bindL_out fun w hw => h w (List.mem_cons_of_mem _ hw)]
    split
    · have : x ≠ n := by rintro rfl; exact h v List.mem_cons_self
      simp [this]
    · rfl
theorem bindC_out {kindOf : Str → Option NameKind} {x : Str} : ∀ {binds : List (Str × Value)} {m : Str → Option Value}, (∀ v, (x, v) ∉ binds) → bindC kindOf binds m x = m x
  | [], _, _ => rfl
  | (n, v) :: r, m, h => by
    unfold bindC
    rw [bindC_out fun w hw => h w (List.mem_cons_of_mem _ hw)]
    split
    · rfl
    · have : x ≠ n := by rintro rfl; exact h v List.mem_cons_self
      simp [this]
theorem bindL_get {kindOf : Str → Option NameKind} {x : Str} {v : Value} : ∀ {P : List Str} {vs : List Value} {i : Nat} {m : Str → Option Value}, P.Nodup → P[i]? = some x → vs[i]? = some v → kindOf x = some .local →
    bindL kindOf (P.zip vs) m x = some v
  | [], _, _, _, _, h, _, _ => by simp at h
  | _ :: _, [], _, _, _, _, h, _ => by simp at h
  | p :: P, w :: vs, 0, m, nd, h1, h2, hk => by
    simp at h1 h2; subst h1; subst h2
    show bindL kindOf ((p, w) :: P.zip vs) m p = _
    unfold bindL
    rw [bindL_out fun v hv => (List.nodup_cons.mp nd).1 (List.of_mem_zip hv).1, if_pos hk]
    simp
  | p :: P, w :: vs, i + 1, m, nd, h1, h2, hk => by
    show bindL kindOf ((p, w) :: P.zip vs) m x = _
    unfold bindL
    exact bindL_get (i := i) (List.nodup_cons.mp nd).2 (by simpa using h1) (by simpa using h2) hk
theorem bindC_get {kindOf : Str → Option NameKind} {x : Str} {v : Value} : ∀ {P : List Str} {vs : List Value} {i : Nat} {m : Str → Option Value}, P.Nodup → P[i]? = some x → vs[i]? = some v → kindOf x ≠ some .local →
    bindC kindOf (P.zip vs) m x = some v
  | [], _, _, _, _, h, _, _ => by simp at h
  | _ :: _, [], _, _, _, _, h, _ => by simp at h
  | p :: P, w :: vs, 0, m, nd, h1, h2, hk => by
    simp at h1 h2; subst h1; subst h2
    show bindC kindOf ((p, w) :: P.zip vs) m p = _
    unfold bindC
    rw [bindC_out fun v hv => (List.nodup_cons.mp nd).1 (List.of_mem_zip hv).1, if_neg hk]
    simp
  | p :: P, w :: vs, i + 1, m, nd, h1, h2, hk => by
    show bindC kindOf ((p, w) :: P.zip vs) m x = _
    unfold bindC
    exact bindC_get (i := i) (List.nodup_cons.mp nd).2 (by simpa using h1) (by simpa using h2) hk

/-- the names' values at the entry -/
def start (N : List Str) (vs : List V) : St := vs.map some ++ List.replicate (N.length - vs.length) none

/-- the context of a def's body, at its entry; an exception leaves the frame, then lies as CX says -/
def cxOf (CX : CXT) (P : Program) (w : World) (K : PySem.W.Frag) (mg : Str → Option Value) (base : Heap) (N : List Str) (qual : Str) (scope : Scope) (f : Addr) (cd : Value) (A : Around) (outer : List Env) (s : Shared) (H : Hp) (E : XK) : Cx where
  prog := P
  w := w
  K := K
  mg := mg
  base := base
  A := A.deeper (envOfC qual scope s.heap.objs.size f cd)
  N := N
  s₀ := s
  H₀ := H
  env := envOfC qual scope s.heap.objs.size f cd
  outer := outer
  stack := envOfC qual scope s.heap.objs.size f cd :: outer
  ex := []
  calm := true
  fn := fun _ => true
  pn := []
  xe := fun e s' => wpAny (model P w) (A.deeper (envOfC qual scope s.heap.objs.size f cd)) (leaving (envOfC qual scope s.heap.objs.size f cd) e) (fun _ s'' => CX outer H s E e s'') (fun e' s'' => CX outer H s E e' s'') s'

theorem cell_has {sc : Scope} {n : Nat} {x : Str} (h : sc.names.lookup x = some .cell) : ∃ c, (cellsFrom n sc.names []).lookup x = some c := by
  have q := PySem.W.cellsFrom_some sc.names n [] (.inl h)
  exact Option.isSome_iff_exists.mp q

theorem inv_start {CX : CXT} {P : Program} {w : World} {K : PySem.W.Frag} {mg : Str → Option Value} {base : Heap} {N ps : List Str} {qual : Str} {scope : Scope} {f : Addr} {cd : Value} {A : Around} {outer : List Env} {s s1 : Shared} {H : Hp} {E : XK} {us : List Value} {vs : List V}
    (S : FnScope N ps scope) (hd : A.handled = none) (e0 : Env0 P w K mg base A outer s H) (hl : vs.length = ps.length) (r : Vals vs us)
    (x : InCallC s s.heap.objs.size (bindL (envOfC qual scope s.heap.objs.size f cd).kindOf (ps.zip us) fun _ => none) (cellsFrom (s.heap.objs.size + 1) scope.names []) (bindC (envOfC qual scope s.heap.objs.size f cd).kindOf (ps.zip us) fun _ => none) s1) :
    Inv (cxOf CX P w K mg base N qual scope f cd A outer s H E) [] (start N vs) H s1 := by
  have hpl : ps.length ≤ N.length := by have := congrArg List.length S.pre; rw [List.length_take] at this; omega
  obtain ⟨h1, tk, rfl, hk⟩ := x.done
  have noA : ∀ b : Addr, b ∉ (cxOf CX P w K mg base N qual scope f cd A outer s H E).ex := fun b z => absurd (show b ∈ ([] : List Addr) from z) (by simp)
  refine ⟨⟨e0.mod, S.kind, rfl, rfl, Nat.le_refl _, fun y z c h1 h2 => ?_, fun y hy => ?_, fun y c _ h => ?_, fun _ => hd, Around.frames_deeper e0.frames, .inr ⟨rfl, rfl⟩, fun b z => absurd z (noA b), e0.bs, e0.bsz, fun b _ _ => noA b, fun b z => absurd z (noA b), e0.funs, e0.frf⟩,
    rfl, e0.bare, Un.kept hk, ⟨_, x.toInCall.ns, fun i y v h1 h2 h3 => ?_⟩, fun y c h => ⟨_, x.cell y c h⟩, e0.hok.fresh (Nat.le_refl _), fun y c h => ?_, fun p hp => absurd (show p ∈ ([] : List (Addr × Obj)) from hp) (by simp), e0.hok.kept hk, ?_⟩
  · exact name_of_addr x.apart (PySem.mem_of_lookup h1) (PySem.mem_of_lookup h2)
  · have hy : scope.names.lookup y = some .cell ∨ scope.names.lookup y = some .free := hy
    rcases hy with hy | hy
    · exact cell_has hy
    · exact absurd rfl (S.nofree _ (PySem.mem_of_lookup hy))
  · exact Nat.le_of_lt (x.above y c (PySem.mem_of_lookup h))
  · have hi : i < vs.length := by
      unfold start at h2
      by_cases hi : i < vs.length
      · exact hi
      · rw [List.getElem?_append_right (by simpa using hi)] at h2
        rw [List.getElem?_replicate] at h2
        split at h2 <;> cases h2
    have ha : vs[i]? = some v := by
      unfold start at h2
      rw [List.getElem?_append_left (by simpa using hi), List.getElem?_map] at h2
      cases e : vs[i]? with
      | none => rw [e] at h2; cases h2
      | some a => rw [e] at h2; cases h2; rfl
    obtain ⟨u, hu, rv⟩ := r.get ha
    have hp : ps[i]? = some y := by
      rw [← S.pre, List.getElem?_take_of_lt (by omega)]; exact h1
    have ndP : ps.Nodup := by rw [← S.pre]; exact S.nd.sublist (List.take_sublist _ _)
    refine ⟨u, rv, ?_⟩
    rcases S.par y (List.mem_of_getElem? hp) with k | k
    · exact .inl ⟨k, bindL_get ndP hp hu k⟩
    · obtain ⟨c, e⟩ := cell_has (n := s.heap.objs.size + 1) k
      refine .inr ⟨.inl k, c, e, ?_⟩
      have q := x.cell y c e
      rw [bindC_get ndP hp hu (by show scope.names.lookup y ≠ _; rw [k]; decide)] at q
      exact q
  · exact e0.hok.fresh (Nat.le_of_lt (x.above y c (PySem.mem_of_lookup h)))
  · unfold start
    show _ = N.length
    rw [List.length_append, List.length_map, List.length_replicate]
    omega

/-- THE RULE: a def (or a method) of the text, by its body. The body's reading t is chosen for each entry; it is run at the parameters' values -/
theorem fn_of {CX : CXT} {P : Program} {w : World} {K : PySem.W.Frag} {mg : Str → Option Value} {base : Heap} {k : Nat} {f : Addr} {name qual : Str} {params : Arguments} {body : List Stmt} {scope : Scope} {dV kV doc pm cdv ct oc : Value} {an od : Option Addr}
    {osl : Array (Option Value)} {N ps : List Str} {sp : Sp} (lk : K.lookup f = some ⟨oc, od, .func (PySem.W.fnOf name qual params body scope dV kV doc pm an cdv ct), osl⟩) (hcd : PySem.W.codeIn K cdv qual = true) (S : FnScope N ps scope)
    (len : ∀ vs H Q E, sp vs H Q E → vs.length = ps.length)
    (hbody : ∀ (A : Around) (outer : List Env) (s : Shared) (H : Hp) (vs : List V) (Q : VK) (E : XK), Room k (A.deeper (envOfC qual scope s.heap.objs.size f cdv)) → sp vs H Q E →
      ∃ t, PSs (cxOf CX P w K mg base N qual scope f cdv A outer s H E) body t ∧ t { nx := fun _ H' => Q .non H', rt := Q } (start N vs) H) :
    FnOk P w K mg base CX (k + 1) f (PySem.W.fnOf name qual params body scope dV kV doc pm an cdv ct) ps sp := by
  refine ⟨len, fun A outer s H args us vs Q E hr e0 hb r hsp => ?_⟩
  have hl := len _ _ _ _ hsp
  have KX : K.In s.heap := e0.mod.kin.keeps fun b o e => (e0.bs b o e).1
  have lim : s.heap.NoLimit := e0.mod.nolimit.keeps fun b o e => (e0.bs b o e).1
  have hkind : ∀ y ∈ ps.zip us, scope.names.lookup y.1 = some .local ∨ (scope.names.lookup y.1 = some .cell ∧ ((cellsFrom (s.heap.objs.size + 1) scope.names []).lookup y.1).isSome = true) := fun ⟨n, v⟩ hy => by
    rcases S.par n (List.of_mem_zip hy).1 with q | q
    · exact .inl q
    · exact .inr ⟨q, PySem.W.cellsFrom_some _ _ _ (.inl q)⟩
  refine codeAny_call_function hr.depth (KX _ _ lk) rfl S.co S.gen rfl (PySem.W.codeRec_of KX hcd) (hb _ _ _ _ ?_)
  refine wpAny_newFunctionEnv_cells S.kind hkind fun env he s1 x => ?_
  subst he
  refine ⟨lim.keeps x.toInCall.keep, codeAny_func ?_⟩
  obtain ⟨t, ht, hq⟩ := hbody A outer s H vs Q E (hr.deeper _) hsp
  have I : Inv (cxOf CX P w K mg base N qual scope f cdv A outer s H E) [] (start N vs) H s1 := inv_start S hr.hd e0 hl r x
  refine wpAny_mono (ht [] s1 (start N vs) H _ I hq) (fun fl s' hs => ?_) fun e s' hs => hs
  have fin : ∀ {σ' : St} {H' : Hp} {v : V} {u : Value}, Inv (cxOf CX P w K mg base N qual scope f cdv A outer s H E) [] σ' H' s' → RelV v u → Q v H' → CE outer P w H s Q u s' :=
    fun {σ' H' v u} J rv q => ⟨v, H', J.os, J.bare, J.base, J.hok, rv, q⟩
  cases fl with
  | ret u =>
    obtain ⟨v, σ', H', J, rv, q⟩ := hs
    exact fin J rv q
  | next =>
    obtain ⟨σ', H', J, q⟩ := hs
    exact fin (v := V.non) (u := Value.none) J rfl q
  | brk =>
    obtain ⟨_, _, _, q⟩ := hs
    exact False.elim q
  | cont =>
    obtain ⟨_, _, _, q⟩ := hs
    exact False.elim q
end L2

namespace L2
open PySem PySem.Spec PyProof.Rows
section
variable {X : Cx} {x : Str} {p pos : Pos} {e : Expr} {es : List Expr} {t : TA} {id T : String} {r : List V → Hp → VK → Prop}

def tCB (r : List V → Hp → VK → Prop) (t : TA) : TE := fun σ H Q => t σ H fun vs H1 => r vs H1 Q
/-- f(e, ..), f a built-in function -/
theorem pe_callB (hc : CallR X (.builtin id) r) (hg : Gl X x) (hm : X.mg x = none) (hv : bootBuiltins x = some (.builtin id)) (ha : PA X (e :: es) t) (hn : x ≠ "__name__" := by decide) (hdb : (x == ("__debug__" : Str)) = false := by decide)
    (he : starEach (e :: es) X.env = (false, eval e X.env) :: starEach es X.env := by rfl) (hpl : (backTo pos (starEach es X.env)).any (·.1) = false := by rfl) : PE X (.Call (.Name x p) (e :: es) [] pos) (tCB r t) := by
  intro pins s σ H Q I h
  refine wpAny_Call_Name_kw (ld_blt I hg hm hv ?_ hn hdb)
  exact PyProof.Rows.callWith_builtin1 (thn (ha pos pins s σ H _ I h) fun us s1 ⟨vs, H1, I1, r1, q1⟩ => hc pins s1 σ H1 vs us Q I1 r1 q1) he hpl
/-- T(e, ..), T a built-in type -/
theorem pe_callTy (hc : CallR X (.type T) r) (hg : Gl X x) (hm : X.mg x = none) (hv : bootBuiltins x = some (.type T)) (ha : PA X (e :: es) t) (hn : x ≠ "__name__" := by decide) (hdb : (x == ("__debug__" : Str)) = false := by decide)
    (he : starEach (e :: es) X.env = (false, eval e X.env) :: starEach es X.env := by rfl) (hpl : (backTo pos (starEach es X.env)).any (·.1) = false := by rfl) : PE X (.Call (.Name x p) (e :: es) [] pos) (tCB r t) := by
  intro pins s σ H Q I h
  refine wpAny_Call_Name_kw (ld_blt I hg hm hv ?_ hn hdb)
  exact PyProof.Rows.callWith_type1 (thn (ha pos pins s σ H _ I h) fun us s1 ⟨vs, H1, I1, r1, q1⟩ => hc pins s1 σ H1 vs us Q I1 r1 q1) he hpl
end
end L2

namespace HT
open PySem PyProof.Rows

/-- t < u of tuples of ints -/
def lexLt : List Int → List Int → Bool
  | [], [] => false
  | [], _ :: _ => true
  | _ :: _, [] => false
  | x :: xs, y :: ys => if x = y then lexLt xs ys else decide (x < y)
section
open PySem.SeqAt
open PySem.AutoSeq1 (wpAny_loadPart')
open PySem.MeetsSeq PySem.MeetsSeq2 PySem.MeetsSeq3

end

section
variable {prog : Program} {w : World} {A : Around} {E : Value → Shared → Prop} {s : Shared}

/-- t + u, t not empty -/
theorem cat_tup {t b : Addr} {vs ws : List Value} {Q : Value → Shared → Prop} (ht : IsTup s.heap t vs.toArray) (hb : IsTup s.heap b ws.toArray) (hv : vs ≠ [])
    (h1 : ws = [] → Q (.ref t) s) (h2 : ws ≠ [] → Q (.ref s.heap.objs.size) { s with heap := s.heap.push { cls := .type "tuple", data := .seq (vs ++ ws).toArray } })
    (hsz : vs.length + ws.length ≤ sizeLine) : wpAny (model prog w) A (binaryOp .Add (.ref t) (.ref b)) Q E s := by
  obtain ⟨⟨cls, dd, data, sl⟩, ho, hc, n, hd⟩ := id ht
  obtain ⟨⟨cls2, dd2, data2, sl2⟩, ho2, hc2, n2, hd2⟩ := id hb
  simp only at hc hd hc2 hd2
  subst hc hd hc2 hd2
  have e : vs.toArray ++ ws.toArray = (vs ++ ws).toArray := by simp
  by_cases hw : ws = []
  · exact concat_meets ⟨_, ho, rfl⟩ ⟨_, ho2, rfl⟩ noFill_tuple_add seq_tuple_add PySem.F.slot_tuple_add PySem.F.entry_tuple_add (PySem.F.args_tuple_add_2 _ _)
      (tuple_addW1 t b vs.toArray ws.toArray n n2 dd dd2 sl sl2 (by simpa using hv) (by simp [hw])) ⟨ho, ho2, h1 hw⟩
  · refine concat_meets ⟨_, ho, rfl⟩ ⟨_, ho2, rfl⟩ noFill_tuple_add seq_tuple_add PySem.F.slot_tuple_add PySem.F.entry_tuple_add (PySem.F.args_tuple_add_2 _ _)
      (tuple_addW2 t b vs.toArray ws.toArray n n2 dd dd2 sl sl2 (by simpa using hv) (by simpa using hw) (by rw [List.size_toArray, List.size_toArray]; exact hsz)) ⟨ho, ho2, ?_⟩
    rw [e]
    exact h2 hw

/-! ### t[a:b], not the whole -/
/-- a slice's bound as a place among n (d where it is left out) -/
def sIx (n d : Nat) : Option Int → Nat
  | none => d
  | some v => if v < 0 then (v + (n : Int)).toNat else min v.toNat n
end
end HT

namespace L2
open PySem PySem.Spec PyProof.Rows

/-! ### the parts of a slice -/
abbrev TO := St → Hp → (Option Int → Hp → Prop) → Prop
/-- a slice's part (left out, or an int) -/
def PO (X : Cx) (e : Option Expr) (t : TO) : Prop :=
  ∀ (pins : List (Addr × Obj)) (s : Shared) (σ : St) (H : Hp) (Q : Option Int → Hp → Prop), Inv X pins σ H s → t σ H Q →
    wpAny (model X.prog X.w) X.A (evalPart e X.env) (fun u s' => ∃ o H', Inv X pins σ H' s' ∧ IsPart u o ∧ Q o H') X.xe s
def tNoPart : TO := fun _ H Q => Q none H
def tPart (t : TE) : TO := fun σ H Q => t σ H fun x H1 => ∃ i, x = .int i ∧ Q (some i) H1

section
variable {X : Cx} {e : Expr} {te : TE} {lo hi : Option Expr} {tl th : TO} {pos p2 : Pos}

theorem po_some (h : PE X e te) : PO X (some e) (tPart te) := by
  intro pins s σ H Q I hw
  rw [evalPart_some]
  refine thn (h pins s σ H _ I hw) fun u s1 ⟨x, H1, I1, r1, q1⟩ => ?_
  obtain ⟨i, rfl, q⟩ := q1
  obtain ⟨t, rfl⟩ := r1
  exact ⟨some i, H1, I1, .int i t, q⟩

/-- what a slice of a value is, by values: the slice object stands at sl -/
def SlR (X : Cx) (r : V → Option Int → Option Int → Hp → VK → Prop) : Prop :=
  ∀ (pins : List (Addr × Obj)) (s : Shared) (σ : St) (H : Hp) (x : V) (v vl vu : Value) (lo hi : Option Int) (sl : Addr) (Q : VK), Inv X pins σ H s → RelV x v → s.heap.IsSliceOf sl vl vu .none → IsPart vl lo → IsPart vu hi → r x lo hi H Q →
    ∃ T id, typeLookup (.type T) "__getitem__" = pure (some (.builtin id)) ∧ s.TypeIs v T ∧ wpAny (model X.prog X.w) X.A (getItem v (.ref sl)) (EP X pins σ Q) X.xe s
theorem SlR.or {r r' : V → Option Int → Option Int → Hp → VK → Prop} (h : SlR X r) (h' : SlR X r') : SlR X (fun x lo hi H Q => r x lo hi H Q ∨ r' x lo hi H Q) := by
  intro pins s σ H x v vl vu lo hi sl Q I rx hs pl pu q
  rcases q with q | q
  · exact h pins s σ H x v vl vu lo hi sl Q I rx hs pl pu q
  · exact h' pins s σ H x v vl vu lo hi sl Q I rx hs pl pu q
def tSl (r : V → Option Int → Option Int → Hp → VK → Prop) (te : TE) (tl th : TO) : TE := fun σ H Q => te σ H fun x H1 => tl σ H1 fun l H2 => th σ H2 fun u H3 => r x l u H3 Q
/-- a[lo:hi], any a -/
theorem pe_slice {r : V → Option Int → Option Int → Hp → VK → Prop} (hr : SlR X r) (he : PE X e te) (hl : PO X lo tl) (hu : PO X hi th) : PE X (.Subscript e (.Slice lo hi none p2) pos) (tSl r te tl th) := by
  intro pins s σ H Q I h
  refine Subscript_ (thn (he pins s σ H _ I h) fun v s1 ⟨x, H1, I1, r1, q1⟩ => ?_)
  refine wpAny_Slice (thn (hl pins s1 σ H1 _ I1 q1) fun vl s2 ⟨l, H2, I2, pl, q2⟩ => thn (hu pins s2 σ H2 _ I2 q2) fun vu s3 ⟨u, H3, I3, pu, q3⟩ => ?_)
  rw [evalPart_none]
  refine wpAny_pure ?_
  have I4 : Inv X pins σ H3 { s3 with heap := s3.heap.push { cls := .type "slice", data := .fields #[vl, vu, .none] } } := I3.kept (t' := s3.toks) fun b ob q => Heap.get?_push_of_some _ q
  obtain ⟨T, id, hT, ht, hg⟩ := hr pins { s3 with heap := s3.heap.push { cls := .type "slice", data := .fields #[vl, vu, .none] } } σ H3 x v vl vu l u s3.heap.objs.size Q I4 r1 (Heap.IsSliceOf.new ..) pl pu q3
  show wpAny (model X.prog X.w) X.A (subscriptTail e (.Slice lo hi none p2) v (.ref s3.heap.objs.size)) (EP X pins σ Q) X.xe { s3 with heap := s3.heap.push { cls := .type "slice", data := .fields #[vl, vu, .none] } }
  exact tail_any (ops := [.ref s3.heap.objs.size, v]) ht hT hg (by with_unfolding_all rfl)

/-- the items of xs[lo:hi] -/
def cutV (xs : List V) (lo hi : Option Int) : List V := (xs.drop (HT.sIx xs.length 0 lo)).take (HT.sIx xs.length xs.length hi - HT.sIx xs.length 0 lo)
theorem cutV_length (xs : List V) (lo hi : Option Int) : (cutV xs lo hi).length ≤ xs.length := by
  unfold cutV
  rw [List.length_take, List.length_drop]
  omega
/-- t[lo:hi], not the whole of it (the whole would be t itself) -/
def rSlT (K : PySem.W.Frag) : V → Option Int → Option Int → Hp → VK → Prop := fun x lo hi H Q => ∃ a xs, x = .ref a ∧ SqT K H a xs ∧
  ¬ (HT.sIx xs.length 0 lo = 0 ∧ HT.sIx xs.length xs.length hi = xs.length) ∧ ∀ p, H p = none → Q (.ref p) (upd H p (.tup (cutV xs lo hi)))
/-! ### t < u, t + u -/
def rLtT (K : PySem.W.Frag) : R2 := fun x y H Q => ∃ a b ns ms, x = .ref a ∧ y = .ref b ∧ SqT K H a (ns.map V.int) ∧ SqT K H b (ms.map V.int) ∧ Q (.bl (HT.lexLt ns ms)) H
/-- t + u, t not empty: u empty gives t itself -/
def rCatT (K : PySem.W.Frag) : R2 := fun x y H Q => ∃ a b xs ys, x = .ref a ∧ y = .ref b ∧ SqT K H a xs ∧ SqT K H b ys ∧ xs ≠ [] ∧ xs.length + ys.length ≤ sizeLine ∧
  (ys = [] → Q (.ref a) H) ∧ (ys ≠ [] → ∀ p, H p = none → Q (.ref p) (upd H p (.tup (xs ++ ys))))
theorem Vals.nil_iff {xs : List V} {us : List Value} (r : Vals xs us) : us = [] ↔ xs = [] := by
  cases r with
  | nil => simp
  | cons _ _ => simp
theorem op_catT : OpR X (binaryOp .Add) (rCatT X.K) := by
  intro pins s σ H x y v u Q I rx ry h
  obtain ⟨a, b, xs, ys, rfl, rfl, ha, hb, hx, hz, q1, q2⟩ := h
  cases rx
  cases ry
  obtain ⟨its, r1, p1, _⟩ := I.tuple ha
  obtain ⟨its2, r2, p2, _⟩ := I.tuple hb
  refine HT.cat_tup p1 p2 (fun z => hx (r1.nil_iff.mp z)) (fun z => ⟨.ref a, H, I, rfl, q1 (r2.nil_iff.mp z)⟩) (fun z => ?_) (by rw [← r1.length, ← r2.length]; exact hz)
  refine ⟨.ref s.heap.objs.size, _, I.laid (t' := s.toks) (o := .tup (xs ++ ys)) (fun b ob q => Heap.get?_push_of_some _ q) (Nat.le_refl _) ?_, rfl, q2 (fun w => z (r2.nil_iff.mpr w)) _ (I.hok.fresh (Nat.le_refl _))⟩
  exact ⟨by rw [List.length_append]; exact hz, _, r1.append r2, IsTup.new _ _⟩
end
end L2

namespace L2
open PySem PySem.Spec PyProof.Rows

/-! ### places -/
/-- the place that an index of any sign means -/
def ixN (n : Nat) (i : Int) : Option Nat := if 0 ≤ i then (if i < n then some i.toNat else none) else if -(n : Int) ≤ i then some (i + n).toNat else none
def atI {α : Type} (xs : List α) (i : Int) : Option α := (ixN xs.length i).bind fun j => xs[j]?
theorem ixN_seq {n : Nat} {i : Int} {j : Nat} (h : ixN n i = some j) : seqIndex? i n = some j ∧ j < n ∧ -(n : Int) ≤ i ∧ i < n := by
  unfold ixN at h
  by_cases h0 : 0 ≤ i
  · rw [if_pos h0] at h
    by_cases h1 : i < n
    · rw [if_pos h1] at h
      have e : i.toNat = j := Option.some.inj h
      exact ⟨by rw [seqIndex_of h0 h1, e], by omega, by omega, h1⟩
    · rw [if_neg h1] at h; cases h
  · rw [if_neg h0] at h
    by_cases h1 : -(n : Int) ≤ i
    · rw [if_pos h1] at h
      have e : (i + n).toNat = j := Option.some.inj h
      exact ⟨by rw [seqIndex_neg (by omega) h1, e], by omega, h1, by omega⟩
    · rw [if_neg h1] at h; cases h
theorem atI_get {α : Type} {xs : List α} {i : Int} {v : α} (h : atI xs i = some v) : ∃ j, seqIndex? i xs.length = some j ∧ xs[j]? = some v ∧ j < xs.length ∧ -(xs.length : Int) ≤ i ∧ i < xs.length := by
  unfold atI at h
  cases e : ixN xs.length i with
  | none => rw [e] at h; cases h
  | some j =>
    rw [e] at h
    obtain ⟨h1, h2, h3, h4⟩ := ixN_seq e
    exact ⟨j, h1, h, h2, h3, h4⟩
theorem atI_nat {α : Type} {xs : List α} {j : Nat} {v : α} (h : xs[j]? = some v) : atI xs (j : Int) = some v := by
  have hj : j < xs.length := (List.getElem?_eq_some_iff.mp h).1
  have e : ixN xs.length (j : Int) = some j := by
    unfold ixN
    rw [if_pos (by omega), if_pos (by omega)]; simp
  unfold atI; rw [e]; exact h
/-! ### what may be subscripted -/
/-- what stands as an index of a plain subscript -/
def PlainIx (b : Expr) : Prop := ∀ o i, subscripted b false o i = operate [o, i] (getItem o i)
/-- a subscript by values -/
def IxR (X : Cx) (r : R2) : Prop :=
  ∀ (value slice : Expr) (pins : List (Addr × Obj)) (s : Shared) (σ : St) (H : Hp) (x y : V) (v u : Value) (Q : VK), Inv X pins σ H s → RelV x v → RelV y u → r x y H Q →
    subscripted slice false v u = operate [v, u] (getItem v u) → wpAny (model X.prog X.w) X.A (subscriptTail value slice v u) (EP X pins σ Q) X.xe s
/-- a call of a builtin's method by values: the receiver, the arguments -/
def MtR (X : Cx) (id : String) (r : V → List V → Hp → VK → Prop) : Prop :=
  ∀ (pins : List (Addr × Obj)) (s : Shared) (σ : St) (H : Hp) (x : V) (xs : List V) (v : Value) (us : List Value) (Q : VK), Inv X pins σ H s → RelV x v → Vals xs us → r x xs H Q →
    wpAny (model X.prog X.w) X.A (call (.builtin id) (v :: us)) (EP X pins σ Q) X.xe s
section
variable {X : Cx} {a b : Expr} {ta tb : TE} {pos : Pos}
theorem IxR.or {r r' : R2} (h : IxR X r) (h' : IxR X r') : IxR X (fun x y H Q => r x y H Q ∨ r' x y H Q) := by
  intro value slice pins s σ H x y v u Q I rx ry q hs
  rcases q with q | q
  · exact h value slice pins s σ H x y v u Q I rx ry q hs
  · exact h' value slice pins s σ H x y v u Q I rx ry q hs
theorem MtR.or {id : String} {r r' : V → List V → Hp → VK → Prop} (h : MtR X id r) (h' : MtR X id r') : MtR X id (fun x xs H Q => r x xs H Q ∨ r' x xs H Q) := by
  intro pins s σ H x xs v us Q I rx rs q
  rcases q with q | q
  · exact h pins s σ H x xs v us Q I rx rs q
  · exact h' pins s σ H x xs v us Q I rx rs q
/-- a[b] -/
theorem pe_ix {r : R2} (hr : IxR X r) (ha : PE X a ta) (hb : PE X b tb) (hs : PlainIx b) : PE X (.Subscript a b pos) (tOp r ta tb) := by
  intro pins s σ H Q I h
  exact Subscript_ (binT ha hb I h fun v u s2 x y H2 I2 rx ry q => hr a b pins s2 σ H2 x y v u Q I2 rx ry q (hs _ _))

def rIxL (K : PySem.W.Frag) : R2 := fun x y H Q => ∃ p xs i v, x = .ref p ∧ y = .int i ∧ SqL K H p xs ∧ atI xs i = some v ∧ Q v H
def rIxT (K : PySem.W.Frag) : R2 := fun x y H Q => ∃ p xs i v, x = .ref p ∧ y = .int i ∧ SqT K H p xs ∧ atI xs i = some v ∧ Q v H
def rIxS : R2 := fun x y H Q => ∃ z i c, x = .str z ∧ y = .int i ∧ z.length ≤ sizeLine ∧ atI z.cps.toList i = some c ∧ Q (.str ⟨#[c]⟩) H
theorem ix_list : IxR X (rIxL X.K) := by
  intro value slice pins s σ H x y v u Q I rx ry h hs
  obtain ⟨p, xs, i, z, rfl, rfl, hq, he, q⟩ := h
  cases rx
  obtain ⟨t, rfl⟩ := ry
  obtain ⟨its, r, pl, hz⟩ := I.list hq
  obtain ⟨j, h1, h2, h3, h4, h5⟩ := atI_get he
  obtain ⟨w, ew, rw'⟩ := r.get h2
  have hl := r.length
  have hn := line63
  have fin : EP X pins σ Q w s := ⟨z, H, I, rw', q⟩
  by_cases h0 : 0 ≤ i
  · have hj : i.toNat = j := by
      rw [seqIndex_of h0 h5] at h1
      exact Option.some.inj h1
    exact item_listR pl.isList h0 (by omega) (by rw [hj]; simpa using ew) fin hs
  · have hj : (i + (its.toArray.size : Int)).toNat = j := by
      rw [seqIndex_neg (by omega) h4] at h1
      rw [List.size_toArray, ← hl]
      exact Option.some.inj h1
    exact subscriptTail_builtinR (x := w) pl.isList.typeIs slot_list_getitem.lookup
      (wpAny_getItem_list_neg (Q := fun r s' => r = w ∧ EP X pins σ Q r s') pl.isList (by omega) (by rw [List.size_toArray] <;> omega) (by omega) (by rw [hj]; simpa using ew) ⟨rfl, fin⟩) hs
theorem ix_tup : IxR X (rIxT X.K) := by
  intro value slice pins s σ H x y v u Q I rx ry h hs
  obtain ⟨p, xs, i, z, rfl, rfl, hq, he, q⟩ := h
  cases rx
  obtain ⟨t, rfl⟩ := ry
  obtain ⟨its, r, pl, hz⟩ := I.tuple hq
  obtain ⟨j, h1, h2, h3, h4, h5⟩ := atI_get he
  obtain ⟨w, ew, rw'⟩ := r.get h2
  have hl := r.length
  have hn := line63
  have fin : EP X pins σ Q w s := ⟨z, H, I, rw', q⟩
  exact subscriptTail_builtinR (x := w) pl.typeIs slot_tuple_getitem.lookup
    (getItem_tuple (j := j) (Q := fun r s' => r = w ∧ EP X pins σ Q r s') pl (by omega) (by omega) (by rw [List.size_toArray, ← hl]; exact h1) (by simpa using ew) ⟨rfl, fin⟩) hs
/-- list, tuple or str -/
def rIx (K : PySem.W.Frag) : R2 := fun x y H Q => rIxL K x y H Q ∨ rIxT K x y H Q ∨ rIxS x y H Q
/-! ### xs[i] = v, any sign -/
/-- the list's object behind a store -/
theorem mapSeq_set (its : List Value) (n j : Nat) (u : Value) : Obj.mapSeq (·.setIfInBounds j u) { cls := .type "list", data := .seq its.toArray n } = { cls := .type "list", data := .seq (its.set j u).toArray n } := by
  simp [Obj.mapSeq]
theorem Inv.lst {pins : List (Addr × Obj)} {σ : St} {H : Hp} {s : Shared} {p : Addr} {xs : List V} (I : Inv X pins σ H s) (h : H p = some (.lst xs)) :
    ∃ (its : List Value) (n : Nat), Vals xs its ∧ s.heap.get? p = some { cls := .type "list", data := .seq its.toArray n } ∧ xs.length ≤ sizeLine := by
  obtain ⟨z, its, n, r, e⟩ := I.hok p _ h
  exact ⟨its, n, r, e, z⟩
/-- the list at p is written by an update of its object -/
theorem Inv.lstUpd {pins : List (Addr × Obj)} {σ : St} {H : Hp} {s : Shared} {p : Addr} {xs ys : List V} {its its' : List Value} {n n' : Nat} {f : Obj → Obj} (I : Inv X pins σ H s) (h : H p = some (.lst xs))
    (ho : s.heap.get? p = some { cls := .type "list", data := .seq its.toArray n }) (hf : f { cls := .type "list", data := .seq its.toArray n } = { cls := .type "list", data := .seq its'.toArray n' }) (r : Vals ys its') (hz : ys.length ≤ sizeLine) (t : Nat) :
    Inv X pins σ (upd H p (.lst ys)) { s with heap := s.heap.update p f, toks := t } := by
  have e : (s.heap.update p f).get? p = some { cls := .type "list", data := .seq its'.toArray n' } := by
    rw [Heap.get?_update_self f ho (by rw [hf] <;> rfl), hf]
  refine I.write (x := p) (e := p) (by rw [h]; trivial) (.inl rfl) (fun b u hb q => (Heap.get?_update_other _ _ (Ne.symm hb)).trans q) ⟨_, e⟩ ?_
  exact ⟨hz, its', n', r, e⟩
def rSetL : V → V → V → Hp → (Hp → Prop) → Prop := fun o i v H Q => ∃ p xs k j, o = .ref p ∧ i = .int k ∧ H p = some (.lst xs) ∧ ixN xs.length k = some j ∧ Q (upd H p (.lst (xs.set j v)))
theorem set_list : PSet X rSetL := by
  intro pins s σ H o i v ov iv u Q I ro ri rv h
  obtain ⟨p, xs, k, j, rfl, rfl, hp, hj, q⟩ := h
  cases ro
  obtain ⟨t, rfl⟩ := ri
  obtain ⟨its, n, r, ho, hz⟩ := I.lst hp
  obtain ⟨h1, h2, h3, h4⟩ := ixN_seq hj
  have hl := r.length
  have hn := line63
  have I' : Inv X pins σ (upd H p (.lst (xs.set j v))) { s with heap := s.heap.update p (Obj.mapSeq (·.setIfInBounds j u)) } :=
    I.lstUpd hp ho (mapSeq_set its n j u) (r.set rv j) (by rw [List.length_set]; exact hz) s.toks
  by_cases h0 : 0 ≤ k
  · have hk : k.toNat = j := by
      rw [seqIndex_of h0 h4] at h1
      exact Option.some.inj h1
    exact PySem.W.ki_setAt ho h0 (by omega) (by rw [List.size_toArray, ← hl]; exact h4) (by rw [hk]; exact ⟨_, I', q⟩)
  · have hk : (k + (its.toArray.size : Int)).toNat = j := by
      rw [seqIndex_neg (by omega) h3] at h1
      rw [List.size_toArray, ← hl]
      exact Option.some.inj h1
    exact PySem.W.ki_setBack ho (by omega) (by rw [List.size_toArray, ← hl]; exact h3) (by omega) (by rw [hk]; exact ⟨_, I', q⟩)

/-! ### slices -/
theorem slice_bounds (lo hi : Option Int) (n : Nat) : (sliceBounds lo hi none n).1 = ((HT.sIx n 0 lo : Nat) : Int) ∧ (sliceBounds lo hi none n).2.1 = ((HT.sIx n n hi : Nat) : Int) ∧ (sliceBounds lo hi none n).2.2 = 1 := by
  refine ⟨?_, ?_, rfl⟩
  · cases lo with
    | none => simp [sliceBounds, HT.sIx]
    | some i =>
      simp only [sliceBounds, HT.sIx, Option.getD_none, show (1 : Int) > 0 by decide, if_true]
      by_cases h : i < 0
      · simp only [h, if_true] <;> omega
      · simp only [h, if_false] <;> omega
  · cases hi with
    | none => simp [sliceBounds, HT.sIx]
    | some i =>
      simp only [sliceBounds, HT.sIx, Option.getD_none, show (1 : Int) > 0 by decide, if_true]
      by_cases h : i < 0
      · simp only [h, if_true] <;> omega
      · simp only [h, if_false] <;> omega
theorem slicePick_cut (its : List Value) (lo hi : Option Int) : slicePick its.toArray lo hi none = ((its.drop (HT.sIx its.length 0 lo)).take (HT.sIx its.length its.length hi - HT.sIx its.length 0 lo)).toArray := by
  obtain ⟨h1, h2, h3⟩ := slice_bounds lo hi its.toArray.size
  unfold slicePick
  rw [h1, h2, h3]
  simp only [sliceRange_one, pick_run, List.size_toArray] <;> rfl
/-- xs[lo:hi] of a list: a new list -/
def rSlL (K : PySem.W.Frag) : V → Option Int → Option Int → Hp → VK → Prop := fun x lo hi H Q => ∃ a xs, x = .ref a ∧ SqL K H a xs ∧ ∀ p, H p = none → Q (.ref p) (upd H p (.lst (cutV xs lo hi)))
theorem sl_list : SlR X (rSlL X.K) := by
  intro pins s σ H x v vl vu lo hi sl Q I rx hs pl pu h
  obtain ⟨a, xs, rfl, hx, q⟩ := h
  cases rx
  obtain ⟨its, r, ht, hz⟩ := I.list hx
  have hlen := r.length
  refine ⟨"list", _, slot_list_getitem.lookup, ht.isList.typeIs, ?_⟩
  refine wpAny_getItem_list_slice ht.isList hs pl pu .none (by simp) ?_ (by rw [List.size_toArray] <;> omega)
  rw [slicePick_cut, ← hlen]
  refine ⟨.ref s.heap.objs.size, _, I.laid (t' := s.toks) (o := .lst (cutV xs lo hi)) (fun b ob q => Heap.get?_push_of_some _ q) (Nat.le_refl _) ?_, rfl, q _ (I.hok.fresh (Nat.le_refl _))⟩
  exact ⟨Nat.le_trans (cutV_length xs lo hi) hz, _, 0, (r.drop (HT.sIx xs.length 0 lo)).take (HT.sIx xs.length xs.length hi - HT.sIx xs.length 0 lo), Heap.get?_push_size _ rfl⟩

/-! ### in, not in: flat items -/
def flatV : V → Bool
  | .non => true
  | .bl _ => true
  | .int _ => true
  | .str _ => true
  | _ => false
/-- == of flat values -/
def eqV : V → V → Bool
  | .non, .non => true
  | .bl a, .bl b => a == b
  | .bl a, .int b => (if a then 1 else 0) == b
  | .int a, .bl b => a == (if b then 1 else 0)
  | .int a, .int b => a == b
  | .str a, .str b => a == b
  | _, _ => false
theorem eqAt_V {A : Around} {s : Shared} {y x : V} {u v : Value} (ry : RelV y u) (rx : RelV x v) (fy : flatV y = true) (fx : flatV x = true) : SeqAt.EqAt A s u v (eqV y x) := by
  cases y with
  | non =>
    cases ry
    cases x with
    | non => cases rx; exact SeqAt.EqAt.same _
    | bl b => cases rx; exact SeqAt.EqAt.none_bool b
    | int b => obtain ⟨t, rfl⟩ := rx; exact SeqAt.EqAt.none_int b t
    | str b => obtain ⟨t, rfl⟩ := rx; exact SeqAt.EqAt.none_str b t
    | _ => exact absurd (show false = true from fx) Bool.false_ne_true
  | bl a =>
    cases ry
    cases x with
    | non => cases rx; exact SeqAt.EqAt.bool_none a
    | bl b => cases rx; exact SeqAt.EqAt.bool_bool a b
    | int b => obtain ⟨t, rfl⟩ := rx; exact SeqAt.EqAt.bool_int a b t
    | str b => obtain ⟨t, rfl⟩ := rx; exact SeqAt.EqAt.bool_str a b t
    | _ => exact absurd (show false = true from fx) Bool.false_ne_true
  | int a =>
    obtain ⟨t', rfl⟩ := ry
    cases x with
    | non => cases rx; exact SeqAt.EqAt.int_none a t'
    | bl b => cases rx; exact SeqAt.EqAt.int_bool a t' b
    | int b => obtain ⟨t, rfl⟩ := rx; exact SeqAt.EqAt.int_int a t' b t
    | str b => obtain ⟨t, rfl⟩ := rx; exact SeqAt.EqAt.int_str a t' b t
    | _ => exact absurd (show false = true from fx) Bool.false_ne_true
  | str a =>
    obtain ⟨t', rfl⟩ := ry
    cases x with
    | non => cases rx; exact SeqAt.EqAt.str_none a t'
    | bl b => cases rx; exact SeqAt.EqAt.str_bool a t' b
    | int b => obtain ⟨t, rfl⟩ := rx; exact SeqAt.EqAt.str_int a t' b t
    | str b => obtain ⟨t, rfl⟩ := rx; exact SeqAt.EqAt.str_str a t' b t
    | _ => exact absurd (show false = true from fx) Bool.false_ne_true
  | _ => exact absurd (show false = true from fy) Bool.false_ne_true
/-- the items' answers, read off the values (a value's own answer does not lean on its token) -/
def eqU (x : V) (u : Value) : Bool := match u with
  | .none => eqV .non x
  | .bool b => eqV (.bl b) x
  | .int i _ => eqV (.int i) x
  | .str z _ => eqV (.str z) x
  | _ => false
theorem eqU_of {x y : V} {u : Value} (r : RelV y u) (f : flatV y = true) : eqU x u = eqV y x := by
  cases y with
  | non => cases r; rfl
  | bl b => cases r; rfl
  | int i => obtain ⟨t, rfl⟩ := r; rfl
  | str z => obtain ⟨t, rfl⟩ := r; rfl
  | _ => exact absurd (show false = true from f) Bool.false_ne_true
theorem any_eqU {x : V} : ∀ {xs : List V} {us : List Value}, Vals xs us → xs.all flatV = true → us.any (eqU x) = xs.any fun y => eqV y x
  | _, _, .nil, _ => rfl
  | y :: xs, u :: us, .cons r t, f => by
    rw [List.all_cons, Bool.and_eq_true] at f
    rw [List.any_cons, List.any_cons, eqU_of r f.1, any_eqU t f.2]
theorem mem_eqAt {A : Around} {s : Shared} {x : V} {v : Value} (rx : RelV x v) (fx : flatV x = true) : ∀ {xs : List V} {us : List Value}, Vals xs us → xs.all flatV = true → ∀ u ∈ us, SeqAt.EqAt A s u v (eqU x u)
  | _, _, .nil, _ => fun u hu => by cases hu
  | y :: xs, u :: us, .cons r t, f => fun u' hu => by
    rw [List.all_cons, Bool.and_eq_true] at f
    rcases List.mem_cons.mp hu with rfl | hu
    · rw [eqU_of r f.1]; exact eqAt_V r rx f.1 fx
    · exact mem_eqAt rx fx t f.2 u' hu
def inV (x : V) (xs : List V) : Bool := xs.any fun y => eqV y x
/-- x in a list or tuple of flat items -/
def rIn (K : PySem.W.Frag) (neg : Bool) : R2 := fun x y H Q => ∃ p xs, y = .ref p ∧ (SqL K H p xs ∨ SqT K H p xs) ∧ flatV x = true ∧ xs.all flatV = true ∧ Q (.bl (if neg then !inV x xs else inV x xs)) H
theorem op_notIn_seq : OpR X (compareOp .NotIn) (rIn X.K true) := by
  intro pins s σ H x y v u Q I rx ry h
  obtain ⟨p, xs, rfl, hq, fx, fs, q⟩ := h
  cases ry
  rcases hq with hq | hq
  · obtain ⟨its, r, pl, hz⟩ := I.list hq
    refine SeqAt.notIn_listAt (eqU x) pl.isList (fun w hw => mem_eqAt rx fx r fs w (by simpa using hw)) ⟨.bl _, H, I, rfl, ?_⟩
    rw [show its.toArray.any (eqU x) = its.any (eqU x) by simp, any_eqU r fs]
    exact q
  · obtain ⟨its, r, pl, hz⟩ := I.tuple hq
    refine SeqAt.notIn_tupleAt (eqU x) pl (fun w hw => mem_eqAt rx fx r fs w (by simpa using hw)) ⟨.bl _, H, I, rfl, ?_⟩
    rw [show its.toArray.any (eqU x) = its.any (eqU x) by simp, any_eqU r fs]
    exact q
/-! ### len, list(x), tuple(x) of any list or tuple that is read -/
theorem call_len_seq : CallR X (.builtin "len") (fun xs H Q => ∃ p ys, xs = [.ref p] ∧ (SqL X.K H p ys ∨ SqT X.K H p ys) ∧ Q (.int ys.length) H) := by
  intro pins s σ H xs us Q I r h
  obtain ⟨p, ys, rfl, hq, q⟩ := h
  obtain ⟨u, rfl, rx⟩ := vals1 r
  cases rx
  have hn := line63
  rcases hq with hq | hq
  · obtain ⟨its, r', pl, hz⟩ := I.list hq
    have hlen := r'.length
    exact Calls.call_len_list pl.isList (by simp only [List.size_toArray] <;> omega) ⟨.int ys.length, H, I.tok _, ⟨s.toks + 1, by rw [List.size_toArray, hlen]⟩, q⟩
  · obtain ⟨its, r', pl, hz⟩ := I.tuple hq
    have hlen := r'.length
    exact len_tuple pl (by simp only [List.size_toArray] <;> omega) ⟨.int ys.length, H, I.tok _, ⟨s.toks + 1, by rw [List.size_toArray, hlen]⟩, q⟩
theorem CallR.or {f : Value} {r r' : List V → Hp → VK → Prop} (h : CallR X f r) (h' : CallR X f r') : CallR X f (fun xs H Q => r xs H Q ∨ r' xs H Q) := by
  intro pins s σ H xs us Q I rs q
  rcases q with q | q
  · exact h pins s σ H xs us Q I rs q
  · exact h' pins s σ H xs us Q I rs q
theorem call_list_of : CallR X (.type "list") (fun xs H Q => ∃ p ys, xs = [.ref p] ∧ (SqL X.K H p ys ∨ SqT X.K H p ys) ∧ ∀ l, H l = none → Q (.ref l) (upd H l (.lst ys))) := by
  intro pins s σ H xs us Q I r h
  obtain ⟨p, ys, rfl, hq, q⟩ := h
  obtain ⟨u, rfl, rx⟩ := vals1 r
  cases rx
  have fin : ∀ (its : List Value), Vals ys its → ys.length ≤ sizeLine → ∀ (h' : Heap) (c' : Nat), (∀ b o', s.heap.get? b = some o' → h'.get? b = some o') →
      h'.get? s.heap.objs.size = some { cls := .type "list", dict := none, data := .seq its.toArray c', slots := #[] } → EP X pins σ Q (.ref s.heap.objs.size) { s with heap := h' } := fun its r' hz h' c' kp e =>
    ⟨.ref s.heap.objs.size, _, I.laid (t' := s.toks) kp (Nat.le_refl _) (show ObjOk X.prog X.w _ h' _ (.lst ys) from ⟨hz, its, c', r', e⟩), rfl, q _ (I.hok.fresh (Nat.le_refl _))⟩
  rcases hq with hq | hq
  · obtain ⟨its, r', pl, hz⟩ := I.list hq
    have hlen := r'.length
    obtain ⟨o, ho, hc, n, hd⟩ := pl.isList
    exact call_list_seq p (.inl rfl) ho hc hd (fun h' c' kp e => fin its r' hz h' c' kp e) (by simp only [List.size_toArray] <;> omega)
  · obtain ⟨its, r', pl, hz⟩ := I.tuple hq
    have hlen := r'.length
    obtain ⟨o, ho, hc, n, hd⟩ := pl
    exact call_list_seq p (.inr rfl) ho hc hd (fun h' c' kp e => fin its r' hz h' c' kp e) (by simp only [List.size_toArray] <;> omega)
theorem call_tuple_of : CallR X (.type "tuple") (fun xs H Q => ∃ p ys, xs = [.ref p] ∧ ((SqL X.K H p ys ∧ ∀ l, H l = none → Q (.ref l) (upd H l (.tup ys))) ∨ (SqT X.K H p ys ∧ Q (.ref p) H))) := by
  intro pins s σ H xs us Q I r h
  obtain ⟨p, ys, rfl, h⟩ := h
  obtain ⟨u, rfl, rx⟩ := vals1 r
  cases rx
  rcases h with ⟨hq, q⟩ | ⟨hq, q⟩
  · obtain ⟨its, r', pl, hz⟩ := I.list hq
    have hlen := r'.length
    refine call_tuple_list pl.isList (fun h' kp => ?_) (by simp only [List.size_toArray] <;> omega)
    have I1 : Inv X pins σ H { s with heap := h' } := I.kept (t' := s.toks) kp
    have I2 : Inv X pins σ (upd H h'.objs.size (.tup ys)) { s with heap := h'.push { cls := .type "tuple", data := .seq its.toArray } } :=
      I1.laid (t' := s.toks) (fun b o e => Heap.get?_push_of_some _ e) (Nat.le_refl _) (show ObjOk X.prog X.w _ _ _ (.tup ys) from ⟨hz, its, r', IsTup.new _ _⟩)
    exact ⟨.ref h'.objs.size, _, I2, rfl, q _ (I1.hok.fresh (Nat.le_refl _))⟩
  · obtain ⟨its, r', pl, hz⟩ := I.tuple hq
    exact call_tuple_same pl ⟨.ref p, H, I, rfl, q⟩

/-! ### the call of a builtin's method: o.m(..) -/
/-- the value is of that builtin type -/
def tyV (K : PySem.W.Frag) (T : String) (x : V) (H : Hp) : Prop := match x with
  | .str _ => T = "str"
  | .int _ => T = "int"
  | .ref p => (T = "list" ∧ ∃ xs, SqL K H p xs) ∨ (T = "tuple" ∧ ∃ o, K.lookup p = some o ∧ o.cls = .type "tuple" ∧ o.dict = none) ∨
      (T = "dict" ∧ ((∃ kvs, H p = some (.dK kvs)) ∨ ∃ kvs, H p = some (.dT kvs))) ∨ (T = "set" ∧ ∃ S n, H p = some (.set S n))
  | _ => False
theorem tyV_is {pins : List (Addr × Obj)} {σ : St} {H : Hp} {s : Shared} {T : String} {x : V} {v : Value} (I : Inv X pins σ H s) (r : RelV x v) (ty : tyV X.K T x H) :
    s.TypeIs v T ∧ ∀ a, v = .ref a → ∃ ob, s.heap.get? a = some ob ∧ ob.dict = none := by
  cases x with
  | str z =>
    obtain ⟨t, rfl⟩ := r
    cases (show T = "str" from ty)
    exact ⟨typeIs_str s z t, fun _ e => nomatch e⟩
  | int i =>
    obtain ⟨t, rfl⟩ := r
    cases (show T = "int" from ty)
    exact ⟨typeIs_int s i t, fun _ e => nomatch e⟩
  | ref p =>
    cases r
    rcases ty with ⟨rfl, xs, hq⟩ | ⟨rfl, o, hk, hc, hd⟩ | ⟨rfl, hk⟩ | ⟨rfl, S, n, hk⟩
    · obtain ⟨its, _, pl, _⟩ := I.list hq
      refine ⟨pl.isList.typeIs, fun a e => ?_⟩
      cases e
      obtain ⟨o, n, e, c, hd, _⟩ := pl
      exact ⟨o, e, hd⟩
    · refine ⟨⟨o, I.kIn p o hk, hc⟩, fun a e => ?_⟩
      cases e
      exact ⟨o, I.kIn _ o hk, hd⟩
    · have z : ∃ o, s.heap.get? p = some o ∧ o.ExactDict := by
        rcases hk with ⟨kvs, hk⟩ | ⟨kvs, hk⟩
        · obtain ⟨_, _, _, _, o, _, _, e, ex, _⟩ := I.hok p _ hk
          exact ⟨o, e, ex⟩
        · obtain ⟨_, _, _, _, o, _, _, e, ex, _⟩ := I.hok p _ hk
          exact ⟨o, e, ex⟩
      obtain ⟨o, e, ex⟩ := z
      refine ⟨⟨o, e, ex.1⟩, fun a e2 => ?_⟩
      cases e2
      exact ⟨o, e, ex.2.1⟩
    · obtain ⟨o, _, _, _, e, ex, _⟩ := I.hok p _ hk
      refine ⟨⟨o, e, ex.1⟩, fun a e2 => ?_⟩
      cases e2
      exact ⟨o, e, ex.2.1⟩
  | _ => exact False.elim ty
def tBM0 (K : PySem.W.Frag) (T : String) (r : V → List V → Hp → VK → Prop) (to : TE) : TE := fun σ H Q => to σ H fun x H1 => tyV K T x H1 ∧ r x [] H1 Q
def tBM (K : PySem.W.Frag) (T : String) (r : V → List V → Hp → VK → Prop) (to : TE) (t : TA) : TE := fun σ H Q => to σ H fun x H1 => tyV K T x H1 ∧ t σ H1 fun xs H2 => r x xs H2 Q
variable {o e : Expr} {es : List Expr} {to : TE} {t : TA} {name : Str} {apos cpos : Pos} {T id : String} {r : V → List V → Hp → VK → Prop}
theorem pe_bm (pa : PlainAttrs T) (slot : Slot T name id) (hty : typeOf (.builtin id) = pure (.type "method_descriptor")) (hm : MtR X id r) (ho : PE X o to) (ha : PA X (e :: es) t)
    (hbase : attributeBase o name X.env (eval o X.env) = eval o X.env := by rfl)
    (hfew : ((backTo cpos (starEach (e :: es) X.env)).all (fun x => !x.1) && (backToKw cpos (keywordEach [] X.env)).all (fun x => x.1.isSome)
      && decide ((e :: es).length + ([] : List Keyword).length + (if ([] : List Keyword).isEmpty then 0 else 1) < 30)) = true := by rfl)
    (hline : (apos.endLine == cpos.line) = true := by rfl) (hs : starEach (e :: es) X.env = (false, eval e X.env) :: starEach es X.env := by rfl) (hplain : (backTo cpos (starEach es X.env)).any (·.1) = false := by rfl) :
    PE X (.Call (.Attribute o name apos) (e :: es) [] cpos) (tBM X.K T r to t) := by
  intro pins s σ H Q I h
  refine wpAny_Call_method_late hbase hfew hline rfl (thn (ho pins s σ H _ I h) fun v s1 ⟨x, H1, I1, r1, ty, q1⟩ => ?_)
  obtain ⟨h1, h2⟩ := tyV_is I1 r1 ty
  refine ⟨T, id, pa, slot, hty, h1, h2, ?_⟩
  have hA := ha cpos pins s1 σ H1 _ I1 q1
  rw [hs] at hA ⊢
  refine Calls.callWith_builtin (by show (false || (backTo cpos (starEach es X.env)).any (·.1)) = false; rw [hplain] <;> rfl) (Calls.evalArgs_plain ?_)
  exact thn hA fun us s2 ⟨vs, H2, I2, r2, q2⟩ => hm pins s2 σ H2 x vs v us Q I2 r1 r2 q2
/- xs.append(e), list.index on a module's tuple .. are MtR facts of 06m -/
end
end L2

namespace L2
open PySem PySem.Spec PyProof.Rows

def MtM (X : Cx) (id : String) (r : V → List V → Hp → VK → Prop) : Prop :=
  ∀ (pins : List (Addr × Obj)) (s : Shared) (σ : St) (H : Hp) (x : V) (xs : List V) (v : Value) (us : List Value) (Q : VK), Inv X pins σ H s → RelV x v → Vals xs us → r x xs H Q →
    wpAny (model X.prog X.w) X.A (call (.builtin id) (v :: us)) (EP X pins σ Q) X.xe s

/-! ### lists of values -/
theorem Vals.one : ∀ {x : V} {us : List Value}, Vals [x] us → ∃ u, us = [u] ∧ RelV x u
  | _, _, .cons r .nil => ⟨_, rfl, r⟩
theorem Vals.two : ∀ {x y : V} {us : List Value}, Vals [x, y] us → ∃ u v, us = [u, v] ∧ RelV x u ∧ RelV y v
  | _, _, _, .cons r (.cons q .nil) => ⟨_, _, rfl, r, q⟩
theorem Vals.zero : ∀ {us : List Value}, Vals [] us → us = []
  | _, .nil => rfl
theorem Vals.dropLast {xs : List V} {us : List Value} (h : Vals xs us) : Vals xs.dropLast us.dropLast := by
  induction h with
  | nil => exact .nil
  | cons r t ih =>
    cases t with
    | nil => exact .nil
    | cons q t' => exact .cons r ih
theorem Vals.eraseIdx : ∀ {xs : List V} {us : List Value} (i : Nat), Vals xs us → Vals (xs.eraseIdx i) (us.eraseIdx i)
  | _, _, _, .nil => .nil
  | _, _, 0, .cons _ t => t
  | _, _, i + 1, .cons r t => .cons r (Vals.eraseIdx i t)
theorem Vals.reverse {xs : List V} {us : List Value} (h : Vals xs us) : Vals xs.reverse us.reverse := by
  induction h with
  | nil => exact .nil
  | cons r t ih => rw [List.reverse_cons, List.reverse_cons]; exact Vals.append ih (.cons r .nil)
theorem Vals.rep {xs : List V} {us : List Value} (h : Vals xs us) : ∀ k : Nat, Vals (List.replicate k xs).flatten (List.replicate k us).flatten
  | 0 => .nil
  | k + 1 => by
    rw [List.replicate_succ, List.replicate_succ, List.flatten_cons, List.flatten_cons]
    exact Vals.append h (Vals.rep h k)
theorem len_erase {α : Type} : ∀ (l : List α) (i : Nat), (l.eraseIdx i).length ≤ l.length
  | [], _ => Nat.le_refl _
  | _ :: _, 0 => Nat.le_succ _
  | _ :: r, i + 1 => Nat.succ_le_succ (len_erase r i)
section
variable {X : Cx} {pins : List (Addr × Obj)} {σ : St} {H : Hp} {s : Shared} {l b : Addr} {xs ys zs : List V}

/-! ### the two steps: a tracked list is rewritten, a new list is laid -/
theorem Inv.lset {its its' : List Value} {n : Nat} {f : Array Value → Array Value} {t' : Nat} (I : Inv X pins σ H s) (hH : H l = some (.lst xs))
    (e : s.heap.get? l = some { cls := .type "list", data := .seq its.toArray n }) (hf : f its.toArray = its'.toArray) (hv : Vals ys its') (hz : ys.length ≤ sizeLine) :
    Inv X pins σ (upd H l (.lst ys)) { s with heap := s.heap.update l (Obj.mapSeq f), toks := t' } := by
  have q := PySem.IsL.update e f
  rw [hf] at q
  refine I.write (x := l) (e := l) (by rw [hH]; exact trivial) (.inl rfl) (fun b' u hb hu => (Heap.get?_update_other s.heap (Obj.mapSeq f) (Ne.symm hb)).trans hu) ⟨_, q⟩ ?_
  exact ⟨hz, its', _, hv, q⟩
theorem Inv.fresh (I : Inv X pins σ H s) : H s.heap.objs.size = none := I.hok.fresh (Nat.le_refl _)
theorem Inv.lstM (I : Inv X pins σ H s) (hH : H l = some (.lst xs)) : xs.length ≤ sizeLine ∧ ∃ (its : List Value) (n : Nat), Vals xs its ∧ xs.length = its.length ∧ s.heap.get? l = some { cls := .type "list", data := .seq its.toArray n } := by
  obtain ⟨z, its, n, r, e⟩ := I.hok l _ hH
  exact ⟨z, its, n, r, r.length, e⟩

end

section
variable {X : Cx}

/-! ### methods -/
def rAppend : V → List V → Hp → VK → Prop := fun x vs H Q => ∃ l xs y, x = .ref l ∧ vs = [y] ∧ H l = some (.lst xs) ∧ xs.length < sizeLine ∧ Q .non (upd H l (.lst (xs ++ [y])))
theorem mt_append : MtM X "list.append" rAppend := by
  intro pins s σ H x vs v us Q I rx rv h
  obtain ⟨l, xs, y, rfl, rfl, hH, hz, q⟩ := h
  cases rx
  obtain ⟨u, rfl, ru⟩ := rv.one
  obtain ⟨z, its, n, r, hl, e⟩ := I.lstM hH
  refine call_meets F.slot_list_append ⟨_, e, rfl⟩ F.entry_list_append (F.args_list_append_2 _ _) (PySem.list_append l its.toArray n u (by rw [List.size_toArray]; omega)) ⟨e, ?_⟩
  refine ⟨.non, _, I.lset (its' := its ++ [u]) hH e (by simp) (r.append (.cons ru .nil)) ?_, rfl, q⟩
  rw [List.length_append, List.length_singleton]
  omega

def rExtend : V → List V → Hp → VK → Prop := fun x vs H Q => ∃ l b xs zs, x = .ref l ∧ vs = [.ref b] ∧ H l = some (.lst xs) ∧ H b = some (.lst zs) ∧ xs.length + zs.length ≤ sizeLine ∧ Q .non (upd H l (.lst (xs ++ zs)))
def rPop : V → List V → Hp → VK → Prop := fun x vs H Q => ∃ l xs y, x = .ref l ∧ vs = [] ∧ H l = some (.lst xs) ∧ xs[xs.length - 1]? = some y ∧ Q y (upd H l (.lst xs.dropLast))
def rPopAt : V → List V → Hp → VK → Prop := fun x vs H Q => ∃ l xs i k y, x = .ref l ∧ vs = [.int i] ∧ H l = some (.lst xs) ∧ -(2 ^ 63) ≤ i ∧ i < 2 ^ 63 ∧ seqIndex? i xs.length = some k ∧ xs[k]? = some y ∧ Q y (upd H l (.lst (xs.eraseIdx k)))
theorem mt_popAt : MtM X "list.pop" rPopAt := by
  intro pins s σ H x vs v us Q I rx rv h
  obtain ⟨l, xs, i, k, y, rfl, rfl, hH, h1, h2, hk, hy, q⟩ := h
  cases rx
  obtain ⟨u, rfl, ru⟩ := rv.one
  obtain ⟨t, rfl⟩ := ru
  obtain ⟨z, its, n, r, hl, e⟩ := I.lstM hH
  obtain ⟨w, hw, rw'⟩ := r.get hy
  refine call_meets F.slot_list_pop ⟨_, e, rfl⟩ F.entry_list_pop (F.args_list_pop_2 _ _)
    (MeetsSeq.list_pop_at l its.toArray n i t k w (fitsIndex_both h1 h2) (by rw [List.size_toArray, ← hl]; exact hk) (by rw [← Array.getElem?_toList]; exact hw) (by rw [List.size_toArray]; omega)) ⟨e, ?_⟩
  refine ⟨y, _, I.lset (its' := its.eraseIdx k) hH e ?_ (r.eraseIdx k) ?_, rw', q⟩
  · show its.toArray.eraseIdxIfInBounds k = (its.eraseIdx k).toArray
    rw [List.eraseIdxIfInBounds_toArray]
  · have := len_erase xs k
    omega

def rReverse : V → List V → Hp → VK → Prop := fun x vs H Q => ∃ l xs, x = .ref l ∧ vs = [] ∧ H l = some (.lst xs) ∧ Q .non (upd H l (.lst xs.reverse))
def rClear : V → List V → Hp → VK → Prop := fun x vs H Q => ∃ l xs, x = .ref l ∧ vs = [] ∧ H l = some (.lst xs) ∧ Q .non (upd H l (.lst []))
/-! ### list + list, list += list, list * int -/
def rCat : R2 := fun x y H Q => ∃ l b xs zs, x = .ref l ∧ y = .ref b ∧ H l = some (.lst xs) ∧ H b = some (.lst zs) ∧ xs.length + zs.length ≤ sizeLine ∧ ∀ p, H p = none → Q (.ref p) (upd H p (.lst (xs ++ zs)))
/-- a list times an int (a negative one is nothing) -/
def rRep : R2 := fun x y H Q => ∃ l k xs, x = .ref l ∧ y = .int k ∧ H l = some (.lst xs) ∧ -(2 ^ 63) ≤ k ∧ k < 2 ^ 63 ∧ xs.length * k.toNat ≤ sizeLine ∧
  ∀ p, H p = none → Q (.ref p) (upd H p (.lst (List.replicate k.toNat xs).flatten))
/-! ### del xs[i] -/
end

/-! ### xs[a:b] = ys -/
section
variable {prog : Program} {w : World} {A : Around} {E : Value → Shared → Prop} {s : Shared}
end

section
variable {X : Cx}
end
end L2

namespace Att
open PySem PySem.W PySem.Calls PyProof.Rows

/-! ### the script -/
theorem ints_of_wellAll {P : Params} {h : Heap} : ∀ (ns : List Int) (vs : List Value), WellAll P h vs (ns.map WData.int) → IntsAre vs ns := by
  intro ns
  induction ns with
  | nil =>
    intro vs w
    rw [List.map_nil] at w
    cases w
    exact .nil
  | cons n ns ih =>
    intro vs w
    rw [List.map_cons] at w
    cases w with
    | cons a b =>
      cases a
      exact .cons _ _ (ih _ b)

theorem script_of {l : OpenLaw} {n : Nat} (hn : l.most = some n) {P : Params} {h : Heap} {args : List WData} {vals : List Value}
    (hpre : l.row.toRowW.claim.pre args = true) (hwl : WellAll P h vals args) :
    ∃ a vs ns, vals = [Value.ref a] ∧ args = [WData.list (ns.map WData.int)] ∧ h.get? a = some { cls := .type "list", data := .seq vs.toArray } ∧ IntsAre vs ns ∧ ns.length ≤ n := by
  have hsh : WShape.hasAll [] args [.list .int] = true := (pre_splitW hpre).1
  have hc : l.pre.holds [] { args := args } = true := (pre_splitW hpre).2
  obtain ⟨d, r, rfl, h1, h2⟩ := hasAllW_cons hsh
  obtain rfl := hasAllW_nil h2
  obtain ⟨xs, rfl, h3⟩ := hasW_list h1
  obtain ⟨ns, rfl⟩ := items_int h3
  have hlen : ns.length ≤ n := by
    unfold OpenLaw.pre at hc
    have h4 : (WTm.not (.lt (.lit (.int (n : Int))) (.len (.arg 0)))).holds [] { args := [.list (ns.map .int)] } = true := by
      have h4 := (holds_andW hc).1
      rw [hn] at h4
      exact h4
    have h5 := condW_of h4 (w_not (w_lt w_lit (w_len_list (w_arg rfl))))
    rw [List.length_map] at h5
    refine Nat.le_of_not_lt fun q => ?_
    have q' : (n : Int) < ((ns.length : Nat) : Int) := by omega
    first
      | (rw [decide_eq_true q'] at h5; exact absurd h5 (by decide))
      | (simp at h5; omega)
  cases hwl with
  | cons w1 w2 =>
    cases w2
    cases w1 with
    | list ho hall => exact ⟨_, _, ns, rfl, rfl, ho, ints_of_wellAll ns _ hall, hlen⟩

theorem post_true (l : OpenLaw) (args : List WData) : l.row.toRowW.claim.post args (.bool true) args = true :=
  postW_of (r := l.row.toRowW) (X := (true == true))
    (show WShape.has [] (.bool true) .bool = true by first | rfl | decide | simp [WShape.has, WShape.arms, WShape.armsAll])
    (show (WTm.eq .res (.lit (.bool true))).value [] { args := args, res := some (.bool true), after := args } = some (.bool (true == true)) from w_eq_bool (w_res rfl) w_lit) rfl

/-! ### the attachment: holds_open's last premise (the goal 'hc' behind k_head) from a wpAny of the law's body -/
/-- the same from a codeAny of the CALL (for a layer whose function contracts speak of calls) -/
theorem attach_call {l : OpenLaw} {n : Nat} {q : Program} {loose : List Str} {XP : (Str → Option Value) → Heap → Prop} {YP : World → Heap → Prop} {d : DefRec}
    (hn : l.most = some n) (hdf : d.params.defaults = [])
    (call : ∀ (w : World) (s₀ s₁ : Shared) (mg mb : Str → Option Value) (fa : Addr) (o : Obj) (pm cd doc : Value) (a : Addr) (vs : List Value) (ns : List Int),
      Ground q loose [] XP w s₀ mg mb s₁.heap → YP w s₁.heap →
      s₁.heap.get? fa = some o → o.data = .func (docDef d.name d.params d.body d.scope pm cd doc) → s₁.heap.CodeRec cd d.name → mg d.name = some (.ref fa) →
      s₁.heap.get? a = some { cls := .type "list", data := .seq vs.toArray } → IntsAre vs ns → ns.length ≤ n → s₁.gens = #[] →
      codeAny (model l.prog w) callerA (.call (.ref fa) ⟨[.ref a], []⟩) (fun r s' => r = .ok (.ret (.bool true)) ∧ OldK s₁.heap s'.heap ∧ s'.os = s₁.os ∧ AllBare s'.gens) s₁) :
    WalkO q loose XP YP l.row.toRowW d [] (fun f vs => PySem.call f vs) := by
  intro w s₀ s₁ mg mb G Y fa o pm cd doc dV kV ho hd hcd hD hmg hg args vals as hpre hlay hrd hwl hlo
  obtain rfl : dV = .none := Dflts.none hD hdf
  obtain rfl : kV = .none := Dflts.noKw hD
  obtain ⟨a, vs, ns, rfl, rfl, hobj, hints, hlen⟩ := script_of hn hpre hwl
  refine enter_call (codeAny_mono (call w s₀ s₁ mg mb fa o pm cd doc a vs ns G Y ho (fd_plain hd) hcd hmg hobj hints hlen hg) fun r s' hq => ?_)
  obtain ⟨rfl, h2, h3, h4⟩ := hq
  exact ⟨.inl ⟨.bool true, .bool true, [], rfl, fun _ => rfl, .bool true, post_true l _, fun _ => ⟨List.Pairwise.nil, fun _ hm => (nomatch hm)⟩⟩, h2, h3, h4⟩

/-! ### rules over ANY heap (no ledger) from facts about the written part K: the library's own take a ledger (News) for what they write -/
section
variable {prog : Program} {w : World} {A : Around} {E : Value → Shared → Prop} {s : Shared} {K : Frag}

/-! the whole heap as the ledger: makes every rule that writes through a ledger a rule over any heap -/
def noObjs (h : Heap) : Heap := { h with objs := #[] }
def ledger (h : Heap) (L d : Addr) : List (Addr × Obj) := (List.range h.objs.size).filterMap fun a => if a = L ∨ a = d then none else (h.get? a).map fun o => (a, o)
end
end Att

namespace L2
open PySem PySem.Spec PyProof.Rows

theorem vals_ints : ∀ {vs : List Value} {ns : List Int}, IntsAre vs ns → Vals (ns.map V.int) vs
  | _, _, .nil => .nil
  | _, _, .cons n t h => .cons ⟨t, rfl⟩ (vals_ints h)

/-- nothing is tracked but the script, known to the object (or it is an object of the module) -/
def Only (H : Hp) : Prop := ∀ b, H b = none ∨ ∃ o xs, H b = some (.frz o (.lst xs))

/-- THE HEAD: the law's promise, at the heap behind the top. F, the promise of the law's def, may use that base is part of the heap (so K.In base, base.Ns mainGlobals mg stand in Mod) -/
theorem law_call {P : Program} {w : World} {K : PySem.W.Frag} {mg mb : Str → Option Value} {CX : CXT} {k : Nat} {fa a : Addr} {fd : FuncData} {x : Str} {sp : Sp} {s₁ : Shared} {vs : List Value} {ns : List Int}
    (KX : K.In s₁.heap) (hns : s₁.heap.Ns mainGlobals mg) (hb : s₁.heap.Ns builtinsNs mb) (hbb : ∀ x : Str, x ≠ "__name__" → mb x = bootBuiltins x) (hlim : s₁.heap.NoLimit) (hg : s₁.gens = #[])
    (ha : s₁.heap.get? a = some { cls := .type "list", data := .seq vs.toArray }) (hi : IntsAre vs ns) (hl : ns.length ≤ sizeLine) (hr : Room k callerA)
    (F : ∀ base : Heap, K.In base → base.Ns mainGlobals mg → FnOk P w K mg base CX k fa fd [x] sp) (hbind : ∀ (s : Shared) (u : Value), BindsTo s fd ⟨[u], []⟩ [(x, u)])
    (hsp : ∀ H : Hp, Only H → SqL K H a (ns.map V.int) → sp [.ref a] H (fun v _ => v = .bl true) fun _ _ _ => False)
    (hCX : ∀ H e s', CX [] H s₁ (fun _ _ _ => False) e s' → False) :
    codeAny (model P w) callerA (.call (.ref fa) ⟨[.ref a], []⟩) (fun r s' => r = .ok (.ret (.bool true)) ∧ OldK s₁.heap s'.heap ∧ s'.os = s₁.os ∧ AllBare s'.gens) s₁ := by
  have rv := vals_ints hi
  have lenV := hi.length
  -- from an abstract heap in which nothing but the script may be tracked
  have core : ∀ H : Hp, Only H → SqL K H a (ns.map V.int) → HOk P w H s₁.heap → (∀ b, H b ≠ none → b = a) → (H a ≠ none → K.lookup a = none) →
      codeAny (model P w) callerA (.call (.ref fa) ⟨[.ref a], []⟩) (fun r s' => r = .ok (.ret (.bool true)) ∧ OldK s₁.heap s'.heap ∧ s'.os = s₁.os ∧ AllBare s'.gens) s₁ := by
    intro H hO hS hok hA hK
    have base_of : ∀ {b : Addr} {o : Obj}, s₁.heap.get? b = some o → H b = none → (hidT s₁.heap H).get? b = some o := fun e n => hidT_get e n
    have noA : ∀ {b : Addr} {o : Obj} {es : Array DictEntry} {ep : Nat}, s₁.heap.get? b = some o → o.data = .dict es ep → H b = none := fun {b o es ep} e d => by
      cases q : H b with
      | none => rfl
      | some u =>
        have e' : b = a := hA b (by rw [q]; simp)
        subst e'
        rw [ha] at e; cases e
        have d' : Data.seq vs.toArray _ = Data.dict es ep := d
        cases d'
    have nsK : ∀ {b : Addr} {m : Str → Option Value}, s₁.heap.Ns b m → (hidT s₁.heap H).Ns b m := fun {b m} ⟨o, es, ep, e, d, r⟩ => ⟨o, es, ep, base_of e (noA e d), d, r⟩
    have hKb : K.In (hidT s₁.heap H) := fun b o e => base_of (KX b o e) (by
      cases q : H b with
      | none => rfl
      | some u =>
        have e' : b = a := hA b (by rw [q]; simp)
        subst e'
        rw [hK (by rw [q]; simp)] at e; cases e)
    have hM : Mod K mg (hidT s₁.heap H) := ⟨hKb, nsK hns, ⟨mb, nsK hb, hbb⟩, let ⟨mc, h1, h2⟩ := hlim; ⟨mc, nsK h1, h2⟩⟩
    have e0 : Env0 P w K mg (hidT s₁.heap H) callerA [] s₁ H := ⟨rfl, hM, fun b o e => of_hidT e, Nat.le_of_eq (hidT_size _ _), trivial, fun b hb => absurd (show b ∈ ([] : List Addr) from hb) (by simp), hok, .of_eq hg⟩
    refine codeAny_mono ((F _ hKb (nsK hns)).run callerA [] s₁ H ⟨[.ref a], []⟩ [.ref a] [.ref a] _ _ hr e0 (hbind s₁ (.ref a)) (.cons rfl .nil) (hsp H hO hS)) fun r s' h => ?_
    cases r with
    | error e => exact (hCX H e s' h).elim
    | ok fl =>
      cases fl with
      | next => exact False.elim h
      | brk => exact False.elim h
      | cont => exact False.elim h
      | ret u =>
        obtain ⟨v, H', os, bare, un, hok', r', q⟩ := h
        have q' : v = .bl true := q
        subst q'
        obtain rfl : u = Value.bool true := r'
        refine ⟨rfl, OldK.of_keep fun b o e => ?_, os, bare⟩
        cases q : H b with
        | none => exact un.keep b o e q (by intro z; exact absurd (show b ∈ ([] : List Addr) from z) (by simp)) (by simp)
        | some u =>
          rcases hO b with z | ⟨ob, xs, z⟩
          · rw [q] at z; cases z
          · have z2 := un.frzs b ob _ z
            obtain ⟨e1, _⟩ := hok b _ z
            obtain ⟨e2, _⟩ := hok' b _ z2
            rw [e] at e1; cases e1
            exact e2
  cases hk : K.lookup a with
  | some o =>
    -- the script is one of the module's own objects
    have e := KX a o hk
    rw [ha] at e
    cases e
    refine core (fun _ => none) (fun _ => .inl rfl) (.inr ⟨_, vs.toArray, _, hk, rfl, rfl, rfl, by rw [List.size_toArray, lenV]; exact hl, by simpa using rv⟩) (fun b u z => by have z' : (none : Option HO) = some u := z; cases z') (fun b z => absurd rfl z) fun z => absurd rfl z
  | none =>
    refine core (fun b => if b = a then some (.frz { cls := .type "list", data := .seq vs.toArray } (.lst (ns.map V.int))) else none) (fun b => ?_) (.inl (.inr ⟨{ cls := .type "list", data := .seq vs.toArray }, if_pos rfl⟩)) (fun b u z => ?_) (fun b z => ?_) fun _ => hk
    · by_cases hb : b = a
      · exact .inr ⟨_, _, if_pos hb⟩
      · exact .inl (if_neg hb)
    · by_cases hb : b = a
      · have z' := (if_pos hb).symm.trans z
        cases z'
        subst hb
        exact ⟨ha, by rw [List.length_map]; exact hl, vs, _, rv, ha⟩
      · have z' := (if_neg hb).symm.trans z
        cases z'
    · by_cases hb : b = a
      · exact hb
      · exact absurd (if_neg hb) z
end L2

namespace L2
open PySem PySem.Spec PyProof.Rows

abbrev KOf {K : PySem.W.Frag} {h : Heap} (_ : K.In h) : PySem.W.Frag := K

/-- the goal that k_head leaves (case hc), from the law's promise. F gives the function object fd (K's own) once, then the promise over every base -/
theorem walk_of {l : PySem.W.OpenLaw} {n k : Nat} {q : Program} {loose : List Str} {XP : (Str → Option Value) → Heap → Prop} {YP : World → Heap → Prop} {d : DefRec} {K : Params → PySem.W.Frag} {CX : World → CXT} {sp : World → Sp} {x : Str}
    (hn : l.most = some n) (hn2 : n ≤ sizeLine) (hdf : d.params.defaults = []) (hr : Room k callerA)
    (hY : ∀ (w : World) (h : Heap), YP w h → (K w.params).In h)
    (F : ∀ (w : World) (mg : Str → Option Value) (fa : Addr) (h : Heap), (K w.params).In h → h.Ns mainGlobals mg → mg d.name = some (.ref fa) →
      ∃ fd : FuncData, (∀ (s : Shared) (u : Value), BindsTo s fd ⟨[u], []⟩ [(x, u)]) ∧
        ∀ base : Heap, (K w.params).In base → base.Ns mainGlobals mg → FnOk l.prog w (K w.params) mg base (CX w) k fa fd [x] (sp w))
    (hsp : ∀ (w : World) (H : Hp) (a : Addr) (ns : List Int), ns.length ≤ n → Only H → SqL (K w.params) H a (ns.map V.int) → sp w [.ref a] H (fun v _ => v = .bl true) fun _ _ _ => False)
    (hCX : ∀ (w : World) (H : Hp) (s : Shared) (e : Value) (s' : Shared), CX w [] H s (fun _ _ _ => False) e s' → False) :
    PySem.W.WalkO q loose XP YP l.row.toRowW d [] (fun f vs => PySem.call f vs) := by
  refine Att.attach_call hn hdf fun w s₀ s₁ mg mb fa o pm cd doc a vs ns G Y ho hd hcd hmg hobj hints hlen hg => ?_
  have KX := hY w _ Y
  obtain ⟨fd, hb, hF⟩ := F w mg fa _ KX G.T.g hmg
  exact law_call KX G.T.g G.T.b G.T.builtins G.T.nolimit hg hobj hints (Nat.le_trans hlen hn2) hr hF hb (fun H hO hS => hsp w H a ns hlen hO hS) fun H e s' => hCX w H s₁ e s'
end L2

/- THE LAST THEOREM (shape; LID, My.* are yours):
   My.Adr: a structure of the addresses that your layer names (classes, functions); My.Txt K t: a structure (Prop) of the equations over K;
   My.txt_mk : {K} {implicit addresses ..} (e1 : nsIn K mainGlobals "law" = some (some (.ref f))) (e2 : K.lookup f = some ⟨oc, od, .func (fnOf "law" "law" params body scope dV kV doc pm an cdv ct), sl⟩) (e3 : codeIn K cdv "law" = true) .. : ∃ t, My.Txt K t

set_option maxRecDepth 100000 in
set_option maxHeartbeats 0 in
theorem PySem.Challenge.cw_LID_holds : PySem.Challenge.rw_LID.Holds := by
  w_on; o_law; k_head; (case hw => w_witness2)
  k_fill
  refine L2.walk_of (l := PySem.Challenge.rw_LID) (n := 63) (k := 40) (x := "script") (CX := fun w => ..) (sp := fun _ => My.sp_law) rfl (by decide) rfl ⟨rfl, by decide, by decide⟩ (fun w h Y => PySem.W.kIn_of Y) ?F ?S ?C
  case F =>
    intro w mg fa h KX G hmg
    have T : ∃ t, My.Txt (L2.KOf KX) t := by
      dsimp only [L2.KOf]                          -- K must stand as «<heap const> w.params» for k_is
      refine' My.txt_mk ?e1 ?e2 ?e3 ..
      (case e1 => PySem.W.k_is)                    -- in the order: a name -> its address -> its object -> its parts
      (case e2 => PySem.W.k_is)
      ..
    obtain ⟨t, T⟩ := T
    have e0 := hmg.symm.trans (PySem.W.mg_of KX G T.law)
    cases e0                                       -- fa is the law's own address
    exact ⟨_, fun s u => .of_eq rfl, fun base kb nb => My.law_fn T kb nb⟩     -- if «.of_eq rfl» comes too early: refine' ⟨_, ?b, fun base kb nb => My.law_fn T kb nb⟩; exact fun s u => .of_eq rfl
  case S => exact fun w H a ns hl hO hS => ..
  case C => exact ..
(the tactic k_is has no namespace: write k_is) -/

/-! SHORT WORDS over the layer: a def of the text, its body, what a loop and a test want. -/
namespace L2
open PySem PySem.Spec PyProof.Rows

/-! ### the text by places -/
/-- the j-th statement of a class's body -/
def inClass (s : Stmt) (j : Nat) : Stmt := match s with
  | .ClassDef _ _ _ body _ _ _ _ _ _ _ => body.getD j (.Pass ⟨0, 0, 0, 0⟩)
  | _ => .Pass ⟨0, 0, 0, 0⟩
def defArgs (s : Stmt) : Arguments := match s with
  | .FunctionDef _ a _ _ _ _ _ _ _ _ => a
  | _ => { posonlyargs := [], args := [], vararg := none, kwonlyargs := [], kw_defaults := [], kwarg := none, defaults := [] }
def defBody (s : Stmt) : List Stmt := match s with
  | .FunctionDef _ _ b _ _ _ _ _ _ _ => b
  | _ => []
def defScope (s : Stmt) : Scope := match s with
  | .FunctionDef _ _ _ _ _ _ sc _ _ _ => sc
  | _ => { kind := .function, names := [], isGenerator := false, isCoroutine := false }

/-! ### no exception leaves a def -/
abbrev CX0 : CXT := fun _ _ _ _ _ _ => False
abbrev E0 : XK := fun _ _ _ => False
theorem pass0 {X : Cx} : Passes CX0 X E0 := fun _ _ _ _ _ _ _ h => h.elim

/-! ### a def (or method) of the text as it stands behind the top -/
structure Fun (K : PySem.W.Frag) (x qual : Str) (st : Stmt) (f : Addr) (fd : FuncData) : Prop where
  ex : ∃ (oc : Value) (od : Option Addr) (kV doc pm : Value) (an : Option Addr) (cdv ct : Value) (osl : Array (Option Value)),
    fd = PySem.W.fnOf x qual (defArgs st) (defBody st) (defScope st) .none kV doc pm an cdv ct ∧ K.lookup f = some ⟨oc, od, .func fd, osl⟩ ∧ PySem.W.codeIn K cdv qual = true
  kp : PySem.W.keepIn K (.ref f) = true
section
variable {P : Program} {w : World} {K : PySem.W.Frag} {mg : Str → Option Value} {base : Heap}
/-- THE RULE for a def: its body as a term of rules, and the reading of that term -/
theorem Fun.ok {x qual : Str} {st : Stmt} {f : Addr} {fd : FuncData} {N ps : List Str} {k : Nat} {sp : Sp} (F : Fun K x qual st f fd) (S : FnScope N ps (defScope st)) (len : ∀ vs H Q E, sp vs H Q E → vs.length = ps.length)
    (hbody : ∀ (cdv : Value) (A : Around) (outer : List Env) (s : Shared) (H : Hp) (vs : List V) (Q : VK) (E : XK), Room k (A.deeper (envOfC qual (defScope st) s.heap.objs.size f cdv)) → sp vs H Q E →
      ∃ t, PSs (cxOf CX0 P w K mg base N qual (defScope st) f cdv A outer s H E).nox (defBody st) t ∧ t { nx := fun _ H' => Q .non H', rt := Q } (start N vs) H) : FnOk P w K mg base CX0 (k + 1) f fd ps sp := by
  obtain ⟨oc, od, kV, doc, pm, an, cdv, ct, osl, rfl, lk, hcd⟩ := F.ex
  refine fn_of lk hcd S len fun A outer s H vs Q E hr hsp => ?_
  obtain ⟨t, h, q⟩ := hbody cdv A outer s H vs Q E hr hsp
  exact ⟨t, h.nox, q⟩
/-- how its arguments bind (no defaults): h is «fun _ _ _ _ _ _ us hl => match us, hl with | [_, _], _ => rfl», one _ a parameter -/
theorem Fun.binds {x qual : Str} {st : Stmt} {f : Addr} {fd : FuncData} {ps : List Str} (F : Fun K x qual st f fd)
    (h : ∀ (kV doc pm : Value) (an : Option Addr) (cdv ct : Value) (us : List Value), us.length = ps.length → bindArgs (PySem.W.fnOf x qual (defArgs st) (defBody st) (defScope st) .none kV doc pm an cdv ct) ⟨us, []⟩ = pure (ps.zip us)) : Binds K fd ps [] := by
  obtain ⟨oc, od, kV, doc, pm, an, cdv, ct, osl, rfl, lk, hcd⟩ := F.ex
  exact .all (h kV doc pm an cdv ct)
theorem fun_mk {x qual : Str} {st : Stmt} {f : Addr} {oc : Value} {od an : Option Addr} {osl : Array (Option Value)} {kV doc pm cdv ct : Value} (l : K.lookup f = some ⟨oc, od, .func (PySem.W.fnOf x qual (defArgs st) (defBody st) (defScope st) .none kV doc pm an cdv ct), osl⟩)
    (c : PySem.W.codeIn K cdv qual = true) (k : PySem.W.keepIn K (.ref f) = true) : Fun K x qual st f (PySem.W.fnOf x qual (defArgs st) (defBody st) (defScope st) .none kV doc pm an cdv ct) := ⟨⟨oc, od, kV, doc, pm, an, cdv, ct, osl, rfl, l, c⟩, k⟩
end
theorem small1000 {n : Nat} (h : n ≤ 1000) : n < sizeLine := Nat.lt_of_le_of_lt h (by decide)

/-! ### expressions in short: the name that stands in the i-th slot -/
section
variable {X : Cx}
theorem pv (i : Nat) {x : Str} {pos : Pos} (hN : X.N[i]? = some x := by rfl) (hv : Vis X.env.scope x := by first | exact Or.inl rfl | exact Or.inr (Or.inl rfl) | exact Or.inr (Or.inr rfl)) (hd : (x == ("__debug__" : Str)) = false := by decide)
    (hcd : (x == ("__classdict__" : Str)) = false := by decide) : PE X (.Name x pos) (tVar i) := pe_var hN hv hd hcd
end

/-! ### tests -/
theorem iteF {A B : Prop} (h : B) : if false = true then A else B := by
  rw [if_neg Bool.false_ne_true]
  exact h
theorem iteT {A B : Prop} (h : A) : if true = true then A else B := by
  rw [if_pos rfl]
  exact h
theorem ite2 {c A B : Prop} [Decidable c] (h1 : c → A) (h2 : ¬ c → B) : if c then A else B := by
  by_cases h : c
  · rw [if_pos h]
    exact h1 h
  · rw [if_neg h]
    exact h2 h
theorem iteNS {c A B : Prop} [Decidable c] (hc : c) (h : B) : if (!decide c) = true then A else B := by
  rw [decide_eq_true hc]
  exact iteF h

/-! ### heaps -/
/-- all that was tracked is as it was -/
def Same (H H' : Hp) : Prop := ∀ b o, H b = some o → H' b = some o
theorem Same.refl (H : Hp) : Same H H := fun _ _ h => h
theorem Same.trans {H H1 H2 : Hp} (a : Same H H1) (b : Same H1 H2) : Same H H2 := fun c o h => b c o (a c o h)
theorem Same.free {H H' : Hp} (e : Same H H') {l : Addr} (h : H' l = Option.none) : H l = Option.none := by
  cases q : H l with
  | none => rfl
  | some o =>
    rw [e l o q] at h
    cases h
theorem Same.seq {K : PySem.W.Frag} {H H' : Hp} {a : Addr} {xs : List V} (e : Same H H') (h : SqL K H a xs) : SqL K H' a xs := by
  rcases h with (h | ⟨o, h⟩) | h
  · exact .inl (.inl (e _ _ h))
  · exact .inl (.inr ⟨o, e _ _ h⟩)
  · exact .inr h

end L2

namespace L2
open PySem PySem.Spec PyProof.Rows

/-! ### list comprehensions of one clause: the block's context -/
/-- the closure's cells, as they are laid: those of the block's free names -/
def clOf (scope : Scope) (env : Env) : List (Str × Addr) :=
  (scope.names.filterMap fun x => if x.2 == NameKind.free then (env.cells.lookup x.1).map fun c => (x.1, c) else none).reverse
theorem clos_go {env : Env} (f : Str × NameKind → List (Str × Addr) → Sem (ForInStep (List (Str × Addr))))
    (hf : ∀ n k r, f (n, k) r = (if (k == NameKind.free) = true then (do let c ← cellOf env n; pure (.yield ((n, c) :: r))) else pure (.yield r))) :
    ∀ (ns : List (Str × NameKind)) (cs : List (Str × Addr)), (∀ x ∈ ns, x.2 = .free → ∃ c, env.cells.lookup x.1 = some c) →
      forIn ns cs f = pure ((ns.filterMap fun x => if x.2 == NameKind.free then (env.cells.lookup x.1).map fun c => (x.1, c) else none).reverse ++ cs)
  | [], cs, _ => by rw [List.forIn_nil]; rfl
  | (n, k) :: r, cs, h => by
    rw [List.forIn_cons, hf]
    have hr : ∀ x ∈ r, x.2 = .free → ∃ c, env.cells.lookup x.1 = some c := fun x hx => h x (List.mem_cons_of_mem _ hx)
    by_cases hk : k = .free
    · subst hk
      obtain ⟨c, hc⟩ := h (n, .free) List.mem_cons_self rfl
      have e1 : cellOf env n = pure c := by unfold cellOf; rw [hc]
      rw [if_pos (by rfl), e1, pure_bind, pure_bind]
      show forIn r ((n, c) :: cs) f = _
      rw [clos_go f hf r _ hr, List.filterMap_cons]
      simp [hc]
    · have hb : (k == NameKind.free) = false := by simpa using hk
      rw [if_neg (by rw [hb]; decide), pure_bind]
      show forIn r cs f = _
      rw [clos_go f hf r _ hr, List.filterMap_cons]
      simp [hb]
theorem clos_ok {scope : Scope} {env : Env} (h : ∀ x ∈ scope.names, x.2 = .free → ∃ c, env.cells.lookup x.1 = some c) : closureFor scope env = pure (clOf scope env) := by
  simp only [closureFor]
  rw [clos_go (env := env) _ (fun n k r => by cases hk : k == NameKind.free <;> simp [hk]) scope.names [] h]
  rw [List.append_nil]
  rfl
theorem lookup_clOf_go {env : Env} {x : Str} : ∀ {l : List (Str × Addr)} {c : Addr}, (∀ p ∈ l, env.cells.lookup p.1 = some p.2) → l.lookup x = some c → env.cells.lookup x = some c
  | [], _, _, e => by simp at e
  | (n, d) :: r, c, h, e => by
    rw [List.lookup_cons] at e
    cases hb : x == n with
    | true =>
      rw [hb] at e
      have e' : d = c := Option.some.inj e
      have hx : x = n := by simpa using hb
      subst hx e'
      exact h _ List.mem_cons_self
    | false =>
      rw [hb] at e
      exact lookup_clOf_go (fun p hp => h p (List.mem_cons_of_mem _ hp)) e
theorem mem_clOf {scope : Scope} {env : Env} {p : Str × Addr} (h : p ∈ clOf scope env) : env.cells.lookup p.1 = some p.2 := by
  unfold clOf at h
  rw [List.mem_reverse, List.mem_filterMap] at h
  obtain ⟨x, _, e⟩ := h
  split at e
  · cases q : env.cells.lookup x.1 with
    | none => rw [q] at e; cases e
    | some c =>
      rw [q] at e
      have e' : (x.1, c) = p := Option.some.inj e
      subst e'
      exact q
  · cases e
theorem mem_clOf_free {scope : Scope} {env : Env} {x : Str} {c : Addr} (h : (x, c) ∈ clOf scope env) : (x, NameKind.free) ∈ scope.names := by
  unfold clOf at h
  rw [List.mem_reverse, List.mem_filterMap] at h
  obtain ⟨⟨y, k⟩, hy, e⟩ := h
  split at e
  · rename_i hk
    have hk' : k = .free := by simpa using hk
    cases q : env.cells.lookup y with
    | none => simp [q] at e
    | some d =>
      simp [q] at e
      rw [← e.1, ← hk']
      exact hy
  · cases e
theorem lookup_clOf {scope : Scope} {env : Env} {x : Str} {c : Addr} (e : (clOf scope env).lookup x = some c) : env.cells.lookup x = some c :=
  lookup_clOf_go (fun _ hp => mem_clOf hp) e
theorem lookup_of_mem_fst {x : Str} : ∀ {l : List (Str × Addr)}, (∃ c, (x, c) ∈ l) → ∃ c, l.lookup x = some c
  | [], ⟨_, h⟩ => by cases h
  | (n, d) :: r, ⟨c, h⟩ => by
    rw [List.lookup_cons]
    cases hb : x == n with
    | true => exact ⟨d, rfl⟩
    | false =>
      rcases List.mem_cons.mp h with q | q
      · injection q with q1 _
        rw [q1] at hb
        simp at hb
      · exact lookup_of_mem_fst ⟨c, q⟩
theorem clOf_has {scope : Scope} {env : Env} {x : Str} {c : Addr} (hm : (x, NameKind.free) ∈ scope.names) (e : env.cells.lookup x = some c) : (clOf scope env).lookup x = some c := by
  have hmem : (x, c) ∈ clOf scope env := by
    unfold clOf
    rw [List.mem_reverse, List.mem_filterMap]
    exact ⟨(x, .free), hm, by simp [e]⟩
  obtain ⟨d, hd⟩ := lookup_of_mem_fst ⟨c, hmem⟩
  have := lookup_clOf hd
  rw [e] at this
  cases this
  exact hd

/-- the block's slots: none is one of its own names, some i the i-th of the def's -/
def capS (caps : List (Option Nat)) (σ : St) : St := caps.map fun o => o.bind fun i => (σ[i]?).bind id
/-- what is asked of the two scopes and of the names -/
structure CompOk (scope sc : Scope) (NX N : List Str) (caps : List (Option Nat)) : Prop where
  kind : scope.kind = .function
  nd : N.Nodup
  own : ∀ y ∈ scope.names, y.2 = .cell → scope.names.lookup y.1 = some .cell
  loc : ∀ y ∈ scope.names, y.2 = .local → scope.names.lookup y.1 = some .local
  free : ∀ y ∈ scope.names, y.2 = .free → scope.names.lookup y.1 = some .free ∧ (sc.names.lookup y.1 = some .cell ∨ sc.names.lookup y.1 = some .free)
  len : caps.length = N.length
  cap : ∀ p ∈ (caps.zip N), ∀ i, p.1 = some i → NX[i]? = some p.2 ∧ scope.names.lookup p.2 = some .free
def compOkB (scope sc : Scope) (NX N : List Str) (caps : List (Option Nat)) : Bool :=
  (scope.kind == .function) && decide N.Nodup && scope.names.all (fun y => y.2 != .cell || scope.names.lookup y.1 == some .cell) && scope.names.all (fun y => y.2 != .local || scope.names.lookup y.1 == some .local) &&
  scope.names.all (fun y => y.2 != .free || (scope.names.lookup y.1 == some .free && (sc.names.lookup y.1 == some .cell || sc.names.lookup y.1 == some .free))) && (caps.length == N.length) &&
  (caps.zip N).all (fun p => match p.1 with | none => true | some i => NX[i]? == some p.2 && scope.names.lookup p.2 == some .free)
theorem CompOk.of {scope sc : Scope} {NX N : List Str} {caps : List (Option Nat)} (h : compOkB scope sc NX N caps = true) : CompOk scope sc NX N caps := by
  unfold compOkB at h
  simp only [Bool.and_eq_true] at h
  obtain ⟨⟨⟨⟨⟨⟨h1, h2⟩, h3⟩, h4⟩, h5⟩, h6⟩, h7⟩ := h
  refine ⟨by simpa using h1, of_decide_eq_true h2, fun y hy hc => ?_, fun y hy hl => ?_, fun y hy hf => ?_, by simpa using h6, fun p hp i hi => ?_⟩
  · have := List.all_eq_true.mp h3 y hy
    rw [hc] at this
    simpa using this
  · have := List.all_eq_true.mp h4 y hy
    rw [hl] at this
    simpa using this
  · have := List.all_eq_true.mp h5 y hy
    rw [hf] at this
    simpa using this
  · have := List.all_eq_true.mp h7 p hp
    rw [hi] at this
    simpa using this
/-! ### the block's cells: its own, then the closure's -/
def csOf (scope : Scope) (C : Addr) (env : Env) : List (Str × Addr) := cellsFrom (C + 1) scope.names (clOf scope env)
theorem cells_lk : ∀ (names : List (Str × NameKind)) (n : Nat) (acc : List (Str × Addr)) {x : Str} {c : Addr}, (cellsFrom n names acc).lookup x = some c → (n ≤ c ∧ (x, NameKind.cell) ∈ names) ∨ acc.lookup x = some c
  | [], _, _, _, _, h => .inr h
  | (y, k) :: r, n, acc, x, c, h => by
    unfold cellsFrom at h
    split at h
    · rename_i hk
      have hk' : k = .cell := by simpa using hk
      rcases cells_lk r (n + 1) _ h with ⟨h1, h2⟩ | h2
      · exact .inl ⟨by omega, List.mem_cons_of_mem _ h2⟩
      · rw [List.lookup_cons] at h2
        cases hb : x == y with
        | true =>
          rw [hb] at h2
          have e : n = c := Option.some.inj h2
          have ex : x = y := by simpa using hb
          exact .inl ⟨by omega, by rw [ex, hk']; exact List.mem_cons_self⟩
        | false => rw [hb] at h2; exact .inr h2
    · rcases cells_lk r n acc h with ⟨h1, h2⟩ | h2
      · exact .inl ⟨h1, List.mem_cons_of_mem _ h2⟩
      · exact .inr h2
theorem cells_skip : ∀ (names : List (Str × NameKind)) (n : Nat) (acc : List (Str × Addr)) {x : Str}, (x, NameKind.cell) ∉ names → (cellsFrom n names acc).lookup x = acc.lookup x
  | [], _, _, _, _ => rfl
  | (y, k) :: r, n, acc, x, h => by
    unfold cellsFrom
    have hr : (x, NameKind.cell) ∉ r := fun z => h (List.mem_cons_of_mem _ z)
    split
    · rename_i hk
      have hk' : k = .cell := by simpa using hk
      rw [cells_skip r _ _ hr, List.lookup_cons]
      have hb : (x == y) = false := by
        cases hb : x == y with
        | false => rfl
        | true =>
          have ex : x = y := by simpa using hb
          exact absurd (by rw [ex, hk']; exact List.mem_cons_self) h
      rw [hb]
    · exact cells_skip r n acc hr
theorem cells_has : ∀ (names : List (Str × NameKind)) (n : Nat) (acc : List (Str × Addr)) {x : Str}, ((x, NameKind.cell) ∈ names ∨ ∃ c, acc.lookup x = some c) → ∃ c, (cellsFrom n names acc).lookup x = some c
  | [], _, _, _, h => by
    rcases h with h | h
    · cases h
    · exact h
  | (y, k) :: r, n, acc, x, h => by
    unfold cellsFrom
    split
    · rename_i hk
      refine cells_has r _ _ ?_
      by_cases hb : x = y
      · subst hb; exact .inr ⟨n, by simp [List.lookup_cons]⟩
      · rcases h with h | ⟨c, h⟩
        · rcases List.mem_cons.mp h with z | z
          · injection z with z1 _; exact absurd z1 hb
          · exact .inl z
        · exact .inr ⟨c, by rw [List.lookup_cons, show (x == y) = false by simpa using hb]; exact h⟩
    · rename_i hk
      refine cells_has r _ _ ?_
      rcases h with h | h
      · rcases List.mem_cons.mp h with z | z
        · injection z with _ z2
          rw [← z2] at hk
          exact absurd rfl hk
        · exact .inl z
      · exact .inr h
theorem cells_inj : ∀ (names : List (Str × NameKind)) (n : Nat) (acc : List (Str × Addr)), (∀ x y c, acc.lookup x = some c → acc.lookup y = some c → x = y) → (∀ x c, acc.lookup x = some c → c < n) →
    ∀ x y c, (cellsFrom n names acc).lookup x = some c → (cellsFrom n names acc).lookup y = some c → x = y
  | [], _, _, hi, _ => hi
  | (w, k) :: r, n, acc, hi, hb => by
    unfold cellsFrom
    split
    · refine cells_inj r (n + 1) _ (fun x y c h1 h2 => ?_) (fun x c h => ?_)
      · rw [List.lookup_cons] at h1 h2
        cases e1 : x == w <;> cases e2 : y == w <;> rw [e1] at h1 <;> rw [e2] at h2
        · exact hi x y c h1 h2
        · cases h2; exact absurd (hb x _ h1) (Nat.lt_irrefl _)
        · cases h1; exact absurd (hb y _ h2) (Nat.lt_irrefl _)
        · have a1 : x = w := by simpa using e1
          have a2 : y = w := by simpa using e2
          rw [a1, a2]
      · rw [List.lookup_cons] at h
        cases e1 : x == w <;> rw [e1] at h
        · exact Nat.lt_succ_of_lt (hb x c h)
        · cases h; exact Nat.lt_succ_self _
    · exact cells_inj r n acc hi hb
theorem cells_new : ∀ (names : List (Str × NameKind)) (h : Heap) (acc : List (Str × Addr)) {x : Str} {c : Addr}, (x, c) ∈ cellsFrom h.objs.size names acc → (x, c) ∈ acc ∨ (h.objs.size ≤ c ∧ (pushCells h names).IsCell c none)
  | [], _, _, _, _, hm => .inl hm
  | (y, k) :: r, h, acc, x, c, hm => by
    unfold cellsFrom at hm
    unfold pushCells
    split at hm
    · rename_i hk
      rw [if_pos hk]
      have hm' : (x, c) ∈ cellsFrom (h.push { cls := .type "cell", data := .cell none }).objs.size r ((y, h.objs.size) :: acc) := by rw [Heap.size_push]; exact hm
      rcases cells_new r _ _ hm' with z | ⟨z1, z2⟩
      · rcases List.mem_cons.mp z with z | z
        · injection z with _ z2
          subst z2
          refine .inr ⟨Nat.le_refl _, _, pushCells_keeps r _ _ _ (Heap.get?_push_size _ rfl), rfl⟩
        · exact .inl z
      · rw [Heap.size_push] at z1
        exact .inr ⟨by omega, z2⟩
    · rename_i hk
      rw [if_neg hk]
      exact cells_new r h acc hm
theorem newEnv_comp {M : Model} {A : Around} {E : Value → Shared → Prop} {s : Shared} {scope : Scope} {globals : Addr} {cl : List (Str × Addr)} {qual : Str} {env : Env} {Q : Env → Shared → Prop} (hcl : ∀ x c, (x, c) ∈ cl → c < s.heap.objs.size)
    (h : ∀ h' : Heap, h'.Ns s.heap.objs.size (fun _ => none) → (∀ b o, s.heap.get? b = some o → h'.get? b = some o) → (∀ x c, (cellsFrom (s.heap.objs.size + 1) scope.names cl).lookup x = some c → s.heap.objs.size + 1 ≤ c → h'.IsCell c none) →
      Q { scope := scope, locals := s.heap.objs.size, globals := globals, cells := cellsFrom (s.heap.objs.size + 1) scope.names cl, qual := qual, func := none, code := env.code, frame := env.frame, builtins := env.builtins } { s with heap := h' }) :
    wpAny M A (newFunctionEnv scope globals cl [] qual none .none (some env)) Q E s := by
  simp only [newFunctionEnv, Option.isSome_some, if_true]
  refine wpAny_bind (wpAny_alloc ?_)
  refine wpAny_bind (wpAny_layCells _ (fun name kind cells => by cases hkc : kind == NameKind.cell <;> simp [hkc]) _ _ _ _ ?_)
  rw [show ({ s with heap := s.heap.push { cls := .type "dict", data := .dict #[] } } : Shared).heap.objs.size = s.heap.objs.size + 1 from Heap.size_push ..]
  refine wpAny_bind ?_
  rw [List.forIn_nil]
  refine wpAny_pure (wpAny_pure (h _ ?_ (fun b o e => pushCells_keeps _ _ _ _ (Heap.get?_push_of_some _ e)) fun x c e hc => ?_))
  · refine ⟨_, #[], 0, pushCells_keeps _ _ _ _ (Heap.get?_push_size _ rfl), rfl, ?_, fun x => rfl⟩
    first | exact fun e he => by simp at he | simp
  · have hm := PySem.mem_of_lookup e
    have hm' : (x, c) ∈ cellsFrom (s.heap.push { cls := .type "dict", data := .dict #[] }).objs.size scope.names cl := by rw [Heap.size_push]; exact hm
    rcases cells_new _ _ _ hm' with z | z
    · exact absurd (Nat.lt_of_lt_of_le (hcl x c z) (Nat.le_of_succ_le hc)) (Nat.lt_irrefl _)
    · exact z.2
def compCx (X : Cx) (scope : Scope) (N : List Str) (C : Addr) (s₀ : Shared) (H₀ : Hp) (ex : List Addr) : Cx where
  prog := X.prog
  w := X.w
  K := X.K
  mg := X.mg
  base := X.base
  A := X.A
  N := N
  s₀ := s₀
  H₀ := H₀
  env := compEnvC scope (csOf scope C X.env) C X.env
  outer := X.stack
  stack := X.stack
  ex := ex
  fn := fun x => scope.names.lookup x == some .cell
  calm := X.calm
  pn := []
  xe := fun _ _ => False

/-- a name of the block that is a cell or free there is one of its free names, or a cell of its own -/
theorem relabel_free {scope : Scope} {env : Env} {x : Str} {k : NameKind} (hk : k = .cell ∨ k = .free) (h : (relabel scope env).names.lookup x = some k) : (x, NameKind.free) ∈ scope.names ∨ (x, NameKind.cell) ∈ scope.names := by
  have hm : (x, k) ∈ (relabel scope env).names := PySem.mem_of_lookup h
  unfold relabel at hm
  rw [List.mem_map] at hm
  obtain ⟨⟨n, k'⟩, hn, e⟩ := hm
  dsimp only at e
  by_cases hc : (k' == NameKind.free && env.scope.kind == .function && env.kindOf n == some .cell) = true
  · rw [if_pos hc] at e
    injection e with e1 e2
    have : k' = .free := by
      rw [Bool.and_eq_true, Bool.and_eq_true] at hc
      simpa using hc.1.1
    subst this e1
    exact .inl hn
  · rw [if_neg hc] at e
    injection e with e1 e2
    subst e1 e2
    rcases hk with hk | hk
    · subst hk; exact .inr hn
    · subst hk; exact .inl hn

theorem lookup_relabel_free {env : Env} : ∀ {names : List (Str × NameKind)} {x : Str}, names.lookup x = some .free →
    (names.map fun (n, k) => if (k == NameKind.free && env.scope.kind == .function && env.kindOf n == some .cell) then (n, NameKind.cell) else (n, k)).lookup x = some .cell ∨
    (names.map fun (n, k) => if (k == NameKind.free && env.scope.kind == .function && env.kindOf n == some .cell) then (n, NameKind.cell) else (n, k)).lookup x = some .free
  | [], _, h => by simp at h
  | (n, k) :: r, x, h => by
    have ih := @lookup_relabel_free env r x
    rw [List.map_cons]
    dsimp only
    cases hx : x == n with
    | true =>
      simp only [List.lookup_cons, hx] at h
      cases h
      by_cases hc : (NameKind.free == NameKind.free && env.scope.kind == .function && env.kindOf n == some .cell) = true
      · rw [if_pos hc]; left; simp [List.lookup_cons, hx]
      · rw [if_neg hc]; right; simp [List.lookup_cons, hx]
    | false =>
      simp only [List.lookup_cons, hx] at h
      by_cases hc : (k == NameKind.free && env.scope.kind == .function && env.kindOf n == some .cell) = true
      · rw [if_pos hc]; simp only [List.lookup_cons, hx]; exact ih h
      · rw [if_neg hc]; simp only [List.lookup_cons, hx]; exact ih h

section
variable {X : Cx} {pins : List (Addr × Obj)} {σ : St} {H : Hp} {s : Shared} {scope : Scope} {N : List Str} {caps : List (Option Nat)} {fp : List Addr}
/-- the block's start: the list at the heap's end, the block's names behind it -/
theorem comp_start {h1 : Heap} {tk : Nat} (I : Inv X pins σ H s) (O : CompOk scope X.env.scope X.N N caps) (f2 : ∀ b ∈ fp, FpOk X pins H b) (hob : ∀ b ∈ fp, b < s.heap.objs.size)
    (hns : h1.Ns (s.heap.objs.size + 1) (fun _ => none)) (hD : h1.get? s.heap.objs.size = some { cls := .type "list", data := .seq #[] }) (old : ∀ b o, s.heap.get? b = some o → h1.get? b = some o)
    (hnew : ∀ x c, (csOf scope (s.heap.objs.size + 1) X.env).lookup x = some c → s.heap.objs.size + 1 + 1 ≤ c → h1.IsCell c none) :
    Inv (compCx X scope N (s.heap.objs.size + 1) s H fp) [(s.heap.objs.size, { cls := .type "list", data := .seq #[] })] (capS caps σ) H { s with heap := h1, toks := tk } := by
  have sub : ∀ b ∈ frs X.stack, b < s.heap.objs.size := fun b hb => by
    obtain ⟨_, o, ho, _⟩ := I.stack.mem hb
    exact Heap.lt_size ho
  have cellLt : ∀ x c, X.env.cells.lookup x = some c → c < s.heap.objs.size := fun x c e => by
    obtain ⟨v, o, ho, _⟩ := I.cell x c e
    exact Heap.lt_size ho
  have cl : ∀ x c, (csOf scope (s.heap.objs.size + 1) X.env).lookup x = some c → (s.heap.objs.size + 1 + 1 ≤ c ∧ (x, NameKind.cell) ∈ scope.names) ∨ X.env.cells.lookup x = some c := fun x c e => by
    rcases cells_lk _ _ _ e with z | z
    · exact .inl z
    · exact .inr (lookup_clOf z)
  have freeHas : ∀ x, (x, NameKind.free) ∈ scope.names → ∃ c, X.env.cells.lookup x = some c := fun x hm => by
    rcases (O.free _ hm rfl).2 with q | q
    · exact I.ok.has x (.inl q)
    · exact I.ok.has x (.inr q)
  have notOwn : ∀ x, (x, NameKind.free) ∈ scope.names → (x, NameKind.cell) ∉ scope.names := fun x hm hc => by
    have h1 := (O.free _ hm rfl).1
    have h2 := O.own _ hc rfl
    dsimp only at h1 h2
    rw [h1] at h2
    cases h2
  refine ⟨⟨I.ok.mod, O.kind, I.ok.glob, I.ok.blt, Nat.le_succ _, fun x y c h1 h2 => ?_, fun x hx => ?_, fun x c hf e => ?_, I.ok.hd, I.ok.frames, .inl rfl, fun b hb => ⟨Nat.ne_of_lt (Nat.lt_succ_of_lt (hob b hb)), fun x c e => ?_⟩, I.bs, ?_, fun b o e hb => ?_, fun b hb hfs => ?_, I.stack, I.stkFree⟩,
    rfl, I.bare, Un.kept old, ⟨_, hns, fun i x v e1 e2 e3 => ?_⟩, fun x c e => ?_, I.hok.fresh (Nat.le_succ _), fun x c e => ?_, fun p hp => ?_, I.hok.kept old, ?_⟩
  · exact cells_inj scope.names _ (clOf scope X.env) (fun x y c a b => I.ok.inj x y c (lookup_clOf a) (lookup_clOf b)) (fun x c a => Nat.lt_succ_of_lt (Nat.lt_succ_of_lt (cellLt x c (lookup_clOf a)))) x y c h1 h2
  · have hm : (x, NameKind.free) ∈ scope.names ∨ (x, NameKind.cell) ∈ scope.names := by
      rcases hx with hx | hx
      · exact relabel_free (.inl rfl) hx
      · exact relabel_free (.inr rfl) hx
    rcases hm with hm | hm
    · obtain ⟨c, hc⟩ := freeHas x hm
      exact cells_has _ _ _ (.inr ⟨c, clOf_has hm hc⟩)
    · exact cells_has _ _ _ (.inl hm)
  · have hf' : scope.names.lookup x = some .cell := by simpa [compCx] using hf
    rcases cl x c e with z | z
    · exact Nat.le_of_lt (Nat.lt_of_lt_of_le (Nat.lt_succ_of_lt (Nat.lt_succ_self _)) z.1)
    · exfalso
      have hm := PySem.mem_of_lookup hf'
      rcases cells_lk _ _ _ e with w | w
      · exact absurd (Nat.lt_of_lt_of_le (cellLt x c z) (Nat.le_trans (Nat.le_succ_of_le (Nat.le_succ _)) w.1)) (Nat.lt_irrefl _)
      · have hmem := mem_clOf_free (PySem.mem_of_lookup w)
        exact notOwn x hmem hm
  · rcases cl x c e with z | z
    · exact fun w => absurd (Nat.lt_of_lt_of_le (hob b hb) (Nat.le_trans (Nat.le_succ_of_le (Nat.le_succ _)) (w ▸ z.1))) (Nat.lt_irrefl _)
    · exact (f2 b hb).2.2.2.2.1 x c z
  · exact Nat.le_trans I.ok.bsz I.sz
  · rcases (f2 b hb).2.2.2.1 with z | z
    · exact I.ok.noex b o e z
    · exact absurd (Nat.lt_of_lt_of_le (Heap.lt_size (I.ok.bs b o e).1) z) (Nat.lt_irrefl _)
  · rcases List.mem_cons.mp (I.stkSub b hfs) with z | z
    · exact (f2 b hb).2.1 z
    · exact (f2 b hb).2.2.1 z
  · -- a captured name
    have hi : i < caps.length := by
      have := (List.getElem?_eq_some_iff.mp e2).1
      unfold capS at this
      rwa [List.length_map] at this
    have hcap : ∃ j, caps[i]? = some (some j) ∧ σ[j]? = some (some v) := by
      unfold capS at e2
      rw [List.getElem?_map] at e2
      cases q : caps[i]? with
      | none => rw [q] at e2; cases e2
      | some o =>
        rw [q] at e2
        have e2' : (o.bind fun i => (σ[i]?).bind id) = some v := Option.some.inj e2
        cases o with
        | none => cases e2'
        | some j =>
          refine ⟨j, rfl, ?_⟩
          cases q2 : σ[j]? with
          | none => rw [Option.bind_some, q2] at e2'; cases e2'
          | some o2 =>
            rw [Option.bind_some, q2] at e2'
            cases o2 with
            | none => cases e2'
            | some v2 => cases e2'; rfl
    obtain ⟨j, hj, hv⟩ := hcap
    have hN : N[i]? = some x := e1
    have hz : (some j, x) ∈ caps.zip N := by
      have : (caps.zip N)[i]? = some (some j, x) := by
        rw [List.getElem?_zip_eq_some]
        exact ⟨hj, hN⟩
      exact List.mem_of_getElem? this
    obtain ⟨hX, hf⟩ := O.cap _ hz j rfl
    have hm : (x, NameKind.free) ∈ scope.names := PySem.mem_of_lookup hf
    have hvis : Vis X.env.scope x := by
      rcases (O.free _ hm rfl).2 with q | q
      · exact .inr (.inl q)
      · exact .inr (.inr q)
    obtain ⟨m, hn, hl⟩ := I.loc
    obtain ⟨u, r, l⟩ := hl j x v hX hv hvis
    refine ⟨u, r, ?_⟩
    rcases l with ⟨k, _⟩ | ⟨_, c, e, ⟨o, ho, hd⟩⟩
    · exfalso
      rcases (O.free _ hm rfl).2 with q | q
      · have : X.env.scope.names.lookup x = some .local := k
        rw [q] at this; cases this
      · have : X.env.scope.names.lookup x = some .local := k
        rw [q] at this; cases this
    · have hk2 : (compCx X scope N (s.heap.objs.size + 1) s H fp).env.kindOf x = some .cell ∨ (compCx X scope N (s.heap.objs.size + 1) s H fp).env.kindOf x = some .free := lookup_relabel_free hf
      exact .inr ⟨hk2, c, (cells_skip _ _ _ (notOwn x hm)).trans (clOf_has hm e), ⟨o, old c o ho, hd⟩⟩
  · rcases cl x c e with z | z
    · exact ⟨none, hnew x c e z.1⟩
    · obtain ⟨v, o, ho, hd⟩ := I.cell x c z
      exact ⟨v, o, old c o ho, hd⟩
  · rcases cl x c e with z | z
    · exact I.hok.fresh (Nat.le_trans (Nat.le_succ_of_le (Nat.le_succ _)) z.1)
    · exact I.freeC x c z
  · have e : p = (s.heap.objs.size, { cls := .type "list", data := .seq #[] }) := by simpa [compCx] using hp
    subst e
    refine ⟨hD, I.hok.fresh (Nat.le_refl _), Nat.ne_of_lt (Nat.lt_succ_self _), fun hb => absurd (sub _ hb) (Nat.lt_irrefl _), fun v z => by cases z⟩
  · show (capS caps σ).length = N.length
    unfold capS
    rw [List.length_map]
    exact O.len
end
end L2

namespace L2
open PySem PySem.Spec PyProof.Rows
/-- the tests of a clause -/
def PTs (X : Cx) (ifs : List Expr) (t : TT) : Prop :=
  ∀ (pins : List (Addr × Obj)) (s : Shared) (σ : St) (H : Hp) (Q : Bool → Hp → Prop), Inv X pins σ H s → t σ H Q →
    wpAny (model X.prog X.w) X.A (forIn ifs true fun c r => if r = true then do let ok ← isTrue c X.env (eval c X.env); pure (ForInStep.yield ok) else pure (ForInStep.yield r)) (TP X pins σ Q) X.xe s
def tTrue : TT := fun _ H Q => Q true H
theorem pts_nil {X : Cx} : PTs X [] tTrue := fun _ _ _ H _ I h => wpAny_tests_nil ⟨H, I, h⟩
theorem pts_one {X : Cx} {c : Expr} {t : TT} (h : PT X c t) : PTs X [c] t := fun pins s σ H Q I hw => wpAny_tests_one (h pins s σ H Q I hw)

section
variable {prog : Program} {w : World} {A : Around} {R : Result → Shared → Prop} {s : Shared}
theorem comp_loop {elt target iter : Expr} {ifs : List Expr} {scope : Scope} {pos : Pos} {it acc : Value} {env : Env} (I : Nat → Shared → Prop)
    (turn : ∀ n s, I n s → wpAny (model prog w) A (pyNext it) (fun r s₁ => match r with
      | none => R (.ok .next) s₁
      | some v => wpAny (model prog w) A (letOwnedTupleGo target it v) (fun _ s₀ => wpAny (model prog w) A (assign target env v) (fun _ s₂ =>
          wpAny (model prog w) A (forIn ifs true fun c r => if r = true then do let ok ← isTrue c env (eval c env); pure (ForInStep.yield ok) else pure (ForInStep.yield r)) (fun ok s₃ =>
            if ok = true then wpAny (model prog w) A (eval elt env) (fun x s₄ =>
              wpAny (model prog w) A (call (.builtin "list.append") [acc, x]) (fun _ s₅ => ∃ m, m < n ∧ I m s₅) (fun _ _ => False) s₄) (fun _ _ => False) s₃
            else ∃ m, m < n ∧ I m s₃) (fun _ _ => False) s₂) (fun _ _ => False) s₀) (fun _ _ => False) s₁) (fun _ _ => False) s)
    (n : Nat) (h : I n s) : codeAny (model prog w) A (.compLoop (.ListComp elt [⟨target, iter, ifs, 0⟩] scope pos) 0 it acc env) R s := by
  refine codeAny_loop rfl I (fun n s hI => ?_) n h
  show wpAny _ A ((compTurn (.ListComp elt [⟨target, iter, ifs, 0⟩] scope pos) 0 it acc env).onRaise (fun x => do noteFrame x env; theTreesLotGoes x)) _ _ s
  refine wpAny_noted (wpAny_noRaise ?_)
  rw [compTurn_list]
  refine wpAny_bind (wpAny_standAt (wpAny_bind (thn (turn n s hI) fun r s₁ h₁ => ?_)))
  cases r with
  | none => exact wpAny_pure h₁
  | some v =>
    refine wpAny_bind (thn h₁ fun _ s₀ h₀ => ?_)
    refine wpAny_bind (thn h₀ fun _ s₂ h₂ => wpAny_bind (thn h₂ fun ok s₃ h₃ => ?_))
    cases ok with
    | false => exact wpAny_pure ⟨rfl, h₃⟩
    | true => exact wpAny_bind (wpAny_bind (thn h₃ fun x s₄ h₄ => wpAny_bind (thn h₄ fun _ s₅ h₅ => wpAny_pure (wpAny_pure ⟨rfl, h₅⟩))))
end

/-- the captured slots are as they were -/
def Keep (caps : List (Option Nat)) (σ σ' : St) : Prop := ∀ (j : Nat) (v : V), (capS caps σ)[j]? = some (some v) → σ'[j]? = some (some v)
def GK (caps : List (Option Nat)) (g : TG) : Prop := ∀ σ σ1 x H (Q : St → Hp → Prop), Keep caps σ σ1 → g x σ1 H Q → g x σ1 H fun σ2 H2 => Keep caps σ σ2 ∧ Q σ2 H2
def GKs (caps : List (Option Nat)) (g : TGs) : Prop := ∀ σ σ1 xs H (Q : St → Hp → Prop), Keep caps σ σ1 → g xs σ1 H Q → g xs σ1 H fun σ2 H2 => Keep caps σ σ2 ∧ Q σ2 H2
theorem Keep.set {caps : List (Option Nat)} {σ σ' : St} {i : Nat} {x : Option V} (k : Keep caps σ σ') (h : caps[i]? = some none) : Keep caps σ (σ'.set i x) := fun j v e => by
  by_cases hj : i = j
  · subst hj
    unfold capS at e
    rw [List.getElem?_map, h] at e
    cases e
  · rw [List.getElem?_set_ne hj]
    exact k j v e
theorem gk_name {caps : List (Option Nat)} {i : Nat} (h : caps[i]? = some none) : GK caps (gName i) := fun _ _ _ _ _ k q => ⟨k.set h, q⟩
def lstO (its : List Value) (n : Nat) : Obj := { cls := .type "list", data := .seq its.toArray n }
/-- what a comprehension wants of its source, its test, its element: W is the word between two turns (the turn, a measure, the items so far, the heap) -/
def tCompK (caps : List (Option Nat)) (g : TG) (tt : TT) (te : TE) (σ : St) (QQ : List V → Hp → Prop) (J : It) (H1 : Hp) : Prop :=
  ∃ W : Nat → Nat → List V → Hp → Prop, (∃ m, W 0 m [] H1) ∧ ∀ i m ys H, W i m ys H →
    (J.stop i H ∧ QQ ys H) ∨ (J.go i H ∧ ∃ N : List V → Hp → Prop, (∀ ys' H', N ys' H' → ∃ m', m' < m ∧ W (i + 1) m' ys' H') ∧
      ∀ x H', J.yld i H x H' → g x (capS caps σ) H' fun σ2 H2 => tt σ2 H2 fun b H3 => if b = true then te σ2 H3 fun y H4 => ys.length < sizeLine ∧ N (ys ++ [y]) H4 else N ys H3)
def tComp (caps : List (Option Nat)) (wi : TI) (g : TG) (tt : TT) (te : TE) : TE := fun σ H Q =>
  wi σ H (tCompK caps g tt te σ fun ys H' => ∀ D, H' D = none → Q (.ref D) (upd H' D (.lst ys)))

section
variable {X : Cx} {pins : List (Addr × Obj)} {σ : St} {scope : Scope} {N : List Str} {caps : List (Option Nat)} {fp : List Addr}
/-- behind the block: its list is tracked -/
theorem comp_end {H H' : Hp} {s s' : Shared} {σ' : St} {its : List Value} {n : Nat} {ys : List V} (I : Inv X pins σ H s) (f2 : ∀ b ∈ fp, FpOk X pins H b)
    (J : Inv (compCx X scope N (s.heap.objs.size + 1) s H fp) [(s.heap.objs.size, lstO its n)] σ' H' s') (hv : Vals ys its) (hz : ys.length ≤ sizeLine) :
    Inv X pins σ (upd H' s.heap.objs.size (.lst ys)) s' ∧ H' s.heap.objs.size = none ∧ H' (s.heap.objs.size + 1) = none := by
  have hpin := J.pin (s.heap.objs.size, lstO its n) (List.mem_append_right _ (List.mem_singleton.mpr rfl))
  obtain ⟨hD, hDn, hDC, _, _⟩ := hpin
  have hD0 : H s.heap.objs.size = none := I.hok.fresh (Nat.le_refl _)
  have ltD : ∀ b o, s.heap.get? b = some o → b ≠ s.heap.objs.size := fun b o e => Nat.ne_of_lt (Heap.lt_size e)
  refine ⟨I.call' (ch := fp) J.os ⟨J.base.keep, J.base.slot, fun b o e n' hx => ?_, J.base.there, fun b xs e => ?_, fun b o u e => ?_, fun b ps e => ?_⟩ (fun a o e => ?_) J.bare (fun b hb => ?_), hDn, J.free⟩
  · rw [upd_ne (ltD b o e)]; exact J.base.free b o e n' hx
  · rw [upd_ne (ne_of_none e hD0)]; exact J.base.tups b xs e
  · rw [upd_ne (ne_of_none e hD0)]; exact J.base.frzs b o u e
  · rw [upd_ne (ne_of_none e hD0)]; exact J.base.tbls b ps e
  · by_cases ha : a = s.heap.objs.size
    · subst ha
      rw [upd_same] at e
      cases e
      exact ⟨hz, its, n, hv, hD⟩
    · rw [upd_ne ha] at e
      exact (J.hok a o e).stay (fun b u _ q => q) (fun b q => by rw [upd_ne (ne_of_none q hDn)]; exact q) fun b xs q => by rw [upd_ne (ne_of_none q hDn)]; exact q
  · obtain ⟨_, h1, _, h3, h4, h5⟩ := f2 b hb
    exact ⟨h3, h1, h4, h5⟩

theorem comp_block {elt tg iter : Expr} {ifs : List Expr} {pos : Pos} {g : TG} {tt : TT} {te : TE} {QQ : List V → Hp → Prop} {R : Value → Addr → Result → Shared → Prop} {itv : Value} {s2 : Shared} (hc : X.calm = true) (O : CompOk scope X.env.scope X.N N caps) (gk : GK caps g)
    (hg : ∀ C s H fp, PG (compCx X scope N C s H fp) tg g) (ht : ∀ C s H fp, PTs (compCx X scope N C s H fp) ifs tt) (he : ∀ C s H fp, PE (compCx X scope N C s H fp) elt te)
    (h2 : PIE X pins σ tg (tCompK caps g tt te σ QQ) itv s2)
    (fin : ∀ (D C : Addr) (s' : Shared) (H' : Hp) (ys : List V) (m : Str → Option Value), Inv X pins σ (upd H' D (.lst ys)) s' → s'.heap.Ns C m → H' D = none → H' C = none → C ≠ D → X.s₀.heap.objs.size ≤ C → C ≠ X.env.locals → (∀ x c, X.env.cells.lookup x = some c → c ≠ C) → (∀ p ∈ X.pn ++ pins, p.1 ≠ C) →
      QQ ys H' → R (.ref D) C (.ok .next) s') :
    wpAny (model X.prog X.w) X.A (newList []) (fun acc s₃ => wpAny (model X.prog X.w) X.A (newFunctionEnv scope X.env.globals (clOf scope X.env) [] X.env.qual none .none (some X.env)) (fun cenv s₄ =>
      codeAny (model X.prog X.w) X.A (.compStart (.ListComp elt [⟨tg, iter, ifs, 0⟩] scope pos) 0 itv acc { cenv with scope := relabel scope X.env }) (R acc cenv.locals) s₄) X.xe s₃) X.xe s2 := by
  obtain ⟨it, fp, tn, J, H2, e, I2, T, st2, f2, W, ⟨m0, w0⟩, turn⟩ := h2
  subst e
  have cellLt : ∀ x c, X.env.cells.lookup x = some c → c < s2.heap.objs.size := fun x c e => by
    obtain ⟨v, o, ho, _⟩ := I2.cell x c e
    exact Heap.lt_size ho
  refine wpAny_newObj_type (newEnv_comp (fun x c hm => by rw [Heap.size_push]; exact Nat.lt_succ_of_lt (cellLt x c (mem_clOf hm))) (fun h₁ hns₁ hsb₁ hnew₁ => ?_))
  dsimp only at hns₁ hsb₁ hnew₁ ⊢
  have hob : ∀ b ∈ fp, b < s2.heap.objs.size := fun b hb => by
    obtain ⟨o, ho, _⟩ := T.obj _ _ st2 b hb
    exact Heap.lt_size ho
  generalize hH2 : s2.heap.push { cls := .type "list", dict := none, data := .seq ([] : List Value).toArray } = G2 at hns₁ hsb₁ hnew₁ ⊢
  have hC : G2.objs.size = s2.heap.objs.size + 1 := by rw [← hH2, Heap.size_push]
  rw [hC] at hns₁ hnew₁ ⊢
  have old : ∀ b o, s2.heap.get? b = some o → h₁.get? b = some o := fun b o e => hsb₁ b o (hH2 ▸ Heap.get?_push_of_some _ e)
  have hD : h₁.get? s2.heap.objs.size = some { cls := .type "list", data := .seq #[] } := hsb₁ _ _ (hH2 ▸ Heap.get?_push_size _ rfl)
  have I0 := comp_start (scope := scope) (N := N) (caps := caps) (fp := fp) (tk := s2.toks) I2 O f2 hob hns₁ hD old hnew₁
  have st0 : tn 0 h₁ := T.keep _ _ _ st2 fun b _ o e => old b o e
  have f0 : ∀ {pins' : List (Addr × Obj)} {H' : Hp}, (∀ p ∈ pins', p.1 = s2.heap.objs.size) → (∀ b ∈ fp, H' b = none) → ∀ b ∈ fp, FpOk (compCx X scope N (s2.heap.objs.size + 1) s2 H2 fp) pins' H' b := fun {pins' H'} hp hn b hb => by
    obtain ⟨_, k1, k2, k3, k4, k5⟩ := f2 b hb
    refine ⟨hn b hb, Nat.ne_of_lt (Nat.lt_succ_of_lt (hob b hb)), fun hm => ?_, .inl hb, fun x c e => by
      rcases cells_lk _ _ _ e with z | z
      · exact fun w => absurd (Nat.lt_of_lt_of_le (hob b hb) (Nat.le_trans (Nat.le_succ_of_le (Nat.le_succ _)) (w ▸ z.1))) (Nat.lt_irrefl _)
      · exact k4 x c (lookup_clOf z), fun p hm => ?_⟩
    · rcases List.mem_cons.mp (I2.stkSub b hm) with z | z
      · exact k1 z
      · exact k2 z
    · have q := hp p (by simpa [compCx] using hm)
      rw [q]
      exact Nat.ne_of_gt (hob b hb)
  have loop : codeAny (model X.prog X.w) X.A (.compLoop (.ListComp elt [⟨tg, iter, ifs, 0⟩] scope pos) 0 (.ref it) (.ref s2.heap.objs.size) (compCx X scope N (s2.heap.objs.size + 1) s2 H2 fp).env)
      (R (.ref s2.heap.objs.size) (s2.heap.objs.size + 1)) { s2 with heap := h₁ } := by
    refine comp_loop (fun n s' => ∃ i ys its k H', Inv (compCx X scope N (s2.heap.objs.size + 1) s2 H2 fp) [(s2.heap.objs.size, lstO its k)] (capS caps σ) H' s' ∧ Vals ys its ∧ ys.length ≤ sizeLine ∧ tn i s'.heap ∧ (∀ b ∈ fp, H' b = none) ∧ W i n ys H')
      ?_ m0 ⟨0, [], [], 0, H2, I0, .nil, Nat.zero_le _, st0, fun b hb => (f2 b hb).1, w0⟩
    rintro n s3 ⟨i, ys, its, k, H3, I3, v3, z3, st3, fr3, w3⟩
    have one : ∀ p ∈ [(s2.heap.objs.size, lstO its k)], p.1 = s2.heap.objs.size := fun p hp => by rw [List.mem_singleton.mp hp]
    rcases turn i n ys H3 w3 with ⟨stop, qn⟩ | ⟨go, M, hM, step⟩
    · refine thn (T.done (compCx X scope N (s2.heap.objs.size + 1) s2 H2 fp) rfl rfl rfl hc i _ s3 _ H3 _ I3 (f0 one fr3) st3 stop) fun r s4 ⟨hr, I4⟩ => ?_
      subst hr
      obtain ⟨E1, E2, E3⟩ := comp_end I2 f2 I4 v3 z3
      obtain ⟨m, hm, _⟩ := I4.loc
      refine fin _ _ s4 H3 ys m E1 hm E2 E3 (Nat.ne_of_gt (Nat.lt_succ_self _)) (Nat.le_succ_of_le I2.sz) (Nat.ne_of_gt (Nat.lt_succ_of_lt I2.lt)) (fun x c e => ?_) (fun p hp => ?_) qn
      · obtain ⟨v, o, ho, _⟩ := I2.cell x c e
        exact Nat.ne_of_lt (Nat.lt_succ_of_lt (Heap.lt_size ho))
      · exact Nat.ne_of_lt (Nat.lt_succ_of_lt (Heap.lt_size (I2.pin p hp).1))
    · refine thn (T.item (compCx X scope N (s2.heap.objs.size + 1) s2 H2 fp) rfl rfl rfl hc i _ s3 _ H3 _ I3 (f0 one fr3) st3 go) fun r s4 ⟨u, hr, h4⟩ => ?_
      subst hr
      refine thn h4 fun _ s5 ⟨x, H5, I5, r5, y5, st5, fr5⟩ => ?_
      have I5' := I5.pinned (f0 one fr5) (T.obj _ _ st5)
      refine thn (hg _ _ _ _ _ s5 _ H5 x u _ I5' r5 (gk σ _ x H5 _ (fun _ _ e => e) (step x H5 y5))) fun _ s6 ⟨σ6, H6, I6, kp, q6⟩ => ?_
      refine thn (ht _ _ _ _ _ s6 σ6 H6 _ I6 q6) fun ok s7 ⟨H7, I7, q7⟩ => ?_
      have back : ∀ {σ8 : St} {H8 : Hp} {s8 : Shared} {ys' : List V}, Inv (compCx X scope N (s2.heap.objs.size + 1) s2 H2 fp) ([(s2.heap.objs.size, lstO its k)] ++ pinsAt fp s5.heap) σ8 H8 s8 → M ys' H8 →
          tn (i + 1) s8.heap ∧ (∀ b ∈ fp, H8 b = none) ∧ ∃ m', m' < n ∧ W (i + 1) m' ys' H8 := fun {σ8 H8 s8 ys'} I8 m8 => by
        refine ⟨T.keep _ _ _ st5 fun b hb o e => (I8.pin (b, o) (List.mem_append_right _ (List.mem_append_right _ (mem_pinsAt hb e)))).1, fun b hb => ?_, hM _ _ m8⟩
        obtain ⟨o, e, d⟩ := T.obj _ _ st5 b hb
        exact (I8.pin (b, o) (List.mem_append_right _ (List.mem_append_right _ (mem_pinsAt hb e)))).2.1
      have hlen : (capS caps σ).length = σ6.length := by rw [I6.len]; exact I3.len
      cases ok with
      | false =>
        have q7' : M ys H7 := q7
        obtain ⟨b1, b2, m', hm', w'⟩ := back I7 q7'
        exact ⟨m', hm', i + 1, ys, its, k, H7, (I7.weak hlen kp).unpinned, v3, z3, b1, b2, w'⟩
      | true =>
        have q7' : te σ6 H7 fun y H4 => ys.length < sizeLine ∧ M (ys ++ [y]) H4 := q7
        refine thn (he _ _ _ _ _ s7 σ6 H7 _ I7 q7') fun v8 s8 ⟨y, H8, I8, r8, hlt, m8⟩ => ?_
        obtain ⟨b1, b2, m', hm', w'⟩ := back I8 m8
        have hpin := I8.pin (s2.heap.objs.size, lstO its k) (List.mem_append_right _ (List.mem_append_left _ (List.mem_singleton.mpr rfl)))
        obtain ⟨e8, hDn, hDL, hDf, _⟩ := hpin
        have hl8 := v3.length
        refine call_meets F.slot_list_append ⟨_, e8, rfl⟩ F.entry_list_append (F.args_list_append_2 _ _) (PySem.list_append s2.heap.objs.size its.toArray k v8 (by rw [List.size_toArray]; omega)) ⟨e8, ?_⟩
        have q := PySem.IsL.update e8 (·.push v8)
        rw [show its.toArray.push v8 = (its ++ [v8]).toArray by simp] at q
        obtain ⟨k', q⟩ : ∃ k', (s8.heap.update s2.heap.objs.size (Obj.mapSeq (·.push v8))).get? s2.heap.objs.size = some (lstO (its ++ [v8]) k') := ⟨_, q⟩
        have I9 : Inv (compCx X scope N (s2.heap.objs.size + 1) s2 H2 fp) [] (capS caps σ) H8 s8 := (I8.weak hlen kp).pins_of (pins' := []) fun p hp => nomatch hp
        have I10 := I9.turned (h' := s8.heap.update s2.heap.objs.size (Obj.mapSeq (·.push v8))) (t' := s8.toks) (it := s2.heap.objs.size) (fun b o hb e => (Heap.get?_update_other s8.heap _ (Ne.symm hb)).trans e) hDn hDL (.inr (Nat.le_refl _))
          (fun x c e z => by
            rcases cells_lk _ _ _ e with w | w
            · exact absurd (Nat.lt_of_lt_of_le (Nat.lt_succ_of_lt (Nat.lt_succ_self _)) (z ▸ w.1)) (Nat.lt_irrefl _)
            · exact absurd (cellLt x c (lookup_clOf w)) (by rw [z]; exact Nat.lt_irrefl _)) (fun p hp => nomatch hp)
        refine ⟨m', hm', i + 1, ys ++ [y], its ++ [v8], k', H8, I10.pins_of fun p hp => ?_, v3.append (.cons r8 .nil), by rw [List.length_append, List.length_singleton]; omega, T.keep _ _ _ b1 fun b hb o e => ?_, b2, w'⟩
        · rw [List.mem_singleton.mp hp]
          exact ⟨q, hDn, hDL, hDf, fun v z => by cases z⟩
        · exact (Heap.get?_update_other s8.heap _ (Nat.ne_of_gt (hob b hb))).trans e
  exact codeAny_compStart_list loop (T.self _ _ _ _ _ st0 loop)
/-- [elt for tg in iter if ..] as a value -/
theorem pe_comp {elt tg iter : Expr} {ifs : List Expr} {pos : Pos} {wi : TI} {g : TG} {tt : TT} {te : TE} (hc : X.calm = true) (O : CompOk scope X.env.scope X.N N caps) (gk : GK caps g) (hi : PI X tg iter wi)
    (hg : ∀ C s H fp, PG (compCx X scope N C s H fp) tg g) (ht : ∀ C s H fp, PTs (compCx X scope N C s H fp) ifs tt) (he : ∀ C s H fp, PE (compCx X scope N C s H fp) elt te)
    (hs : ∀ x, foldedSetIterable iter X.env x = pure x := by intro _; rfl) : PE X (.ListComp elt [⟨tg, iter, ifs, 0⟩] scope pos) (tComp caps wi g tt te) := by
  intro pins s σ H Q I h
  rw [eval_ListComp]
  have hcl : closureFor scope X.env = pure (clOf scope X.env) := clos_ok fun x hx hf => by
    rcases (O.free x hx hf).2 with q | q
    · exact I.ok.has x.1 (.inl q)
    · exact I.ok.has x.1 (.inr q)
  refine wpAny_comprehension_free (use := none) rfl hs hcl O.kind O.loc (thn (hi pins s σ H _ I h) fun v s1 h1 => thn h1 fun itv s2 h2 => ?_)
  refine comp_block (R := fun acc C => compPost (model X.prog X.w) X.A X.xe none (EP X pins σ Q) acc C) hc O gk hg ht he h2 ?_
  intro D C s' H' ys m E1 hm E2 E3 hCD hC0 hCL hCc hCp qq
  refine ⟨m, hm, fun h' hs' => ?_⟩
  have I9 := E1.turned (h' := h') (t' := s'.toks) (it := C) (fun b o hb e => hs'.extBut b o hb e) (by rw [upd_ne hCD]; exact E3) hCL (.inr hC0) hCc hCp
  exact ⟨.ref D, _, I9, rfl, qq D E2⟩
/-- name = [..] where the store stands within the comprehension (a plain local, on one row) -/
def tSetComp (i : Nat) (caps : List (Option Nat)) (wi : TI) (g : TG) (tt : TT) (te : TE) : TS := fun D σ H =>
  wi σ H (tCompK caps g tt te σ fun ys H' => ∀ d, H' d = none → D.nx (σ.set i (some (.ref d))) (upd H' d (.lst ys)))
theorem ps_setComp {i : Nat} {y : Str} {py spos : Pos} {elt tg iter : Expr} {ifs : List Expr} {pos : Pos} {wi : TI} {g : TG} {tt : TT} {te : TE} (hN : X.N.Nodup) (hy : X.N[i]? = some y) (hl : X.env.scope.names.lookup y = some .local)
    (hsw : swapsWith (.ListComp elt [⟨tg, iter, ifs, 0⟩] scope pos) (some (.Name y py)) spos.line X.env = pure true)
    (hc : X.calm = true) (O : CompOk scope X.env.scope X.N N caps) (gk : GK caps g) (hi : PI X tg iter wi)
    (hg : ∀ C s H fp, PG (compCx X scope N C s H fp) tg g) (ht : ∀ C s H fp, PTs (compCx X scope N C s H fp) ifs tt) (he : ∀ C s H fp, PE (compCx X scope N C s H fp) elt te)
    (hs : ∀ x, foldedSetIterable iter X.env x = pure x := by intro _; rfl) : PS X (.Assign [.Name y py] (.ListComp elt [⟨tg, iter, ifs, 0⟩] scope pos) spos) (tSetComp i caps wi g tt te) := by
  intro pins s σ H D I h
  rw [exec_Assign_Name_used _ _ _ _ hsw]
  refine wpAny_bind (wpAny_standAt (wpAny_bind ?_))
  show wpAny _ X.A (do let _ ← comprehension (.ListComp elt [⟨tg, iter, ifs, 0⟩] scope pos) scope X.env _ (newList []) false (eval iter X.env) (some (assign (.Name y py) X.env))) _ _ s
  have hcl : closureFor scope X.env = pure (clOf scope X.env) := clos_ok fun x hx hf => by
    rcases (O.free x hx hf).2 with q | q
    · exact I.ok.has x.1 (.inl q)
    · exact I.ok.has x.1 (.inr q)
  refine wpAny_bind (thn (wpAny_comprehension_free (use := some (assign (.Name y py) X.env)) (Q := fun _ s' => SP X pins D .next s') rfl hs hcl O.kind O.loc
    (thn (hi pins s σ H _ I h) fun v s1 h1 => thn h1 fun itv s2 h2 => ?_)) fun _ s' hq => wpAny_pure (wpAny_pure hq))
  refine comp_block (R := fun acc C => compPost (model X.prog X.w) X.A X.xe (some (assign (.Name y py) X.env)) (fun _ s' => SP X pins D .next s') acc C) hc O gk hg ht he h2 ?_
  intro d C s' H' ys m E1 hm E2 E3 hCD hC0 hCL hCc hCp qq
  show wpAny _ X.A (assign (.Name y py) X.env (.ref d)) _ _ _
  refine wpAny_assign_Name (store_ok2 (v := .ref d) E1 hN hy (.inl hl) rfl (fun s'' I'' ⟨a, hs'', ha⟩ => ?_) (.inr hl))
  have hCa : C ≠ a := by
    rcases ha with z | z
    · rw [z]; exact hCL
    · exact fun q => hCc y a z q.symm
  refine ⟨m, hm.sameBut hs'' hCa, fun h' hs' => ?_⟩
  have I9 := I''.turned (h' := h') (t' := s''.toks) (it := C) (fun b o hb e => hs'.extBut b o hb e) (by rw [upd_ne hCD]; exact E3) hCL (.inr hC0) hCc hCp
  exact ⟨_, _, I9, qq d E2⟩
end
end L2

namespace L2
open PySem PySem.Spec PyProof.Rows

/-! ### defs that are done, by their names -/
structure Dn (P : Program) (w : World) (K : PySem.W.Frag) (mg : Str → Option Value) (base : Heap) (CX : CXT) (k : Nat) (x : Str) (ps : List Str) (sp : Sp) : Prop where
  ex : ∃ f fd, FnOk P w K mg base CX k f fd ps sp ∧ mg x = some (.ref f) ∧ PySem.W.keepIn K (.ref f) = true ∧ Binds K fd ps []
theorem pe_fn {X : Cx} {CX : CXT} {k j : Nat} {x : Str} {ps : List Str} {sp : Sp} {E : XK} {p pos : Pos} {e : Expr} {es : List Expr} {t : TA} (D : Dn X.prog X.w X.K X.mg X.base CX k x ps sp) (hr : Room j X.A) (hk : k ≤ j) (hg : Gl X x) (hx : Passes CX X E)
    (ha : PA X (e :: es) t) (hdb : (x == ("__debug__" : Str)) = false := by decide) (he : starEach (e :: es) X.env = (false, eval e X.env) :: starEach es X.env := by rfl) (hpl : (backTo pos (starEach es X.env)).any (·.1) = false := by rfl) :
    PE X (.Call (.Name x p) (e :: es) [] pos) (tCall sp [] E t) := by
  obtain ⟨f, fd, F, m, kp, b⟩ := D.ex
  exact pe_call F (hr.mono hk) hg m kp b .nil hx ha hdb he hpl
/-- a def of the text, as it stands behind the top -/
def Def (K : PySem.W.Frag) (mg : Str → Option Value) (x : Str) (st : Stmt) : Prop := ∃ f fd, Fun K x x st f fd ∧ mg x = some (.ref f)
section
variable {P : Program} {w : World} {K : PySem.W.Frag} {mg : Str → Option Value} {base : Heap}
theorem Def.ok {x : Str} {st : Stmt} {N ps : List Str} {k : Nat} {sp : Sp} (F : Def K mg x st) (S : FnScope N ps (defScope st)) (len : ∀ vs H Q E, sp vs H Q E → vs.length = ps.length)
    (hb : ∀ (kV doc pm : Value) (an : Option Addr) (cdv ct : Value) (us : List Value), us.length = ps.length → bindArgs (PySem.W.fnOf x x (defArgs st) (defBody st) (defScope st) .none kV doc pm an cdv ct) ⟨us, []⟩ = pure (ps.zip us))
    (hbody : ∀ (f : Addr) (cdv : Value) (A : Around) (outer : List Env) (s : Shared) (H : Hp) (vs : List V) (Q : VK) (E : XK), Room k (A.deeper (envOfC x (defScope st) s.heap.objs.size f cdv)) → sp vs H Q E →
      ∃ t, PSs (cxOf CX0 P w K mg base N x (defScope st) f cdv A outer s H E).nox (defBody st) t ∧ t { nx := fun _ H' => Q .non H', rt := Q } (start N vs) H) : Dn P w K mg base CX0 (k + 1) x ps sp := by
  obtain ⟨f, fd, F, m⟩ := F
  exact ⟨f, fd, F.ok S len (hbody f), m, F.kp, F.binds hb⟩
/-- a promise of nothing, to begin an induction over the calls -/
theorem Def.nothing {x : Str} {st : Stmt} {ps : List Str} (F : Def K mg x st)
    (hb : ∀ (kV doc pm : Value) (an : Option Addr) (cdv ct : Value) (us : List Value), us.length = ps.length → bindArgs (PySem.W.fnOf x x (defArgs st) (defBody st) (defScope st) .none kV doc pm an cdv ct) ⟨us, []⟩ = pure (ps.zip us)) :
    Dn P w K mg base CX0 0 x ps (fun _ _ _ _ => False) := by
  obtain ⟨f, fd, F, m⟩ := F
  exact ⟨f, fd, ⟨fun _ _ _ _ h => h.elim, fun _ _ _ _ _ _ _ _ _ _ _ _ _ h => h.elim⟩, m, F.kp, F.binds hb⟩
theorem Dn.imp {CX : CXT} {k : Nat} {x : Str} {ps : List Str} {sp sp' : Sp} (D : Dn P w K mg base CX k x ps sp) (h : ∀ vs H Q E, sp' vs H Q E → sp vs H Q E) : Dn P w K mg base CX k x ps sp' := by
  obtain ⟨f, fd, F, r⟩ := D.ex
  exact ⟨f, fd, F.imp h, r⟩
theorem Dn.mono {CX : CXT} {j k : Nat} {x : Str} {ps : List Str} {sp : Sp} (D : Dn P w K mg base CX j x ps sp) (h : j ≤ k) : Dn P w K mg base CX k x ps sp := by
  obtain ⟨f, fd, F, r⟩ := D.ex
  exact ⟨f, fd, F.mono h, r⟩
end
/-- a global that is a tuple of the module -/
def GTup (K : PySem.W.Frag) (mg : Str → Option Value) (x : Str) (xs : List V) : Prop := ∃ a, mg x = some (.ref a) ∧ ∀ H, SqT K H a xs
def tGTup (K : PySem.W.Frag) (xs : List V) : TE := fun _ H Q => ∀ a, (∀ H, SqT K H a xs) → Q (.ref a) H
theorem iteDF {c A B : Prop} [Decidable c] (hc : ¬ c) (h : B) : if decide c = true then A else B := by rw [if_neg (by simpa using hc)]; exact h
theorem iteDT {c A B : Prop} [Decidable c] (hc : c) (h : A) : if decide c = true then A else B := by rw [if_pos (by simpa using hc)]; exact h
theorem iteD2 {c A B : Prop} [Decidable c] (h1 : c → A) (h2 : ¬ c → B) : if decide c = true then A else B := by
  by_cases h : c
  · exact iteDT h (h1 h)
  · exact iteDF h (h2 h)
theorem iteN2 {c A B : Prop} [Decidable c] (h1 : ¬ c → A) (h2 : c → B) : if (!decide c) = true then A else B := by
  by_cases h : c
  · rw [if_neg (by simpa using h)]; exact h2 h
  · rw [if_pos (by simpa using h)]; exact h1 h
theorem Veq {i j : Int} (h : V.int i = V.int j) : i = j := V.int.inj h

/-! ### numbers of some size -/
theorem intBits_le {k : Int} {m : Nat} (h : k.natAbs < 2 ^ m) : Builtin.Int.intBits k ≤ m := by
  unfold Builtin.Int.intBits
  split
  · exact Nat.zero_le _
  · rcases Nat.eq_zero_or_pos k.natAbs with h0 | hp
    · rename_i hz
      exact absurd (by simpa using h0) (by simpa using hz)
    · have : k.natAbs.log2 < m := (Nat.log2_lt (Nat.ne_of_gt hp)).mpr h
      omega
theorem mulOk {i j : Int} {m n : Nat} (hi : i.natAbs < 2 ^ m) (hj : j.natAbs < 2 ^ n) (h : m + n ≤ 134217728) : IntMulOk i j := IntMulOk.of_le (intBits_le hi) (intBits_le hj) h
section
variable {X : Cx}
theorem op_mulB : OpR X (binaryOp .Mult) (rI IntMulOk fun i j => .int (i * j)) := opI fun _ _ _ _ _ _ _ c h => mul_int h c
theorem op_divB : OpR X (binaryOp .FloorDiv) (rI (fun _ j => j ≠ 0 ∧ j.natAbs < 2 ^ 9000) fun i j => .int (i.fdiv j)) := opI fun i j _ _ _ _ _ c h =>
  floordiv_int c.1 h (Or.inl (PyProof.noPylong_of_log2 ((Nat.log2_lt (by have := c.1; omega)).mpr c.2)))

/-- // by a positive divisor of any size that fits -/
theorem op_divP : OpR X (binaryOp .FloorDiv) (rI (fun _ j => 0 < j ∧ j.natAbs < 2 ^ 9000) fun i j => .int (i / j)) := opI fun i j _ _ _ _ _ c h =>
  floordiv_int (by have := c.1; omega) (by rw [Int.fdiv_eq_ediv_of_nonneg _ (by have := c.1; omega)]; exact h) (Or.inl (PyProof.noPylong_of_log2 ((Nat.log2_lt (by have := c.1; omega)).mpr c.2)))
theorem c9 {n : Int} (h0 : 0 < n) (h : n.natAbs < 2 ^ 64) : 0 < n ∧ n.natAbs < 2 ^ 9000 := ⟨h0, Nat.lt_of_lt_of_le h (Nat.pow_le_pow_right (by decide) (by decide))⟩
theorem mulL {i j : Int} (h : i.natAbs < 2 ^ 64) : IntMulOk i j := IntMulOk.of_left (intBits_le h)
theorem mulR {i j : Int} (h : j.natAbs < 2 ^ 64) : IntMulOk i j := IntMulOk.of_right (intBits_le h)
theorem pe_ty {x : Str} {T : String} {pos : Pos} (hg : Gl X x) (hm : X.mg x = none) (hv : bootBuiltins x = some (.type T)) (hn : x ≠ "__name__" := by decide) (hd : (x == ("__debug__" : Str)) = false := by decide) : PE X (.Name x pos) (tC (.ty T)) := pe_bltn hg hm hv rfl hn hd

/-! ### list.insert -/
def rInsert : V → List V → Hp → VK → Prop := fun x vs H Q => ∃ l xs i y, x = .ref l ∧ vs = [.int i, y] ∧ H l = some (.lst xs) ∧ 0 ≤ i ∧ i ≤ (xs.length : Int) ∧ xs.length < sizeLine ∧ Q .non (upd H l (.lst (xs.take i.toNat ++ y :: xs.drop i.toNat)))
/-! ### o[i] of a list, as op= reads it -/
def rGetL (K : PySem.W.Frag) : V → V → Hp → VK → Prop := fun o i H Q => ∃ p xs k v, o = .ref p ∧ i = .int k ∧ SqL K H p xs ∧ 0 ≤ k ∧ xs[k.toNat]? = some v ∧ Q v H
theorem PIp.of {op : Operator} {r : R2} (h : OpR X (inplaceOp op) r) : PIp X op r := h

/-! ### isinstance -/
/-- the sort of a value -/
def tyOf (K : PySem.W.Frag) (H : Hp) (x : V) (t : String) : Prop := match x with
  | .non => t = "NoneType"
  | .bl _ => t = "bool"
  | .int _ => t = "int"
  | .str _ => t = "str"
  | .ref a => (t = "list" ∧ ∃ xs, SqL K H a xs) ∨ (t = "tuple" ∧ ∃ xs, SqT K H a xs)
  | _ => False
/-- does a value of sort t count as a T -/
def isTy (t T : String) : Bool := t == T || (t == "bool" && T == "int")
def Sorts : List String := ["NoneType", "bool", "int", "str", "list", "tuple"]
def Kinds : List String := ["bool", "int", "str", "list", "tuple"]
theorem isinst_ty {pins : List (Addr × Obj)} {σ : St} {H : Hp} {s : Shared} {A : Around} {E : Value → Shared → Prop} {Q : Value → Shared → Prop} {c : Value} {b : Bool} {x : V} {u : Value} {t : String} (I : Inv X pins σ H s) (rx : RelV x u) (ty : tyOf X.K H x t)
    (e : PySem.W.kitOne X.K (.type t) c = some b) (h : ∀ tk, Q (.bool b) { s with toks := tk }) : wpAny (model X.prog X.w) A (call (.builtin "isinstance") [u, c]) Q E s := by
  cases x with
  | non => cases (show u = Value.none from rx); cases (show t = "NoneType" from ty); exact PySem.W.kia_one PySem.W.kitx_none I.kIn True.intro e (fun z => nomatch z) h
  | bl y => cases (show u = Value.bool y from rx); cases (show t = "bool" from ty); exact PySem.W.kia_one PySem.W.kitx_bool I.kIn True.intro e (fun z => nomatch z) h
  | int i => obtain ⟨tk, q⟩ := (show ∃ t, u = Value.int i t from rx); cases q; cases (show t = "int" from ty); exact PySem.W.kia_one PySem.W.kitx_int I.kIn True.intro e (fun z => nomatch z) h
  | str y => obtain ⟨tk, q⟩ := (show ∃ t, u = Value.str y t from rx); cases q; cases (show t = "str" from ty); exact PySem.W.kia_one PySem.W.kitx_str I.kIn True.intro e (fun z => nomatch z) h
  | ref a =>
    cases (show u = Value.ref a from rx)
    rcases ty with ⟨rfl, xs, hq⟩ | ⟨rfl, xs, hq⟩
    · obtain ⟨its, _, ⟨o, n, h1, h2, _⟩, _⟩ := I.list hq
      exact PySem.W.kia_one PySem.W.kitx_list I.kIn ⟨o, h1, h2⟩ e (fun z => nomatch z) h
    · obtain ⟨its, _, ⟨o, h1, h2, _⟩, _⟩ := I.tuple hq
      exact PySem.W.kia_one PySem.W.kitx_tuple I.kIn ⟨o, h1, h2⟩ e (fun z => nomatch z) h
  | byt _ => exact ty.elim
  | flt _ => exact ty.elim
  | ty _ => exact ty.elim
theorem tyOf_sort {K : PySem.W.Frag} {H : Hp} {x : V} {t : String} (h : tyOf K H x t) : t ∈ Sorts := by
  cases x with
  | non => cases (show t = "NoneType" from h); decide
  | bl _ => cases (show t = "bool" from h); decide
  | int _ => cases (show t = "int" from h); decide
  | str _ => cases (show t = "str" from h); decide
  | ref a => rcases h with ⟨rfl, _⟩ | ⟨rfl, _⟩ <;> decide
  | byt _ => exact h.elim
  | flt _ => exact h.elim
  | ty _ => exact h.elim
theorem kit_tT {K : PySem.W.Frag} {t T : String} (ht : t ∈ Sorts) (hT : T ∈ Kinds) : PySem.W.kitOne K (.type t) (.type T) = some (isTy t T) := by
  simp only [Sorts, Kinds, List.mem_cons, List.not_mem_nil, or_false] at ht hT
  rcases ht with rfl | rfl | rfl | rfl | rfl | rfl <;> rcases hT with rfl | rfl | rfl | rfl | rfl <;> (unfold PySem.W.kitOne PySem.W.kitCls PySem.W.subIn; kernel_rfl)
theorem call_isT : CallR X (.builtin "isinstance") (fun xs H Q => ∃ x T t, xs = [x, .ty T] ∧ T ∈ Kinds ∧ tyOf X.K H x t ∧ Q (.bl (isTy t T)) H) := by
  intro pins s σ H xs us Q I r h
  obtain ⟨x, T, t, rfl, hT, ty, q⟩ := h
  obtain ⟨u, w', rfl, rx, rT⟩ := vals2 r
  cases (show w' = Value.type T from rT)
  exact isinst_ty I rx ty (kit_tT (tyOf_sort ty) hT) fun tk => ⟨.bl _, H, I.tok tk, rfl, q⟩
end
end L2

namespace L2
open PySem PySem.Spec PyProof.Rows
/-! ### fractions, lists of whole numbers, as they lie in the heap -/
theorem Same.tup {K : PySem.W.Frag} {H H' : Hp} {a : Addr} {xs : List V} (e : Same H H') (h : SqT K H a xs) : SqT K H' a xs := by
  rcases h with (h | ⟨o, h⟩) | h
  · exact .inl (.inl (e _ _ h))
  · exact .inl (.inr ⟨o, e _ _ h⟩)
  · exact .inr h
theorem same_new {H : Hp} {p : Addr} (h : H p = none) (o : HO) : Same H (upd H p o) := fun b u q => by rw [upd_ne (ne_of_none q h)]; exact q
/-- the object at p, which stood not ahead, is changed: what stood ahead is as it was -/
theorem Same.over {H H' : Hp} {p : Addr} (e : Same H H') (h : H p = none) (o : HO) : Same H (upd H' p o) := fun b u q => by
  rw [upd_ne (ne_of_none q h)]; exact e b u q
def IsF (K : PySem.W.Frag) (H : Hp) (v : V) (p : Int × Int) : Prop := ∃ a, v = .ref a ∧ SqT K H a [.int p.1, .int p.2]
theorem IsF.mono {K : PySem.W.Frag} {H H' : Hp} {v : V} {p : Int × Int} (e : Same H H') (h : IsF K H v p) : IsF K H' v p := by
  obtain ⟨a, rfl, q⟩ := h
  exact ⟨a, rfl, e.tup q⟩
/-- tuples stay when a list is changed -/
theorem tup_over {K : PySem.W.Frag} {H : Hp} {a p : Addr} {xs ys zs : List V} (h : SqT K H a xs) (hp : H p = some (.lst ys)) : SqT K (upd H p (.lst zs)) a xs := by
  rcases h with (h | ⟨o, h⟩) | h
  · exact .inl (.inl (by rw [upd_ne (ne_of h hp (by intro z; cases z))]; exact h))
  · exact .inl (.inr ⟨o, by rw [upd_ne (ne_of h hp (by intro z; cases z))]; exact h⟩)
  · exact .inr h
theorem IsF.over {K : PySem.W.Frag} {H : Hp} {v : V} {p : Addr} {ys zs : List V} {q : Int × Int} (h : IsF K H v q) (hp : H p = some (.lst ys)) : IsF K (upd H p (.lst zs)) v q := by
  obtain ⟨a, rfl, h⟩ := h
  exact ⟨a, rfl, tup_over h hp⟩
theorem Paired.get {α β : Type} {F : α → β → Prop} : ∀ {xs : List α} {ys : List β} {i : Nat} {y : β}, Paired F xs ys → ys[i]? = some y → ∃ x, xs[i]? = some x ∧ F x y
  | _, _, _, _, .nil, e => by simp at e
  | _, _, 0, _, .cons r _, e => by simp at e; subst e; exact ⟨_, rfl, r⟩
  | _, _, i + 1, y, .cons _ t, e => by
    obtain ⟨x, h1, h2⟩ := Paired.get (i := i) t (by simpa using e)
    exact ⟨x, by simpa using h1, h2⟩
theorem Paired.get' {α β : Type} {F : α → β → Prop} : ∀ {xs : List α} {ys : List β} {i : Nat} {x : α}, Paired F xs ys → xs[i]? = some x → ∃ y, ys[i]? = some y ∧ F x y
  | _, _, _, _, .nil, e => by simp at e
  | _, _, 0, _, .cons r _, e => by simp at e; subst e; exact ⟨_, rfl, r⟩
  | _, _, i + 1, y, .cons _ t, e => by
    obtain ⟨x, h1, h2⟩ := Paired.get' (i := i) t (by simpa using e)
    exact ⟨x, by simpa using h1, h2⟩
theorem Paired.app {α β : Type} {F : α → β → Prop} : ∀ {xs xs' : List α} {ys ys' : List β}, Paired F xs ys → Paired F xs' ys' → Paired F (xs ++ xs') (ys ++ ys')
  | _, _, _, _, .nil, t => t
  | _, _, _, _, .cons r s, t => .cons r (Paired.app s t)
theorem atI_ok {α : Type} {xs : List α} {i : Int} {v : α} (h0 : 0 ≤ i) (h : xs[i.toNat]? = some v) : atI xs i = some v := by
  have e : i = ((i.toNat : Nat) : Int) := by omega
  rw [e]; exact atI_nat h
theorem map_int_get {ns : List Int} {i : Nat} (h : i < ns.length) : (ns.map V.int)[i]? = some (.int (ns.getD i 0)) := by
  simp [h]
theorem while_of {c : TT} {tb : TS} {D : Ends} {σ : St} {H : Hp} (Pv : Nat → St → Hp → Prop) (h0 : ∃ m, Pv m σ H)
    (hs : ∀ m σ H, Pv m σ H → c σ H fun b H1 => if b = true then tb { D with nx := fun σ' H' => ∃ m', m' < m ∧ Pv m' σ' H', ct := fun σ' H' => ∃ m', m' < m ∧ Pv m' σ' H', bk := D.nx } σ H1 else D.nx σ H1)
    (mono : ∀ σ H Q Q', (∀ b H1, Q b H1 → Q' b H1) → c σ H Q → c σ H Q') : tWhile c tb D σ H := by
  refine ⟨Pv, h0, fun m σ H p => ?_⟩
  refine mono σ H _ _ (fun b H1 q => ?_) (hs m σ H p)
  cases b with
  | true => exact ⟨_, fun σ' H' z => z, q⟩
  | false => exact q
end L2

namespace FQ
/-! ### fractions in lowest terms -/
structure Low (p : Int × Int) : Prop where
  pos : 0 < p.2
  cop : Int.gcd p.1 p.2 = 1
/-- the pair in lowest terms -/
def red (t b : Int) : Int × Int := (t * b.sign / (Int.gcd t b : Int), b * b.sign / (Int.gcd t b : Int))
theorem gcd_turn {a b : Int} : Int.gcd b (a % b) = Int.gcd a b := by
  have h := Int.gcd_add_mul_left_right b (a % b) (a / b)
  rw [Int.emod_add_mul_ediv] at h
  rw [← h, Int.gcd_comm]
theorem dvd_of_cop {k m n : Int} (h : Int.gcd k m = 1) (d : k ∣ m * n) : k ∣ n := by
  have h1 : k.natAbs ∣ m.natAbs * n.natAbs := by
    have := Int.natAbs_dvd_natAbs.mpr d
    rwa [Int.natAbs_mul] at this
  exact Int.natAbs_dvd_natAbs.mp (Nat.Coprime.dvd_of_dvd_mul_left h h1)
theorem red_spec {t b : Int} (hb : b ≠ 0) : ∃ u v : Int, t * b.sign = u * (Int.gcd t b : Int) ∧ b * b.sign = v * (Int.gcd t b : Int) ∧ red t b = (u, v) ∧ 0 < v ∧ Int.gcd u v = 1 := by
  have hg : 0 < Int.gcd t b := Int.gcd_pos_of_ne_zero_right _ hb
  have hg' : (0 : Int) < (Int.gcd t b : Int) := by omega
  have d1 : (Int.gcd t b : Int) ∣ t := Int.gcd_dvd_left ..
  have d2 : (Int.gcd t b : Int) ∣ b := Int.gcd_dvd_right ..
  obtain ⟨u, hu⟩ := d1
  obtain ⟨v, hv⟩ := d2
  refine ⟨u * b.sign, v * b.sign, ?_, ?_, ?_, ?_, ?_⟩
  · rw [Int.mul_right_comm, Int.mul_comm u, ← hu]
  · rw [Int.mul_right_comm, Int.mul_comm v, ← hv]
  · unfold red
    congr 1
    · apply Int.ediv_eq_of_eq_mul_left (by omega)
      rw [Int.mul_right_comm, Int.mul_comm u, ← hu]
    · apply Int.ediv_eq_of_eq_mul_left (by omega)
      rw [Int.mul_right_comm, Int.mul_comm v, ← hv]
  · have h1 : 0 < b * b.sign := by rw [Int.mul_sign_self]; omega
    have h2 : b * b.sign = (v * b.sign) * (Int.gcd t b : Int) := by rw [Int.mul_right_comm, Int.mul_comm v, ← hv]
    rw [h2] at h1
    rcases Int.lt_or_le 0 (v * b.sign) with h | h
    · exact h
    · exact absurd h1 (Int.not_lt.mpr (Int.mul_nonpos_of_nonpos_of_nonneg h (Int.le_of_lt hg')))
  · have hs : b.sign = 1 ∨ b.sign = -1 := by
      rcases Int.lt_or_gt_of_ne hb with h | h
      · exact .inr (Int.sign_eq_neg_one_of_neg h)
      · exact .inl (Int.sign_eq_one_of_pos h)
    have hc : Int.gcd u v = 1 := by
      have e := Int.gcd_mul_left (Int.gcd t b : Int) u v
      rw [← hu, ← hv, Int.natAbs_natCast] at e
      have : Int.gcd t b * 1 = Int.gcd t b * Int.gcd u v := by rw [Nat.mul_one]; exact e
      exact (Nat.eq_of_mul_eq_mul_left hg this).symm
    rcases hs with h | h <;> rw [h] <;> simp [hc]
theorem red_low {t b : Int} (hb : b ≠ 0) : Low (red t b) := by
  obtain ⟨u, v, _, _, e, h1, h2⟩ := red_spec (t := t) hb
  rw [e]
  exact ⟨h1, h2⟩
theorem red_worth {t b : Int} (hb : b ≠ 0) : (red t b).1 * b = t * (red t b).2 := by
  obtain ⟨u, v, h1, h2, e, _, _⟩ := red_spec (t := t) hb
  rw [e]
  have hg : (Int.gcd t b : Int) ≠ 0 := by have := Int.gcd_pos_of_ne_zero_right t hb; omega
  have hs : b.sign ≠ 0 := by simpa using hb
  have key : (u * b) * ((Int.gcd t b : Int) * b.sign) = (t * v) * ((Int.gcd t b : Int) * b.sign) := by
    calc (u * b) * ((Int.gcd t b : Int) * b.sign) = (u * (Int.gcd t b : Int)) * (b * b.sign) := by ac_rfl
      _ = (t * b.sign) * (v * (Int.gcd t b : Int)) := by rw [← h1, ← h2]
      _ = (t * v) * ((Int.gcd t b : Int) * b.sign) := by ac_rfl
  exact Int.eq_of_mul_eq_mul_right (Int.mul_ne_zero hg hs) key
theorem low_unique {p q : Int × Int} (hp : Low p) (hq : Low q) (h : p.1 * q.2 = q.1 * p.2) : p = q := by
  obtain ⟨a, b⟩ := p
  obtain ⟨c, d⟩ := q
  obtain ⟨hb, hab⟩ := hp
  obtain ⟨hd, hcd⟩ := hq
  dsimp only at *
  have d1 : b ∣ d := by
    have : b ∣ a * d := ⟨c, by rw [h, Int.mul_comm]⟩
    exact dvd_of_cop (by rw [Int.gcd_comm]; exact hab) this
  have d2 : d ∣ b := by
    have : d ∣ c * b := ⟨a, by rw [← h, Int.mul_comm]⟩
    exact dvd_of_cop (by rw [Int.gcd_comm]; exact hcd) this
  have e : b = d := Int.dvd_antisymm (by omega) (by omega) d1 d2
  subst e
  have : a = c := Int.eq_of_mul_eq_mul_right (by omega) h
  rw [this]
theorem red_eq {t b t' b' : Int} (hb : b ≠ 0) (hb' : b' ≠ 0) (h : t * b' = t' * b) : red t b = red t' b' := by
  refine low_unique (red_low hb) (red_low hb') ?_
  have e1 := red_worth (t := t) hb
  have e2 := red_worth (t := t') hb'
  have key : ((red t b).1 * (red t' b').2) * (b * b') = ((red t' b').1 * (red t b).2) * (b * b') := by
    calc ((red t b).1 * (red t' b').2) * (b * b') = ((red t b).1 * b) * ((red t' b').2 * b') := by ac_rfl
      _ = (t * (red t b).2) * ((red t' b').2 * b') := by rw [e1]
      _ = (t * b') * ((red t b).2 * (red t' b').2) := by ac_rfl
      _ = (t' * b) * ((red t b).2 * (red t' b').2) := by rw [h]
      _ = (t' * (red t' b').2) * ((red t b).2 * b) := by ac_rfl
      _ = ((red t' b').1 * b') * ((red t b).2 * b) := by rw [e2]
      _ = ((red t' b').1 * (red t b).2) * (b * b') := by ac_rfl
  exact Int.eq_of_mul_eq_mul_right (Int.mul_ne_zero hb hb') key
theorem red_eq_iff {t b : Int} (hb : b ≠ 0) {p : Int × Int} (hp : Low p) (h : p.1 * b = t * p.2) : red t b = p := by
  refine low_unique (red_low hb) hp ?_
  have e1 := red_worth (t := t) hb
  have key : ((red t b).1 * p.2) * b = (p.1 * (red t b).2) * b := by
    calc ((red t b).1 * p.2) * b = ((red t b).1 * b) * p.2 := by ac_rfl
      _ = (t * p.2) * (red t b).2 := by rw [e1]; ac_rfl
      _ = (p.1 * (red t b).2) * b := by rw [← h]; ac_rfl
  exact Int.eq_of_mul_eq_mul_right hb key
theorem red_small {t b : Int} (hb : b ≠ 0) : (red t b).1.natAbs ≤ t.natAbs ∧ (red t b).2.natAbs ≤ b.natAbs := by
  obtain ⟨u, v, h1, h2, e, _, _⟩ := red_spec (t := t) hb
  rw [e]
  have hg : 1 ≤ Int.gcd t b := Int.gcd_pos_of_ne_zero_right _ hb
  have hs : b.sign.natAbs = 1 := by
    rcases Int.lt_or_gt_of_ne hb with h | h
    · rw [Int.sign_eq_neg_one_of_neg h]; rfl
    · rw [Int.sign_eq_one_of_pos h]; rfl
  have k1 := congrArg Int.natAbs h1
  have k2 := congrArg Int.natAbs h2
  rw [Int.natAbs_mul, Int.natAbs_mul, hs, Nat.mul_one, Int.natAbs_natCast] at k1 k2
  constructor
  · show u.natAbs ≤ _
    rw [k1]
    exact Nat.le_mul_of_pos_right _ hg
  · show v.natAbs ≤ _
    rw [k2]
    exact Nat.le_mul_of_pos_right _ hg
/-- what the program divides by: the greatest divisor with the bottom's sign -/
theorem fdiv_red {t b : Int} (hb : b ≠ 0) : ((t.fdiv ((Int.gcd t b : Int) * b.sign), b.fdiv ((Int.gcd t b : Int) * b.sign)) : Int × Int) = red t b := by
  obtain ⟨u, v, h1, h2, e, _, _⟩ := red_spec (t := t) hb
  rw [e]
  have hg : (Int.gcd t b : Int) ≠ 0 := by have := Int.gcd_pos_of_ne_zero_right t hb; omega
  have hs : b.sign ≠ 0 := by simpa using hb
  have hs2 : b.sign * b.sign = 1 := by
    rcases Int.lt_or_gt_of_ne hb with h | h
    · rw [Int.sign_eq_neg_one_of_neg h]; rfl
    · rw [Int.sign_eq_one_of_pos h]; rfl
  have k1 : t = u * ((Int.gcd t b : Int) * b.sign) := by
    calc t = t * (b.sign * b.sign) := by rw [hs2, Int.mul_one]
      _ = (t * b.sign) * b.sign := by ac_rfl
      _ = u * ((Int.gcd t b : Int) * b.sign) := by rw [h1]; ac_rfl
  have k2 : b = v * ((Int.gcd t b : Int) * b.sign) := by
    calc b = b * (b.sign * b.sign) := by rw [hs2, Int.mul_one]
      _ = (b * b.sign) * b.sign := by ac_rfl
      _ = v * ((Int.gcd t b : Int) * b.sign) := by rw [h2]; ac_rfl
  generalize hd : (Int.gcd t b : Int) * b.sign = d at k1 k2 ⊢
  have hd0 : d ≠ 0 := by rw [← hd]; exact Int.mul_ne_zero hg hs
  rw [k1, k2, Int.mul_fdiv_cancel _ hd0, Int.mul_fdiv_cancel _ hd0]
end FQ

namespace LM
/-! ### what the law draws: cells, mixed numbers, orders, sums of deals -/
def cellAt (ns : List Int) (k : Int) : Int := if k < ns.length then ns.getD k.toNat 0 else 0
def oddGo (n : Int) : Nat → List Int × Int
  | 0 => ([], n)
  | k + 1 => ((oddGo n k).1 ++ [(oddGo n k).2 % 5040], (oddGo n k).2 / 5040)
def evenX (n k : Int) : Int := (n * n + 48271 * n + k + 1) % 2147483647
def evenGo (n : Int) : Nat → List Int × Int
  | 0 => ([], n)
  | k + 1 => ((evenGo n k).1 ++ [evenX (evenGo n k).2 k], evenX (evenGo n k).2 k)
def mixed (c : Int) (m : Nat) : List Int := if c % 2 = 1 then (oddGo (c / 2) m).1 else (evenGo ((c / 2 % 2147483647 * 16807 + 11) % 2147483647) m).1
theorem oddGo_len (n : Int) : ∀ m, (oddGo n m).1.length = m
  | 0 => rfl
  | m + 1 => by simp [oddGo, oddGo_len n m]
theorem evenGo_len (n : Int) : ∀ m, (evenGo n m).1.length = m
  | 0 => rfl
  | m + 1 => by simp [evenGo, evenGo_len n m]
theorem mixed_len (c : Int) (m : Nat) : (mixed c m).length = m := by
  unfold mixed; split <;> simp [oddGo_len, evenGo_len]
theorem oddGo_bd (n : Int) : ∀ m, ∀ x ∈ (oddGo n m).1, 0 ≤ x ∧ x < 2147483647
  | 0, x, h => by cases h
  | m + 1, x, h => by
    rcases List.mem_append.mp h with h | h
    · exact oddGo_bd n m x h
    · rw [List.mem_singleton.mp h]; omega
theorem evenX_bd (n k : Int) : 0 ≤ evenX n k ∧ evenX n k < 2147483647 := ⟨Int.emod_nonneg _ (by decide), Int.emod_lt_of_pos _ (by decide)⟩
theorem evenGo_bd (n : Int) : ∀ m, ∀ x ∈ (evenGo n m).1, 0 ≤ x ∧ x < 2147483647
  | 0, x, h => by cases h
  | m + 1, x, h => by
    rcases List.mem_append.mp h with h | h
    · exact evenGo_bd n m x h
    · rw [List.mem_singleton.mp h]; exact evenX_bd _ _
theorem mixed_bd (c : Int) (m : Nat) : ∀ x ∈ mixed c m, 0 ≤ x ∧ x < 2147483647 := by
  unfold mixed
  split
  · exact oddGo_bd _ _
  · exact evenGo_bd _ _
def ins (xs : List Int) (i : Nat) (x : Int) : List Int := xs.take i ++ x :: xs.drop i
theorem ins_perm (xs : List Int) (i : Nat) (x : Int) : (ins xs i x).Perm (x :: xs) := by
  unfold ins
  refine List.perm_middle.trans ?_
  rw [List.take_append_drop]
/-- the list and the number behind k turns -/
def permGo (num : Int) : Nat → List Int × Int
  | 0 => ([], num)
  | k + 1 => (ins (permGo num k).1 ((permGo num k).2 % (k + 1)).toNat k, (permGo num k).2 / (k + 1))
def perm (num : Int) (n : Nat) : List Int := (permGo num n).1
theorem perm_succ_perm : ∀ (num : Int) (n : Nat), (perm num n).Perm ((List.range n).map Int.ofNat)
  | _, 0 => List.Perm.refl _
  | num, n + 1 => by
    unfold perm
    rw [List.range_succ, List.map_append]
    refine (ins_perm _ _ _).trans ?_
    refine List.Perm.trans ?_ List.perm_append_comm
    exact (perm_succ_perm num n).cons _
theorem perm_len (num : Int) (n : Nat) : (perm num n).length = n := by
  have := (perm_succ_perm num n).length_eq
  simpa using this
theorem mem_perm {num : Int} {n : Nat} {x : Int} : x ∈ perm num n ↔ 0 ≤ x ∧ x < n := by
  rw [(perm_succ_perm num n).mem_iff]
  simp only [List.mem_map, List.mem_range]
  constructor
  · rintro ⟨a, h, rfl⟩; simp; omega
  · rintro ⟨h0, h1⟩; exact ⟨x.toNat, by omega, by simp; omega⟩
theorem sum_perm_eq : ∀ {xs ys : List Int}, xs.Perm ys → xs.sum = ys.sum := by
  intro xs ys h
  induction h with
  | nil => rfl
  | cons x _ ih => simp [ih]
  | swap x y l => simp; omega
  | trans _ _ ih1 ih2 => exact ih1.trans ih2
theorem map_getD_range (row : List Int) : (List.range row.length).map (fun i => row.getD i 0) = row := by
  apply List.ext_getElem
  · simp
  · intro i h1 h2
    simp at h1
    simp [h1]
/-! ### one deal more -/
def addOne (r : List Int) (t : Int) (w : Int) : List Int := r.set t.toNat (r.getD t.toNat 0 + w)
theorem addOne_len (r : List Int) (t w : Int) : (addOne r t w).length = r.length := by simp [addOne]
theorem sum_set : ∀ (r : List Int) (i : Nat) (w : Int), i < r.length → (r.set i (r.getD i 0 + w)).sum = r.sum + w
  | [], i, _, h => by cases h
  | x :: r, 0, w, _ => by simp; omega
  | x :: r, i + 1, w, h => by
    have ih := sum_set r i w (by simpa using h)
    simp only [List.set_cons_succ, List.getD_cons_succ, List.sum_cons, ih]
    omega
theorem sum_addOne {r : List Int} {t w : Int} (h0 : 0 ≤ t) (h : t < r.length) : (addOne r t w).sum = r.sum + w := sum_set r t.toNat w (by omega)
def addDeal (M : List (List Int)) (o : List Int) (w : Int) : List (List Int) := List.zipWith (fun r t => addOne r t w) M o
/-- the sums of the deals by the cells cs -/
def weight (great : Int) (c : Int) (x0 : Int) : Int := if great = 0 then 1 + x0 % 5 else if great = 1 then 1 + x0 else 1 + c % 100000000000000000000
def sumsGo (great : Int) (n : Nat) (cell : Nat → Int) : Nat → List (List Int) × Int
  | 0 => (List.replicate n (List.replicate n 0), 0)
  | k + 1 =>
    let xs := mixed (cell k) 2
    let w := weight great (cell k) (xs.getD 0 0)
    (addDeal (sumsGo great n cell k).1 (perm (xs.getD 1 0) n) w, (sumsGo great n cell k).2 + w)
structure SumsOk (n : Nat) (M : List (List Int)) (T : Int) : Prop where
  rows : M.length = n
  cols : ∀ r ∈ M, r.length = n
  nn : ∀ r ∈ M, ∀ x ∈ r, 0 ≤ x
  sum : ∀ r ∈ M, r.sum = T
theorem mem_set_nn {r : List Int} {i : Nat} {x y : Int} (h : ∀ z ∈ r, 0 ≤ z) (hx : 0 ≤ x) (hy : y ∈ r.set i x) : 0 ≤ y := by
  rcases List.mem_or_eq_of_mem_set hy with h1 | h1
  · exact h y h1
  · rw [h1]; exact hx
theorem getD_nn {r : List Int} (h : ∀ z ∈ r, 0 ≤ z) (i : Nat) : 0 ≤ r.getD i 0 := by
  by_cases hi : i < r.length
  · have : r.getD i 0 = r[i] := by simp [hi]
    rw [this]; exact h _ (List.getElem_mem hi)
  · rw [List.getD_eq_getElem?_getD, List.getElem?_eq_none (by omega)]; decide
theorem addDeal_ok {n : Nat} {M : List (List Int)} {T w : Int} {o : List Int} (h : SumsOk n M T) (hw : 0 ≤ w) (ho : o.length = n) (hm : ∀ t ∈ o, 0 ≤ t ∧ t < n) : SumsOk n (addDeal M o w) (T + w) := by
  have key : ∀ r ∈ addDeal M o w, ∃ r0 ∈ M, ∃ t ∈ o, r = addOne r0 t w := by
    intro r hr
    unfold addDeal at hr
    rw [← List.map_uncurry_zip_eq_zipWith, List.mem_map] at hr
    obtain ⟨⟨r0, t⟩, hz, rfl⟩ := hr
    exact ⟨r0, (List.of_mem_zip hz).1, t, (List.of_mem_zip hz).2, rfl⟩
  refine ⟨by simp [addDeal, h.rows, ho], fun r hr => ?_, fun r hr x hx => ?_, fun r hr => ?_⟩
  · obtain ⟨r0, h0, t, ht, rfl⟩ := key r hr
    rw [addOne_len]; exact h.cols r0 h0
  · obtain ⟨r0, h0, t, ht, rfl⟩ := key r hr
    exact mem_set_nn (h.nn r0 h0) (Int.add_nonneg (getD_nn (h.nn r0 h0) _) hw) hx
  · obtain ⟨r0, h0, t, ht, rfl⟩ := key r hr
    have l := h.cols r0 h0
    rw [sum_addOne (hm t ht).1 (by rw [l]; exact (hm t ht).2), h.sum r0 h0]
theorem weight_bd {g c x0 : Int} (h0 : 0 ≤ x0) (h1 : x0 < 2147483647) : 1 ≤ weight g c x0 ∧ weight g c x0 ≤ 100000000000000000000 := by
  unfold weight
  have e1 := Int.emod_nonneg c (show (100000000000000000000 : Int) ≠ 0 by decide)
  have e2 := Int.emod_lt_of_pos c (show (0 : Int) < 100000000000000000000 by decide)
  split
  · omega
  · split <;> omega
theorem mixed_at {c : Int} {m i : Nat} (h : i < m) : 0 ≤ (mixed c m).getD i 0 ∧ (mixed c m).getD i 0 < 2147483647 := by
  have hl := mixed_len c m
  have : (mixed c m).getD i 0 = (mixed c m)[i]'(by omega) := by simp [hl, h]
  rw [this]
  exact mixed_bd c m _ (List.getElem_mem _)
end LM

namespace L2
open PySem PySem.Spec PyProof.Rows
/-! ### the promises of the fractions' defs -/
def spWhole : Sp := fun vs H Q _ => ∃ i : Int, vs = [.int i] ∧ Q (.bl true) H
def spGcd : Sp := fun vs H Q _ => ∃ i j : Int, vs = [.int i, .int j] ∧ Q (.int (Int.gcd i j : Int)) H
def tupF (p : Int × Int) : HO := .tup [.int p.1, .int p.2]
def spFraction : Sp := fun vs H Q _ => ∃ t b : Int, vs = [.int t, .int b] ∧ b ≠ 0 ∧ b.natAbs < 2 ^ 9000 ∧ ∀ p H', Same H H' → H' p = some (tupF (FQ.red t b)) → Q (.ref p) H'
def Sz (n : Nat) (p : Int × Int) : Prop := p.1.natAbs < 2 ^ n ∧ p.2.natAbs < 2 ^ n ∧ p.2 ≠ 0
def fAdd (x y : Int × Int) : Int × Int := FQ.red (x.1 * y.2 + y.1 * x.2) (x.2 * y.2)
def fSub (x y : Int × Int) : Int × Int := FQ.red (x.1 * y.2 - y.1 * x.2) (x.2 * y.2)
def fMul (x y : Int × Int) : Int × Int := FQ.red (x.1 * y.1) (x.2 * y.2)
def sp2F (f : (Int × Int) → (Int × Int) → (Int × Int)) (K : PySem.W.Frag) : Sp := fun vs H Q _ => ∃ a b x y, vs = [.ref a, .ref b] ∧ SqT K H a [.int x.1, .int x.2] ∧ SqT K H b [.int y.1, .int y.2] ∧ Sz 4000 x ∧ Sz 4000 y ∧
  ∀ p H', Same H H' → H' p = some (tupF (f x y)) → Q (.ref p) H'
/-! ### the promises of what the law draws -/
def spCell (K : PySem.W.Frag) : Sp := fun vs H Q _ => ∃ a ns k, vs = [.ref a, .int k] ∧ SqL K H a (ns.map V.int) ∧ 0 ≤ k ∧ Q (.int (LM.cellAt ns k)) H
def spMixed : Sp := fun vs H Q _ => ∃ (c : Int) (m : Nat), vs = [.int c, .int m] ∧ m ≤ 63 ∧ ∀ p H', Same H H' → H p = none → H' p = some (.lst ((LM.mixed c m).map V.int)) → Q (.ref p) H'
def spPerm : Sp := fun vs H Q _ => ∃ (num : Int) (n : Nat), vs = [.int num, .int n] ∧ n ≤ 63 ∧ ∀ p H', Same H H' → H p = none → H' p = some (.lst ((LM.perm num n).map V.int)) → Q (.ref p) H'
def spDivisor : Sp := fun vs H Q _ => ∃ i j : Int, vs = [.int i, .int j] ∧ 0 ≤ j ∧ Q (.int (Int.gcd i j : Int)) H
def spLowest : Sp := fun vs H Q _ => ∃ t b : Int, vs = [.int t, .int b] ∧ 0 < b ∧ b.natAbs < 2 ^ 9000 ∧ ∀ p H', Same H H' → H' p = some (tupF (FQ.red t b)) → Q (.ref p) H'
theorem gcd_le {t b : Int} (hb : b ≠ 0) : Int.gcd t b ≤ b.natAbs := Nat.le_of_dvd (by omega) (Int.gcd_dvd_natAbs_right ..)
theorem fraction_div {t b : Int} (hb : b ≠ 0) (hz : b.natAbs < 2 ^ 9000) :
    (b < 0 → (-(Int.gcd t b : Int) ≠ 0 ∧ (-(Int.gcd t b : Int)).natAbs < 2 ^ 9000) ∧ t.fdiv (-(Int.gcd t b : Int)) = (FQ.red t b).1 ∧ b.fdiv (-(Int.gcd t b : Int)) = (FQ.red t b).2) ∧
    (¬ b < 0 → ((Int.gcd t b : Int) ≠ 0 ∧ (Int.gcd t b : Int).natAbs < 2 ^ 9000) ∧ t.fdiv (Int.gcd t b : Int) = (FQ.red t b).1 ∧ b.fdiv (Int.gcd t b : Int) = (FQ.red t b).2) := by
  have hg : 0 < Int.gcd t b := Int.gcd_pos_of_ne_zero_right _ hb
  have hl := gcd_le (t := t) hb
  have e := FQ.fdiv_red (t := t) hb
  constructor
  · intro hn
    rw [Int.sign_eq_neg_one_of_neg hn, Int.mul_neg_one] at e
    exact ⟨⟨by omega, by rw [Int.natAbs_neg, Int.natAbs_natCast]; exact Nat.lt_of_le_of_lt hl hz⟩, congrArg Prod.fst e, congrArg Prod.snd e⟩
  · intro hn
    rw [Int.sign_eq_one_of_pos (by omega), Int.mul_one] at e
    exact ⟨⟨by omega, by rw [Int.natAbs_natCast]; exact Nat.lt_of_le_of_lt hl hz⟩, congrArg Prod.fst e, congrArg Prod.snd e⟩
theorem pow_lt_mul {a b m n : Nat} (h1 : a < 2 ^ m) (h2 : b < 2 ^ n) : a * b < 2 ^ (m + n) := by
  rw [Nat.pow_add]
  exact Nat.mul_lt_mul'' h1 h2
theorem mul_size {a b : Int} {m n : Nat} (h1 : a.natAbs < 2 ^ m) (h2 : b.natAbs < 2 ^ n) : (a * b).natAbs < 2 ^ (m + n) := by
  rw [Int.natAbs_mul]
  exact pow_lt_mul h1 h2
theorem size_up {a : Int} {m n : Nat} (h : a.natAbs < 2 ^ m) (hmn : m ≤ n) : a.natAbs < 2 ^ n := Nat.lt_of_lt_of_le h (Nat.pow_le_pow_right (by decide) hmn)
theorem mul4 {a b : Int} (h1 : a.natAbs < 2 ^ 4000) (h2 : b.natAbs < 2 ^ 4000) : IntMulOk a b := mulOk h1 h2 (by decide)
theorem bot4 {a b : Int} (h1 : a.natAbs < 2 ^ 4000) (h2 : b.natAbs < 2 ^ 4000) : (a * b).natAbs < 2 ^ 9000 := size_up (mul_size h1 h2) (by decide)
end L2

namespace L2
open PySem PySem.Spec PyProof.Rows
/-! ### values as plain data, deep -/
mutual
inductive Rep (K : PySem.W.Frag) (H : Hp) : V → PyData → Prop
  | non : Rep K H .non .none
  | bl (b : Bool) : Rep K H (.bl b) (.bool b)
  | int (i : Int) : Rep K H (.int i) (.int i)
  | str (x : Str) : Rep K H (.str x) (.str x)
  | lst {a : Addr} {xs : List V} {ds : List PyData} : SqL K H a xs → Reps K H xs ds → xs.length ≤ 1000 → Rep K H (.ref a) (.list ds)
  | tup {a : Addr} {xs : List V} {ds : List PyData} : SqT K H a xs → Reps K H xs ds → xs.length ≤ 1000 → Rep K H (.ref a) (.tuple ds)
inductive Reps (K : PySem.W.Frag) (H : Hp) : List V → List PyData → Prop
  | nil : Reps K H [] []
  | cons {x : V} {d : PyData} {xs : List V} {ds : List PyData} : Rep K H x d → Reps K H xs ds → Reps K H (x :: xs) (d :: ds)
end
section
variable {X : Cx} {pins : List (Addr × Obj)} {σ : St} {H : Hp} {s : Shared}
mutual
theorem Rep.reads (I : Inv X pins σ H s) {x : V} {d : PyData} {u : Value} (r : Rep X.K H x d) (q : RelV x u) : ∃ as, Reads s.heap u d as := by
  cases r with
  | non => cases (show u = Value.none from q); exact ⟨_, .none⟩
  | bl b => cases (show u = Value.bool b from q); exact ⟨_, .bool b⟩
  | int i => obtain ⟨t, e⟩ := (show ∃ t, u = Value.int i t from q); cases e; exact ⟨_, .int i t⟩
  | str x => obtain ⟨t, e⟩ := (show ∃ t, u = Value.str x t from q); cases e; exact ⟨_, .str x t⟩
  | @lst a xs ds hq hs hl =>
    cases (show u = Value.ref a from q)
    obtain ⟨its, rv, ⟨o, n, h1, h2, _, h3⟩, _⟩ := I.list hq
    obtain ⟨as, ra⟩ := Reps.reads I hs rv
    exact ⟨_, .list h1 h2 h3 (by simpa using ra)⟩
  | @tup a xs ds hq hs hl =>
    cases (show u = Value.ref a from q)
    obtain ⟨its, rv, ⟨o, h1, h2, n, h3⟩, _⟩ := I.tuple hq
    obtain ⟨as, ra⟩ := Reps.reads I hs rv
    exact ⟨_, .tuple h1 h2 h3 (by simpa using ra)⟩
theorem Reps.reads (I : Inv X pins σ H s) {xs : List V} {ds : List PyData} {us : List Value} (r : Reps X.K H xs ds) (q : Vals xs us) : ∃ as, ReadsAll s.heap us ds as := by
  cases r with
  | nil => cases q; exact ⟨_, .nil⟩
  | cons r rs =>
    cases q with
    | cons q qs =>
      obtain ⟨as, h1⟩ := Rep.reads I r q
      obtain ⟨bs, h2⟩ := Reps.reads I rs qs
      exact ⟨_, .cons h1 h2⟩
end
def rEqD (K : PySem.W.Frag) : R2 := fun x y H Q => ∃ d e, Rep K H x d ∧ Rep K H y e ∧ SeqAt.shaped d = true ∧ SeqAt.shaped e = true ∧ Q (.bl (PyData.eqv d e)) H
def rNeD (K : PySem.W.Frag) : R2 := fun x y H Q => ∃ d e, Rep K H x d ∧ Rep K H y e ∧ SeqAt.shaped d = true ∧ SeqAt.shaped e = true ∧ Q (.bl (!PyData.eqv d e)) H
theorem op_eqD {k : Nat} (hr : Room k X.A) : OpR X (compareOp .Eq) (rEqD X.K) := by
  intro pins s σ H x y v u Q I rx ry h
  obtain ⟨d, e, r1, r2, s1, s2, q⟩ := h
  obtain ⟨as, h1⟩ := r1.reads I rx
  obtain ⟨bs, h2⟩ := r2.reads I ry
  exact eq_dataH h1 h2 s1 s2 hr.units ⟨.bl _, H, I, rfl, q⟩
theorem op_neD {k : Nat} (hr : Room k X.A) : OpR X (compareOp .NotEq) (rNeD X.K) := by
  intro pins s σ H x y v u Q I rx ry h
  obtain ⟨d, e, r1, r2, s1, s2, q⟩ := h
  obtain ⟨as, h1⟩ := r1.reads I rx
  obtain ⟨bs, h2⟩ := r2.reads I ry
  exact ne_dataH h1 h2 s1 s2 hr.units ⟨.bl _, H, I, rfl, q⟩
end
mutual
theorem Rep.mono {K : PySem.W.Frag} {H H' : Hp} (e : Same H H') {x : V} {d : PyData} (r : Rep K H x d) : Rep K H' x d := by
  cases r with
  | non => exact .non
  | bl b => exact .bl b
  | int i => exact .int i
  | str x => exact .str x
  | lst hq hs hl => exact .lst (e.seq hq) (Reps.mono e hs) hl
  | tup hq hs hl => exact .tup (e.tup hq) (Reps.mono e hs) hl
theorem Reps.mono {K : PySem.W.Frag} {H H' : Hp} (e : Same H H') {xs : List V} {ds : List PyData} (r : Reps K H xs ds) : Reps K H' xs ds := by
  cases r with
  | nil => exact .nil
  | cons r rs => exact .cons (Rep.mono e r) (Reps.mono e rs)
end
theorem Reps.length {K : PySem.W.Frag} {H : Hp} : ∀ {xs : List V} {ds : List PyData}, Reps K H xs ds → xs.length = ds.length
  | _, _, .nil => rfl
  | _, _, .cons _ r => by simp [Reps.length r]
theorem Reps.get {K : PySem.W.Frag} {H : Hp} : ∀ {xs : List V} {ds : List PyData} {i : Nat} {d : PyData}, Reps K H xs ds → ds[i]? = some d → ∃ x, xs[i]? = some x ∧ Rep K H x d
  | _, _, _, _, .nil, e => by simp at e
  | _, _, 0, _, .cons r _, e => by simp at e; subst e; exact ⟨_, rfl, r⟩
  | _, _, i + 1, d, .cons _ t, e => by
    obtain ⟨x, h1, h2⟩ := Reps.get (i := i) t (by simpa using e)
    exact ⟨x, by simpa using h1, h2⟩
theorem Reps.ints {K : PySem.W.Frag} {H : Hp} : ∀ ns : List Int, Reps K H (ns.map V.int) (ns.map PyData.int)
  | [] => .nil
  | n :: ns => .cons (.int n) (Reps.ints ns)
/-- a fraction as data -/
def dF (p : Int × Int) : PyData := .tuple [.int p.1, .int p.2]
theorem IsF.rep {K : PySem.W.Frag} {H : Hp} {v : V} {p : Int × Int} (h : IsF K H v p) : Rep K H v (dF p) := by
  obtain ⟨a, rfl, q⟩ := h
  exact .tup q (.cons (.int _) (.cons (.int _) .nil)) (by simp)
theorem Reps.of_fracs {K : PySem.W.Frag} {H : Hp} : ∀ {xs : List V} {ps : List (Int × Int)}, Paired (IsF K H) xs ps → Reps K H xs (ps.map dF)
  | _, _, .nil => .nil
  | _, _, .cons r t => .cons r.rep (Reps.of_fracs t)
theorem Paired.len {α β : Type} {F : α → β → Prop} {xs : List α} {ys : List β} (h : Paired F xs ys) : xs.length = ys.length := Paired.length h
/-! ### the forms of a comprehension that one uses -/
theorem comp_range {lo : Int} {n : Nat} {caps : List (Option Nat)} {g : TG} {tt : TT} {te : TE} {σ : St} {QQ : List V → Hp → Prop} {H : Hp} (Pv : Nat → List V → Hp → Prop) (h0 : Pv 0 [] H)
    (hs : ∀ i ys H, i < n → Pv i ys H → g (.int (lo + i)) (capS caps σ) H fun σ2 H2 => tt σ2 H2 fun b H3 => if b = true then te σ2 H3 fun y H4 => ys.length < sizeLine ∧ Pv (i + 1) (ys ++ [y]) H4 else Pv (i + 1) ys H3)
    (hd : ∀ ys H, Pv n ys H → QQ ys H) : tCompK caps g tt te σ QQ (Itr lo n) H := by
  refine ⟨fun i m ys H => m = n - i ∧ i ≤ n ∧ Pv i ys H, ⟨n, by simp, Nat.zero_le _, h0⟩, ?_⟩
  rintro i m ys H ⟨rfl, hi, p⟩
  by_cases hlt : i < n
  · refine .inr ⟨hlt, Pv (i + 1), fun ys' H' p' => ⟨n - (i + 1), by omega, rfl, hlt, p'⟩, fun x H' y => ?_⟩
    obtain ⟨e, y⟩ := y
    subst e y
    exact hs i ys _ hlt p
  · have e : i = n := by omega
    subst e
    exact .inl ⟨Nat.le_refl _, hd ys H p⟩
theorem comp_list {K : PySem.W.Frag} {a : Addr} {xs : List V} {caps : List (Option Nat)} {g : TG} {tt : TT} {te : TE} {σ : St} {QQ : List V → Hp → Prop} {H : Hp} (Pv : Nat → List V → Hp → Prop) (h0 : Pv 0 [] H)
    (hl : ∀ i ys H, i ≤ xs.length → Pv i ys H → SqL K H a xs)
    (hs : ∀ i x ys H, xs[i]? = some x → Pv i ys H → g x (capS caps σ) H fun σ2 H2 => tt σ2 H2 fun b H3 => if b = true then te σ2 H3 fun y H4 => ys.length < sizeLine ∧ Pv (i + 1) (ys ++ [y]) H4 else Pv (i + 1) ys H3)
    (hd : ∀ ys H, Pv xs.length ys H → QQ ys H) : tCompK caps g tt te σ QQ (Itl K a) H := by
  refine ⟨fun i m ys H => m = xs.length - i ∧ i ≤ xs.length ∧ Pv i ys H, ⟨xs.length, by simp, Nat.zero_le _, h0⟩, ?_⟩
  rintro i m ys H ⟨rfl, hi, p⟩
  have q := hl i ys H hi p
  by_cases hlt : i < xs.length
  · refine .inr ⟨⟨xs, xs[i], q, by simp [hlt]⟩, Pv (i + 1), fun ys' H' p' => ⟨xs.length - (i + 1), by omega, rfl, hlt, p'⟩, fun x H' y => ?_⟩
    obtain ⟨e, y⟩ := y
    subst e
    exact hs i x ys _ (y xs q) p
  · have e : i = xs.length := by omega
    subst e
    exact .inl ⟨⟨xs, q, Nat.le_refl _⟩, hd ys H p⟩
theorem comp_tup {K : PySem.W.Frag} {a : Addr} {xs : List V} {caps : List (Option Nat)} {g : TG} {tt : TT} {te : TE} {σ : St} {QQ : List V → Hp → Prop} {H : Hp} (Pv : Nat → List V → Hp → Prop) (h0 : Pv 0 [] H)
    (hl : ∀ i ys H, i ≤ xs.length → Pv i ys H → SqT K H a xs)
    (hs : ∀ i x ys H, xs[i]? = some x → Pv i ys H → g x (capS caps σ) H fun σ2 H2 => tt σ2 H2 fun b H3 => if b = true then te σ2 H3 fun y H4 => ys.length < sizeLine ∧ Pv (i + 1) (ys ++ [y]) H4 else Pv (i + 1) ys H3)
    (hd : ∀ ys H, Pv xs.length ys H → QQ ys H) : tCompK caps g tt te σ QQ (Itt K a) H := by
  refine ⟨fun i m ys H => m = xs.length - i ∧ i ≤ xs.length ∧ Pv i ys H, ⟨xs.length, by simp, Nat.zero_le _, h0⟩, ?_⟩
  rintro i m ys H ⟨rfl, hi, p⟩
  have q := hl i ys H hi p
  by_cases hlt : i < xs.length
  · refine .inr ⟨⟨xs, xs[i], q, by simp [hlt]⟩, Pv (i + 1), fun ys' H' p' => ⟨xs.length - (i + 1), by omega, rfl, hlt, p'⟩, fun x H' y => ?_⟩
    obtain ⟨e, y⟩ := y
    subst e
    exact hs i x ys _ (y xs q) p
  · have e : i = xs.length := by omega
    subst e
    exact .inl ⟨⟨xs, q, Nat.le_refl _⟩, hd ys H p⟩
/-! the same without a test -/
theorem tTrue_ite {σ : St} {H : Hp} {A : Hp → Prop} {B : Hp → Prop} : (tTrue σ H fun b H3 => if b = true then A H3 else B H3) = A H := by
  unfold tTrue
  exact if_pos rfl
theorem comp_range1 {lo : Int} {n : Nat} {caps : List (Option Nat)} {g : TG} {te : TE} {σ : St} {QQ : List V → Hp → Prop} {H : Hp} (Pv : Nat → List V → Hp → Prop) (h0 : Pv 0 [] H)
    (hs : ∀ i ys H, i < n → Pv i ys H → g (.int (lo + i)) (capS caps σ) H fun σ2 H2 => te σ2 H2 fun y H4 => ys.length < sizeLine ∧ Pv (i + 1) (ys ++ [y]) H4)
    (hd : ∀ ys H, Pv n ys H → QQ ys H) : tCompK caps g tTrue te σ QQ (Itr lo n) H :=
  comp_range Pv h0 (fun i ys H hi p => by simp only [tTrue_ite]; exact hs i ys H hi p) hd
theorem comp_list1 {K : PySem.W.Frag} {a : Addr} {xs : List V} {caps : List (Option Nat)} {g : TG} {te : TE} {σ : St} {QQ : List V → Hp → Prop} {H : Hp} (Pv : Nat → List V → Hp → Prop) (h0 : Pv 0 [] H)
    (hl : ∀ i ys H, i ≤ xs.length → Pv i ys H → SqL K H a xs)
    (hs : ∀ i x ys H, xs[i]? = some x → Pv i ys H → g x (capS caps σ) H fun σ2 H2 => te σ2 H2 fun y H4 => ys.length < sizeLine ∧ Pv (i + 1) (ys ++ [y]) H4)
    (hd : ∀ ys H, Pv xs.length ys H → QQ ys H) : tCompK caps g tTrue te σ QQ (Itl K a) H :=
  comp_list Pv h0 hl (fun i x ys H hx p => by simp only [tTrue_ite]; exact hs i x ys H hx p) hd
theorem comp_tup1 {K : PySem.W.Frag} {a : Addr} {xs : List V} {caps : List (Option Nat)} {g : TG} {te : TE} {σ : St} {QQ : List V → Hp → Prop} {H : Hp} (Pv : Nat → List V → Hp → Prop) (h0 : Pv 0 [] H)
    (hl : ∀ i ys H, i ≤ xs.length → Pv i ys H → SqT K H a xs)
    (hs : ∀ i x ys H, xs[i]? = some x → Pv i ys H → g x (capS caps σ) H fun σ2 H2 => te σ2 H2 fun y H4 => ys.length < sizeLine ∧ Pv (i + 1) (ys ++ [y]) H4)
    (hd : ∀ ys H, Pv xs.length ys H → QQ ys H) : tCompK caps g tTrue te σ QQ (Itt K a) H :=
  comp_tup Pv h0 hl (fun i x ys H hx p => by simp only [tTrue_ite]; exact hs i x ys H hx p) hd
end L2

namespace L2
open PySem PySem.Spec PyProof.Rows
/-! ### sums along a row of wishes -/
def accs (row ws : List Int) (i : Nat) : Int := ((ws.take i).map fun w => row.getD w.toNat 0).sum
theorem accs_zero (row ws : List Int) : accs row ws 0 = 0 := rfl
theorem accs_succ {row ws : List Int} {i : Nat} {w : Int} (h : ws[i]? = some w) : accs row ws (i + 1) = accs row ws i + row.getD w.toNat 0 := by
  unfold accs
  rw [List.take_add_one, h, List.map_append, List.sum_append]
  simp
theorem accs_bd {row ws : List Int} {T : Int} (h : ∀ x ∈ row, 0 ≤ x ∧ x ≤ T) (hT : 0 ≤ T) : ∀ i, 0 ≤ accs row ws i ∧ accs row ws i ≤ i * T
  | 0 => by simp [accs_zero]
  | i + 1 => by
    have ih := accs_bd (ws := ws) h hT i
    cases q : ws[i]? with
    | none =>
      have e : accs row ws (i + 1) = accs row ws i := by
        unfold accs
        rw [List.take_add_one, q]
        simp
      rw [e]
      push_cast
      rw [Int.add_mul]
      omega
    | some w =>
      rw [accs_succ q]
      have b : 0 ≤ row.getD w.toNat 0 ∧ row.getD w.toNat 0 ≤ T := by
        by_cases hi : w.toNat < row.length
        · have : row.getD w.toNat 0 = row[w.toNat] := by simp [hi]
          rw [this]; exact h _ (List.getElem_mem hi)
        · rw [List.getD_eq_getElem?_getD, List.getElem?_eq_none (by omega)]; exact ⟨Int.le_refl _, hT⟩
      push_cast
      rw [Int.add_mul]
      omega
theorem fAdd_red {a b T : Int} (hT : T ≠ 0) : fAdd (FQ.red a T) (FQ.red b T) = FQ.red (a + b) T := by
  have h1 := FQ.red_worth (t := a) hT
  have h2 := FQ.red_worth (t := b) hT
  have p1 := (FQ.red_low (t := a) hT).pos
  have p2 := (FQ.red_low (t := b) hT).pos
  unfold fAdd
  refine FQ.red_eq (Int.mul_ne_zero (by omega) (by omega)) hT ?_
  generalize FQ.red a T = p at *
  generalize FQ.red b T = q at *
  calc (p.1 * q.2 + q.1 * p.2) * T = (p.1 * T) * q.2 + (q.1 * T) * p.2 := by rw [Int.add_mul]; ac_rfl
    _ = (a * p.2) * q.2 + (b * q.2) * p.2 := by rw [h1, h2]
    _ = (a + b) * (p.2 * q.2) := by rw [Int.add_mul]; ac_rfl
theorem red_zero {T : Int} (hT : T ≠ 0) : FQ.red 0 T = (0, 1) := FQ.red_eq_iff hT ⟨by decide, by decide⟩ (by simp)
theorem Sz_red {a T : Int} (hT : T ≠ 0) (h1 : a.natAbs < 2 ^ 100) (h2 : T.natAbs < 2 ^ 100) : Sz 4000 (FQ.red a T) := by
  have s := FQ.red_small (t := a) hT
  have p := (FQ.red_low (t := a) hT).pos
  refine ⟨Nat.lt_of_le_of_lt s.1 (Nat.lt_of_lt_of_le h1 (Nat.pow_le_pow_right (by decide) (by decide))), Nat.lt_of_le_of_lt s.2 (Nat.lt_of_lt_of_le h2 (Nat.pow_le_pow_right (by decide) (by decide))), by omega⟩
def spLaw (K : PySem.W.Frag) : Sp := fun vs H Q _ => ∃ (a : Addr) (ns : List Int), vs = [.ref a] ∧ SqL K H a (ns.map V.int) ∧ ns.length ≤ 63 ∧ ∀ H', Q (.bl true) H'
def spPrefixes (K : PySem.W.Frag) : Sp := fun vs H Q _ => ∃ (a b : Addr) (ws : List Int) (ss : List V) (row : List Int) (T : Int), vs = [.ref a, .ref b] ∧ SqT K H a (ws.map V.int) ∧ SqT K H b ss ∧
  Paired (IsF K H) ss (row.map fun x => FQ.red x T) ∧ (0 < T ∧ T < 2 ^ 80) ∧ (∀ x ∈ row, 0 ≤ x ∧ x ≤ T) ∧ (∀ w ∈ ws, 0 ≤ w ∧ w < row.length) ∧ ws.length ≤ 63 ∧
  ∀ p gs H', Same H H' → H' p = some (.tup gs) → Paired (IsF K H') gs ((List.range ws.length).map fun i => FQ.red (accs row ws (i + 1)) T) → Q (.ref p) H'
end L2

namespace L2
open PySem PySem.Spec PyProof.Rows
/-! ### the same data -/
def okD : Nat → PyData → Bool
  | _, .none => true
  | _, .bool _ => true
  | _, .int _ => true
  | _, .str x => SeqAt.shaped (.str x)
  | n + 1, .tuple ds => ds.all (okD n)
  | n + 1, .list ds => ds.all (okD n)
  | _, _ => false
def spSame (K : PySem.W.Frag) (n : Nat) : Sp := fun vs H Q _ => ∃ v u d, vs = [v, u] ∧ Rep K H v d ∧ Rep K H u d ∧ okD n d = true ∧ Q (.bl true) H
/-- the promise one call deeper -/
def spPrev (sp : Nat → Sp) : Nat → Sp
  | 0 => fun _ _ _ _ => False
  | n + 1 => sp n
/-! ### the sums of deals, as they lie -/
def sumsOf (ns : List Int) (at' n : Nat) : List (List Int) × Int :=
  LM.sumsGo (LM.cellAt ns at' / 5 % 3) n (fun k => LM.cellAt ns (at' + 1 + k)) (1 + LM.cellAt ns at' % 5).toNat
structure RowsAt (H0 H : Hp) (L : Addr) (rs : List Addr) (M : List (List Int)) : Prop where
  lst : H L = some (.lst (rs.map V.ref))
  rows : Paired (fun r (m : List Int) => H r = some (.lst (m.map V.int))) rs M
  nd : rs.Nodup
  fr : ∀ r ∈ rs, H0 r = none
  frL : H0 L = none
  nL : L ∉ rs
theorem RowsAt.get {H0 H : Hp} {L : Addr} {rs : List Addr} {M : List (List Int)} (R : RowsAt H0 H L rs M) {i : Nat} {m : List Int} (h : M[i]? = some m) : ∃ r, rs[i]? = some r ∧ H r = some (.lst (m.map V.int)) := Paired.get (F := fun r (m : List Int) => H r = some (.lst (m.map V.int))) R.rows h
theorem RowsAt.mono {H0 H H' : Hp} {L : Addr} {rs : List Addr} {M : List (List Int)} (R : RowsAt H0 H L rs M) (e : Same H H') : RowsAt H0 H' L rs M :=
  ⟨e _ _ R.lst, Paired.mapP R.rows fun _ _ h => e _ _ h, R.nd, R.fr, R.frL, R.nL⟩
theorem paired_keep {H : Hp} {r : Addr} {o : HO} : ∀ {rs : List Addr} {M : List (List Int)}, Paired (fun r (m : List Int) => H r = some (.lst (m.map V.int))) rs M → r ∉ rs →
    Paired (fun r' (m : List Int) => (upd H r o) r' = some (.lst (m.map V.int))) rs M
  | _, _, .nil, _ => .nil
  | _, _, .cons h t, n => .cons (by rw [upd_ne (fun z => n (by rw [z]; exact List.mem_cons_self))]; exact h) (paired_keep t fun z => n (List.mem_cons_of_mem _ z))
theorem paired_upd {H : Hp} {r : Addr} {m' : List Int} : ∀ {rs : List Addr} {M : List (List Int)} {j : Nat}, Paired (fun r (m : List Int) => H r = some (.lst (m.map V.int))) rs M → rs.Nodup → rs[j]? = some r →
    Paired (fun r' (m : List Int) => (upd H r (.lst (m'.map V.int))) r' = some (.lst (m.map V.int))) rs (M.set j m')
  | _, _, _, .nil, _, e => by simp at e
  | _, _, 0, .cons h t, nd, e => by
    simp at e
    subst e
    exact .cons upd_same (paired_keep t (List.nodup_cons.mp nd).1)
  | _, _, j + 1, .cons h t, nd, e => by
    have e' : _ := (by simpa using e : _)
    refine .cons ?_ (paired_upd t (List.nodup_cons.mp nd).2 e')
    rw [upd_ne (fun z => (List.nodup_cons.mp nd).1 (by rw [z]; exact List.mem_of_getElem? e'))]
    exact h
theorem RowsAt.upd {H0 H : Hp} {L r : Addr} {rs : List Addr} {M : List (List Int)} {j : Nat} (R : RowsAt H0 H L rs M) (m' : List Int) (h : rs[j]? = some r) : RowsAt H0 (L2.upd H r (.lst (m'.map V.int))) L rs (M.set j m') :=
  ⟨by rw [upd_ne (fun z => R.nL (by rw [z]; exact List.mem_of_getElem? h))]; exact R.lst, paired_upd R.rows R.nd h, R.nd, R.fr, R.frL, R.nL⟩
theorem RowsAt.len {H0 H : Hp} {L : Addr} {rs : List Addr} {M : List (List Int)} (R : RowsAt H0 H L rs M) : rs.length = M.length := Paired.len R.rows
/-- the rows behind j of a deal's turns -/
def mid (M : List (List Int)) (o : List Int) (w : Int) (j : Nat) : List (List Int) := LM.addDeal (M.take j) (o.take j) w ++ M.drop j
def spSums (K : PySem.W.Frag) : Sp := fun vs H Q _ => ∃ (a : Addr) (ns : List Int) (at' n : Nat), vs = [.ref a, .int at', .int n] ∧ SqL K H a (ns.map V.int) ∧ 1 ≤ n ∧ n ≤ 6 ∧ at' ≤ 63 ∧
  ∀ p L rs H', Same H H' → H' p = some (.tup [.ref L, .int (sumsOf ns at' n).2]) → RowsAt H H' L rs (sumsOf ns at' n).1 → Q (.ref p) H'
end L2

namespace L2
open PySem PySem.Spec PyProof.Rows

/-! ### an own exception that flies: how it lies behind a call -/
structure Flies (P : Program) (w : World) (outer : List Env) (H : Hp) (s : Shared) (a C : Addr) (B : Heap) (a0 : Value) (H' : Hp) (s' : Shared) : Prop where
  os : s'.os = s.os
  bare : AllBare s'.gens
  un : Un (frs outer) [] H H' s.heap s'.heap
  hok : HOk P w H' B
  keep : ∀ b o, s.heap.get? b = some o → H b = none → b ∉ frs outer → B.get? b = some o
  has : ∀ b o, s.heap.get? b = some o → b ∉ frs outer → ∃ o', B.get? b = some o'
  fly : Heap.FlyingW B outer a (.ref C) a0 s'.heap
def CXE (P : Program) (w : World) : CXT := fun outer H s E e s' => ∃ a C B a0 H', e = .ref a ∧ Flies P w outer H s a C B a0 H' s' ∧ E (.ref C) none H'

theorem ObjOk.is {P : Program} {w : World} {H : Hp} {h : Heap} {a : Addr} {o : HO} (x : ObjOk P w H h a o) : ∃ u, h.get? a = some u := by
  cases o with
  | lst xs => obtain ⟨_, _, _, _, e⟩ := x; exact ⟨_, e⟩
  | tup xs => obtain ⟨_, _, _, o, e, _⟩ := x; exact ⟨_, e⟩
  | dK kvs => obtain ⟨_, _, _, _, o, _, _, e, _⟩ := x; exact ⟨_, e⟩
  | dT kvs => obtain ⟨_, _, _, _, o, _, _, e, _⟩ := x; exact ⟨_, e⟩
  | set S n => obtain ⟨o, _, _, _, e, _⟩ := x; exact ⟨_, e⟩
  | ins C dx fs => obtain ⟨_, _, _, e, _⟩ := x; exact ⟨_, e⟩
  | own y => obtain ⟨_, e⟩ := x; exact ⟨_, e⟩
  | xd fs => obtain ⟨_, ⟨_, _, _, e, _⟩, _⟩ := x; exact ⟨_, e⟩
  | rng lo hi => obtain ⟨_, _, _, e⟩ := x; exact ⟨_, e⟩
  | frz ob u => obtain ⟨e, _⟩ := x; exact ⟨_, e⟩
  | tbl ps => exact ⟨_, (show h.get? a = some _ from x)⟩
  | met f y => exact ⟨_, (show h.get? a = some _ from x)⟩
  | ext φ => obtain ⟨_, ⟨_, e⟩, _⟩ := x; exact ⟨_, e⟩
theorem Flies.free {P : Program} {w : World} {outer : List Env} {H H' : Hp} {s s' : Shared} {a C : Addr} {B : Heap} {a0 : Value} (f : Flies P w outer H s a C B a0 H' s') : H' a = none := by
  cases q : H' a with
  | none => rfl
  | some o =>
    obtain ⟨x, hx⟩ := (f.hok a o q).is
    rw [f.fly.2.1] at hx; cases hx
/-- what is tracked lies apart from the frames -/
theorem hok_hide {P : Program} {w : World} {H : Hp} {h : Heap} {l : List Addr} (x : HOk P w H h) (n : ∀ b ∈ l, H b = none) : HOk P w H (PySem.W.hideAll h l) := fun a o e =>
  (x a o e).stay (fun b u hb q => PySem.W.hideAll_get _ q fun z => by
    rcases hb with rfl | hb
    · rw [n _ z] at e; cases e
    · rw [n _ z] at hb; cases hb) (fun _ q => q) fun _ _ q => q

section
variable {P : Program} {w : World} {K : PySem.W.Frag} {mg : Str → Option Value} {base : Heap} {N : List Str} {qual : Str} {scope : Scope} {f : Addr} {cd : Value} {A : Around} {outer : List Env} {s₀ : Shared} {H₀ : Hp} {E : XK}
abbrev cxE (P : Program) (w : World) (K : PySem.W.Frag) (mg : Str → Option Value) (base : Heap) (N : List Str) (qual : Str) (scope : Scope) (f : Addr) (cd : Value) (A : Around) (outer : List Env) (s₀ : Shared) (H₀ : Hp) (E : XK) : Cx := cxOf (CXE P w) P w K mg base N qual scope f cd A outer s₀ H₀ E
theorem frs_cons {env : Env} {l : List Env} {L : Addr} (h : env.frame = some L) : frs (env :: l) = L :: frs l := by unfold frs; rw [List.filterMap_cons, h]
/-- an exception that is made in a def's body leaves it -/
theorem made_leaves {pins : List (Addr × Obj)} {σ : St} {H : Hp} {s : Shared} {h' : Heap} {e C : Addr} {vs : List Value} (I : Inv (cxE P w K mg base N qual scope f cd A outer s₀ H₀ E) pins σ H s) (hx : Heap.MadeExcOf s.heap h' e (.ref C) vs) (hE : E (.ref C) none H) :
    (cxE P w K mg base N qual scope f cd A outer s₀ H₀ E).xe (.ref e) { s with heap := h' } := by
  have hf : (envOfC qual scope s₀.heap.objs.size f cd).frame = some s₀.heap.objs.size := rfl
  have hst : (cxE P w K mg base N qual scope f cd A outer s₀ H₀ E).stack = envOfC qual scope s₀.heap.objs.size f cd :: outer := rfl
  have hin : ∀ env ∈ (envOfC qual scope s₀.heap.objs.size f cd :: outer), ∀ b, env.frame = some b → b ∈ frs (envOfC qual scope s₀.heap.objs.size f cd :: outer) := fun env he b hb => List.mem_filterMap.mpr ⟨env, he, hb⟩
  have FF : s.heap.FunFrames base (envOfC qual scope s₀.heap.objs.size f cd :: outer) := I.stack
  have fr0 : ∀ b ∈ frs (envOfC qual scope s₀.heap.objs.size f cd :: outer), H b = none := I.stkFree
  have nin : ∀ b o, s₀.heap.get? b = some o → b ∉ frs outer → b ∉ frs (envOfC qual scope s₀.heap.objs.size f cd :: outer) := fun b o q nb => by
    rw [frs_cons hf]
    intro z
    rcases List.mem_cons.mp z with z | z
    · exact absurd (Heap.lt_size q) (by rw [z]; exact Nat.lt_irrefl _)
    · exact nb z
  have U : Un (frs outer) [] H₀ H s₀.heap s.heap := I.base
  show wpAny _ _ (leaving _ _) _ _ _
  refine wpAny_leaves_madeW (base := PySem.W.hideAll s.heap (frs (envOfC qual scope s₀.heap.objs.size f cd :: outer))) (h := s.heap) I.ok.frames hf (fun b o q => PySem.W.of_hideAll _ q) (PySem.W.funFrames_hide FF hin) hx fun h'' t x1 _ _ x4 => ?_
  have stay := x1.1
  refine ⟨e, C, _, _, H, rfl, ⟨I.os, I.bare, ⟨fun b o q n nb _ => ?_, fun b o q n hb _ => ?_, fun b o q n hx' => U.free b o q n hx', fun b o q _ => ?_, U.tups, U.frzs, U.tbls⟩, hok_hide I.hok fr0, fun b o q n nb => ?_, fun b o q nb => ?_, x1⟩, hE⟩
  · exact stay _ _ (PySem.W.hideAll_get _ (U.keep b o q n nb (by simp)) (nin b o q nb))
  · obtain ⟨sl, q1⟩ := U.slot b o q n hb (by simp)
    obtain ⟨_, o2, ho2, hnf⟩ := I.funs.mem hb
    have e2 : o2 = { o with slots := sl } := Option.some.inj (ho2.symm.trans q1)
    obtain ⟨sl', q2⟩ := x4 b o2 (hx.keeps _ _ ho2) hnf
    rw [e2] at q2
    exact ⟨sl', q2⟩
  · obtain ⟨o', q1⟩ := U.there b o q (by simp)
    by_cases hb : b ∈ frs outer
    · obtain ⟨_, o2, ho2, hnf⟩ := I.funs.mem hb
      obtain ⟨sl', q2⟩ := x4 b o2 (hx.keeps _ _ ho2) hnf
      exact ⟨_, q2⟩
    · exact ⟨o', stay _ _ (PySem.W.hideAll_get _ q1 (nin b o q hb))⟩
  · exact PySem.W.hideAll_get _ (U.keep b o q n nb (by simp)) (nin b o q nb)
  · obtain ⟨o', q1⟩ := U.there b o q (by simp)
    exact ⟨o', PySem.W.hideAll_get _ q1 (nin b o q nb)⟩
end
end L2
namespace L2
open PySem PySem.Spec PyProof.Rows
/-! ### raise X("..") of an own class under ValueError -/
def bmV : List Value := [.type "ValueError", .type "Exception", .type "BaseException", .type "object"]
/-- an own error class of the module -/
structure XCls (K : PySem.W.Frag) (mg : Str → Option Value) (x : Str) (C : Addr) : Prop where
  bound : mg x = some (.ref C)
  exc : PySem.W.excIn K C bmV "ValueError.__new__" = true
theorem exc_obj {K : PySem.W.Frag} {h : Heap} {C : Addr} {bmB : List Value} {nid : String} (X : K.In h) (q : PySem.W.excIn K C bmB nid = true) :
    ∃ bm N nm qn bs hdct sn sub ab col dd k0 k1 k2 k3 k5 mN, h.get? C = some (excClassObj nm qn C N bs bm hdct sn sub ab col dd k0 k1 k2 k3 k5 nid) ∧ h.Ns N mN ∧ mN "__init__" = none ∧ OwnTail h bmB bm := by
  unfold PySem.W.excIn at q
  split at q
  · rename_i dd cd sl hlk
    split at q
    · rename_i C' bm u0 u1 u2 u3 n u5 hmro hsl
      simp only [Bool.and_eq_true, beq_iff_eq, Bool.not_eq_true'] at q
      obtain ⟨⟨⟨⟨⟨rfl, rfl⟩, q3⟩, q4⟩, q5⟩, q6⟩ := q
      obtain ⟨nm, bs, mro, ns, qn, hd, sn, sub, ab, col, del⟩ := cd
      dsimp only at hmro q3 q5 q6
      subst hmro q3
      obtain ⟨l⟩ := sl
      simp only at hsl
      subst hsl
      exact ⟨bm, ns, nm, qn, bs, hd, sn, sub, ab, col, dd, u0, u1, u2, u3, u5, _, X _ _ hlk, .of_isNs (PySem.W.isNs_of_in X q5), PySem.W.nsMap_none_of_in X q5 q6, PySem.W.tail_of_in X q4⟩
    · cases q
  · cases q
section
variable {P : Program} {w : World} {K : PySem.W.Frag} {mg : Str → Option Value} {base : Heap} {N : List Str} {qual : Str} {scope : Scope} {f : Addr} {cd : Value} {A : Around} {outer : List Env} {s₀ : Shared} {H₀ : Hp} {E : XK}
def tRaise (C : Addr) (E : XK) (t : TA) : TS := fun _ σ H => t σ H fun vs H1 => vs.length ≤ sizeLine ∧ E (.ref C) none H1
theorem ps_raise {x : Str} {C : Addr} {e₀ : Expr} {es : List Expr} {np cpos pos : Pos} {t : TA} (hC : XCls K mg x C) (hg : Gl (cxE P w K mg base N qual scope f cd A outer s₀ H₀ E) x)
    (ha : PA (cxE P w K mg base N qual scope f cd A outer s₀ H₀ E).nox (e₀ :: es) t)
    (hd : (x == ("__debug__" : Str)) = false := by decide) (he : starEach (e₀ :: es) (cxE P w K mg base N qual scope f cd A outer s₀ H₀ E).env = (false, eval e₀ (cxE P w K mg base N qual scope f cd A outer s₀ H₀ E).env) :: starEach es (cxE P w K mg base N qual scope f cd A outer s₀ H₀ E).env := by rfl)
    (hpl : (backTo cpos (starEach es (cxE P w K mg base N qual scope f cd A outer s₀ H₀ E).env)).any (·.1) = false := by rfl) :
    PS (cxE P w K mg base N qual scope f cd A outer s₀ H₀ E) (.Raise (some (.Call (.Name x np) (e₀ :: es) [] cpos)) none pos) (tRaise C E t) := by
  intro pins s σ H D I h
  obtain ⟨bm, Nn, nm, qn, bs, hdct, sn, sub, ab, col, dd, k0, k1, k2, k3, k5, mN, hCo, hN, hni, T⟩ := exc_obj I.ok.mod.kin hC.exc
  refine wpAny_Raise_call_subT (C := C) (nm := nm) (q := qn) (N := Nn) (bs := bs) (bm := bm) (hdct := hdct) (sn := sn) (sub := sub) (ab := ab) (col := col) (dd := dd) (k0 := k0) (k1 := k1) (k2 := k2) (k3 := k3) (k5 := k5) (mN := mN) (bmB := bmV) (newId := "ValueError.__new__")
    PySem.F.excBase_ValueError (T.hasType (by decide)) (I.ok.hd rfl) (by rw [he]; exact hpl) hni (ld_glob I hg hC.bound ⟨rfl, ?_⟩ hd)
  have z := ha cpos pins s σ H _ (I.wish _) h
  have he' : starEach (e₀ :: es) (cxE P w K mg base N qual scope f cd A outer s₀ H₀ E).nox.env = (false, eval e₀ (cxE P w K mg base N qual scope f cd A outer s₀ H₀ E).env) :: starEach es (cxE P w K mg base N qual scope f cd A outer s₀ H₀ E).env := he
  rw [he'] at z
  rw [he]
  refine Calls.evalArgs_plain ?_
  refine wpAny_mono z (fun us s1 h1 => ?_) fun _ _ z => False.elim z
  obtain ⟨vs, H1, I1, r, hl, hE⟩ := h1
  have I1 := I1.unwish
  exact ⟨rfl, by rw [← r.length]; exact hl, I1.bk _ _ hCo, hN.keeps I1.bk, T.keeps I1.bk, fun h' e hm => made_leaves I1 hm hE⟩
end
end L2
namespace L2
open PySem PySem.Spec PyProof.Rows
section
variable {M : Model} {A : Around} {E : Value → Shared → Prop} {K : PySem.W.Frag} {h : Heap} {g : Array GenState} {d : Drawn} {t : Nat} {os : OsState} {a C CW : Addr} {oe : Obj}
end
end L2
namespace L2
open PySem PySem.Spec PyProof.Rows
/-! ### an exception that was caught: its class is known -/
def excO (C a : Addr) : HO := .ext fun h => ∃ o, h.get? a = some o ∧ o.cls = .ref C ∧ ∃ vs, o.data = .fields vs
section
variable {X : Cx} {pins : List (Addr × Obj)} {σ : St} {H : Hp} {s : Shared}
theorem Inv.caught {a C : Addr} {B : Heap} {a0 : Value} {H' : Hp} {s' : Shared} {h6 : Heap} (I : Inv X pins σ H s) (F : Flies X.prog X.w X.stack H s a C B a0 H' s') (fl : Heap.FlyingW B X.stack a (.ref C) a0 h6) (up : s'.heap.UpToSlots h6) :
    Inv X pins σ (upd H' a (excO C a)) { s' with heap := h6 } := by
  have fr := F.free
  have V' := F.un
  have ff := F.fly.2.2.1
  obtain ⟨oe, vs, hoe, hoc, hod, _⟩ := fl.first
  have ne : ∀ b u, H' b = some u → b ≠ a := fun b u q z => by rw [z, fr] at q; cases q
  have nea : ∀ b o, s.heap.get? b = some o → H b = none → b ≠ a := fun b o q n z => by
    by_cases hb : b ∈ frs X.stack
    · obtain ⟨_, o2, ho2, hnf⟩ := fl.2.2.1.mem hb
      rw [z, hoe] at ho2
      cases ho2
      exact hnf _ hod
    · have := F.keep b o q n hb
      rw [z, fl.2.1] at this
      cases this
  refine I.call' (s' := { s' with heap := h6 }) (ch := []) F.os ⟨fun b o q n nb _ => fl.1 _ _ (F.keep b o q n nb), fun b o q n hb _ => ?_, fun b o q n hx => ?_, fun b o q _ => ?_, fun b xs q => ?_, fun b o u q => ?_, fun b ps q => ?_⟩ ?_ F.bare (fun b z => absurd z (by simp))
  · obtain ⟨sl, q1⟩ := V'.slot b o q n hb (by simp)
    obtain ⟨_, o2, ho2, hnf⟩ := ff.mem hb
    have e2 := Option.some.inj (ho2.symm.trans q1)
    obtain ⟨sl', q2⟩ := up b o2 ho2 hnf
    rw [e2] at q2
    exact ⟨sl', q2⟩
  · rw [upd_ne (nea b o q n)]
    exact V'.free b o q n hx
  · by_cases hb : b ∈ frs X.stack
    · obtain ⟨_, o2, ho2, hnf⟩ := fl.2.2.1.mem hb
      exact ⟨_, ho2⟩
    · obtain ⟨o', q1⟩ := F.has b o q hb
      exact ⟨o', fl.1 _ _ q1⟩
  · have q' := V'.tups b xs q
    rw [upd_ne (ne _ _ q')]; exact q'
  · have q' := V'.frzs b o u q
    rw [upd_ne (ne _ _ q')]; exact q'
  · obtain ⟨more, q'⟩ := V'.tbls b ps q
    exact ⟨more, by rw [upd_ne (ne _ _ q')]; exact q'⟩
  · intro b u q
    by_cases hb : b = a
    · subst hb
      rw [upd_same] at q
      cases q
      exact ⟨⟨oe, hoe, hoc, vs, hod⟩, ⟨oe, hoe⟩, fun h1 h2 ⟨o, q1, q2, q3⟩ k => ⟨o, k o q1, q2, q3⟩⟩
    · rw [upd_ne hb] at q
      exact (F.hok b u q).stay (fun c v _ z => fl.1 _ _ z) (fun c z => by rw [upd_ne (ne _ _ z)]; exact z) fun c xs z => by rw [upd_ne (ne _ _ z)]; exact z
end
/-! ### within an except suite -/
def Cx.hold (X : Cx) (a : Addr) : Cx := { X with A := X.A.mark (some (.ref a)), calm := false, xe := fun _ _ => False }
theorem Cx.Ok.hold {X : Cx} (ok : X.Ok) (a : Addr) : (X.hold a).Ok :=
  ⟨ok.mod, ok.kind, ok.glob, ok.blt, ok.above, ok.inj, ok.has, ok.cab, (fun z => by cases z), ok.frames, ok.stk, ok.exf, ok.bs, ok.bsz, ok.noex, ok.exfs, ok.funs, ok.frf⟩
section
variable {X : Cx} {pins : List (Addr × Obj)} {σ : St} {H : Hp} {s : Shared}
theorem Inv.hold (I : Inv X pins σ H s) (a : Addr) : Inv (X.hold a) pins σ H s := ⟨I.ok.hold a, I.os, I.bare, I.base, I.loc, I.cell, I.free, I.freeC, I.pin, I.hok, I.len⟩
end
/-! ### code that may raise, while the names stand as they stood -/
def PEr (X : Cx) (e : Expr) (t : XK → TE) : Prop := ∀ (pins : List (Addr × Obj)) (s : Shared) (σ : St) (H : Hp) (Q : VK) (E : XK) (xe : Value → Shared → Prop), Inv X pins σ H s →
  (∀ H1 s1 e' s', Inv X pins σ H1 s1 → CXE X.prog X.w X.stack H1 s1 E e' s' → xe e' s') → t E σ H Q → wpAny (model X.prog X.w) X.A (eval e X.env) (EP X pins σ Q) xe s
def PSr (X : Cx) (sts : List Stmt) (t : XK → TS) : Prop := ∀ (pins : List (Addr × Obj)) (s : Shared) (σ : St) (H : Hp) (D : Ends) (E : XK) (xe : Value → Shared → Prop), Inv X pins σ H s →
  (∀ H1 s1 e' s', Inv X pins σ H1 s1 → CXE X.prog X.w X.stack H1 s1 E e' s' → xe e' s') → t E D σ H → wpAny (model X.prog X.w) X.A (execs sts X.env) (SP X pins D) xe s
section
variable {X : Cx}
/-- try: .. except W as n: .. -/
def tTry (K : PySem.W.Frag) (CW : Addr) (ni : Nat) (tb : XK → TS) (ts : TS) : TS := fun D σ H =>
  tb (fun c _ H1 => ∃ C, c = .ref C ∧ PySem.W.mroIn K C (.ref CW) = some true ∧ ∀ a, H1 a = none →
    ts { nx := fun σ' H' => D.nx (σ'.set ni none) H', rt := D.rt, bk := fun σ' H' => D.bk (σ'.set ni none) H', ct := fun σ' H' => D.ct (σ'.set ni none) H' } (σ.set ni (some (.ref a))) (upd H1 a (excO C a))) D σ H
end
end L2
namespace L2
open PySem PySem.Spec PyProof.Rows
structure XIs (K : PySem.W.Frag) (C : Addr) : Prop where
  exc : PySem.W.excIn K C bmV "ValueError.__new__" = true
  ga : PySem.W.findIn K (.ref C) "__getattribute__" = some (some (.builtin "BaseException.__getattribute__"))
  noG : PySem.W.findIn K (.ref C) "__getattr__" = some none
  cl : PySem.W.findIn K (.ref C) "__class__" = some (some (.builtin "object.__class__"))
  mo : PySem.W.mroIn K C (.type "object") = some true
  sg : PySem.W.specialIn K (.builtin "object.__class__") "__get__" = some (some (.builtin "getset_descriptor.__get__"))
  tk : PySem.W.takesIn K (.builtin "object.__class__") = some true
  mB : PySem.W.mroIn K C (.type "BaseException") = some true
section
variable {prog : Program} {w : World} {A : Around} {E : Value → Shared → Prop} {K : PySem.W.Frag} {h : Heap} {g : Array GenState} {d : Drawn} {t : Nat} {os : OsState} {a C : Addr} {o : Obj}
end
section
variable {X : Cx}
end
end L2
namespace L2
open PySem PySem.Spec PyProof.Rows
section
variable {P : Program} {w : World} {K : PySem.W.Frag} {mg : Str → Option Value} {base : Heap}
/-! ### a def that may raise -/
theorem Def.okE {x : Str} {st : Stmt} {N ps : List Str} {k : Nat} {sp : Sp} (F : Def K mg x st) (S : FnScope N ps (defScope st)) (len : ∀ vs H Q E, sp vs H Q E → vs.length = ps.length)
    (hb : ∀ (kV doc pm : Value) (an : Option Addr) (cdv ct : Value) (us : List Value), us.length = ps.length → bindArgs (PySem.W.fnOf x x (defArgs st) (defBody st) (defScope st) .none kV doc pm an cdv ct) ⟨us, []⟩ = pure (ps.zip us))
    (hbody : ∀ (f : Addr) (cdv : Value) (A : Around) (outer : List Env) (s : Shared) (H : Hp) (vs : List V) (Q : VK) (E : XK), Room k (A.deeper (envOfC x (defScope st) s.heap.objs.size f cdv)) → sp vs H Q E →
      ∃ t, PSs (cxE P w K mg base N x (defScope st) f cdv A outer s H E) (defBody st) t ∧ t { nx := fun _ H' => Q .non H', rt := Q } (start N vs) H) : Dn P w K mg base (CXE P w) (k + 1) x ps sp := by
  obtain ⟨f, fd, F, m⟩ := F
  have hbd := F.binds hb
  have kp := F.kp
  obtain ⟨oc, od, kV, doc, pm, an, cdv, ct, osl, rfl, lk, hcd⟩ := F.ex
  exact ⟨f, _, fn_of lk hcd S len fun A outer s H vs Q E hr hsp => hbody f cdv A outer s H vs Q E hr hsp, m, kp, hbd⟩
theorem passN {X : Cx} : Passes (CXE X.prog X.w) X E0 := fun _ _ _ _ _ _ _ ⟨_, _, _, _, _, _, _, z⟩ => z.elim
end
/-- the module's error classes -/
structure Xs where
  WishError : Addr
  NoFraction : Addr
  NoWishes : Addr
  NoTable : Addr
  NoPick : Addr
  NoOrder : Addr
  NoRoll : Addr
  NoPerson : Addr
  Unready : Addr
  NoWay : Addr
end L2
namespace L2
open PySem PySem.Spec PyProof.Rows
end L2

namespace L2
open PySem PySem.Spec PyProof.Rows
/-! ### promises of the law of the fractions -/
def spFractionE (x : Xs) : Sp := fun vs H Q E => ∃ t b : Int, vs = [.int t, .int b] ∧ (b = 0 → E (.ref x.NoFraction) none H) ∧ (b ≠ 0 → b.natAbs < 2 ^ 9000 ∧ ∀ p H', Same H H' → H' p = some (tupF (FQ.red t b)) → Q (.ref p) H')
def spBefore (K : PySem.W.Frag) : Sp := fun vs H Q _ => ∃ a b x y, vs = [.ref a, .ref b] ∧ SqT K H a [.int x.1, .int x.2] ∧ SqT K H b [.int y.1, .int y.2] ∧ Sz 4000 x ∧ Sz 4000 y ∧ Q (.bl (decide (x.1 * y.2 < y.1 * x.2))) H
def spIsFr (K : PySem.W.Frag) : Sp := fun vs H Q _ => ∃ (a : Addr) (p : Int × Int), vs = [.ref a] ∧ SqT K H a [.int p.1, .int p.2] ∧ FQ.Low p ∧ Q (.bl true) H
def kNumber (c : Int) : Int := if c % 4 = 0 then c / 4 * 982451653 % (2 * 10 ^ (40 : Int).toNat - 1) - 10 ^ (40 : Int).toNat + 1 else if c % 4 = 1 then c / 4 % 2001 - 1000 else c / 4 % 25 - 12
def spNumber : Sp := fun vs H Q _ => ∃ c : Int, vs = [.int c] ∧ Q (.int (kNumber c)) H
def spLowestN (n : Nat) : Sp := fun vs H Q _ => ∃ t b : Int, vs = [.int t, .int b] ∧ b ≠ 0 ∧ (n = 0 → 0 < b) ∧ b.natAbs < 2 ^ 9000 ∧ ∀ p H', Same H H' → H' p = some (tupF (FQ.red t b)) → Q (.ref p) H'
def spKinds (C : Addr) (nm : Str) : Sp := fun vs H Q _ => ∃ a : Addr, vs = [.ref a] ∧ H a = some (excO C a) ∧ ∀ p H', Same H H' → H p = none → H' p = some (.lst [.str nm]) → Q (.ref p) H'
def spTold01 : Sp := fun vs H Q _ => ∃ t b : Int, vs = [.int t, .int b] ∧ b.natAbs < 2 ^ 9000 ∧ (b ≠ 0 → ∀ p H', Same H H' → H' p = some (tupF (FQ.red t b)) → Q (.ref p) H') ∧ (b = 0 → ∀ p H', Same H H' → H' p = some (.lst [.str "NoFraction"]) → Q (.ref p) H')
def spWorth (K : PySem.W.Frag) : Sp := fun vs H Q _ => ∃ (a : Addr) (p : Int × Int) (t b : Int), vs = [.ref a, .int t, .int b] ∧ SqT K H a [.int p.1, .int p.2] ∧ FQ.Low p ∧ p.1 * b = t * p.2 ∧ Sz 4000 p ∧ t.natAbs < 2 ^ 9000 ∧ b.natAbs < 2 ^ 9000 ∧ Q (.bl true) H
def spRight (K : PySem.W.Frag) : Sp := fun vs H Q _ => ∃ (a b : Addr) (x y : Int × Int), vs = [.ref a, .ref b] ∧ SqT K H a [.int x.1, .int x.2] ∧ SqT K H b [.int y.1, .int y.2] ∧ FQ.Low x ∧ FQ.Low y ∧ Sz 200 x ∧ Sz 200 y ∧ ∀ H', Same H H' → Q (.bl true) H'
theorem Sz.up {m n : Nat} {p : Int × Int} (h : Sz m p) (hmn : m ≤ n) : Sz n p := ⟨size_up h.1 hmn, size_up h.2.1 hmn, h.2.2⟩
/-- a pair brought to lowest terms is right -/
structure OkF (p : Int × Int) (t b : Int) : Prop where
  low : FQ.Low p
  worth : p.1 * b = t * p.2
  sz : Sz 4000 p
  t : t.natAbs < 2 ^ 9000
  b : b.natAbs < 2 ^ 9000
theorem add_size {a b : Int} {m : Nat} (h1 : a.natAbs < 2 ^ m) (h2 : b.natAbs < 2 ^ m) : (a + b).natAbs < 2 ^ (m + 1) := by
  have := Int.natAbs_add_le a b
  rw [Nat.pow_succ]
  omega
end L2

namespace L2
open PySem PySem.Spec PyProof.Rows
/-! ### all, sorted, list(range(..)), isinstance of two kinds -/
section
variable {X : Cx}
theorem vals_at {xs : List V} {us : List Value} (r : Vals xs us) {i : Nat} {u : Value} (h : us[i]? = some u) : ∃ x, xs[i]? = some x ∧ RelV x u := by
  have hl := r.length
  have hi : i < us.length := (List.getElem?_eq_some_iff.mp h).1
  have e : xs[i]? = some xs[i] := by simp [show i < xs.length by omega]
  obtain ⟨u', h1, h2⟩ := r.get e
  rw [h] at h1
  cases h1
  exact ⟨_, e, h2⟩
theorem vals_of : ∀ {xs : List V} {us : List Value}, xs.length = us.length → (∀ (i : Nat) (v : V) (u : Value), xs[i]? = some v → us[i]? = some u → RelV v u) → Vals xs us
  | [], [], _, _ => .nil
  | x :: xs, u :: us, hl, h => .cons (h 0 x u rfl rfl) (vals_of (by simpa using hl) fun i v w h1 h2 => h (i + 1) v w (by simpa using h1) (by simpa using h2))
theorem call_all (hc : X.calm = true) : CallR X (.builtin "all") (fun xs H Q => ∃ (p : Addr) (bs : List Bool), xs = [.ref p] ∧ SqL X.K H p (bs.map V.bl) ∧ Q (.bl (bs.all id)) H) := by
  intro pins s σ H xs us Q I r h
  obtain ⟨p, bs, rfl, hq, q⟩ := h
  obtain ⟨u, rfl, rx⟩ := vals1 r
  cases (show u = Value.ref p from rx)
  obtain ⟨its, rv, pl, hz⟩ := I.list hq
  have hl := rv.length
  rw [List.length_map] at hl
  have hp : p < s.heap.objs.size := by obtain ⟨_, e, _⟩ := pl.isList; exact Heap.lt_size e
  have htr : TruthOf X.prog X.w X.A.in1 (fun i v => its.toArray[i]? = some v) (fun i => bs.getD i false) := fun i v s Q E hv hQ => by
    dsimp only at hv hQ
    rw [List.getElem?_toArray] at hv
    obtain ⟨x, hx, rx⟩ := vals_at rv hv
    rw [List.getElem?_map] at hx
    cases hb : bs[i]? with
    | none => rw [hb] at hx; cases hx
    | some b =>
      rw [hb] at hx
      cases hx
      cases (show v = Value.bool b from rx)
      have e : bs.getD i false = b := by simp [List.getD_eq_getElem?_getD, hb]
      rw [e] at hQ
      exact wpAny_pure hQ
  refine call_all_walk (wpAny_pyIter_list pl.isList ⟨s.heap.objs.size, _, _, _, _, _, _, rfl, Walks.list (A := X.A.in1) (I.ok.hd hc) s.heap.objs.size p (Nat.ne_of_lt hp) its.toArray, ⟨⟨_, Heap.get?_push_size _ rfl, rfl, rfl⟩, pl.isList.push _⟩, htr, fun h' tk hk => ?_⟩)
  have e : (List.range its.toArray.size).all (fun i => bs.getD i false) = bs.all id := by
    rw [List.size_toArray, ← hl]
    apply Bool.eq_iff_iff.mpr
    rw [List.all_eq_true, List.all_eq_true]
    constructor
    · intro h x hx
      obtain ⟨i, hi, rfl⟩ := List.mem_iff_getElem.mp hx
      have := h i (List.mem_range.mpr hi)
      simpa [hi] using this
    · intro h i hi
      have hi' := List.mem_range.mp hi
      have := h bs[i] (List.getElem_mem hi')
      simpa [hi'] using this
  rw [e]
  refine ⟨.bl _, H, I.kept fun b o ho => hk b o (fun hm => ?_) (Heap.get?_push_of_some _ ho), rfl, q⟩
  rw [List.mem_singleton] at hm
  subst hm
  exact absurd (Heap.lt_size ho) (Nat.lt_irrefl _)
theorem ints_are {ns : List Int} : ∀ {vs : List Value}, Vals (ns.map V.int) vs → IntsAre vs ns := by
  induction ns with
  | nil => intro vs r; cases r; exact .nil
  | cons n ns ih =>
    intro vs r
    cases r with
    | cons r rs =>
      obtain ⟨t, rfl⟩ := (show ∃ t, _ = Value.int n t from r)
      exact .cons _ _ (ih rs)
theorem collect_tup {prog : Program} {w : World} {A : Around} {E : Value → Shared → Prop} {s : Shared} {l : Addr} {vs : List Value} {Q : List Value → Shared → Prop} (ht : IsTup s.heap l vs.toArray) (hsz : vs.length ≤ sizeLine)
    (h : Q vs { s with heap := (s.heap.push (seqObj "list" #[] 0)).update s.heap.objs.size (Obj.mapSeq (· ++ vs.toArray)) }) : wpAny (model prog w) A (collect (.ref l)) Q E s := by
  obtain ⟨o, ho, hcl, n, hd⟩ := ht
  have ho' : (s.heap.push (seqObj "list" #[] 0)).get? l = some o := Heap.get?_push_of_some _ ho
  have hnew : (s.heap.push (seqObj "list" #[] 0)).get? s.heap.objs.size = some (seqObj "list" #[] 0) := Heap.get?_push_size _ rfl
  unfold collect
  refine wpAny_bind (wpAny_runValue (codeAny_builtin F.entry_proto_collect ?_))
  change wpAny _ _ (do again (.builtin "list.__iadd__" ⟨[← newList [], .ref l], []⟩)) _ _ s
  refine wpAny_bind (wpAny_newList (wpAny_pure ⟨Code.quiet_builtin _ (by decide +kernel), codeAny_builtin F.entry_list_iadd ?_⟩))
  change wpAny _ _ (Builtin.List.listExtendWith (.ref s.heap.objs.size) (.ref l) (.ref s.heap.objs.size)) _ _ { s with heap := s.heap.push (seqObj "list" #[] 0) }
  unfold Builtin.List.listExtendWith
  refine wpAny_bind (wpAny_typeOf (T := "tuple") ⟨o, ho', hcl⟩ ?_)
  rw [if_pos (by rw [show (Value.type "tuple" == Value.type "tuple") = true from rfl]; simp)]
  refine wpAny_bind (listItems_at ho' hd ?_)
  refine wpAny_bind (listItems_at (xs := #[]) (n := 0) hnew rfl ?_)
  rw [if_neg (by simp)]
  refine wpAny_bind (listUpdate_at (xs := #[]) (n := 0) hnew rfl ?_ (Nat.zero_le _) (by change (#[] ++ vs.toArray).size ≤ sizeLine + 1; simp only [Array.size_append, List.size_toArray, List.length_nil]; omega))
  refine wpAny_pure ?_
  change wpAny (model prog w) A (do
      let o ← load s.heap.objs.size
      match o.data with
      | .seq xs _ => pure xs.toList
      | _ => unsupported "internal:collect") Q E { s with heap := (s.heap.push (seqObj "list" #[] 0)).update s.heap.objs.size (Obj.mapSeq (· ++ vs.toArray)) }
  refine wpAny_bind (wpAny_load (get?_update_seq hnew _) ?_)
  change wpAny _ _ (pure ((#[] : Array Value) ++ vs.toArray).toList) Q E _
  have e : ((#[] : Array Value) ++ vs.toArray).toList = vs := by simp
  rw [e]
  exact wpAny_pure h
theorem sorted_tup {prog : Program} {w : World} {A : Around} {E : Value → Shared → Prop} {s : Shared} {l : Addr} {vs : List Value} {ns : List Int} {Q : Value → Shared → Prop} (ht : IsTup s.heap l vs.toArray) (hI : IntsAre vs ns) (h64 : vs.length < 64)
    (h : ∀ (out : Array Value) (ns' : List Int), IntsAre out.toList ns' → ns'.Perm ns → ns'.Pairwise (· ≤ ·) → Q (.ref (s.heap.objs.size + 1)) { s with heap := sortedAll s.heap vs out }) :
    wpAny (model prog w) A (call (.builtin "sorted") [.ref l]) Q E s := by
  have e1 : ((s.heap.push (seqObj "list" #[] 0)).update s.heap.objs.size (Obj.mapSeq (· ++ vs.toArray))).objs.size = s.heap.objs.size + 1 := by rw [Heap.size_update, size_push']
  have e2 : (((s.heap.push (seqObj "list" #[] 0)).update s.heap.objs.size (Obj.mapSeq (· ++ vs.toArray))).push (seqObj "list" vs.toArray 0)).get? (s.heap.objs.size + 1) = some (seqObj "list" vs.toArray 0) := by
    rw [← e1]; exact Heap.get?_push_size _ rfl
  refine Calls.call_function_entry kind_sorted plain_sorted entry_sorted (args_sorted1 _) ?_
  unfold Builtin.«sorted»
  refine wpAny_bind (m := checkCount "sorted" 1 1 _) (wpAny_pure ?_)
  have hn : vs.length ≤ sizeLine := Nat.le_of_lt (small1000 (by omega))
  refine wpAny_bind (collect_tup ht hn (wpAny_bind (wpAny_newList ?_)))
  change wpAny _ _ _ _ _ { s with heap := ((s.heap.push (seqObj "list" #[] 0)).update s.heap.objs.size (Obj.mapSeq (· ++ vs.toArray))).push (seqObj "list" vs.toArray 0) }
  rw [e1]
  refine wpAny_bind (wpAny_holding (wpAny_call_entry slot_list_sort ⟨_, e2, rfl⟩ entry_list_sort (list_sort_tree e2 hI h64 fun out ns' a1 a2 a3 => ⟨_, rfl, ?_⟩) (args_list_sort _)))
  exact wpAny_pure ⟨_, rfl, h out ns' a1 a2 a3⟩
/-- sorted(..) of whole numbers -/
theorem call_sorted : CallR X (.builtin "sorted") (fun xs H Q => ∃ (p : Addr) (ns : List Int), xs = [.ref p] ∧ (SqL X.K H p (ns.map V.int) ∨ SqT X.K H p (ns.map V.int)) ∧ ns.length < 64 ∧ ∀ (l : Addr) (ns' : List Int), H l = none → ns'.Perm ns → ns'.Pairwise (· ≤ ·) → Q (.ref l) (upd H l (.lst (ns'.map V.int)))) := by
  intro pins s σ H xs us Q I r h
  obtain ⟨p, ns, rfl, hq, h64, q⟩ := h
  obtain ⟨u, rfl, rx⟩ := vals1 r
  cases (show u = Value.ref p from rx)
  have fin : ∀ (its : List Value), Vals (ns.map V.int) its → ∀ (out : Array Value) (ns' : List Int), IntsAre out.toList ns' → ns'.Perm ns → ns'.Pairwise (· ≤ ·) → EP X pins σ Q (.ref (s.heap.objs.size + 1)) { s with heap := sortedAll s.heap its out } := fun its rv out ns' a1 a2 a3 => by
    obtain ⟨e, he⟩ := sortedAll_at s.heap its out
    refine ⟨.ref (s.heap.objs.size + 1), _, I.laid (t' := s.toks) (fun b o ho => sortedAll_old ho) (Nat.le_succ _) (show ObjOk X.prog X.w _ _ _ (.lst (ns'.map V.int)) from ⟨?_, out.toList, e, vals_ints a1, by rw [he]⟩), rfl, q _ ns' (I.hok.fresh (Nat.le_succ _)) a2 a3⟩
    rw [List.length_map, a2.length_eq]
    exact Nat.le_of_lt (small1000 (by omega))
  rcases hq with hq | hq
  · obtain ⟨its, rv, pl, hz⟩ := I.list hq
    have hl := rv.length
    rw [List.length_map] at hl
    exact sorted_ints pl.isList (ints_are rv) (by omega) (fin its rv)
  · obtain ⟨its, rv, pl, hz⟩ := I.tuple hq
    have hl := rv.length
    rw [List.length_map] at hl
    exact sorted_tup pl (ints_are rv) (by omega) (fin its rv)
/-- range(n) as a value -/
theorem call_range : CallR X (.type "range") (fun xs H Q => ∃ n : Int, xs = [.int n] ∧ ∀ l, H l = none → Q (.ref l) (upd H l (.rng 0 n))) := by
  intro pins s σ H xs us Q I r h
  obtain ⟨n, rfl, q⟩ := h
  obtain ⟨u, rfl, t, rfl⟩ := vals1 r
  exact call_range_1 ⟨.ref s.heap.objs.size, _, I.laid (fun b o ho => Heap.get?_push_of_some _ ho) (Nat.le_refl _) (show ObjOk X.prog X.w _ _ _ (.rng 0 n) from ⟨_, _, _, Heap.get?_push_size _ rfl⟩), rfl, q _ I.fresh⟩
/-- list(range(n)) -/
theorem call_list_rng (hc : X.calm = true) : CallR X (.type "list") (fun xs H Q => ∃ p n, xs = [.ref p] ∧ H p = some (.rng 0 (n : Nat)) ∧ n ≤ 1000 ∧ ∀ l, H l = none → Q (.ref l) (upd H l (.lst ((List.range n).map fun (i : Nat) => V.int (i : Int))))) := by
  intro pins s σ H xs us Q I r h
  obtain ⟨p, n, rfl, hq, hn, q⟩ := h
  obtain ⟨u, rfl, rx⟩ := vals1 r
  cases (show u = Value.ref p from rx)
  obtain ⟨t, t2, t3, hr⟩ := I.hok p _ hq
  have hs : Builtin.Range.rangeSize 0 (n : Int) 1 = (n : Int) := by rw [rangeSize_one]; split <;> omega
  have hsm : Builtin.Range.small 0 (n : Int) 1 = true := small_one (by decide) (by decide) (by omega) (by omega)
  refine call_list_range (I.ok.hd hc) hr hsm hs (by omega) fun h' tk acc' c' hk hS hacc => ?_
  refine ⟨.ref s.heap.objs.size, _, I.laid hk (Nat.le_refl _) (show ObjOk X.prog X.w _ _ _ (.lst _) from ⟨?_, acc'.toList, c', ?_, ?_⟩), rfl, q _ I.fresh⟩
  · rw [List.length_map, List.length_range]; exact Nat.le_of_lt (small1000 hn)
  · refine vals_of (by rw [List.length_map, List.length_range, Array.length_toList, hacc.1]) fun i v u h1 h2 => ?_
    rw [List.getElem?_map] at h1
    have hi : i < n := by
      by_cases z : i < n
      · exact z
      · rw [List.getElem?_eq_none (by simpa using z)] at h1; cases h1
    rw [List.getElem?_range hi] at h1
    cases h1
    obtain ⟨t', e⟩ := hacc.2 i u (by rw [← h2]; simp)
    rw [e]
    exact ⟨t', by simp⟩
  · simpa using hS
/-- isinstance(x, (list, tuple)) -/
theorem isinst_tup {pins : List (Addr × Obj)} {σ : St} {H : Hp} {s : Shared} {A : Around} {E : Value → Shared → Prop} {Q : Value → Shared → Prop} {tp : Addr} {dd : Option Addr} {its : List Value} {n : Nat} {sl : Array (Option Value)} {b : Bool} {x : V} {u : Value} {t : String} (I : Inv X pins σ H s) (rx : RelV x u) (ty : tyOf X.K H x t)
    (htp : s.heap.get? tp = some ⟨.type "tuple", dd, .seq its.toArray n, sl⟩) (e : PySem.W.kitAny X.K (.type t) its = some b) (h : ∀ tk, Q (.bool b) { s with toks := tk }) : wpAny (model X.prog X.w) A (call (.builtin "isinstance") [u, .ref tp]) Q E s := by
  cases x with
  | non => cases (show u = Value.none from rx); cases (show t = "NoneType" from ty); exact PySem.W.kia_tup PySem.W.kitx_none I.kIn True.intro htp e (fun z => nomatch z) h
  | bl y => cases (show u = Value.bool y from rx); cases (show t = "bool" from ty); exact PySem.W.kia_tup PySem.W.kitx_bool I.kIn True.intro htp e (fun z => nomatch z) h
  | int i => obtain ⟨tk, q⟩ := (show ∃ t, u = Value.int i t from rx); cases q; cases (show t = "int" from ty); exact PySem.W.kia_tup PySem.W.kitx_int I.kIn True.intro htp e (fun z => nomatch z) h
  | str y => obtain ⟨tk, q⟩ := (show ∃ t, u = Value.str y t from rx); cases q; cases (show t = "str" from ty); exact PySem.W.kia_tup PySem.W.kitx_str I.kIn True.intro htp e (fun z => nomatch z) h
  | ref a =>
    cases (show u = Value.ref a from rx)
    rcases ty with ⟨rfl, xs, hq⟩ | ⟨rfl, xs, hq⟩
    · obtain ⟨its', _, ⟨o, n', h1, h2, _⟩, _⟩ := I.list hq
      exact PySem.W.kia_tup PySem.W.kitx_list I.kIn ⟨o, h1, h2⟩ htp e (fun z => nomatch z) h
    · obtain ⟨its', _, ⟨o, h1, h2, _⟩, _⟩ := I.tuple hq
      exact PySem.W.kia_tup PySem.W.kitx_tuple I.kIn ⟨o, h1, h2⟩ htp e (fun z => nomatch z) h
  | byt _ => exact ty.elim
  | flt _ => exact ty.elim
  | ty _ => exact ty.elim
theorem call_isT2 : CallR X (.builtin "isinstance") (fun xs H Q => ∃ x p t, xs = [x, .ref p] ∧ SqT X.K H p [.ty "list", .ty "tuple"] ∧ tyOf X.K H x t ∧ Q (.bl (isTy t "list" || isTy t "tuple")) H) := by
  intro pins s σ H xs us Q I r h
  obtain ⟨x, p, t, rfl, hq, ty, q⟩ := h
  obtain ⟨u, w', rfl, rx, rT⟩ := vals2 r
  cases (show w' = Value.ref p from rT)
  obtain ⟨its, rv, ⟨o, h1, h2, n, h3⟩, _⟩ := I.tuple hq
  have e : its = [Value.type "list", Value.type "tuple"] := by
    cases rv with
    | cons r1 rs =>
      cases rs with
      | cons r2 rs =>
        cases rs
        cases (show _ = Value.type "list" from r1)
        cases (show _ = Value.type "tuple" from r2)
        rfl
  subst e
  obtain ⟨oc, od, oda, osl⟩ := o
  dsimp only at h2 h3
  subst h2 h3
  refine isinst_tup I rx ty h1 (b := isTy t "list" || isTy t "tuple") ?_ fun tk => ⟨.bl _, H, I.tok tk, rfl, q⟩
  have k1 := kit_tT (K := X.K) (T := "list") (tyOf_sort ty) (by decide)
  have k2 := kit_tT (K := X.K) (T := "tuple") (tyOf_sort ty) (by decide)
  simp only [PySem.W.kitAny, k1, k2]
  cases isTy t "list" <;> cases isTy t "tuple" <;> rfl
end
end L2

namespace L2
open PySem PySem.Spec PyProof.Rows
/-! ### the shape of data: whatever okD takes -/
mutual
theorem okD_lay : ∀ (n : Nat) (d : PyData), okD n d = true → d.canLay0 = true ∧ d.depth ≤ n
  | _, .none, _ => by simp [PyData.canLay0, PyData.depth]
  | _, .bool _, _ => by simp [PyData.canLay0, PyData.depth]
  | _, .int _, _ => by simp [PyData.canLay0, PyData.depth]
  | n, .str x, h => by
    have h' : SeqAt.shaped (.str x) = true := by cases n <;> simpa [okD] using h
    exact ⟨SeqAt.canLay_of_shaped h', by simp [PyData.depth]⟩
  | n + 1, .tuple ds, h => by
    have := okD_lays n ds (by simpa [okD] using h)
    simp [PyData.canLay0, PyData.depth, this]
  | n + 1, .list ds, h => by
    have := okD_lays n ds (by simpa [okD] using h)
    simp [PyData.canLay0, PyData.depth, this]
  | 0, .tuple _, h => by simp [okD] at h
  | 0, .list _, h => by simp [okD] at h
  | 0, .dict _, h => by simp [okD] at h
  | _ + 1, .dict _, h => by simp [okD] at h
theorem okD_lays : ∀ (n : Nat) (ds : List PyData), (∀ d ∈ ds, okD n d = true) → PyData.canLayAll0 ds = true ∧ PyData.depthAll ds ≤ n
  | n, [], _ => by simp [PyData.canLayAll0, PyData.depthAll]
  | n, d :: ds, h => by
    have h1 := okD_lay n d (h d List.mem_cons_self)
    have h2 := okD_lays n ds fun x hx => h x (List.mem_cons_of_mem _ hx)
    simp only [PyData.canLayAll0, PyData.depthAll, h1.1, h2.1, Bool.and_self, true_and]
    omega
end
theorem shaped_ok {n : Nat} {d : PyData} (h : okD n d = true) (hn : n ≤ 64) : SeqAt.shaped d = true := by
  have := okD_lay n d h
  unfold SeqAt.shaped
  rw [this.1]
  simp
  omega
theorem eqvAll_ints : ∀ a b : List Int, PyData.eqvAll (a.map PyData.int) (b.map PyData.int) = decide (a = b)
  | [], [] => by simp [PyData.eqvAll]
  | [], _ :: _ => by simp [PyData.eqvAll]
  | _ :: _, [] => by simp [PyData.eqvAll]
  | x :: a, y :: b => by
    simp only [List.map_cons, PyData.eqvAll, PyData.eqv, eqvAll_ints a b]
    by_cases h1 : x = y <;> by_cases h2 : a = b <;> simp [h1, h2]
theorem eqv_ints (a b : List Int) : PyData.eqv (.list (a.map PyData.int)) (.list (b.map PyData.int)) = decide (a = b) := by
  rw [PyData.eqv, eqvAll_ints]
theorem tyOf.mono {K : PySem.W.Frag} {H H' : Hp} {x : V} {t : String} (e : Same H H') (h : tyOf K H x t) : tyOf K H' x t := by
  cases x with
  | ref a =>
    rcases h with ⟨h1, xs, hq⟩ | ⟨h1, xs, hq⟩
    · exact .inl ⟨h1, xs, e.seq hq⟩
    · exact .inr ⟨h1, xs, e.tup hq⟩
  | non => exact h
  | bl _ => exact h
  | int _ => exact h
  | str _ => exact h
  | byt _ => exact h
  | flt _ => exact h
  | ty _ => exact h
/-- walking a list or a tuple -/
theorem pi_seq {X : Cx} {tg l : Expr} {tl : TE} (hl : PE X l tl) : PI X tg l (fun σ H R => iList X.K tl σ H R ∨ iTup X.K tl σ H R) := by
  intro pins s σ H R I h
  rcases h with h | h
  · exact pi_list hl pins s σ H R I h
  · exact pi_tup hl pins s σ H R I h
end L2

namespace L2
open PySem PySem.Spec PyProof.Rows
/-! ### the rules by the part K itself (within a comprehension's block) -/
section
variable {X : Cx} {K : PySem.W.Frag}
theorem ix_listK (h : X.K = K) : IxR X (rIxL K) := by subst h; exact ix_list
theorem call_len_seqK (h : X.K = K) : CallR X (.builtin "len") (fun xs H Q => ∃ p ys, xs = [.ref p] ∧ (SqL K H p ys ∨ SqT K H p ys) ∧ Q (.int ys.length) H) := by subst h; exact call_len_seq
theorem op_notIn_seqK (h : X.K = K) : OpR X (compareOp .NotIn) (rIn K true) := by subst h; exact op_notIn_seq
/-- a written row of whole numbers -/
def tInts (is : List Int) : TA := fun _ H Q => Q (is.map V.int) H
def intsOf : List Expr → Option (List Int)
  | [] => some []
  | .Constant (.int i) _ _ :: r => (intsOf r).map (i :: ·)
  | _ => none
/-! the same, shut: behind a rule whose end opens to the model's run the elaborator would run it -/
structure PSo (X : Cx) (st : Stmt) (t : TS) : Prop where
  h : PS X st t
structure PSso (X : Cx) (ss : List Stmt) (t : TS) : Prop where
  h : PSs X ss t
end
end L2

namespace LM
/-! ### rows of wishes -/
def rng (n : Nat) : List Int := (List.range n).map Int.ofNat
theorem rng_len (n : Nat) : (rng n).length = n := by simp [rng]
theorem mem_rng {n : Nat} {x : Int} : x ∈ rng n ↔ 0 ≤ x ∧ x < n := by
  unfold rng
  simp only [List.mem_map, List.mem_range]
  constructor
  · rintro ⟨a, h, rfl⟩; simp; omega
  · rintro ⟨h0, h1⟩; exact ⟨x.toNat, by omega, by simp; omega⟩
theorem rng_sorted (n : Nat) : (rng n).Pairwise (· ≤ ·) := by
  unfold rng
  rw [List.pairwise_map]
  refine List.Pairwise.imp ?_ (List.pairwise_lt_range (n := n))
  intro a b h
  simp
  omega
theorem rng_nodup (n : Nat) : (rng n).Nodup := by
  unfold rng
  rw [List.nodup_iff_pairwise_ne, List.pairwise_map]
  refine List.Pairwise.imp ?_ (List.pairwise_lt_range (n := n))
  intro a b h z
  have : a = b := Int.ofNat.inj z
  omega
theorem sorted_same {a b r : List Int} (ha : a.Perm r) (hs : a.Pairwise (· ≤ ·)) (hr : r.Pairwise (· ≤ ·)) : a = r :=
  List.Perm.eq_of_pairwise (fun x y _ _ h1 h2 => Int.le_antisymm h1 h2) hs hr ha
theorem sorted_iff {ns ns' : List Int} {n : Nat} (hp : ns'.Perm ns) (hs : ns'.Pairwise (· ≤ ·)) : ns' = rng n ↔ ns.Perm (rng n) :=
  ⟨fun e => e ▸ hp.symm, fun h => sorted_same (b := []) (hp.trans h) hs (rng_sorted n)⟩
structure OkW (M : List (List Int)) : Prop where
  lo : 1 ≤ M.length
  hi : M.length ≤ 6
  rows : ∀ r ∈ M, r.Perm (rng M.length)
end LM
namespace LM
end LM

namespace L2
open PySem PySem.Spec PyProof.Rows
/-! ### promises of the rows of wishes -/
/-- a row as a list or as a tuple -/
def Rw (K : PySem.W.Frag) (H : Hp) (v : V) (ns : List Int) : Prop := ∃ a, v = .ref a ∧ (SqL K H a (ns.map V.int) ∨ SqT K H a (ns.map V.int))
def RwT (K : PySem.W.Frag) (H : Hp) (v : V) (ns : List Int) : Prop := ∃ a, v = .ref a ∧ SqT K H a (ns.map V.int)
theorem Rw.mono {K : PySem.W.Frag} {H H' : Hp} {v : V} {ns : List Int} (e : Same H H') (h : Rw K H v ns) : Rw K H' v ns := by
  obtain ⟨a, rfl, q | q⟩ := h
  · exact ⟨a, rfl, .inl (e.seq q)⟩
  · exact ⟨a, rfl, .inr (e.tup q)⟩
theorem RwT.mono {K : PySem.W.Frag} {H H' : Hp} {v : V} {ns : List Int} (e : Same H H') (h : RwT K H v ns) : RwT K H' v ns := by
  obtain ⟨a, rfl, q⟩ := h
  exact ⟨a, rfl, e.tup q⟩
theorem RwT.over {K : PySem.W.Frag} {H : Hp} {v : V} {p : Addr} {ys zs : List V} {ns : List Int} (h : RwT K H v ns) (hp : H p = some (.lst ys)) : RwT K (upd H p (.lst zs)) v ns := by
  obtain ⟨a, rfl, h⟩ := h
  exact ⟨a, rfl, tup_over h hp⟩
theorem Rw.ty {K : PySem.W.Frag} {H : Hp} {v : V} {ns : List Int} (h : Rw K H v ns) : ∃ t, tyOf K H v t ∧ (isTy t "list" || isTy t "tuple") = true := by
  obtain ⟨a, rfl, q | q⟩ := h
  · exact ⟨"list", .inl ⟨rfl, _, q⟩, rfl⟩
  · exact ⟨"tuple", .inr ⟨rfl, _, q⟩, rfl⟩
def dR (ns : List Int) : PyData := .tuple (ns.map PyData.int)
def dW (M : List (List Int)) : PyData := .list (M.map dR)
theorem RwT.rep {K : PySem.W.Frag} {H : Hp} {v : V} {ns : List Int} (h : RwT K H v ns) (hl : ns.length ≤ 1000) : Rep K H v (dR ns) := by
  obtain ⟨a, rfl, q⟩ := h
  exact .tup q (Reps.ints ns) (by rw [List.length_map]; exact hl)
def spListing (K : PySem.W.Frag) : Sp := fun vs H Q _ => ∃ v t, vs = [v] ∧ tyOf K H v t ∧ ∀ H', Same H H' → Q (.bl (isTy t "list" || isTy t "tuple")) H'
def spPeople (K : PySem.W.Frag) : Sp := fun vs H Q _ => ∃ a us, vs = [.ref a] ∧ (SqL K H a us ∨ SqT K H a us) ∧ ∀ H', Same H H' → Q (.bl (decide (1 ≤ us.length ∧ us.length ≤ 6))) H'
def spIsWish (K : PySem.W.Frag) : Sp := fun vs H Q _ => ∃ v ns n, vs = [v, .int (n : Nat)] ∧ Rw K H v ns ∧ ns.length ≤ 60 ∧ n ≤ 60 ∧ ∀ b H', Same H H' → (b = true ↔ ns.Perm (LM.rng n)) → Q (.bl b) H'
def spWishesOf (K : PySem.W.Frag) (x : Xs) : Sp := fun vs H Q E => ∃ a us M, vs = [.ref a] ∧ SqL K H a us ∧ Paired (Rw K H) us M ∧ M.length ≤ 60 ∧ (∀ r ∈ M, r.length ≤ 60) ∧ (¬ LM.OkW M → ∀ H', Same H H' → E (.ref x.NoWishes) none H') ∧
  (LM.OkW M → ∀ p gs H', Same H H' → H p = none → H' p = some (.lst gs) → Paired (RwT K H') gs M → Q (.ref p) H')
def spTold02 (K : PySem.W.Frag) : Sp := fun vs H Q _ => ∃ a us M, vs = [.ref a] ∧ SqL K H a us ∧ Paired (Rw K H) us M ∧ M.length ≤ 60 ∧ (∀ r ∈ M, r.length ≤ 60) ∧ (¬ LM.OkW M → ∀ p H', Same H H' → H' p = some (.tup [.str "NoWishes"]) → Q (.ref p) H') ∧
  (LM.OkW M → ∀ p gs H', Same H H' → H p = none → H' p = some (.lst gs) → Paired (RwT K H') gs M → Q (.ref p) H')
/-- the k-th row, as the bits say -/
def bitOf (bits : Int) (k : Nat) : Bool := decide (Builtin.bitAnd (bits / 2 ^ k) 1 = 1)
def dK (bits : Int) (k : Nat) (ns : List Int) : PyData := if bitOf bits k = true then .tuple (ns.map PyData.int) else .list (ns.map PyData.int)
def dKs (bits : Int) : Nat → List (List Int) → List PyData
  | _, [] => []
  | k, r :: M => dK bits k r :: dKs bits (k + 1) M
theorem SqL.over {K : PySem.W.Frag} {H : Hp} {a p : Addr} {o : HO} {xs : List V} (h : SqL K H a xs) (hne : a ≠ p) : SqL K (upd H p o) a xs := by
  rcases h with (h | ⟨u, h⟩) | h
  · exact .inl (.inl (by rw [upd_ne hne]; exact h))
  · exact .inl (.inr ⟨u, by rw [upd_ne hne]; exact h⟩)
  · exact .inr h
theorem SqT.over {K : PySem.W.Frag} {H : Hp} {a p : Addr} {o : HO} {xs : List V} (h : SqT K H a xs) (hne : a ≠ p) : SqT K (upd H p o) a xs := by
  rcases h with (h | ⟨u, h⟩) | h
  · exact .inl (.inl (by rw [upd_ne hne]; exact h))
  · exact .inl (.inr ⟨u, by rw [upd_ne hne]; exact h⟩)
  · exact .inr h
def spByKinds (K : PySem.W.Frag) : Sp := fun vs H Q _ => ∃ (L : Addr) (rs : List Addr) (M : List (List Int)) (bits : Int), vs = [.ref L, .int bits] ∧ H L = some (.lst (rs.map V.ref)) ∧ Paired (fun r (m : List Int) => H r = some (.lst (m.map V.int))) rs M ∧ M.length ≤ 60 ∧ (∀ r ∈ M, r.length ≤ 60) ∧
  ∀ p us H', Same H H' → H p = none → H' p = some (.lst us) → Reps K H' us (dKs bits 0 M) → (∀ u ∈ us, ∃ b, u = .ref b ∧ H b = none ∧ b ≠ p ∧ ((∃ ys, H' b = some (.lst ys)) ∨ ∃ ys, H' b = some (.tup ys))) → Q (.ref p) H'
theorem map_erase : ∀ (m : List Int) (j : Nat), (m.eraseIdx j).map V.int = (m.map V.int).eraseIdx j
  | [], _ => rfl
  | _ :: _, 0 => rfl
  | x :: m, j + 1 => by simp [map_erase m j]
def spSpoilt02 (K : PySem.W.Frag) : Sp := fun vs H Q _ => ∃ (a : Addr) (ns : List Int) (H0 : Hp) (L : Addr) (rs : List Addr) (M : List (List Int)), vs = [.ref a, .ref L] ∧ SqL K H0 a (ns.map V.int) ∧ Same H0 H ∧ RowsAt H0 H L rs M ∧ LM.OkW M ∧
  ∀ L' rs' M' H', Same H0 H' → H' L' = some (.lst (rs'.map V.ref)) → Paired (fun r (m : List Int) => H' r = some (.lst (m.map V.int))) rs' M' → ¬ LM.OkW M' → M'.length ≤ 7 → (∀ r ∈ M', r.length ≤ 7) → Q (.ref L') H'
end L2

namespace L2
open PySem PySem.Spec PyProof.Rows
/-! ### sum, min, max of a list of whole numbers -/
section
variable {X : Cx}
end
end L2

namespace FQ
theorem red_neg_iff {x T : Int} (hT : 0 < T) : (red x T).1 < 0 ↔ x < 0 := by
  have w := red_worth (t := x) (b := T) (by omega)
  have p := (red_low (t := x) (b := T) (by omega)).pos
  generalize red x T = r at w p
  constructor
  · intro h
    have : r.1 * T < 0 := Int.mul_neg_of_neg_of_pos h hT
    rw [w] at this
    rcases Int.lt_or_le x 0 with z | z
    · exact z
    · exact absurd this (Int.not_lt.mpr (Int.mul_nonneg z (by omega)))
  · intro h
    have : x * r.2 < 0 := Int.mul_neg_of_neg_of_pos h p
    rw [← w] at this
    rcases Int.lt_or_le r.1 0 with z | z
    · exact z
    · exact absurd this (Int.not_lt.mpr (Int.mul_nonneg z (by omega)))
theorem red_gt_iff {x T : Int} (hT : 0 < T) : (red x T).2 < (red x T).1 ↔ T < x := by
  have w := red_worth (t := x) (b := T) (by omega)
  have p := (red_low (t := x) (b := T) (by omega)).pos
  generalize red x T = r at w p
  constructor
  · intro h
    have h1 : r.2 * T < r.1 * T := Int.mul_lt_mul_of_pos_right h hT
    rw [w, Int.mul_comm r.2 T] at h1
    exact Int.lt_of_mul_lt_mul_right h1 (by omega)
  · intro h
    have h1 : T * r.2 < x * r.2 := Int.mul_lt_mul_of_pos_right h p
    rw [← w, Int.mul_comm T r.2] at h1
    exact Int.lt_of_mul_lt_mul_right h1 (by omega)
theorem red_one_iff {x T : Int} (hT : 0 < T) : red x T = (1, 1) ↔ x = T := by
  constructor
  · intro h
    have w := red_worth (t := x) (b := T) (by omega)
    rw [h] at w
    simp at w
    omega
  · intro h
    subst h
    exact red_eq_iff (by omega) ⟨by decide, by decide⟩ (by simp)
end FQ
namespace LM
/-! ### tables, over one bottom -/
structure OkT (Z : List (List Int)) (T : Int) : Prop where
  lo : 1 ≤ Z.length
  hi : Z.length ≤ 6
  len : ∀ r ∈ Z, r.length = Z.length
  bd : ∀ r ∈ Z, ∀ x ∈ r, 0 ≤ x ∧ x ≤ T
  rs : ∀ r ∈ Z, r.sum = T
  cs : ∀ j, j < Z.length → (Z.map fun r => r.getD j 0).sum = T
def Bd (b : Nat) (m : List Int) : Prop := ∀ x ∈ m, x.natAbs < 2 ^ b
theorem Bd.up {b c : Nat} {m : List Int} (h : Bd b m) (hbc : b ≤ c) : Bd c m := fun x hx => Nat.lt_of_lt_of_le (h x hx) (Nat.pow_le_pow_right (by decide) hbc)
theorem Bd.sum {b : Nat} : ∀ {m : List Int}, Bd b m → m.length ≤ 60 → m.sum.natAbs < 2 ^ (b + 6) := by
  intro m h hl
  have key : ∀ l : List Int, Bd b l → l.sum.natAbs ≤ l.length * 2 ^ b := by
    intro l hb
    induction l with
    | nil => simp
    | cons x l ih =>
      have h1 := hb x List.mem_cons_self
      have h2 := ih fun y hy => hb y (List.mem_cons_of_mem _ hy)
      have h3 := Int.natAbs_add_le x l.sum
      rw [List.sum_cons, List.length_cons, Nat.add_mul]
      omega
  have h1 := key m h
  have h2 : m.length * 2 ^ b ≤ 60 * 2 ^ b := Nat.mul_le_mul_right _ hl
  have h3 : 2 ^ (b + 6) = 64 * 2 ^ b := by rw [Nat.pow_add, Nat.mul_comm]
  have h4 : 0 < 2 ^ b := Nat.pow_pos (by decide)
  omega
theorem Bd.take {b : Nat} {m : List Int} (h : Bd b m) (n : Nat) : Bd b (m.take n) := fun x hx => h x (List.mem_of_mem_take hx)
theorem Bd.set {b : Nat} {m : List Int} {i : Nat} {v : Int} (h : Bd b m) (hv : v.natAbs < 2 ^ b) : Bd b (m.set i v) := fun x hx => by
  rcases List.mem_or_eq_of_mem_set hx with z | z
  · exact h x z
  · rw [z]; exact hv
theorem Bd.getD {b : Nat} {m : List Int} (h : Bd b m) (i : Nat) : (m.getD i 0).natAbs < 2 ^ b := by
  by_cases hi : i < m.length
  · have : m.getD i 0 = m[i] := by simp [hi]
    rw [this]; exact h _ (List.getElem_mem hi)
  · rw [List.getD_eq_getElem?_getD, List.getElem?_eq_none (by omega)]; exact Nat.pow_pos (by decide)
/-- a square of numbers of some size -/
structure Sq (n b : Nat) (M : List (List Int)) : Prop where
  rows : M.length = n
  cols : ∀ r ∈ M, r.length = n
  bd : ∀ r ∈ M, Bd b r
theorem Sq.set {n b c : Nat} {M : List (List Int)} {i j : Nat} {m : List Int} {v : Int} (h : Sq n b M) (hm : m ∈ M) (hbc : b ≤ c) (hv : v.natAbs < 2 ^ c) : Sq n c (M.set i (m.set j v)) := by
  refine ⟨by simp [h.rows], fun r hr => ?_, fun r hr => ?_⟩
  · rcases List.mem_or_eq_of_mem_set hr with z | z
    · exact h.cols r z
    · rw [z, List.length_set]; exact h.cols m hm
  · rcases List.mem_or_eq_of_mem_set hr with z | z
    · exact (h.bd r z).up hbc
    · rw [z]; exact ((h.bd m hm).up hbc).set hv
end LM
namespace L2
open PySem PySem.Spec PyProof.Rows
/-! ### rows of fractions -/
def noL : PyData → Bool
  | .none => true
  | .bool _ => true
  | .int _ => true
  | .str _ => true
  | .tuple ds => noLs ds
  | _ => false
where noLs : List PyData → Bool
  | [] => true
  | d :: ds => noL d && noLs ds
mutual
theorem Rep.overT {K : PySem.W.Frag} {H : Hp} {p : Addr} {ys zs : List V} (hp : H p = some (.lst ys)) {x : V} {d : PyData} (r : Rep K H x d) (hn : noL d = true) : Rep K (upd H p (.lst zs)) x d := by
  cases r with
  | non => exact .non
  | bl b => exact .bl b
  | int i => exact .int i
  | str x => exact .str x
  | lst hq hs hl => simp [noL] at hn
  | tup hq hs hl => exact .tup (tup_over hq hp) (Reps.overT hp hs (by simpa [noL] using hn)) hl
theorem Reps.overT {K : PySem.W.Frag} {H : Hp} {p : Addr} {ys zs : List V} (hp : H p = some (.lst ys)) {xs : List V} {ds : List PyData} (r : Reps K H xs ds) (hn : noL.noLs ds = true) : Reps K (upd H p (.lst zs)) xs ds := by
  cases r with
  | nil => exact .nil
  | cons r rs =>
    simp only [noL.noLs, Bool.and_eq_true] at hn
    exact .cons (Rep.overT hp r hn.1) (Reps.overT hp rs hn.2)
end
def fr (T : Int) (m : List Int) : List (Int × Int) := m.map fun x => FQ.red x T
def dFr (T : Int) (m : List Int) : List PyData := (fr T m).map dF
def RwF (K : PySem.W.Frag) (H : Hp) (T : Int) (v : V) (m : List Int) : Prop := ∃ a gs, v = .ref a ∧ (SqL K H a gs ∨ SqT K H a gs) ∧ Paired (IsF K H) gs (fr T m)
def RwFT (K : PySem.W.Frag) (H : Hp) (T : Int) (v : V) (m : List Int) : Prop := ∃ a gs, v = .ref a ∧ SqT K H a gs ∧ Paired (IsF K H) gs (fr T m)
theorem fracs_mono {K : PySem.W.Frag} {H H' : Hp} {gs : List V} {ps : List (Int × Int)} (e : Same H H') (h : Paired (IsF K H) gs ps) : Paired (IsF K H') gs ps := Paired.mapP h fun _ _ q => q.mono e
theorem RwF.mono {K : PySem.W.Frag} {H H' : Hp} {T : Int} {v : V} {m : List Int} (e : Same H H') (h : RwF K H T v m) : RwF K H' T v m := by
  obtain ⟨a, gs, rfl, q, hg⟩ := h
  exact ⟨a, gs, rfl, q.imp e.seq e.tup, fracs_mono e hg⟩
theorem RwFT.mono {K : PySem.W.Frag} {H H' : Hp} {T : Int} {v : V} {m : List Int} (e : Same H H') (h : RwFT K H T v m) : RwFT K H' T v m := by
  obtain ⟨a, gs, rfl, q, hg⟩ := h
  exact ⟨a, gs, rfl, e.tup q, fracs_mono e hg⟩
theorem RwFT.rep {K : PySem.W.Frag} {H : Hp} {T : Int} {v : V} {m : List Int} (h : RwFT K H T v m) (hl : m.length ≤ 1000) : Rep K H v (.tuple (dFr T m)) := by
  obtain ⟨a, gs, rfl, q, hg⟩ := h
  have := Paired.len hg
  exact .tup q (Reps.of_fracs hg) (by rw [this, fr, List.length_map]; exact hl)
theorem rep_frac {K : PySem.W.Frag} {H : Hp} {v : V} {p : Int × Int} (h : Rep K H v (dF p)) : IsF K H v p := by
  unfold dF at h
  cases h with
  | tup hq hs hl =>
    cases hs with
    | cons h1 hs =>
      cases hs with
      | cons h2 hs =>
        cases hs
        cases h1
        cases h2
        exact ⟨_, rfl, hq⟩
theorem fracs_of {K : PySem.W.Frag} {H : Hp} : ∀ {xs : List V} {ps : List (Int × Int)}, Reps K H xs (ps.map dF) → Paired (IsF K H) xs ps
  | [], [], _ => .nil
  | [], _ :: _, h => by cases h
  | _ :: _, [], h => by cases h
  | _ :: _, _ :: _, h => by
    cases h with
    | cons h hs => exact .cons (rep_frac h) (fracs_of hs)
def spTotal (K : PySem.W.Frag) : Sp := fun vs H Q _ => ∃ a gs m T, vs = [.ref a] ∧ (SqL K H a gs ∨ SqT K H a gs) ∧ Paired (IsF K H) gs (fr T m) ∧ (0 < T ∧ T < 2 ^ 80) ∧ LM.Bd 90 m ∧ m.length ≤ 60 ∧ ∀ v H', Same H H' → IsF K H' v (FQ.red m.sum T) → Q v H'
def spShare (K : PySem.W.Frag) : Sp := fun vs H Q _ => ∃ v y T, vs = [v] ∧ IsF K H v (FQ.red y T) ∧ (0 < T ∧ T < 2 ^ 80) ∧ y.natAbs < 2 ^ 90 ∧ Q (.bl (decide (0 ≤ y ∧ y ≤ T))) H
def spShareRow (K : PySem.W.Frag) : Sp := fun vs H Q _ => ∃ v m T n, vs = [v, .int (n : Nat)] ∧ RwF K H T v m ∧ (0 < T ∧ T < 2 ^ 80) ∧ LM.Bd 90 m ∧ m.length ≤ 60 ∧ ∀ b H', Same H H' → (b = true ↔ m.length = n ∧ ∀ y ∈ m, 0 ≤ y ∧ y ≤ T) → Q (.bl b) H'
def spTableOf (K : PySem.W.Frag) (x : Xs) : Sp := fun vs H Q E => ∃ a us Z T, vs = [.ref a] ∧ SqL K H a us ∧ Paired (RwF K H T) us Z ∧ (0 < T ∧ T < 2 ^ 80) ∧ Z.length ≤ 60 ∧ (∀ r ∈ Z, LM.Bd 90 r ∧ r.length ≤ 60) ∧ (¬ LM.OkT Z T → ∀ H', Same H H' → E (.ref x.NoTable) none H') ∧
  (LM.OkT Z T → ∀ p gs H', Same H H' → H p = none → H' p = some (.lst gs) → Paired (RwFT K H' T) gs Z → Q (.ref p) H')
def spTold03 (K : PySem.W.Frag) : Sp := fun vs H Q _ => ∃ a us Z T, vs = [.ref a] ∧ SqL K H a us ∧ Paired (RwF K H T) us Z ∧ (0 < T ∧ T < 2 ^ 80) ∧ Z.length ≤ 60 ∧ (∀ r ∈ Z, LM.Bd 90 r ∧ r.length ≤ 60) ∧ (¬ LM.OkT Z T → ∀ p H', Same H H' → H' p = some (.tup [.str "NoTable"]) → Q (.ref p) H') ∧
  (LM.OkT Z T → ∀ p gs H', Same H H' → H p = none → H' p = some (.lst gs) → Paired (RwFT K H' T) gs Z → Q (.ref p) H')
def dG (bits : Int) (k : Nat) (ds : List PyData) : PyData := if bitOf bits k = true then .tuple ds else .list ds
def dGs (bits : Int) : Nat → List (List PyData) → List PyData
  | _, [] => []
  | k, r :: M => dG bits k r :: dGs bits (k + 1) M
def spByKindsG (K : PySem.W.Frag) : Sp := fun vs H Q _ => ∃ (L : Addr) (rs : List Addr) (D : List (List PyData)) (bits : Int), vs = [.ref L, .int bits] ∧ H L = some (.lst (rs.map V.ref)) ∧ Paired (fun r (ds : List PyData) => ∃ c, H r = some (.lst c) ∧ Reps K H c ds) rs D ∧ D.length ≤ 60 ∧ (∀ ds ∈ D, ds.length ≤ 60 ∧ noL.noLs ds = true) ∧
  ∀ p us H', Same H H' → H p = none → H' p = some (.lst us) → Reps K H' us (dGs bits 0 D) → Q (.ref p) H'
def spGood03 (K : PySem.W.Frag) : Sp := fun vs H Q _ => ∃ (L : Addr) (rs : List Addr) (Z : List (List Int)) (T : Int), vs = [.ref L, .int T] ∧ H L = some (.lst (rs.map V.ref)) ∧ Paired (fun r (m : List Int) => H r = some (.lst (m.map V.int))) rs Z ∧ Z.length ≤ 60 ∧ ∀ b H', Same H H' → (b = true ↔ LM.OkT Z T) → Q (.bl b) H'
def spChanged (K : PySem.W.Frag) : Sp := fun vs H Q _ => ∃ (H0 : Hp) (L xa : Addr) (rs : List Addr) (M : List (List Int)) (xs : List Int) (n : Nat) (T way unit : Int), vs = [.ref L, .int T, .int way, .ref xa, .int unit] ∧ Same H0 H ∧ RowsAt H0 H L rs M ∧ LM.Sq n 80 M ∧ 1 ≤ n ∧ n ≤ 6 ∧ T.natAbs < 2 ^ 80 ∧
  (0 ≤ way ∧ way ≤ 9) ∧ SqL K H xa (xs.map V.int) ∧ xs.length = 6 ∧ (∀ r ∈ rs, r ≠ xa) ∧ L ≠ xa ∧ unit.natAbs < 2 ^ 80 ∧
  ∀ L' rs' M' H', Same H0 H' → H' L' = some (.lst (rs'.map V.ref)) → Paired (fun r (m : List Int) => H' r = some (.lst (m.map V.int))) rs' M' → M'.length ≤ 7 → (∀ r ∈ M', LM.Bd 90 r ∧ r.length ≤ 7) → Q (.ref L') H'
end L2

namespace L2
open PySem PySem.Spec PyProof.Rows
/-! ### a square that is changed place by place -/
def SqAt (H0 H : Hp) (L : Addr) (rs : List Addr) (n b : Nat) : Prop := Same H0 H ∧ ∃ M, RowsAt H0 H L rs M ∧ LM.Sq n b M
theorem SqAt.lst {H0 H : Hp} {L : Addr} {rs : List Addr} {n b : Nat} (s : SqAt H0 H L rs n b) : H L = some (.lst (rs.map V.ref)) := by
  obtain ⟨_, M, R, _⟩ := s
  exact R.lst
theorem SqAt.row {H0 H : Hp} {L r : Addr} {rs : List Addr} {n b i : Nat} (s : SqAt H0 H L rs n b) (hi : rs[i]? = some r) :
    ∃ m : List Int, H r = some (.lst (m.map V.int)) ∧ m.length = n ∧ LM.Bd b m ∧ ∀ (j : Nat) (v : Int) (c : Nat), b ≤ c → v.natAbs < 2 ^ c → SqAt H0 (upd H r (.lst ((m.map V.int).set j (.int v)))) L rs n c := by
  obtain ⟨S, M, R, Z⟩ := s
  obtain ⟨m, hm, hr⟩ := Paired.get' R.rows hi
  have hmem := List.mem_of_getElem? hm
  refine ⟨m, hr, Z.cols m hmem, Z.bd m hmem, fun j v c hbc hv => ⟨S.over (R.fr r (List.mem_of_getElem? hi)) _, M.set i (m.set j v), ?_, Z.set hmem hbc hv⟩⟩
  have := R.upd (m.set j v) hi
  rw [List.map_set] at this
  exact this
theorem Paired.erase {α β : Type} {F : α → β → Prop} : ∀ {xs : List α} {ys : List β}, Paired F xs ys → ∀ n, Paired F (xs.eraseIdx n) (ys.eraseIdx n)
  | _, _, .nil, _ => .nil
  | _, _, .cons r t, 0 => t
  | _, _, .cons r t, n + 1 => .cons r (Paired.erase t n)
end L2
namespace L2
end L2
namespace L2
open PySem PySem.Spec PyProof.Rows
end L2

namespace LN
open LM
/-! The draws of the later laws: numbers by cells, orders, wishes, tables. -/
def m1 (c p : Int) : Int := (c % 2147483629 * 16807 + 69621 * p + 11) % 2147483629
def m2 (n p : Int) : Int := (n * n + 48271 * p + 7) % 2147483629
def m3 (n : Int) : Int := (n * n + 69621) % 2147483587
def mixed (c p : Int) : Int := m3 (m2 (m1 c p) p)
theorem m1_bd (c p : Int) : 0 ≤ m1 c p ∧ m1 c p < 2147483629 := ⟨Int.emod_nonneg _ (by decide), Int.emod_lt_of_pos _ (by decide)⟩
theorem m2_bd (c p : Int) : 0 ≤ m2 c p ∧ m2 c p < 2147483629 := ⟨Int.emod_nonneg _ (by decide), Int.emod_lt_of_pos _ (by decide)⟩
/-- an order of n: of the numbers left the one at the place is taken -/
def ordGo (n : Nat) (num : Int) : Nat → List Int × List Int × Int
  | 0 => ([], rng n, num)
  | k + 1 =>
    let p := ordGo n num k
    (p.1 ++ [p.2.1.getD (p.2.2 % p.2.1.length).toNat 0], p.2.1.eraseIdx (p.2.2 % p.2.1.length).toNat, p.2.2 / 6)
def order (num : Int) (n : Nat) : List Int := (ordGo n num n).1
theorem erase_perm : ∀ {l : List Int} {i : Nat}, i < l.length → (l.getD i 0 :: l.eraseIdx i).Perm l
  | x :: l, 0, _ => by simp
  | x :: l, i + 1, h => by
    have ih := erase_perm (l := l) (i := i) (by simpa using h)
    rw [List.getD_cons_succ, List.eraseIdx_cons_succ]
    exact (List.Perm.swap x (l.getD i 0) _).trans (List.Perm.cons x ih)
theorem ordGo_ok (n : Nat) (num : Int) : ∀ k, k ≤ n → ((ordGo n num k).1 ++ (ordGo n num k).2.1).Perm (rng n) ∧ (ordGo n num k).1.length = k ∧ (ordGo n num k).2.1.length = n - k
  | 0, _ => by simp [ordGo, rng_len]
  | k + 1, h => by
    obtain ⟨ih, h1, h2⟩ := ordGo_ok n num k (by omega)
    have hl : ((ordGo n num k).2.2 % (ordGo n num k).2.1.length).toNat < (ordGo n num k).2.1.length := by
      have b0 := Int.emod_nonneg (ordGo n num k).2.2 (show ((ordGo n num k).2.1.length : Int) ≠ 0 by omega)
      have b1 := Int.emod_lt_of_pos (ordGo n num k).2.2 (show (0 : Int) < ((ordGo n num k).2.1.length : Int) by omega)
      omega
    refine ⟨?_, ?_, ?_⟩
    · show (((ordGo n num k).1 ++ [_]) ++ _).Perm _
      rw [List.append_assoc]
      exact (List.Perm.append_left _ (erase_perm hl)).trans ih
    · show ((ordGo n num k).1 ++ [_]).length = _
      rw [List.length_append, h1]; rfl
    · show (List.eraseIdx _ _).length = _
      rw [List.length_eraseIdx, if_pos hl, h2]
      omega
def Pm (n : Nat) (l : List Int) : Prop := l.Perm (rng n)
theorem order_pm (num : Int) (n : Nat) : Pm n (order num n) := by
  obtain ⟨h, h1, h2⟩ := ordGo_ok n num n (Nat.le_refl _)
  have e : (ordGo n num n).2.1 = [] := List.eq_nil_of_length_eq_zero (by omega)
  rw [e, List.append_nil] at h
  exact h
theorem Pm.len {n : Nat} {l : List Int} (h : Pm n l) : l.length = n := by rw [List.Perm.length_eq h, rng_len]
theorem Pm.mem {n : Nat} {l : List Int} (h : Pm n l) {x : Int} : x ∈ l ↔ 0 ≤ x ∧ x < n := by rw [List.Perm.mem_iff h]; exact mem_rng
theorem Pm.nodup {n : Nat} {l : List Int} (h : Pm n l) : l.Nodup := (List.Perm.nodup_iff h).mpr (rng_nodup n)
theorem map_rng (row : List Int) : (rng row.length).map (fun t => row.getD t.toNat 0) = row := by
  unfold rng
  rw [List.map_map]
  exact map_getD_range row
theorem Pm.sum {row l : List Int} (h : Pm row.length l) : (l.map fun t => row.getD t.toNat 0).sum = row.sum := by
  rw [sum_perm_eq (List.Perm.map _ h), map_rng]
/-- the wishes by the cells from at on -/
def wishGo (ns : List Int) (at' : Int) (n : Nat) : Nat → List (List Int)
  | 0 => []
  | k + 1 => wishGo ns at' n k ++ [if 0 < k ∧ cellAt ns (at' + k) % 4 = 1 then (wishGo ns at' n k).getD (cellAt ns (at' + k) / 4 % k).toNat [] else order (mixed (cellAt ns (at' + k)) k) n]
theorem wishGo_len (ns : List Int) (at' : Int) (n : Nat) : ∀ k, (wishGo ns at' n k).length = k
  | 0 => rfl
  | k + 1 => by rw [wishGo, List.length_append, wishGo_len]; rfl
theorem wishGo_pm (ns : List Int) (at' : Int) (n : Nat) : ∀ k, ∀ w ∈ wishGo ns at' n k, Pm n w
  | 0, w, h => by cases h
  | k + 1, w, h => by
    rw [wishGo] at h
    rcases List.mem_append.mp h with z | z
    · exact wishGo_pm ns at' n k w z
    · rw [List.mem_singleton.mp z]
      split
      · rename_i c
        have b0 := Int.emod_nonneg (cellAt ns (at' + k) / 4) (show (k : Int) ≠ 0 by omega)
        have b1 := Int.emod_lt_of_pos (cellAt ns (at' + k) / 4) (show (0 : Int) < k by omega)
        have hl : (cellAt ns (at' + k) / 4 % k).toNat < (wishGo ns at' n k).length := by rw [wishGo_len]; omega
        rw [List.getD_eq_getElem?_getD, List.getElem?_eq_getElem hl]
        exact wishGo_pm ns at' n k _ (List.getElem_mem hl)
      · exact order_pm _ _
def wishes (ns : List Int) (at' : Int) (n : Nat) : List (List Int) := wishGo ns at' n n
theorem wishes_len (ns : List Int) (at' : Int) (n : Nat) : (wishes ns at' n).length = n := wishGo_len ns at' n n
theorem wishes_pm {ns : List Int} {at' : Int} {n : Nat} {w : List Int} (h : w ∈ wishes ns at' n) : Pm n w := wishGo_pm ns at' n n w h
/-- tables -/
def deals (f : Int) : Int := if f / 54 % 8 = 1 then 9 + f / 432 % 17 else f / 6 % 9
def sizes : List Int := [2, 7, 60, 1000000000000]
def size (x : Int) : Int := sizes.getD (x % 4).toNat 0
def tabGo (ns : List Int) (at' : Int) (n : Nat) (sz : Int) : Nat → List (List Int) × Int
  | 0 => (List.replicate n (List.replicate n 0), 0)
  | k + 1 =>
    (addDeal (tabGo ns at' n sz k).1 (order (mixed (cellAt ns (at' + 1 + k)) (20 + k)) n) (1 + cellAt ns (at' + 1 + k) / 5 % sz), (tabGo ns at' n sz k).2 + (1 + cellAt ns (at' + 1 + k) / 5 % sz))
/-- the table by the cells: whole numbers over one bottom -/
def table (ns : List Int) (at' : Int) (many : Nat) (n : Nat) : List (List Int) × Int := tabGo ns at' n (size (mixed (cellAt ns at') 40)) (1 + many)
/-! the first place at which something is found -/
end LN

namespace L2
open PySem PySem.Spec PyProof.Rows
/-! ### enumerate of a list -/
section
variable {X : Cx} {pins : List (Addr × Obj)} {σ : St} {H : Hp} {s : Shared} {h' : Heap}
/-- several objects of an iterator have turned -/
theorem Inv.turnedL {t' : Nat} {fp : List Addr} (I : Inv X pins σ H s) (k : ∀ b o, b ∉ fp → s.heap.get? b = some o → h'.get? b = some o) (hf : ∀ b ∈ fp, FpOk X pins H b) : Inv X pins σ H { s with heap := h', toks := t' } := by
  have nit : ∀ b u, H b = some u → b ∉ fp := fun b u e z => by rw [(hf b z).1] at e; cases e
  refine I.step (g' := s.gens) (d' := s.drawn) (ch := fp) (fun b hb => ?_) (fun b o _ _ hc e _ => k b o hc e) (fun b o _ _ hc e _ => ⟨o.slots, k b o hc e⟩) (fun _ _ _ _ n => n)
    (fun b o hc e => ⟨o, k b o hc e⟩) (fun _ _ e => e) (fun _ _ _ e => e) (fun b ps e => ⟨#[], by rw [e]; simp⟩) (fun m hm => ?_) (fun b u e => ?_) I.bare
  · obtain ⟨f0, f1, f2, f3, f4, f5⟩ := hf b hb
    exact ⟨f3, f1, f4, f5⟩
  · obtain ⟨o, es, ep, ho, r⟩ := hm
    exact ⟨o, es, ep, k _ o (fun z => (hf _ z).2.1 rfl) ho, r⟩
  · refine (I.hok b u e).stay (fun c v hc q => k c v ?_ q) (fun _ q => q) fun _ _ q => q
    rcases hc with z | z
    · rw [z]; exact nit b u e
    · exact nit c _ z
theorem get?_push_cases {h : Heap} {o u : Obj} {b : Addr} (e : (h.push o).get? b = some u) (ho : o.isFreed = false) : h.get? b = some u ∨ (b = h.objs.size ∧ u = o) := by
  rcases Nat.lt_trichotomy b h.objs.size with q | q | q
  · left
    cases hb : h.get? b with
    | some u' => rw [Heap.get?_push_of_some _ hb] at e; exact e
    | none =>
      exfalso
      unfold Heap.get? at hb e
      unfold Heap.push at e
      simp only [Array.getElem?_push] at e
      rw [if_neg (by omega)] at e
      rw [hb] at e
      cases e
  · right
    subst q
    rw [Heap.get?_push_size _ ho] at e
    cases e
    exact ⟨rfl, rfl⟩
  · exfalso
    have e2 : (h.push o).objs.size = h.objs.size + 1 := by unfold Heap.push; simp
    have e3 : b < h.objs.size + 1 := by rw [← e2]; exact Heap.lt_size e
    exact Nat.lt_irrefl _ (Nat.lt_of_lt_of_le q (Nat.le_of_lt_succ e3))
/-- the pairs (i, item): a new tuple at each turn -/
def Ite (K : PySem.W.Frag) (a : Addr) : It :=
  ⟨fun i H => ∃ xs x, SqL K H a xs ∧ xs[i]? = some x, fun i H x H' => ∃ y t, (∀ xs, SqL K H a xs → xs[i]? = some y) ∧ x = .ref t ∧ H t = none ∧ H' = upd H t (.tup [.int i, y]), fun i H => ∃ xs, SqL K H a xs ∧ xs.length ≤ i⟩
def iEnum (K : PySem.W.Frag) (ta : TA) : TI := fun σ H R => ta σ H fun vs H1 => ∃ a, vs = [.ref a] ∧ (∃ xs, SqL K H1 a xs) ∧ R (Ite K a) H1
end
section
variable {X : Cx} {K : PySem.W.Frag}
end
end L2

namespace L2
open PySem PySem.Spec PyProof.Rows
/-! ### what the later laws draw: promises -/
def IsR (K : PySem.W.Frag) (H : Hp) (v : V) (row : List Int) : Prop := ∃ a, v = .ref a ∧ SqT K H a (row.map V.int)
theorem IsR.mono {K : PySem.W.Frag} {H H' : Hp} {v : V} {row : List Int} (e : Same H H') (h : IsR K H v row) : IsR K H' v row := by
  obtain ⟨a, rfl, q⟩ := h
  exact ⟨a, rfl, e.tup q⟩
theorem IsR.over {K : PySem.W.Frag} {H : Hp} {v : V} {p : Addr} {ys zs : List V} {row : List Int} (h : IsR K H v row) (hp : H p = some (.lst ys)) : IsR K (upd H p (.lst zs)) v row := by
  obtain ⟨a, rfl, h⟩ := h
  exact ⟨a, rfl, tup_over h hp⟩
theorem IsR.rep {K : PySem.W.Frag} {H : Hp} {v : V} {row : List Int} (h : IsR K H v row) (hl : row.length ≤ 1000) : Rep K H v (.tuple (row.map PyData.int)) := by
  obtain ⟨a, rfl, h⟩ := h
  exact .tup h (Reps.ints _) (by rw [List.length_map]; exact hl)
theorem seqIx_ok {i : Int} {n : Nat} (h0 : 0 ≤ i) (h1 : i < n) : seqIndex? i n = some i.toNat := PySem.StrLaws.seqIndex_nonneg h0 h1
def spMixN : Sp := fun vs H Q _ => ∃ c p : Int, vs = [.int c, .int p] ∧ Q (.int (LN.mixed c p)) H
def spOrder : Sp := fun vs H Q _ => ∃ (num : Int) (n : Nat), vs = [.int num, .int n] ∧ n ≤ 63 ∧ ∀ p H', Same H H' → H p = none → H' p = some (.tup ((LN.order num n).map V.int)) → Q (.ref p) H'
def spWishes (K : PySem.W.Frag) : Sp := fun vs H Q _ => ∃ (a : Addr) (ns : List Int) (at' : Int) (n : Nat), vs = [.ref a, .int at', .int n] ∧ SqL K H a (ns.map V.int) ∧ 0 ≤ at' ∧ n ≤ 6 ∧
  ∀ p ws H', Same H H' → H p = none → H' p = some (.lst ws) → Paired (IsR K H') ws (LN.wishes ns at' n) → Q (.ref p) H'
def spDeals : Sp := fun vs H Q _ => ∃ f : Int, vs = [.int f] ∧ Q (.int (LN.deals f)) H
def spTableN (K : PySem.W.Frag) : Sp := fun vs H Q _ => ∃ (a : Addr) (ns : List Int) (at' : Int) (many n : Nat), vs = [.ref a, .int at', .int many, .int n] ∧ SqL K H a (ns.map V.int) ∧ 0 ≤ at' ∧ many ≤ 25 ∧ 1 ≤ n ∧ n ≤ 6 ∧
  ∀ p us H', Same H H' → H p = none → H' p = some (.lst us) → Paired (RwFT K H' (LN.table ns at' many n).2) us (LN.table ns at' many n).1 → Q (.ref p) H'
def sp2P (f : (Int × Int) → (Int × Int) → (Int × Int)) (K : PySem.W.Frag) : Sp := fun vs H Q _ => ∃ a b x y, vs = [.ref a, .ref b] ∧ SqT K H a [.int x.1, .int x.2] ∧ SqT K H b [.int y.1, .int y.2] ∧ Sz 4000 x ∧ Sz 4000 y ∧ 0 < x.2 ∧ 0 < y.2 ∧
  ∀ p H', Same H H' → H' p = some (tupF (f x y)) → Q (.ref p) H'
def spPfxL (K : PySem.W.Frag) : Sp := fun vs H Q _ => ∃ (a b : Addr) (ws : List Int) (ss : List V) (row : List Int) (T : Int), vs = [.ref a, .ref b] ∧ SqT K H a (ws.map V.int) ∧ SqT K H b ss ∧
  Paired (IsF K H) ss (row.map fun x => FQ.red x T) ∧ (0 < T ∧ T < 2 ^ 80) ∧ (∀ x ∈ row, 0 ≤ x ∧ x ≤ T) ∧ (∀ w ∈ ws, 0 ≤ w ∧ w < row.length) ∧ ws.length ≤ 63 ∧
  ∀ p gs H', Same H H' → H p = none → H' p = some (.lst gs) → Paired (IsF K H') gs ((List.range ws.length).map fun i => FQ.red (accs row ws (i + 1)) T) → Q (.ref p) H'
/-! ### who would rather have another one's shares -/
def lessF (x y : Int × Int) : Bool := decide (x.1 * y.2 < y.1 * x.2)
def pfx (T : Int) (row ws : List Int) : List (Int × Int) := (List.range ws.length).map fun i => FQ.red (accs row ws (i + 1)) T
theorem pfx_sz {T : Int} {row ws : List Int} (hT : 0 < T ∧ T < 2 ^ 80) (hrow : ∀ x ∈ row, 0 ≤ x ∧ x ≤ T) (hl : ws.length ≤ 63) : ∀ x ∈ pfx T row ws, Sz 4000 x ∧ 0 < x.2 := by
  intro x hx
  unfold pfx at hx
  obtain ⟨i, hi, rfl⟩ := List.mem_map.mp hx
  have hi' := List.mem_range.mp hi
  have bd := accs_bd (ws := ws) hrow (Int.le_of_lt hT.1) (i + 1)
  have h63 : accs row ws (i + 1) ≤ 63 * T := by
    have : ((i + 1 : Nat) : Int) * T ≤ 63 * T := Int.mul_le_mul_of_nonneg_right (by omega) (by omega)
    omega
  exact ⟨Sz_red (by omega) (by omega) (by omega), (FQ.red_low (by omega)).pos⟩
def placeAt (xs ys : List (Int × Int)) (i : Nat) : Option Nat := if lessF (xs.getD i (0, 1)) (ys.getD i (0, 1)) = true then some i else none
def place (xs ys : List (Int × Int)) : Option Nat := (List.range xs.length).findSome? (placeAt xs ys)
def otherAt (T : Int) (Z : List (List Int)) (w : List Int) (own : List (Int × Int)) (j : Nat) : Option (Nat × Nat) := (place own (pfx T (Z.getD j []) w)).map fun k => (j, k)
def ratherAt (T : Int) (Z W : List (List Int)) (i : Nat) : Option (Nat × Nat × Nat) := ((List.range Z.length).findSome? (otherAt T Z (W.getD i []) (pfx T (Z.getD i []) (W.getD i [])))).map fun jk => (i, jk.1, jk.2)
def ratherF (T : Int) (Z W : List (List Int)) : Option (Nat × Nat × Nat) := (List.range W.length).findSome? (ratherAt T Z W)
def optI : Option Nat → V
  | none => .non
  | some k => .int k
mutual
theorem eqv_self : ∀ (n : Nat) (d : PyData), okD n d = true → PyData.eqv d d = true
  | _, .none, _ => by simp [PyData.eqv]
  | _, .bool _, _ => by simp [PyData.eqv]
  | _, .int _, _ => by simp [PyData.eqv]
  | n, .str x, h => by simp [PyData.eqv]
  | n + 1, .tuple ds, h => by
    have := eqvs_self n ds (by simpa [okD] using h)
    simp [PyData.eqv, this]
  | n + 1, .list ds, h => by
    have := eqvs_self n ds (by simpa [okD] using h)
    simp [PyData.eqv, this]
  | 0, .tuple _, h => by simp [okD] at h
  | 0, .list _, h => by simp [okD] at h
  | 0, .dict _, h => by simp [okD] at h
  | _ + 1, .dict _, h => by simp [okD] at h
theorem eqvs_self : ∀ (n : Nat) (ds : List PyData), (∀ d ∈ ds, okD n d = true) → PyData.eqvAll ds ds = true
  | n, [], _ => by simp [PyData.eqvAll]
  | n, d :: ds, h => by
    have h1 := eqv_self n d (h d List.mem_cons_self)
    have h2 := eqvs_self n ds fun x hx => h x (List.mem_cons_of_mem _ hx)
    simp [PyData.eqvAll, h1, h2]
end
def spFirstG (K : PySem.W.Frag) : Sp := fun vs H Q _ => ∃ (a b : Addr) (gs hs : List V) (xs ys : List (Int × Int)), vs = [.ref a, .ref b] ∧ SqT K H a gs ∧ SqT K H b hs ∧ Paired (IsF K H) gs xs ∧ Paired (IsF K H) hs ys ∧ xs.length = ys.length ∧ xs.length ≤ 63 ∧
  (∀ x ∈ xs, Sz 4000 x ∧ 0 < x.2) ∧ (∀ y ∈ ys, Sz 4000 y ∧ 0 < y.2) ∧ Q (optI (place xs ys)) H
structure TabOk (n : Nat) (T : Int) (Z W : List (List Int)) : Prop where
  T0 : 0 < T
  T1 : T < 2 ^ 80
  n6 : n ≤ 6
  wl : W.length = n
  zl : Z.length = n
  pm : ∀ w ∈ W, LN.Pm n w
  cl : ∀ z ∈ Z, z.length = n
  bd : ∀ z ∈ Z, ∀ x ∈ z, 0 ≤ x ∧ x ≤ T
def spRather (K : PySem.W.Frag) : Sp := fun vs H Q _ => ∃ (a b : Addr) (ws us : List V) (W Z : List (List Int)) (T : Int) (n : Nat), vs = [.ref a, .ref b] ∧ SqL K H a ws ∧ SqL K H b us ∧ Paired (IsR K H) ws W ∧ Paired (RwFT K H T) us Z ∧ TabOk n T Z W ∧
  (ratherF T Z W = none → ∀ H', Same H H' → Q .non H') ∧ (∀ i j k : Nat, ratherF T Z W = some (i, j, k) → ∀ p H', Same H H' → H' p = some (.tup [.int i, .int j, .int k]) → Q (.ref p) H')
end L2

namespace EM
open LM
/-! The mathematics of eating, over one bottom: of thing j there is left (ms j) / D. -/
def at0 (ms : List Int) (t : Int) : Int := ms.getD t.toNat 0
def best (ms : List Int) (w : List Int) : Int := (w.filter fun t => decide (at0 ms t ≠ 0)).headD 0
def dishes (W : List (List Int)) (ms : List Int) : List Int := W.map (best ms)
def cnt (ds : List Int) (t : Int) : Int := (ds.count t : Nat)
def pickGo (ds ms : List Int) : Int → List Int → Int
  | s, [] => s
  | s, t :: r => pickGo ds ms (if at0 ms t * cnt ds s < at0 ms s * cnt ds t then t else s) r
def pick (ds ms : List Int) : Int := pickGo ds ms (ds.headD 0) ds
def nextMs (ds ms : List Int) : List Int := (rng ms.length).map fun j => at0 ms j * cnt ds (pick ds ms) - cnt ds j * at0 ms (pick ds ms)
structure Course where
  m : Int
  D : Int
  ds : List Int
  gone : List Int
def goneOf (ds ms' : List Int) : List Int := (rng ms'.length).filter fun t => decide (t ∈ ds) && decide (at0 ms' t = 0)
def course (W : List (List Int)) (D : Int) (ms : List Int) : Course :=
  ⟨at0 ms (pick (dishes W ms) ms), D * cnt (dishes W ms) (pick (dishes W ms) ms), dishes W ms, goneOf (dishes W ms) (nextMs (dishes W ms) ms)⟩
def run (W : List (List Int)) : Nat → Int → List Int → List Course
  | 0, _, _ => []
  | k + 1, D, ms => if ms.sum = 0 then [] else course W D ms :: run W k (course W D ms).D (nextMs (dishes W ms) ms)
def nz (ms : List Int) : Nat := ((rng ms.length).filter fun t => decide (at0 ms t ≠ 0)).length

theorem at0_mem {ms : List Int} {t : Int} (h0 : 0 ≤ t) (h : t < ms.length) : at0 ms t ∈ ms := by
  unfold at0
  have h1 : t.toNat < ms.length := by omega
  rw [List.getD_eq_getElem?_getD, List.getElem?_eq_getElem h1]
  exact List.getElem_mem h1
theorem best_spec {ms w : List Int} (h : ∃ t ∈ w, at0 ms t ≠ 0) : best ms w ∈ w ∧ at0 ms (best ms w) ≠ 0 := by
  obtain ⟨t, ht, hn⟩ := h
  have hm : t ∈ w.filter fun t => decide (at0 ms t ≠ 0) := List.mem_filter.mpr ⟨ht, decide_eq_true hn⟩
  unfold best
  cases hf : w.filter fun t => decide (at0 ms t ≠ 0) with
  | nil => rw [hf] at hm; cases hm
  | cons a r =>
    have ha : a ∈ w.filter fun t => decide (at0 ms t ≠ 0) := by rw [hf]; exact List.mem_cons_self
    have := List.mem_filter.mp ha
    exact ⟨this.1, of_decide_eq_true this.2⟩
theorem le_trans3 {a b e c d f : Int} (hd : 0 < d) (hc : 0 ≤ c) (hf : 0 ≤ f) (h1 : a * d ≤ b * c) (h2 : b * f ≤ e * d) : a * f ≤ e * c := by
  have h3 : a * d * f ≤ b * c * f := Int.mul_le_mul_of_nonneg_right h1 hf
  have h4 : b * f * c ≤ e * d * c := Int.mul_le_mul_of_nonneg_right h2 hc
  refine Int.le_of_mul_le_mul_right (a := d) ?_ hd
  have e1 : a * f * d = a * d * f := by rw [Int.mul_right_comm]
  have e2 : b * c * f = b * f * c := by rw [Int.mul_right_comm]
  have e3 : e * c * d = e * d * c := by rw [Int.mul_right_comm]
  rw [e1, e3]
  rw [e2] at h3
  exact Int.le_trans h3 h4
theorem cnt_pos {ds : List Int} {t : Int} (h : t ∈ ds) : 0 < cnt ds t := by
  have := List.count_pos_iff.mpr h
  unfold cnt; omega
theorem cnt_nn (ds : List Int) (t : Int) : 0 ≤ cnt ds t := by unfold cnt; omega
theorem cnt_zero {ds : List Int} {t : Int} (h : t ∉ ds) : cnt ds t = 0 := by
  unfold cnt; rw [List.count_eq_zero.mpr h]; rfl
theorem cnt_le (ds : List Int) (t : Int) : cnt ds t ≤ ds.length := by
  have := List.count_le_length (a := t) (l := ds)
  unfold cnt; omega
theorem pickGo_spec {ds ms : List Int} : ∀ (r : List Int) (s : Int), s ∈ ds → (∀ t ∈ r, t ∈ ds) →
    pickGo ds ms s r ∈ ds ∧ at0 ms (pickGo ds ms s r) * cnt ds s ≤ at0 ms s * cnt ds (pickGo ds ms s r) ∧ ∀ t ∈ r, at0 ms (pickGo ds ms s r) * cnt ds t ≤ at0 ms t * cnt ds (pickGo ds ms s r)
  | [], s, hs, _ => ⟨hs, Int.le_refl _, fun t ht => by cases ht⟩
  | t :: r, s, hs, hr => by
    have ht := hr t List.mem_cons_self
    have hr' : ∀ u ∈ r, u ∈ ds := fun u hu => hr u (List.mem_cons_of_mem _ hu)
    unfold pickGo
    by_cases c : at0 ms t * cnt ds s < at0 ms s * cnt ds t
    · rw [if_pos c]
      obtain ⟨a, b, d⟩ := pickGo_spec (ms := ms) r t ht hr'
      refine ⟨a, ?_, fun u hu => ?_⟩
      · exact le_trans3 (cnt_pos ht) (cnt_nn _ _) (cnt_nn _ _) b (Int.le_of_lt c)
      · rcases List.mem_cons.mp hu with rfl | hu
        · exact b
        · exact d u hu
    · rw [if_neg c]
      obtain ⟨a, b, d⟩ := pickGo_spec (ms := ms) r s hs hr'
      refine ⟨a, b, fun u hu => ?_⟩
      rcases List.mem_cons.mp hu with rfl | hu
      · exact le_trans3 (cnt_pos hs) (cnt_nn _ _) (cnt_nn _ _) b (Int.not_lt.mp c)
      · exact d u hu
theorem pick_spec {ds ms : List Int} (h : ds ≠ []) : pick ds ms ∈ ds ∧ ∀ t ∈ ds, at0 ms (pick ds ms) * cnt ds t ≤ at0 ms t * cnt ds (pick ds ms) := by
  cases ds with
  | nil => exact absurd rfl h
  | cons a r =>
    have := pickGo_spec (ds := a :: r) (ms := ms) (a :: r) a List.mem_cons_self fun _ h => h
    exact ⟨this.1, this.2.2⟩
theorem rng_at (ms : List Int) : (rng ms.length).map (at0 ms) = ms := by
  conv => rhs; rw [← map_getD_range ms]
  unfold rng
  rw [List.map_map]
  rfl
theorem next_len (ds ms : List Int) : (nextMs ds ms).length = ms.length := by
  unfold nextMs; rw [List.length_map, rng_len]
theorem rng_get {n k : Nat} (h : k < n) : (rng n)[k]? = some (k : Int) := by
  unfold rng
  rw [List.getElem?_map, List.getElem?_range h]; rfl
theorem at0_next {ds ms : List Int} {t : Int} (h0 : 0 ≤ t) (h : t < ms.length) : at0 (nextMs ds ms) t = at0 ms t * cnt ds (pick ds ms) - cnt ds t * at0 ms (pick ds ms) := by
  have h1 : t.toNat < ms.length := by omega
  have e : ((t.toNat : Nat) : Int) = t := by omega
  conv => lhs; unfold at0 nextMs
  rw [List.getD_eq_getElem?_getD, List.getElem?_map, rng_get h1, e]
  rfl
theorem all_zero_sum : ∀ {ms : List Int}, (∀ m ∈ ms, m = 0) → ms.sum = 0
  | [], _ => rfl
  | a :: r, h => by rw [List.sum_cons, h a List.mem_cons_self, all_zero_sum fun m hm => h m (List.mem_cons_of_mem _ hm)]; rfl
theorem some_left {ms : List Int} (h : ms.sum ≠ 0) : ∃ t : Int, 0 ≤ t ∧ t < ms.length ∧ at0 ms t ≠ 0 :=
  Classical.byContradiction fun c => h (all_zero_sum fun m hm => by
    obtain ⟨k, hk, e⟩ := List.mem_iff_getElem.mp hm
    refine Classical.byContradiction fun z => c ⟨(k : Nat), by omega, by omega, ?_⟩
    unfold at0
    rw [List.getD_eq_getElem?_getD, Int.toNat_natCast, List.getElem?_eq_getElem hk, e]
    exact z)
theorem sum_ind {d : Int} : ∀ {l : List Int}, l.Nodup → ((d ∈ l → (l.map fun j => if d = j then (1 : Int) else 0).sum = 1) ∧ (d ∉ l → (l.map fun j => if d = j then (1 : Int) else 0).sum = 0))
  | [], _ => ⟨fun h => (by cases h), fun _ => rfl⟩
  | a :: r, hn => by
    obtain ⟨h1, h2⟩ := List.nodup_cons.mp hn
    obtain ⟨i1, i2⟩ := sum_ind (d := d) h2
    rw [List.map_cons, List.sum_cons]
    by_cases e : d = a
    · subst e
      exact ⟨fun _ => by rw [if_pos rfl, i2 h1]; rfl, fun h => absurd List.mem_cons_self h⟩
    · rw [if_neg e]
      exact ⟨fun h => by rw [i1 ((List.mem_cons.mp h).resolve_left e)]; rfl, fun h => by rw [i2 fun z => h (List.mem_cons_of_mem _ z)]; rfl⟩
theorem sum_map_add {f g : Int → Int} : ∀ l : List Int, (l.map fun j => f j + g j).sum = (l.map f).sum + (l.map g).sum
  | [] => rfl
  | a :: r => by rw [List.map_cons, List.map_cons, List.map_cons, List.sum_cons, List.sum_cons, List.sum_cons, sum_map_add r]; omega
theorem sum_map_lin {f g : Int → Int} {a b : Int} : ∀ l : List Int, (l.map fun j => f j * a - g j * b).sum = (l.map f).sum * a - (l.map g).sum * b
  | [] => by simp
  | x :: r => by
    rw [List.map_cons, List.map_cons, List.map_cons, List.sum_cons, List.sum_cons, List.sum_cons, sum_map_lin r, Int.add_mul, Int.add_mul]
    omega
theorem cnt_cons (d : Int) (ds : List Int) (j : Int) : cnt (d :: ds) j = cnt ds j + if d = j then 1 else 0 := by
  unfold cnt
  rw [List.count_cons]
  by_cases e : d = j
  · rw [if_pos e, if_pos (by simp [e])]; rfl
  · rw [if_neg e, if_neg (by simp [e])]; rfl
theorem sum_cnt {n : Nat} : ∀ {ds : List Int}, (∀ d ∈ ds, 0 ≤ d ∧ d < n) → ((rng n).map (cnt ds)).sum = ds.length
  | [], _ => all_zero_sum fun m hm => by
    obtain ⟨j, _, rfl⟩ := List.mem_map.mp hm
    rfl
  | d :: ds, h => by
    have ih := sum_cnt (n := n) (ds := ds) fun x hx => h x (List.mem_cons_of_mem _ hx)
    have e : (rng n).map (cnt (d :: ds)) = (rng n).map fun j => cnt ds j + if d = j then 1 else 0 := List.map_congr_left fun j _ => cnt_cons d ds j
    rw [e, sum_map_add, ih, (sum_ind (rng_nodup n)).1 (mem_rng.mpr (h d List.mem_cons_self)), List.length_cons]
    omega
theorem filter_lt {p q : Int → Bool} : ∀ {l : List Int}, (∀ x ∈ l, q x = true → p x = true) → (l.filter q).length ≤ (l.filter p).length ∧ ((∃ x ∈ l, p x = true ∧ q x = false) → (l.filter q).length < (l.filter p).length)
  | [], _ => ⟨Nat.le_refl _, fun ⟨x, h, _⟩ => by cases h⟩
  | a :: r, h => by
    obtain ⟨i1, i2⟩ := filter_lt (p := p) (q := q) (l := r) fun x hx => h x (List.mem_cons_of_mem _ hx)
    have ha := h a List.mem_cons_self
    rw [List.filter_cons, List.filter_cons]
    cases hq : q a with
    | true =>
      rw [if_pos rfl, if_pos (ha hq), List.length_cons, List.length_cons]
      refine ⟨by omega, fun ⟨x, hx, hp, hf⟩ => ?_⟩
      rcases List.mem_cons.mp hx with rfl | hx
      · rw [hq] at hf; cases hf
      · have := i2 ⟨x, hx, hp, hf⟩; omega
    | false =>
      rw [if_neg (by decide)]
      cases hp' : p a with
      | true => rw [if_pos rfl, List.length_cons]; exact ⟨by omega, fun _ => by omega⟩
      | false =>
        rw [if_neg (by decide)]
        refine ⟨i1, fun ⟨x, hx, hp, hf⟩ => ?_⟩
        rcases List.mem_cons.mp hx with rfl | hx
        · rw [hp'] at hp; cases hp
        · exact i2 ⟨x, hx, hp, hf⟩
/-- how it stands between two stops: T / D is the time, G the things that are gone -/
structure St (n : Nat) (D : Int) (ms : List Int) (T : Int) (G : List Int) : Prop where
  pos : 0 < D
  len : ms.length = n
  nn : ∀ m ∈ ms, 0 ≤ m
  le : ∀ m ∈ ms, m ≤ D
  sum : ms.sum = n * (D - T)
  T0 : 0 ≤ T
  gone : ∀ t : Int, 0 ≤ t → t < n → (t ∈ G ↔ at0 ms t = 0)
  inG : ∀ t ∈ G, 0 ≤ t ∧ t < n
  nd : G.Nodup
  big : D ≤ 8 ^ (n - nz ms)
theorem nz_le (ms : List Int) : nz ms ≤ ms.length := by
  unfold nz
  exact Nat.le_trans (List.length_filter_le ..) (by rw [rng_len]; exact Nat.le_refl _)
theorem St.start {n : Nat} : St n 1 (List.replicate n 1) 0 [] := by
  have hat : ∀ t : Int, 0 ≤ t → t < n → at0 (List.replicate n (1 : Int)) t = 1 := fun t h0 h => by
    unfold at0
    rw [List.getD_eq_getElem?_getD, List.getElem?_replicate_of_lt (by omega)]
    rfl
  refine ⟨by decide, List.length_replicate, fun m h => ?_, fun m h => ?_, ?_, Int.le_refl 0, fun t h0 h => ⟨fun z => (by cases z), fun z => ?_⟩, fun t h => (by cases h), List.nodup_nil, ?_⟩
  · rw [(List.mem_replicate.mp h).2]; decide
  · rw [(List.mem_replicate.mp h).2]; decide
  · have : ∀ n : Nat, (List.replicate n (1 : Int)).sum = n := by
      intro n
      induction n with
      | zero => rfl
      | succ k ih => rw [List.replicate_succ, List.sum_cons, ih]; omega
    rw [this]; omega
  · rw [hat t h0 h] at z; cases z
  · exact_mod_cast Nat.one_le_pow _ _ (by decide)
section
variable {n : Nat} {W : List (List Int)} {D T : Int} {ms G : List Int}
theorem best_ok (S : St n D ms T G) (hW : ∀ w ∈ W, w.Perm (rng n)) (hs : ms.sum ≠ 0) {w : List Int} (hw : w ∈ W) : (0 ≤ best ms w ∧ best ms w < n) ∧ at0 ms (best ms w) ≠ 0 ∧ best ms w ∈ w := by
  obtain ⟨t, h0, h1, hn⟩ := some_left hs
  rw [S.len] at h1
  obtain ⟨a, b⟩ := best_spec (ms := ms) (w := w) ⟨t, (hW w hw).mem_iff.mpr (mem_rng.mpr ⟨h0, h1⟩), hn⟩
  exact ⟨mem_rng.mp ((hW w hw).mem_iff.mp a), b, a⟩
theorem dish_ok (S : St n D ms T G) (hW : ∀ w ∈ W, w.Perm (rng n)) (hs : ms.sum ≠ 0) {d : Int} (hd : d ∈ dishes W ms) : (0 ≤ d ∧ d < n) ∧ at0 ms d ≠ 0 := by
  obtain ⟨w, hw, rfl⟩ := List.mem_map.mp hd
  have := best_ok S hW hs hw
  exact ⟨this.1, this.2.1⟩
theorem step_ok (S : St n D ms T G) (hl : W.length = n) (hn1 : 1 ≤ n) (hn6 : n ≤ 6) (hW : ∀ w ∈ W, w.Perm (rng n)) (hs : ms.sum ≠ 0) :
    0 < (course W D ms).m ∧ 0 < cnt (dishes W ms) (pick (dishes W ms) ms) ∧ cnt (dishes W ms) (pick (dishes W ms) ms) ≤ 6 ∧ pick (dishes W ms) ms ∈ (course W D ms).gone ∧
    nz (nextMs (dishes W ms) ms) < nz ms ∧
    St n (course W D ms).D (nextMs (dishes W ms) ms) (T * cnt (dishes W ms) (pick (dishes W ms) ms) + (course W D ms).m) (G ++ (course W D ms).gone) := by
  have hdl : (dishes W ms).length = n := by unfold dishes; rw [List.length_map, hl]
  have hne : dishes W ms ≠ [] := fun z => by rw [z] at hdl; simp at hdl; omega
  have hd := fun {d : Int} (h : d ∈ dishes W ms) => dish_ok S hW hs h
  unfold course
  dsimp only
  generalize dishes W ms = ds at *
  obtain ⟨pm, pmin⟩ := pick_spec (ms := ms) hne
  have hpos := cnt_pos pm
  have hle := cnt_le ds (pick ds ms)
  rw [hdl] at hle
  obtain ⟨⟨p0, p1⟩, pn⟩ := hd pm
  have hm0 : 0 < at0 ms (pick ds ms) := by
    have := S.nn _ (at0_mem p0 (by rw [S.len]; exact p1)); omega
  have hat : ∀ t : Int, 0 ≤ t → t < n → at0 (nextMs ds ms) t = at0 ms t * cnt ds (pick ds ms) - cnt ds t * at0 ms (pick ds ms) := fun t h0 h1 => at0_next h0 (by rw [S.len]; exact h1)
  have hln : (nextMs ds ms).length = n := by rw [next_len, S.len]
  have hzero : ∀ t : Int, 0 ≤ t → t < n → at0 ms t = 0 → at0 (nextMs ds ms) t = 0 := fun t h0 h1 z => by
    have : t ∉ ds := fun q => (hd q).2 z
    rw [hat t h0 h1, z, cnt_zero this]; omega
  have hnew : ∀ t : Int, 0 ≤ t → t < n → at0 ms t ≠ 0 → at0 (nextMs ds ms) t = 0 → t ∈ ds := fun t h0 h1 z q => Classical.byContradiction fun c => by
    rw [hat t h0 h1, cnt_zero c, Int.zero_mul, Int.sub_zero] at q
    rcases Int.mul_eq_zero.mp q with q | q
    · exact z q
    · omega
  have hpz : at0 (nextMs ds ms) (pick ds ms) = 0 := by
    rw [hat _ p0 p1, Int.mul_comm]; omega
  have hgm : ∀ t : Int, t ∈ goneOf ds (nextMs ds ms) ↔ (0 ≤ t ∧ t < n) ∧ t ∈ ds ∧ at0 (nextMs ds ms) t = 0 := fun t => by
    unfold goneOf
    rw [List.mem_filter, hln, mem_rng, Bool.and_eq_true, decide_eq_true_iff, decide_eq_true_iff]
  have hnz : nz (nextMs ds ms) < nz ms := by
    unfold nz
    rw [hln, S.len]
    refine (filter_lt fun x hx h => ?_).2 ⟨pick ds ms, mem_rng.mpr ⟨p0, p1⟩, decide_eq_true pn, by rw [hpz]; rfl⟩
    have hx' := mem_rng.mp hx
    exact decide_eq_true fun z => of_decide_eq_true h (hzero x hx'.1 hx'.2 z)
  refine ⟨hm0, hpos, by omega, (hgm _).mpr ⟨⟨p0, p1⟩, pm, hpz⟩, hnz, Int.mul_pos S.pos hpos, hln, ?_, ?_, ?_, ?_, fun t h0 h1 => ?_, fun t h => ?_, ?_, ?_⟩
  · intro m hm
    unfold nextMs at hm
    obtain ⟨j, hj, rfl⟩ := List.mem_map.mp hm
    rw [S.len] at hj
    obtain ⟨j0, j1⟩ := mem_rng.mp hj
    by_cases c : j ∈ ds
    · have := pmin j c
      rw [Int.mul_comm (cnt ds j)]; omega
    · rw [cnt_zero c, Int.zero_mul]
      have := Int.mul_nonneg (S.nn _ (at0_mem j0 (by rw [S.len]; exact j1))) (Int.le_of_lt hpos)
      omega
  · intro m hm
    unfold nextMs at hm
    obtain ⟨j, hj, rfl⟩ := List.mem_map.mp hm
    rw [S.len] at hj
    obtain ⟨j0, j1⟩ := mem_rng.mp hj
    have h1 := Int.mul_le_mul_of_nonneg_right (S.le _ (at0_mem j0 (by rw [S.len]; exact j1))) (Int.le_of_lt hpos)
    have h2 := Int.mul_nonneg (cnt_nn ds j) (Int.le_of_lt hm0)
    omega
  · unfold nextMs
    rw [sum_map_lin, rng_at, S.len, sum_cnt (n := n) (fun d h => (hd h).1), hdl, S.sum]
    rw [Int.mul_assoc, ← Int.mul_sub, Int.sub_mul, Int.sub_sub]
  · have := Int.mul_nonneg S.T0 (Int.le_of_lt hpos); omega
  · rw [List.mem_append, S.gone t h0 h1, hgm]
    constructor
    · rintro (z | z)
      · exact hzero t h0 h1 z
      · exact z.2.2
    · intro z
      by_cases c : at0 ms t = 0
      · exact .inl c
      · exact .inr ⟨⟨h0, h1⟩, hnew t h0 h1 c z, z⟩
  · rcases List.mem_append.mp h with h | h
    · exact S.inG t h
    · exact ((hgm t).mp h).1
  · refine List.nodup_append.mpr ⟨S.nd, ?_, fun a ha b hb e => ?_⟩
    · unfold goneOf
      exact (rng_nodup _).filter _
    · subst e
      obtain ⟨q, q1, _⟩ := (hgm a).mp hb
      exact (hd q1).2 ((S.gone a q.1 q.2).mp ha)
  · have h8 : cnt ds (pick ds ms) ≤ 8 := by omega
    have h1 := Int.mul_le_mul S.big h8 (Int.le_of_lt hpos) (by exact_mod_cast Nat.zero_le _)
    refine Int.le_trans h1 ?_
    have e : (8 : Int) ^ (n - nz ms) * 8 = 8 ^ (n - nz ms + 1) := (Int.pow_succ ..).symm
    rw [e]
    have hz := nz_le ms
    rw [S.len] at hz
    exact_mod_cast Nat.pow_le_pow_right (by decide) (show n - nz ms + 1 ≤ n - nz (nextMs ds ms) by omega)
end
end EM

namespace EM
open LM
/-! The stops one by one. -/
structure Sta where
  D : Int
  ms : List Int
  T : Int
  G : List Int
def s0 (n : Nat) : Sta := ⟨1, List.replicate n 1, 0, []⟩
def cs (W : List (List Int)) (s : Sta) : Course := course W s.D s.ms
def cn (W : List (List Int)) (s : Sta) : Int := cnt (dishes W s.ms) (pick (dishes W s.ms) s.ms)
def nxt (W : List (List Int)) (s : Sta) : Sta := ⟨s.D * cn W s, nextMs (dishes W s.ms) s.ms, s.T * cn W s + (cs W s).m, s.G ++ (cs W s).gone⟩
def st (W : List (List Int)) (n : Nat) : Nat → Sta
  | 0 => s0 n
  | i + 1 => nxt W (st W n i)
def Upto (W : List (List Int)) (n N : Nat) : Prop := ∀ i, i < N → (st W n i).ms.sum ≠ 0
theorem Upto.mono {W : List (List Int)} {n N M : Nat} (h : Upto W n N) (hM : M ≤ N) : Upto W n M := fun i hi => h i (by omega)
/-- the number of stops -/
structure Stops (W : List (List Int)) (n N : Nat) : Prop where
  up : Upto W n N
  last : (st W n N).ms.sum = 0
theorem Stops.uniq {W : List (List Int)} {n N M : Nat} (h : Stops W n N) (h' : Stops W n M) : N = M := by
  rcases Nat.lt_trichotomy N M with z | z | z
  · exact absurd h.last (h'.up N z)
  · exact z
  · exact absurd h'.last (h.up M z)
structure Ws (n : Nat) (W : List (List Int)) : Prop where
  n1 : 1 ≤ n
  n6 : n ≤ 6
  len : W.length = n
  pm : ∀ w ∈ W, w.Perm (rng n)
section
variable {W : List (List Int)} {n : Nat}
theorem st_ok (h : Ws n W) : ∀ i, Upto W n i → St n (st W n i).D (st W n i).ms (st W n i).T (st W n i).G ∧ nz (st W n i).ms + i ≤ n
  | 0, _ => ⟨St.start, by
    have := nz_le (List.replicate n 1)
    rw [List.length_replicate] at this
    exact this⟩
  | i + 1, hu => by
    obtain ⟨S, hz⟩ := st_ok h i (hu.mono (by omega))
    have hs := hu i (by omega)
    obtain ⟨_, _, _, _, hlt, S'⟩ := step_ok S h.len h.n1 h.n6 h.pm hs
    refine ⟨S', ?_⟩
    show nz (nextMs (dishes W (st W n i).ms) (st W n i).ms) + (i + 1) ≤ n
    omega
/-- one course, as the text needs it -/
structure Step (W : List (List Int)) (n : Nat) (s : Sta) : Prop where
  S : St n s.D s.ms s.T s.G
  S' : St n (nxt W s).D (nxt W s).ms (nxt W s).T (nxt W s).G
  m0 : 0 < (cs W s).m
  mD : (cs W s).m ≤ s.D
  c0 : 0 < cn W s
  c6 : cn W s ≤ 6
  ne : (cs W s).gone ≠ []
  dl : (dishes W s.ms).length = n
  dm : ∀ d ∈ dishes W s.ms, (0 ≤ d ∧ d < n) ∧ at0 s.ms d ≠ 0
theorem step_of (h : Ws n W) {i : Nat} (hu : Upto W n i) (hs : (st W n i).ms.sum ≠ 0) : Step W n (st W n i) := by
  obtain ⟨S, _⟩ := st_ok h i hu
  obtain ⟨a, b, c, d, _, S'⟩ := step_ok S h.len h.n1 h.n6 h.pm hs
  have hdl : (dishes W (st W n i).ms).length = n := by unfold dishes; rw [List.length_map, h.len]
  have hdm : ∀ d ∈ dishes W (st W n i).ms, (0 ≤ d ∧ d < n) ∧ at0 (st W n i).ms d ≠ 0 := fun d hd => dish_ok S h.pm hs hd
  have hne : dishes W (st W n i).ms ≠ [] := fun z => by rw [z] at hdl; have := h.n1; simp at hdl; omega
  have hp := hdm _ (pick_spec (ms := (st W n i).ms) hne).1
  refine ⟨S, S', a, ?_, b, c, (fun z => by unfold cs at z; rw [z] at d; cases d), hdl, hdm⟩
  exact S.le _ (at0_mem hp.1.1 (by rw [S.len]; exact hp.1.2))
/-- what a person has eaten of a thing, over the bottom of the time -/
def et (W : List (List Int)) (n : Nat) : Nat → Nat → Int → Int
  | 0, _, _ => 0
  | i + 1, p, t => et W n i p t * cn W (st W n i) + if (dishes W (st W n i).ms).getD p 0 = t then (cs W (st W n i)).m else 0
end
end EM

namespace L2
open PySem PySem.Spec PyProof.Rows
/-! ### sets of small whole numbers: their tables are known by what they hold -/
/-- the numbers below 6 of which b says so, rising -/
def smallS (b : Nat → Bool) : List Nat := (List.range 6).filter b
/-- the table of such a set -/
def tabS (S : List Nat) (led : Bool) : SetTable := ⟨if S.length ≤ 4 then 7 else 31, S.toArray, #[], 0, led, if S.length ≤ 4 then 0 else 1, true⟩
def subs : List Nat → List (List Nat)
  | [] => [[]]
  | a :: r => subs r ++ (subs r).map (a :: ·)
/-- what is asked of the tables, one by one -/
def rankS (S : List Nat) (v : Nat) : Nat := (S.filter (· < v)).length
def insS (S : List Nat) (v : Nat) : List Nat := S.take (rankS S v) ++ v :: S.drop (rankS S v)
def tabOne (S : List Nat) (v : Nat) (led : Bool) : Bool :=
  match (tabS S led).freeSlot (v : Int) with
  | some (j, d) =>
    let q := (tabS S led).put j
    decide (j = v) && !d && decide (q.2 = rankS S v) && q.1.fits (S.length + 1) && decide (q.1.plain = true) &&
    (if q.1.tooFull then
      match q.1.relaid ((insS S v).map Int.ofNat).toArray (SetTable.grown (S.length + 1)) with
      | some (t', o) => decide (t' = tabS (insS S v) led) && decide (o = (List.range (S.length + 1)).toArray) && t'.fits (S.length + 1) && coversAll o (S.length + 1)
      | none => false
    else decide (q.1 = tabS (insS S v) led))
  | none => false
/-- the walk from slot to slot -/
def nextOk (S : List Nat) (led : Bool) : Bool :=
  (List.range (S.length + 1)).all fun i => decide (SetTable.below (tabS S led).place (if i = 0 then 0 else (S.getD (i - 1) 0) + 1) = i)
def valS (tok : Nat → Tok) (v : Nat) : Int × Value := ((v : Int), Value.int (v : Int) (tok v))
def SetIs (h : Heap) (a : Addr) (b : Nat → Bool) (led : Bool) : Prop :=
  ∃ (o : Obj) (es : Array (Int × Value)) (ep : Nat) (tok : Nat → Tok), h.get? a = some o ∧ o.ExactSet ∧ o.data = .set es ep (tabS (smallS b) led) ∧ es.toList = (smallS b).map (valS tok)
end L2

namespace L2
open PySem PySem.Spec PyProof.Rows
/-- sets are walked in the table's order, unless the run follows a text -/
def ledOf (w : World) : Bool := !w.params.followText "set-order"
theorem SetIs.congr {h h' : Heap} {a : Addr} {b : Nat → Bool} {led : Bool} (H : SetIs h a b led) (e : ∀ o, h.get? a = some o → h'.get? a = some o) : SetIs h' a b led := by
  obtain ⟨o, es, ep, tok, ho, r⟩ := H
  exact ⟨o, es, ep, tok, e o ho, r⟩
theorem SetIs.by {h : Heap} {a : Addr} {b b' : Nat → Bool} {led : Bool} (H : SetIs h a b led) (e : ∀ x, x < 6 → b x = b' x) : SetIs h a b' led := by
  have : smallS b = smallS b' := List.filter_congr fun x hx => e x (List.mem_range.mp hx)
  unfold SetIs at H ⊢
  rw [this] at H
  exact H
end L2

namespace L2
open PySem PySem.Spec PyProof.Rows
end L2

namespace L2
open PySem PySem.Spec PyProof.Rows
section
variable {X : Cx}
end
end L2

namespace L2
open PySem PySem.Spec PyProof.Rows
/-! ### fractions by their worth -/
theorem okD_dF (p : Int × Int) : okD 1 (dF p) = true := rfl
structure Wt (p : Int × Int) (a D : Int) : Prop where
  w : p.1 * D = a * p.2
  p2 : p.2 ≠ 0
  d : D ≠ 0
theorem wt_red {a D : Int} (hD : D ≠ 0) : Wt (FQ.red a D) a D := ⟨FQ.red_worth hD, by have := (FQ.red_low (t := a) hD).pos; omega, hD⟩
theorem lessF_wt {p q : Int × Int} {a D b E : Int} (h : Wt p a D) (k : Wt q b E) (hp : 0 < p.2) (hq : 0 < q.2) (hD : 0 < D) (hE : 0 < E) : lessF p q = decide (a * E < b * D) := by
  have key : (p.1 * q.2) * (D * E) = (a * E) * (p.2 * q.2) ∧ (q.1 * p.2) * (D * E) = (b * D) * (p.2 * q.2) := by
    constructor
    · calc (p.1 * q.2) * (D * E) = (p.1 * D) * (q.2 * E) := by ac_rfl
        _ = (a * p.2) * (q.2 * E) := by rw [h.w]
        _ = _ := by ac_rfl
    · calc (q.1 * p.2) * (D * E) = (q.1 * E) * (p.2 * D) := by ac_rfl
        _ = (b * q.2) * (p.2 * D) := by rw [k.w]
        _ = _ := by ac_rfl
  have h1 : 0 < D * E := Int.mul_pos hD hE
  have h2 : 0 < p.2 * q.2 := Int.mul_pos hp hq
  unfold lessF
  refine decide_eq_decide.mpr ⟨fun z => ?_, fun z => ?_⟩
  · have := Int.mul_lt_mul_of_pos_right z h1
    rw [key.1, key.2] at this
    exact Int.lt_of_mul_lt_mul_right this (Int.le_of_lt h2)
  · have := Int.mul_lt_mul_of_pos_right z h2
    rw [← key.1, ← key.2] at this
    exact Int.lt_of_mul_lt_mul_right this (Int.le_of_lt h1)
theorem lessF_red {a D b E : Int} (hD : 0 < D) (hE : 0 < E) : lessF (FQ.red a D) (FQ.red b E) = decide (a * E < b * D) :=
  lessF_wt (wt_red (by omega)) (wt_red (by omega)) (FQ.red_low (by omega)).pos (FQ.red_low (by omega)).pos hD hE
theorem Sz_redN {a D : Int} {n : Nat} (hD : D ≠ 0) (h1 : a.natAbs < 2 ^ n) (h2 : D.natAbs < 2 ^ n) : Sz n (FQ.red a D) := by
  have s := FQ.red_small (t := a) hD
  have p := (FQ.red_low (t := a) hD).pos
  exact ⟨Nat.lt_of_le_of_lt s.1 h1, Nat.lt_of_le_of_lt s.2 h2, by omega⟩
/-- sums of fractions, one behind the other -/
def totF (ps : List (Int × Int)) : Int × Int := ps.foldl fAdd (0, 1)
theorem totF_snoc (ps : List (Int × Int)) (p : Int × Int) : totF (ps ++ [p]) = fAdd (totF ps) p := by unfold totF; rw [List.foldl_append]; rfl
theorem fAdd_size {m n : Nat} {x y : Int × Int} (hx : Sz m x) (hy : Sz n y) : Sz (m + n + 1) (fAdd x y) := by
  obtain ⟨x1, x2, x0⟩ := hx
  obtain ⟨y1, y2, y0⟩ := hy
  refine Sz_redN (Int.mul_ne_zero x0 y0) (add_size (mul_size x1 y2) (by rw [Nat.add_comm]; exact mul_size y1 x2)) (size_up (mul_size x2 y2) (by omega))
def spTotF (K : PySem.W.Frag) : Sp := fun vs H Q _ => ∃ (a : Addr) (gs : List V) (ps : List (Int × Int)), vs = [.ref a] ∧ SqL K H a gs ∧ Paired (IsF K H) gs ps ∧ (∀ p ∈ ps, Sz 30 p) ∧ ps.length ≤ 60 ∧ ∀ v H', Same H H' → IsF K H' v (totF ps) → Q v H'
/-- the first of the smallest -/
def leastGo (s : Int × Int) (ps : List (Int × Int)) : Int × Int := ps.foldl (fun s p => if lessF p s = true then p else s) s
def leastF (ps : List (Int × Int)) : Int × Int := leastGo (ps.headD (0, 1)) ps
def spLeast (K : PySem.W.Frag) : Sp := fun vs H Q _ => ∃ (a : Addr) (gs : List V) (ps : List (Int × Int)), vs = [.ref a] ∧ SqL K H a gs ∧ Paired (IsF K H) gs ps ∧ ps ≠ [] ∧ ps.length ≤ 60 ∧ (∀ p ∈ ps, Sz 4000 p) ∧ ∀ v, IsF K H v (leastF ps) → Q v H
/-! ### eating -/
open EM in
def dishT (D : Int) (ds ms : List Int) (t : Int) : Int × Int := FQ.red (at0 ms t) (D * cnt ds t)
open EM in
def spBestL (K : PySem.W.Frag) : Sp := fun vs H Q _ => ∃ (w l : Addr) (row ms : List Int) (D : Int) (gs : List V), vs = [.ref w, .ref l] ∧ SqT K H w (row.map V.int) ∧ SqL K H l gs ∧ Paired (IsF K H) gs (fr D ms) ∧ 0 < D ∧
  (∀ t ∈ row, 0 ≤ t ∧ t < ms.length) ∧ row.length ≤ 63 ∧ (∃ t ∈ row, EM.at0 ms t ≠ 0) ∧ ∀ H', Same H H' → Q (.int (EM.best ms row)) H'
def spTimeS (K : PySem.W.Frag) : Sp := fun vs H Q _ => ∃ (d l : Addr) (ds ms : List Int) (D : Int) (gs : List V), vs = [.ref d, .ref l] ∧ SqL K H d (ds.map V.int) ∧ SqL K H l gs ∧ Paired (IsF K H) gs (fr D ms) ∧ 0 < D ∧ D ≤ 262144 ∧ ds ≠ [] ∧ ds.length ≤ 6 ∧
  (∀ t ∈ ds, 0 ≤ t ∧ t < ms.length) ∧ (∀ m ∈ ms, 0 ≤ m ∧ m ≤ D) ∧ ∀ v H', Same H H' → IsF K H' v (dishT D ds ms (EM.pick ds ms)) → Q v H'
def spLeftB (K : PySem.W.Frag) : Sp := fun vs H Q _ => ∃ (d l p : Addr) (ds ms : List Int) (D c m : Int) (gs : List V), vs = [.ref d, .ref l, .ref p] ∧ SqL K H d (ds.map V.int) ∧ SqL K H l gs ∧ Paired (IsF K H) gs (fr D ms) ∧ IsF K H (.ref p) (FQ.red m (D * c)) ∧
  0 < D ∧ D ≤ 262144 ∧ 0 < c ∧ c ≤ 6 ∧ 0 ≤ m ∧ m ≤ D ∧ ds.length ≤ 6 ∧ ms.length ≤ 6 ∧ (∀ m ∈ ms, 0 ≤ m ∧ m ≤ D) ∧
  ∀ q gs' H', Same H H' → H q = none → H' q = some (.lst gs') → Paired (IsF K H') gs' (fr (D * c) ((LM.rng ms.length).map fun j => EM.at0 ms j * c - EM.cnt ds j * m)) → Q (.ref q) H'
/-- a course as it lies: the list of dishes is not P -/
def IsC (K : PySem.W.Frag) (P : Addr) (H : Hp) (v : V) (c : EM.Course) : Prop := ∃ a l d g, v = .ref a ∧ SqT K H a [.ref l, .ref d, .ref g] ∧ IsF K H (.ref l) (FQ.red c.m c.D) ∧ H d = some (.lst (c.ds.map V.int)) ∧ SqT K H g (c.gone.map V.int) ∧ d ≠ P
theorem IsC.mono {K : PySem.W.Frag} {P : Addr} {H H' : Hp} {v : V} {c : EM.Course} (e : Same H H') (h : IsC K P H v c) : IsC K P H' v c := by
  obtain ⟨a, l, d, g, rfl, h1, h2, h3, h4, h5⟩ := h
  exact ⟨a, l, d, g, rfl, e.tup h1, h2.mono e, e _ _ h3, e.tup h4, h5⟩
theorem IsC.over {K : PySem.W.Frag} {P : Addr} {H : Hp} {v : V} {c : EM.Course} {ys zs : List V} (h : IsC K P H v c) (hp : H P = some (.lst ys)) : IsC K P (upd H P (.lst zs)) v c := by
  obtain ⟨a, l, d, g, rfl, h1, h2, h3, h4, h5⟩ := h
  exact ⟨a, l, d, g, rfl, tup_over h1 hp, h2.over hp, by rw [upd_ne h5]; exact h3, tup_over h4 hp, h5⟩
def IsC2 (K : PySem.W.Frag) (H : Hp) (v : V) (c : EM.Course) : Prop := ∃ a l d g, v = .ref a ∧ SqT K H a [.ref l, d, .ref g] ∧ IsF K H (.ref l) (FQ.red c.m c.D) ∧ SqT K H g (c.gone.map V.int)
theorem IsC.two {K : PySem.W.Frag} {P : Addr} {H : Hp} {v : V} {c : EM.Course} (h : IsC K P H v c) : IsC2 K H v c := by
  obtain ⟨a, l, d, g, rfl, h1, h2, h3, h4, h5⟩ := h
  exact ⟨a, l, _, g, rfl, h1, h2, h4⟩
theorem IsC2.mono {K : PySem.W.Frag} {H H' : Hp} {v : V} {c : EM.Course} (e : Same H H') (h : IsC2 K H v c) : IsC2 K H' v c := by
  obtain ⟨a, l, d, g, rfl, h1, h2, h4⟩ := h
  exact ⟨a, l, d, g, rfl, e.tup h1, h2.mono e, e.tup h4⟩
theorem IsC2.over {K : PySem.W.Frag} {P : Addr} {H : Hp} {v : V} {c : EM.Course} {ys zs : List V} (h : IsC2 K H v c) (hp : H P = some (.lst ys)) : IsC2 K (upd H P (.lst zs)) v c := by
  obtain ⟨a, l, d, g, rfl, h1, h2, h4⟩ := h
  exact ⟨a, l, d, g, rfl, tup_over h1 hp, h2.over hp, tup_over h4 hp⟩
def courses (W : List (List Int)) (n N : Nat) : List EM.Course := (List.range N).map fun i => EM.cs W (EM.st W n i)
def spCourses (K : PySem.W.Frag) : Sp := fun vs H Q _ => ∃ (a : Addr) (ws : List V) (W : List (List Int)) (n : Nat), vs = [.ref a] ∧ SqL K H a ws ∧ Paired (IsR K H) ws W ∧ EM.Ws n W ∧
  ∀ p cs N H', Same H H' → H p = none → H' p = some (.lst cs) → EM.Stops W n N → Paired (IsC K p H') cs (courses W n N) → Q (.ref p) H'
def spEatenOf (K : PySem.W.Frag) : Sp := fun vs H Q _ => ∃ (c : Addr) (cs : List V) (W : List (List Int)) (n N p : Nat) (t : Int), vs = [.ref c, .int p, .int t] ∧ H c = some (.lst cs) ∧ EM.Ws n W ∧ EM.Upto W n N ∧ Paired (IsC K c H) cs (courses W n N) ∧ p < n ∧
  ∀ v H', Same H H' → IsF K H' v (FQ.red (EM.et W n N p t) (EM.st W n N).D) → Q v H'
def eatRow (W : List (List Int)) (n N p : Nat) : List Int := (LM.rng n).map (EM.et W n N p)
def eatRows (W : List (List Int)) (n N : Nat) : List (List Int) := (List.range n).map (eatRow W n N)
def spEatenBy (K : PySem.W.Frag) : Sp := fun vs H Q _ => ∃ (c : Addr) (cs : List V) (W : List (List Int)) (n N p : Nat), vs = [.ref c, .int p, .int n] ∧ H c = some (.lst cs) ∧ EM.Ws n W ∧ EM.Upto W n N ∧ Paired (IsC K c H) cs (courses W n N) ∧ p < n ∧
  ∀ v H', Same H H' → RwFT K H' (EM.st W n N).D v (eatRow W n N p) → Q v H'
def spEaten (K : PySem.W.Frag) : Sp := fun vs H Q _ => ∃ (a : Addr) (ws : List V) (W : List (List Int)) (n : Nat), vs = [.ref a] ∧ SqL K H a ws ∧ Paired (IsR K H) ws W ∧ EM.Ws n W ∧
  ∀ p us N H', Same H H' → H p = none → H' p = some (.lst us) → EM.Stops W n N → Paired (RwFT K H' (EM.st W n N).D) us (eatRows W n N) → Q (.ref p) H'
structure Stop where
  T : Int
  D : Int
  g : List Int
def IsStop (K : PySem.W.Frag) (H : Hp) (v : V) (s : Stop) : Prop := ∃ a l g, v = .ref a ∧ SqT K H a [.ref l, .ref g] ∧ IsF K H (.ref l) (FQ.red s.T s.D) ∧ SqT K H g (s.g.map V.int)
theorem IsStop.mono {K : PySem.W.Frag} {H H' : Hp} {v : V} {c : Stop} (e : Same H H') (h : IsStop K H v c) : IsStop K H' v c := by
  obtain ⟨a, l, g, rfl, h1, h2, h4⟩ := h
  exact ⟨a, l, g, rfl, e.tup h1, h2.mono e, e.tup h4⟩
theorem IsStop.over {K : PySem.W.Frag} {P : Addr} {H : Hp} {v : V} {c : Stop} {ys zs : List V} (h : IsStop K H v c) (hp : H P = some (.lst ys)) : IsStop K (upd H P (.lst zs)) v c := by
  obtain ⟨a, l, g, rfl, h1, h2, h4⟩ := h
  exact ⟨a, l, g, rfl, tup_over h1 hp, h2.over hp, tup_over h4 hp⟩
theorem IsStop.rep {K : PySem.W.Frag} {H : Hp} {v : V} {s : Stop} (h : IsStop K H v s) (hl : s.g.length ≤ 1000) : Rep K H v (.tuple [dF (FQ.red s.T s.D), .tuple (s.g.map PyData.int)]) := by
  obtain ⟨a, l, g, rfl, h1, h2, h4⟩ := h
  exact .tup h1 (.cons h2.rep (.cons (.tup h4 (Reps.ints _) (by rw [List.length_map]; exact hl)) .nil)) (by simp)
def stopAt (W : List (List Int)) (n i : Nat) : Stop := ⟨(EM.st W n (i + 1)).T, (EM.st W n (i + 1)).D, (EM.cs W (EM.st W n i)).gone⟩
def stopsOf (W : List (List Int)) (n N : Nat) : List Stop := (List.range N).map (stopAt W n)
def spStops (K : PySem.W.Frag) : Sp := fun vs H Q _ => ∃ (a : Addr) (ws : List V) (W : List (List Int)) (n : Nat), vs = [.ref a] ∧ SqL K H a ws ∧ Paired (IsR K H) ws W ∧ EM.Ws n W ∧
  ∀ p ts N H', Same H H' → H p = none → H' p = some (.lst ts) → EM.Stops W n N → Paired (IsStop K H') ts (stopsOf W n N) → Q (.ref p) H'
/-! ### the law's own walk -/
theorem inV_int (t : Int) : ∀ G : List Int, inV (.int t) (G.map V.int) = decide (t ∈ G)
  | [] => by simp [inV]
  | x :: G => by
    have ih := inV_int t G
    unfold inV at ih ⊢
    rw [List.map_cons, List.any_cons, ih]
    by_cases h1 : x = t
    · subst h1; simp [eqV]
    · by_cases h2 : t ∈ G
      · simp [h2]
      · have h3 : t ≠ x := fun z => h1 z.symm
        simp [eqV, h1, h2, h3]
theorem flat_ints (G : List Int) : (G.map V.int).all flatV = true := by
  rw [List.all_eq_true]
  intro v hv
  obtain ⟨i, _, rfl⟩ := List.mem_map.mp hv
  rfl
/-- rows of fractions over one bottom, each a list of its own -/
structure RowsF (K : PySem.W.Frag) (H0 H : Hp) (L : Addr) (rs : List Addr) (D : Int) (M : List (List Int)) : Prop where
  lst : H L = some (.lst (rs.map V.ref))
  rows : Paired (fun r (m : List Int) => ∃ gs, H r = some (.lst gs) ∧ Paired (IsF K H) gs (fr D m)) rs M
  nd : rs.Nodup
  fresh : ∀ r ∈ rs, H0 r = none
  frL : H0 L = none
  nL : L ∉ rs
section
variable {K : PySem.W.Frag} {H0 H H' : Hp} {L : Addr} {rs : List Addr} {D : Int} {M : List (List Int)}
theorem RowsF.mono (R : RowsF K H0 H L rs D M) (e : Same H H') : RowsF K H0 H' L rs D M :=
  ⟨e _ _ R.lst, Paired.mapP R.rows fun _ _ ⟨gs, h1, h2⟩ => ⟨gs, e _ _ h1, fracs_mono e h2⟩, R.nd, R.fresh, R.frL, R.nL⟩
theorem RowsF.get (R : RowsF K H0 H L rs D M) {i : Nat} {m : List Int} (h : M[i]? = some m) : ∃ r gs, rs[i]? = some r ∧ H r = some (.lst gs) ∧ Paired (IsF K H) gs (fr D m) := by
  obtain ⟨r, h1, gs, h2, h3⟩ := Paired.get R.rows h
  exact ⟨r, gs, h1, h2, h3⟩
theorem RowsF.len (R : RowsF K H0 H L rs D M) : rs.length = M.length := Paired.len R.rows
/-- another list is changed -/
theorem RowsF.over {p : Addr} {ys zs : List V} (R : RowsF K H0 H L rs D M) (hp : H p = some (.lst ys)) (h1 : p ≠ L) (h2 : p ∉ rs) : RowsF K H0 (upd H p (.lst zs)) L rs D M := by
  refine ⟨by rw [upd_ne (Ne.symm h1)]; exact R.lst, ?_, R.nd, R.fresh, R.frL, R.nL⟩
  have : ∀ {rs : List Addr} {M : List (List Int)}, p ∉ rs → Paired (fun r (m : List Int) => ∃ gs, H r = some (.lst gs) ∧ Paired (IsF K H) gs (fr D m)) rs M → Paired (fun r (m : List Int) => ∃ gs, upd H p (.lst zs) r = some (.lst gs) ∧ Paired (IsF K (upd H p (.lst zs))) gs (fr D m)) rs M := by
    intro rs M hn h
    induction h with
    | nil => exact .nil
    | cons a b ih =>
      obtain ⟨gs, h1, h2⟩ := a
      refine .cons ⟨gs, ?_, Paired.mapP h2 fun _ _ q => q.over hp⟩ (ih fun z => hn (List.mem_cons_of_mem _ z))
      rw [upd_ne (fun z => hn (by rw [z]; exact List.mem_cons_self))]
      exact h1
  exact this h2 R.rows
/-- one row is changed -/
theorem RowsF.upd {r : Addr} {j : Nat} {gs gs' : List V} {m' : List Int} (R : RowsF K H0 H L rs D M) (h : rs[j]? = some r) (hr : H r = some (.lst gs)) (hg : Paired (IsF K H) gs' (fr D m')) : RowsF K H0 (L2.upd H r (.lst gs')) L rs D (M.set j m') := by
  refine ⟨by rw [upd_ne (fun z => R.nL (by rw [z]; exact List.mem_of_getElem? h))]; exact R.lst, ?_, R.nd, R.fresh, R.frL, R.nL⟩
  have keep : ∀ {rs : List Addr} {M : List (List Int)}, r ∉ rs → Paired (fun r (m : List Int) => ∃ gs, H r = some (.lst gs) ∧ Paired (IsF K H) gs (fr D m)) rs M → Paired (fun r' (m : List Int) => ∃ gs, L2.upd H r (.lst gs') r' = some (.lst gs) ∧ Paired (IsF K (L2.upd H r (.lst gs'))) gs (fr D m)) rs M := by
    intro rs M hn h
    induction h with
    | nil => exact .nil
    | cons a b ih =>
      obtain ⟨gs, h1, h2⟩ := a
      refine .cons ⟨gs, ?_, Paired.mapP h2 fun _ _ q => q.over hr⟩ (ih fun z => hn (List.mem_cons_of_mem _ z))
      rw [upd_ne (fun z => hn (by rw [z]; exact List.mem_cons_self))]
      exact h1
  have : ∀ {rs : List Addr} {M : List (List Int)} {j : Nat}, rs.Nodup → rs[j]? = some r → Paired (fun r (m : List Int) => ∃ gs, H r = some (.lst gs) ∧ Paired (IsF K H) gs (fr D m)) rs M → Paired (fun r' (m : List Int) => ∃ gs, L2.upd H r (.lst gs') r' = some (.lst gs) ∧ Paired (IsF K (L2.upd H r (.lst gs'))) gs (fr D m)) rs (M.set j m') := by
    intro rs M j nd e h
    induction h generalizing j with
    | nil => simp at e
    | cons a b ih =>
      cases j with
      | zero =>
        simp at e
        subst e
        exact .cons ⟨gs', upd_same, Paired.mapP hg fun _ _ q => q.over hr⟩ (keep (List.nodup_cons.mp nd).1 b)
      | succ j =>
        have e' : _ := (by simpa using e : _)
        obtain ⟨gs1, h1, h2⟩ := a
        refine .cons ⟨gs1, ?_, Paired.mapP h2 fun _ _ q => q.over hr⟩ (ih (List.nodup_cons.mp nd).2 e')
        rw [upd_ne (fun z => (List.nodup_cons.mp nd).1 (by rw [z]; exact List.mem_of_getElem? e'))]
        exact h1
  exact this R.nd h R.rows
end
/-- what has been eaten of each thing -/
def gone1 (W : List (List Int)) (n i : Nat) : List Int := (LM.rng n).map fun t => (EM.st W n i).D - EM.at0 (EM.st W n i).ms t
def addsTo (e ds : List Int) (m : Int) : List Int := ds.foldl (fun e t => LM.addOne e t m) e
theorem addOne_at {e : List Int} {t u m : Int} (h0 : 0 ≤ t) (h1 : t < e.length) (u0 : 0 ≤ u) : EM.at0 (LM.addOne e t m) u = EM.at0 e u + if t = u then m else 0 := by
  unfold EM.at0 LM.addOne
  rw [List.getD_eq_getElem?_getD]
  by_cases h : t = u
  · subst h
    rw [List.getElem?_set_self (by omega), if_pos rfl]
    rfl
  · rw [List.getElem?_set_ne (fun z => h (by omega)), if_neg h, Int.add_zero, List.getD_eq_getElem?_getD]
def spIsStop (K : PySem.W.Frag) : Sp := fun vs H Q _ => ∃ (v : V) (s : Stop) (n : Nat), vs = [v, .int n] ∧ IsStop K H v s ∧ 0 < s.D ∧ n ≤ 6 ∧ s.g ≠ [] ∧ s.g.Nodup ∧ s.g.Pairwise (· ≤ ·) ∧ (∀ t ∈ s.g, 0 ≤ t ∧ t < n) ∧ ∀ H', Same H H' → Q (.bl true) H'
def spWalked (K : PySem.W.Frag) : Sp := fun vs H Q _ => ∃ (a t : Addr) (ws ts : List V) (W : List (List Int)) (n N : Nat), vs = [.ref a, .ref t] ∧ SqL K H a ws ∧ Paired (IsR K H) ws W ∧ EM.Ws n W ∧ EM.Stops W n N ∧ H t = some (.lst ts) ∧ Paired (IsStop K H) ts (stopsOf W n N) ∧
  ∀ p us H', Same H H' → H p = none → H' p = some (.lst us) → Paired (RwFT K H' (EM.st W n N).D) us (eatRows W n N) → Q (.ref p) H'
end L2

namespace L2
open PySem PySem.Spec PyProof.Rows
/-! ### x in a list of data, deep -/
section
variable {X : Cx} {K : PySem.W.Frag}
def rInD (K : PySem.W.Frag) (neg : Bool) : R2 := fun x y H Q => ∃ d ds, Rep K H y (.list ds) ∧ Rep K H x d ∧ SeqAt.shaped (.list ds) = true ∧ SeqAt.shaped d = true ∧ (∀ e ∈ ds, SeqAt.noMix e d = true) ∧ Q (.bl (if neg then !decide (countIn d ds ≠ 0) else decide (countIn d ds ≠ 0))) H
end
theorem same_ints : ∀ a b : List Int, sameAll (a.map PyData.int) (b.map PyData.int) = decide (a = b)
  | [], [] => by simp [sameAll]
  | [], _ :: _ => by simp [sameAll]
  | _ :: _, [] => by simp [sameAll]
  | x :: a, y :: b => by
    simp only [List.map_cons, sameAll, same, same_ints a b]
    by_cases h1 : x = y <;> by_cases h2 : a = b <;> simp [h1, h2]
theorem same_rows (a b : List Int) : same (.tuple (a.map PyData.int)) (.tuple (b.map PyData.int)) = decide (a = b) := by
  simp only [same, same_ints]
end L2

namespace L2
open PySem PySem.Spec PyProof.Rows
/-! ### lots: whole weights over one bottom, with deals -/
abbrev Lot := Int × List Int
def cw (Ls : List Lot) (i : Nat) : Int := ((Ls.take i).map Prod.fst).sum
theorem cw_succ {Ls : List Lot} {i : Nat} {l : Lot} (h : Ls[i]? = some l) : cw Ls (i + 1) = cw Ls i + l.1 := by
  unfold cw
  rw [List.take_add_one, h, List.map_append, List.sum_append]
  simp
structure LotsOk (n : Nat) (Ls : List Lot) (T : Int) : Prop where
  tot : cw Ls Ls.length = T
  w1 : ∀ l ∈ Ls, 1 ≤ l.1
  w2 : ∀ l ∈ Ls, l.1 ≤ 1000000000000
  ne : 1 ≤ Ls.length
  le : Ls.length ≤ 40
  dl : ∀ l ∈ Ls, l.2.length = n
section
variable {n : Nat} {Ls : List Lot} {T : Int}
theorem LotsOk.up (h : LotsOk n Ls T) {i : Nat} (hi : i < Ls.length) : cw Ls i < cw Ls (i + 1) ∧ cw Ls (i + 1) = cw Ls i + (Ls[i]).1 := by
  have e := cw_succ (List.getElem?_eq_getElem hi)
  have := h.w1 _ (List.getElem_mem hi)
  omega
theorem LotsOk.mono (h : LotsOk n Ls T) {i : Nat} : ∀ k, i + k ≤ Ls.length → cw Ls i ≤ cw Ls (i + k)
  | 0, _ => Int.le_refl _
  | k + 1, hk => by
    have h1 := h.mono (i := i) k (by omega)
    have h2 := (h.up (i := i + k) (by omega)).1
    rw [← Nat.add_assoc]
    omega
theorem LotsOk.mono' (h : LotsOk n Ls T) {i j : Nat} (hij : i ≤ j) (hj : j ≤ Ls.length) : cw Ls i ≤ cw Ls j := by
  have := h.mono (i := i) (j - i) (by omega)
  rw [show i + (j - i) = j by omega] at this
  exact this
theorem cw_zero (Ls : List Lot) : cw Ls 0 = 0 := rfl
theorem LotsOk.bd (h : LotsOk n Ls T) {i : Nat} (hi : i ≤ Ls.length) : 0 ≤ cw Ls i ∧ cw Ls i ≤ T := by
  have h1 := h.mono' (Nat.zero_le i) hi
  have h2 := h.mono' hi (Nat.le_refl _)
  rw [cw_zero] at h1
  rw [h.tot] at h2
  exact ⟨h1, h2⟩
theorem LotsOk.cwle (h : LotsOk n Ls T) : ∀ i, i ≤ Ls.length → cw Ls i ≤ i * 1000000000000
  | 0, _ => by rw [cw_zero]; simp
  | i + 1, hi => by
    have h1 := h.cwle i (by omega)
    have h2 := (h.up (i := i) (by omega)).2
    have h3 := h.w2 _ (List.getElem_mem (show i < Ls.length by omega))
    rw [h2]
    push_cast
    omega
theorem LotsOk.T0 (h : LotsOk n Ls T) : 0 < T ∧ T < 2 ^ 80 := by
  have h1 := (h.up (i := 0) (by have := h.ne; omega)).1
  have h2 := h.bd (i := 1) h.ne
  rw [cw_zero, Nat.zero_add] at h1
  have h3 := h.cwle Ls.length (Nat.le_refl _)
  rw [h.tot] at h3
  have h4 := h.le
  have : (Ls.length : Int) * 1000000000000 ≤ 40 * 1000000000000 := Int.mul_le_mul_of_nonneg_right (by omega) (by decide)
  constructor <;> omega
end
/-- the first place up to which the weights come to more than p -/
structure First (Ls : List Lot) (T : Int) (p : Int × Int) (i : Nat) : Prop where
  lt : i < Ls.length
  yes : lessF p (FQ.red (cw Ls (i + 1)) T) = true
  no : ∀ j, j < i → lessF p (FQ.red (cw Ls (j + 1)) T) = false
theorem First.uniq {Ls : List Lot} {T : Int} {p : Int × Int} {i j : Nat} (h : First Ls T p i) (h' : First Ls T p j) : i = j := by
  rcases Nat.lt_trichotomy i j with z | z | z
  · have := h'.no i z; rw [h.yes] at this; cases this
  · exact z
  · have := h.no j z; rw [h'.yes] at this; cases this
def IsLot (K : PySem.W.Frag) (H : Hp) (T : Int) (v : V) (l : Lot) : Prop := ∃ a f g, v = .ref a ∧ SqT K H a [.ref f, .ref g] ∧ IsF K H (.ref f) (FQ.red l.1 T) ∧ SqT K H g (l.2.map V.int)
theorem IsLot.mono {K : PySem.W.Frag} {H H' : Hp} {T : Int} {v : V} {l : Lot} (e : Same H H') (h : IsLot K H T v l) : IsLot K H' T v l := by
  obtain ⟨a, f, g, rfl, h1, h2, h3⟩ := h
  exact ⟨a, f, g, rfl, e.tup h1, h2.mono e, e.tup h3⟩
theorem IsLot.rep {K : PySem.W.Frag} {H : Hp} {T : Int} {v : V} {l : Lot} (h : IsLot K H T v l) (hl : l.2.length ≤ 1000) : Rep K H v (.tuple [dF (FQ.red l.1 T), .tuple (l.2.map PyData.int)]) := by
  obtain ⟨a, f, g, rfl, h1, h2, h4⟩ := h
  exact .tup h1 (.cons h2.rep (.cons (.tup h4 (Reps.ints _) (by rw [List.length_map]; exact hl)) .nil)) (by simp)
def Refused (p : Int × Int) : Prop := lessF p (0, 1) = true ∨ lessF p (1, 1) = false
def spPicked (K : PySem.W.Frag) (x : Xs) : Sp := fun vs H Q E => ∃ (L m : Addr) (ls : List V) (Ls : List Lot) (T : Int) (n : Nat) (p : Int × Int), vs = [.ref L, .ref m] ∧ SqL K H L ls ∧ Paired (IsLot K H T) ls Ls ∧ LotsOk n Ls T ∧ IsF K H (.ref m) p ∧ Sz 2000 p ∧ 0 < p.2 ∧
  (Refused p → E (.ref x.NoPick) none H) ∧ (¬ Refused p → ∀ i v H', First Ls T p i → Same H H' → IsR K H' v (Ls.getD i (0, [])).2 → Q v H')
def spRefused32 (K : PySem.W.Frag) : Sp := fun vs H Q _ => ∃ (L m : Addr) (ls : List V) (Ls : List Lot) (T : Int) (n : Nat) (p : Int × Int), vs = [.ref L, .ref m] ∧ SqL K H L ls ∧ Paired (IsLot K H T) ls Ls ∧ LotsOk n Ls T ∧ IsF K H (.ref m) p ∧ Sz 2000 p ∧ 0 < p.2 ∧ Refused p ∧ ∀ H', Same H H' → Q (.bl true) H'
def IsRaw (K : PySem.W.Frag) (H : Hp) (v : V) (l : Lot) : Prop := ∃ a g, v = .ref a ∧ SqT K H a [.int l.1, .ref g] ∧ SqT K H g (l.2.map V.int)
theorem IsRaw.mono {K : PySem.W.Frag} {H H' : Hp} {v : V} {l : Lot} (e : Same H H') (h : IsRaw K H v l) : IsRaw K H' v l := by
  obtain ⟨a, g, rfl, h1, h3⟩ := h
  exact ⟨a, g, rfl, e.tup h1, e.tup h3⟩
theorem IsRaw.over {K : PySem.W.Frag} {H : Hp} {v : V} {p : Addr} {ys zs : List V} {l : Lot} (h : IsRaw K H v l) (hp : H p = some (.lst ys)) : IsRaw K (upd H p (.lst zs)) v l := by
  obtain ⟨a, g, rfl, h1, h3⟩ := h
  exact ⟨a, g, rfl, tup_over h1 hp, tup_over h3 hp⟩
def spLots (K : PySem.W.Frag) : Sp := fun vs H Q _ => ∃ (a : Addr) (ns : List Int) (n : Nat), vs = [.ref a, .int n] ∧ SqL K H a (ns.map V.int) ∧ n ≤ 6 ∧ ∀ p ls Ls T H', Same H H' → H p = none → H' p = some (.lst ls) → Paired (IsLot K H' T) ls Ls → LotsOk n Ls T → Q (.ref p) H'
end L2

namespace L2
open PySem PySem.Spec PyProof.Rows
theorem nextOf_tuple_item {prog : Program} {w : World} {A : Around} {E : Value → Shared → Prop} {s : Shared} {it l : Addr} {i : Nat} {items : Array Value} {x : Value} {Q : Value → Shared → Prop} (hit : s.heap.IsTupleIter it l i) (hl : s.heap.IsTuple l items) (hx : items[i]? = some x)
    (hQ : ∀ h' : Heap, h'.IsTupleIter it l (i + 1) → Heap.SameBut it s.heap h' → Q x { s with heap := h' }) : wpAny (model prog w) A (Builtin.SmallTypes.nextOf (.ref it)) Q E s := by
  obtain ⟨o, ho, hc, hd⟩ := id hit
  obtain ⟨ol, hol, hcl, nl, hdl⟩ := hl
  unfold Builtin.SmallTypes.nextOf
  refine wpAny_bind (wpAny_callSpecial?_slot (Heap.IsTupleIter.typeIs hit) F.slot_tuple_iterator_next (wpAny_call_entry F.slot_tuple_iterator_next (Heap.IsTupleIter.typeIs hit) F.entry_tuple_iterator_next ?_ (F.args_tuple_iterator_next_1 _)))
  refine wpAny_bind (wpAny_pure ?_)
  refine wpAny_bind (wpAny_field ho hd rfl ?_)
  refine wpAny_ite_false rfl ?_
  refine wpAny_bind (wpAny_field ho hd rfl ?_)
  refine wpAny_bind (wpAny_seqItems hol hdl ?_)
  dsimp only
  rw [show items[((i : Nat) : Int).toNat]? = some x from hx]
  refine wpAny_bind (wpAny_setField ho hd (by simp) ?_)
  refine wpAny_pure ⟨x, rfl, wpAny_pure (hQ _ ⟨_, Heap.get?_update_self _ ho (Obj.isFreed_of_fields (Obj.data_mapFields hd _)), (Obj.cls_mapFields o _).trans hc, ?_⟩ (Heap.SameBut.update _ _ _))⟩
  rw [Obj.data_mapFields hd]
  rfl
theorem nextOf_tuple_end {prog : Program} {w : World} {A : Around} {E : Value → Shared → Prop} {s : Shared} {it l : Addr} {i : Nat} {items : Array Value} {Q : Value → Shared → Prop} (hh : A.handled = none) (hit : s.heap.IsTupleIter it l i) (hl : s.heap.IsTuple l items) (hx : items[i]? = none)
    (hE : ∀ (h' : Heap) (e : Addr), Heap.ExtBut it s.heap h' → (∃ o, h'.get? e = some o ∧ o.cls = .type "StopIteration") → E (.ref e) { s with heap := h' }) : wpAny (model prog w) A (Builtin.SmallTypes.nextOf (.ref it)) Q E s := by
  obtain ⟨o, ho, hc, hd⟩ := id hit
  obtain ⟨ol, hol, hcl, nl, hdl⟩ := hl
  unfold Builtin.SmallTypes.nextOf
  refine wpAny_bind (wpAny_callSpecial?_slot (Heap.IsTupleIter.typeIs hit) F.slot_tuple_iterator_next (wpAny_call_entry F.slot_tuple_iterator_next (Heap.IsTupleIter.typeIs hit) F.entry_tuple_iterator_next ?_ (F.args_tuple_iterator_next_1 _)))
  refine wpAny_bind (wpAny_pure ?_)
  refine wpAny_bind (wpAny_field ho hd rfl ?_)
  refine wpAny_ite_false rfl ?_
  refine wpAny_bind (wpAny_field ho hd rfl ?_)
  refine wpAny_bind (wpAny_seqItems hol hdl ?_)
  dsimp only
  rw [show items[((i : Nat) : Int).toNat]? = none from hx]
  refine wpAny_bind (wpAny_rule (wpAny_bind (wpAny_setField ho hd (by simp) ?_)))
  unfold Builtin.SmallTypes.stopIteration newExc raiseNew
  refine wpAny_bind (wpAny_bind (wpAny_newTuple ?_ (by show (0 : Nat) ≤ sizeLine; decide)))
  refine wpAny_bind (wpAny_of_eq rfl (wpAny_newObj_type ?_ ?_))
  · refine wpAny_bind (wpAny_handled ?_)
    rw [show A.in1.handled = none from hh]
    refine wpAny_throw ?_
    exact hE _ _ (((Heap.SameBut.update _ _ _).extBut.push _).push _) ⟨_, Heap.get?_push_size _ rfl, rfl⟩
  · exact sizeOk_excFields _ _ _ _ _ _ _ _
theorem draws_tuple {prog : Program} {w : World} {A : Around} (hh : A.handled = none) (it l : Addr) (hl : l ≠ it) (items : Array Value) : Draws prog w A it [it, l] items.size (fun i v => items[i]? = some v) (fun i h => h.IsTupleIter it l i ∧ h.IsTuple l items) where
  live := fun i h st => by obtain ⟨⟨o, ho, _⟩, _⟩ := st; exact ⟨o, ho⟩
  frame := fun i h h' st k => by
    obtain ⟨s1, o, s2, r⟩ := st
    exact ⟨s1.at fun o q => k it (by simp) o q, o, k l (by simp) o s2, r⟩
  item := fun i s Q E hi st h => by
    obtain ⟨s1, s2⟩ := st
    refine nextOf_tuple_item s1 s2 (x := items[i]) (by simp [hi]) fun h' st' sb => h _ _ s.toks (by simp [hi]) ⟨st', ?_⟩ sb
    obtain ⟨o, q, r⟩ := s2
    exact ⟨o, (sb.2 l hl).trans q, r⟩
  done := fun s Q E st h => by
    obtain ⟨s1, s2⟩ := st
    exact nextOf_tuple_end hh s1 s2 (by simp) h
/-- what keeps the parts of a zip apart -/
structure ZipA (z TI TO i1 i2 : Addr) (fp1 fp2 : List Addr) : Prop where
  TIz : TI ≠ z
  TOz : TO ≠ z
  i1z : i1 ≠ z
  i2z : i2 ≠ z
  TITO : TI ≠ TO
  TIi1 : TI ≠ i1
  TIi2 : TI ≠ i2
  TOi1 : TO ≠ i1
  TOi2 : TO ≠ i2
  i12 : i1 ≠ i2
  z1 : z ∉ fp1
  T1 : TO ∉ fp1
  i21 : i2 ∉ fp1
  z2 : z ∉ fp2
  T2 : TO ∉ fp2
  i12' : i1 ∉ fp2
theorem zip_item {prog : Program} {w : World} {A : Around} {E : Value → Shared → Prop} {s : Shared} {z TI TO i1 i2 : Addr} {fp1 fp2 : List Addr} {n1 n2 k1 k2 : Nat} {P1 P2 : Nat → Value → Prop} {St1 St2 : Nat → Heap → Prop} {a b : Value} {Q : Value → Shared → Prop}
    (D1 : Draws prog w A i1 fp1 n1 P1 St1) (D2 : Draws prog w A i2 fp2 n2 P2 St2) (ap : ZipA z TI TO i1 i2 fp1 fp2) (hz : IsZip s.heap z TI TO .none) (hTI : IsPair s.heap TI (.ref i1) (.ref i2)) (hTO : IsPair s.heap TO a b)
    (s1 : St1 k1 s.heap) (s2 : St2 k2 s.heap) (hk1 : k1 < n1) (hk2 : k2 < n2)
    (hQ : ∀ (x y : Value) (h' : Heap) (tk : Nat), P1 k1 x → P2 k2 y → IsZip h' z TI TO (rawInt s.heap.objs.size) → IsPair h' TO x y → St1 (k1 + 1) h' → St2 (k2 + 1) h' → IsPair h' s.heap.objs.size x y → h'.objs.size = s.heap.objs.size + 1 →
      (∀ c o, c ≠ z → c ≠ TO → c ≠ i1 → c ≠ i2 → s.heap.get? c = some o → h'.get? c = some o) → Q (.ref s.heap.objs.size) { s with heap := h', toks := tk }) :
    wpAny (model prog w) A (Builtin.«zip.__next__» { pos := [.ref z] }) (fun fin s' => ∃ v, fin = Fin.done (Flow.ret v) ∧ Q v s') E s := by
  unfold Builtin.«zip.__next__»
  refine wpAny_bind (wpAny_pure ?_)
  refine wpAny_bind (wpAny_field hz rfl rfl ?_)
  refine wpAny_bind (wpAny_field hz rfl rfl ?_)
  refine wpAny_bind (wpAny_seqItems hTI rfl ?_)
  refine wpAny_ite_false rfl ?_
  unfold Builtin.SmallTypes.ownedTupleIsFree
  refine wpAny_bind (wpAny_bind (wpAny_field hz rfl rfl (wpAny_pure ?_)))
  refine wpAny_bind (wpAny_rule (wpAny_bind (wpAny_field hz rfl rfl ?_)))
  refine wpAny_bind (wpAny_setField_rec hz (by simp) fun h1 hz1 sb1 => ?_)
  rw [show #[Value.ref i1, Value.ref i2].toList.zipIdx = [(Value.ref i1, 0), (Value.ref i2, 1)] from rfl, List.forIn_cons, bind_assoc]
  have hTO1 : IsPair h1 TO a b := (sb1.2 TO ap.TOz).trans hTO
  have s11 : St1 k1 h1 := D1.frame _ _ _ s1 fun c hc o q => (sb1.2 c (fun e => ap.z1 (e ▸ hc))).trans q
  have s21 : St2 k2 h1 := D2.frame _ _ _ s2 fun c hc o q => (sb1.2 c (fun e => ap.z2 (e ▸ hc))).trans q
  refine wpAny_bind (wpAny_bind (wpAny_onRaise ?_))
  refine (show wpAny (model prog w) A (if (Value.bool false == Value.bool true) = true then Builtin.SmallTypes.nextOrEnd (.ref i1) else do let x ← Builtin.SmallTypes.nextOf (.ref i1); pure (some x)) _ _ _ from wpAny_ite_false rfl (wpAny_bind (D1.item k1 _ _ _ hk1 s11 fun x h2 tk2 px s12 sb2 => wpAny_pure ?_)))
  have hTO2 : IsPair h2 TO a b := (sb2.2 TO ap.TOi1).trans hTO1
  refine wpAny_bind (wpAny_seqItems hTO2 rfl ?_)
  refine wpAny_bind (wpAny_updateSeq_pair hTO2 fun h3 hTO3 sb3 => ?_)
  refine wpAny_bind (wpAny_letGo (wpAny_pure ?_))
  dsimp only
  have hTO3' : IsPair h3 TO x b := hTO3
  have s13 : St1 (k1 + 1) h3 := D1.frame _ _ _ s12 fun c hc o q => (sb3.2 c (fun e => ap.T1 (e ▸ hc))).trans q
  have s23 : St2 k2 h3 := D2.frame _ _ _ s21 fun c hc o q => (sb3.2 c (fun e => ap.T2 (e ▸ hc))).trans ((sb2.2 c (fun e => ap.i12' (e ▸ hc))).trans q)
  rw [List.forIn_cons, bind_assoc]
  refine wpAny_bind (wpAny_bind (wpAny_onRaise ?_))
  refine (show wpAny (model prog w) A (if (Value.bool false == Value.bool true) = true then Builtin.SmallTypes.nextOrEnd (.ref i2) else do let x ← Builtin.SmallTypes.nextOf (.ref i2); pure (some x)) _ _ _ from wpAny_ite_false rfl (wpAny_bind (D2.item k2 _ _ _ hk2 s23 fun y h4 tk4 py s24 sb4 => wpAny_pure ?_)))
  have hTO4 : IsPair h4 TO x b := (sb4.2 TO ap.TOi2).trans hTO3'
  refine wpAny_bind (wpAny_seqItems hTO4 rfl ?_)
  refine wpAny_bind (wpAny_updateSeq_pair hTO4 fun h5 hTO5 sb5 => ?_)
  refine wpAny_bind (wpAny_letGo (wpAny_pure ?_))
  dsimp only
  have hTO5' : IsPair h5 TO x y := hTO5
  rw [List.forIn_nil]
  refine wpAny_bind (wpAny_pure ?_)
  refine wpAny_bind (wpAny_seqItems hTO5' rfl ?_)
  refine wpAny_bind (wpAny_newTuple ?_ (by show 2 ≤ sizeLine; decide))
  have hz5 : h5.get? z = some { cls := Value.type "zip", data := Data.fields #[Value.ellipsis, Value.bool false, Value.bool false, Value.ref TI, Value.ref TO] } :=
    (sb5.2 z (Ne.symm ap.TOz)).trans ((sb4.2 z (Ne.symm ap.i2z)).trans ((sb3.2 z (Ne.symm ap.TOz)).trans ((sb2.2 z (Ne.symm ap.i1z)).trans hz1)))
  unfold Builtin.SmallTypes.ownedTupleHandOut
  dsimp only
  have hz6 := Heap.get?_push_of_some (o := { cls := Value.type "tuple", data := Data.seq [x, y].toArray }) hz5
  refine wpAny_bind (wpAny_bind (wpAny_setField_rec hz6 (by simp) fun h7 hz7 sb7 => ?_))
  refine wpAny_setField_rec hz7 (by simp) fun h8 hz8 sb8 => ?_
  have e5 : h5.objs.size = s.heap.objs.size := by rw [sb5.1, sb4.1, sb3.1, sb2.1, sb1.1]
  have hnew : (h5.push { cls := Value.type "tuple", data := Data.seq [x, y].toArray }).get? h5.objs.size = some { cls := Value.type "tuple", data := Data.seq [x, y].toArray } := Heap.get?_push_size _ rfl
  have nz : h5.objs.size ≠ z := Ne.symm (Nat.ne_of_lt (Heap.lt_size hz5))
  have s15 : St1 (k1 + 1) h5 := D1.frame _ _ _ s13 fun c hc o q => (sb5.2 c (fun e => ap.T1 (e ▸ hc))).trans ((sb4.2 c (fun e => ap.i21 (e ▸ hc))).trans q)
  have s25 : St2 (k2 + 1) h5 := D2.frame _ _ _ s24 fun c hc o q => (sb5.2 c (fun e => ap.T2 (e ▸ hc))).trans q
  have keep8 : ∀ c o, c ≠ z → h5.get? c = some o → h8.get? c = some o := fun c o hc q => (sb8.2 c hc).trans ((sb7.2 c hc).trans (Heap.get?_push_of_some _ q))
  refine wpAny_pure ⟨_, rfl, ?_⟩
  dsimp only
  rw [e5]
  refine hQ x y h8 tk4 px py ?_ (keep8 TO _ ap.TOz hTO5') (D1.frame _ _ _ s15 fun c hc o q => keep8 c o (fun e => ap.z1 (e ▸ hc)) q) (D2.frame _ _ _ s25 fun c hc o q => keep8 c o (fun e => ap.z2 (e ▸ hc)) q) ?_ ?_ (fun c o c1 c2 c3 c4 q => ?_)
  · rw [← e5]; exact hz8
  · rw [← e5]; exact (sb8.2 _ nz).trans ((sb7.2 _ nz).trans hnew)
  · rw [sb8.1, sb7.1]
    show (h5.push _).objs.size = _
    unfold Heap.push
    simp [e5]
  · exact keep8 c o c1 ((sb5.2 c c2).trans ((sb4.2 c c4).trans ((sb3.2 c c2).trans ((sb2.2 c c3).trans ((sb1.2 c c1).trans q)))))
theorem pyNext_zip {prog : Program} {w : World} {A : Around} {E : Value → Shared → Prop} {s : Shared} {z : Addr} {Q : Option Value → Shared → Prop} (ht : s.TypeIs (.ref z) "zip")
    (h : wpAny (model prog w) A.in1 (Builtin.«zip.__next__» { pos := [.ref z] }) (fun fin s' => ∃ v, fin = Fin.done (Flow.ret v) ∧ Q (some v) s') (fun e s' => (∃ a o, e = .ref a ∧ s'.heap.get? a = some o ∧ o.cls = .type "StopIteration") ∧ Q none s') s) :
    wpAny (model prog w) A (pyNext (.ref z)) Q E s := by
  unfold pyNext
  refine wpAny_bind (wpAny_attempt (wpAny_callSpecial?_slot ht F.slot_zip_next (wpAny_call_entry F.slot_zip_next ht F.entry_zip_next ?_ (F.args_zip_next_1 _))))
  refine wpAny_mono h (fun fin s' hq => ?_) (fun e s' hq => ?_)
  · obtain ⟨v, e, q⟩ := hq
    exact ⟨v, e, wpAny_pure q⟩
  · obtain ⟨⟨a, o, rfl, ho, hc⟩, q⟩ := hq
    refine wpAny_bind (wpAny_isInstance (T := "StopIteration") ⟨o, ho, hc⟩ isSubtype_stop ?_)
    exact wpAny_pure q
/-- the first of the two has ended (the zip holds no tuple) -/
theorem zip_end {prog : Program} {w : World} {A : Around} {E : Value → Shared → Prop} {s : Shared} {z TI TO i1 i2 : Addr} {fp1 : List Addr} {n1 : Nat} {P1 : Nat → Value → Prop} {St1 : Nat → Heap → Prop} {a b : Value} {Q : PySem.Fin → Shared → Prop}
    (D1 : Draws prog w A i1 fp1 n1 P1 St1) (i1z : i1 ≠ z) (z1 : z ∉ fp1) (hz : IsZip s.heap z TI TO .none) (hTI : IsPair s.heap TI (.ref i1) (.ref i2)) (hTO : IsPair s.heap TO a b) (s1 : St1 n1 s.heap)
    (hE : ∀ (h' : Heap) (e : Addr), (∀ c o, c ≠ z → c ≠ i1 → s.heap.get? c = some o → h'.get? c = some o) → (∃ o, h'.get? e = some o ∧ o.cls = .type "StopIteration") → E (.ref e) { s with heap := h' }) :
    wpAny (model prog w) A (Builtin.«zip.__next__» { pos := [.ref z] }) Q E s := by
  unfold Builtin.«zip.__next__»
  refine wpAny_bind (wpAny_pure ?_)
  refine wpAny_bind (wpAny_field hz rfl rfl ?_)
  refine wpAny_bind (wpAny_field hz rfl rfl ?_)
  refine wpAny_bind (wpAny_seqItems hTI rfl ?_)
  refine wpAny_ite_false rfl ?_
  unfold Builtin.SmallTypes.ownedTupleIsFree
  refine wpAny_bind (wpAny_bind (wpAny_field hz rfl rfl (wpAny_pure ?_)))
  refine wpAny_bind (wpAny_rule (wpAny_bind (wpAny_field hz rfl rfl ?_)))
  refine wpAny_bind (wpAny_setField_rec hz (by simp) fun h1 hz1 sb1 => ?_)
  rw [show #[Value.ref i1, Value.ref i2].toList.zipIdx = [(Value.ref i1, 0), (Value.ref i2, 1)] from rfl, List.forIn_cons, bind_assoc]
  have s11 : St1 n1 h1 := D1.frame _ _ _ s1 fun c hc o q => (sb1.2 c (fun e => z1 (e ▸ hc))).trans q
  refine wpAny_bind (wpAny_bind (wpAny_onRaise ?_))
  refine (show wpAny (model prog w) A (if (Value.bool false == Value.bool true) = true then Builtin.SmallTypes.nextOrEnd (.ref i1) else do let x ← Builtin.SmallTypes.nextOf (.ref i1); pure (some x)) _ _ _ from wpAny_ite_false rfl (wpAny_bind (D1.done _ _ _ s11 fun h2 e eb2 ho => ?_)))
  have hz2 : h2.get? z = some _ := eb2 z _ (Ne.symm i1z) hz1
  refine wpAny_setField_rec hz2 (by simp) fun h3 hz3 sb3 => ?_
  obtain ⟨o, ho, hc⟩ := ho
  have nez : e ≠ z := fun q => by
    rw [q, hz2] at ho
    cases ho
    exact absurd (Value.type.inj hc) (by decide)
  exact hE h3 e (fun c o c1 c2 q => (sb3.2 c c1).trans (eb2 c o c2 ((sb1.2 c c1).trans q))) ⟨o, (sb3.2 e nez).trans ho, hc⟩
/-! ### lists and tuples alike -/
def Sqx (h : Heap) (tp : Bool) (l : Addr) (items : Array Value) : Prop := if tp = true then h.IsTuple l items else h.IsList l items
def Itx (h : Heap) (tp : Bool) (it l : Addr) (i : Nat) : Prop := if tp = true then h.IsTupleIter it l i else h.IsListIter it l i
def itObj (tp : Bool) (l : Addr) : Obj := { cls := .type (if tp = true then "tuple_iterator" else "list_iterator"), data := .fields #[.ref l, .int 0 0] }
theorem pyIter_sqx {prog : Program} {w : World} {A : Around} {E : Value → Shared → Prop} {s : Shared} {tp : Bool} {l : Addr} {items : Array Value} {Q : Value → Shared → Prop} (h : Sqx s.heap tp l items) (hQ : Q (.ref s.heap.objs.size) { s with heap := s.heap.push (itObj tp l) }) : wpAny (model prog w) A (pyIter (.ref l)) Q E s := by
  cases tp with
  | true => exact wpAny_pyIter_tuple h hQ
  | false => exact wpAny_pyIter_list h hQ
theorem Sqx.keep {h h' : Heap} {tp : Bool} {l : Addr} {items : Array Value} (q : Sqx h tp l items) (k : ∀ o, h.get? l = some o → h'.get? l = some o) : Sqx h' tp l items := by
  cases tp with
  | true => obtain ⟨o, q1, r⟩ := (show h.IsTuple l items from q); exact ⟨o, k o q1, r⟩
  | false => obtain ⟨o, q1, r⟩ := (show h.IsList l items from q); exact ⟨o, k o q1, r⟩
theorem Sqx.lt {h : Heap} {tp : Bool} {l : Addr} {items : Array Value} (q : Sqx h tp l items) : l < h.objs.size := by
  cases tp with
  | true => obtain ⟨o, q1, r⟩ := (show h.IsTuple l items from q); exact Heap.lt_size q1
  | false => obtain ⟨o, q1, r⟩ := (show h.IsList l items from q); exact Heap.lt_size q1
theorem Itx.new {h : Heap} {tp : Bool} {it l : Addr} (e : h.get? it = some (itObj tp l)) : Itx h tp it l 0 := by
  cases tp with
  | true => exact ⟨_, e, rfl, rfl⟩
  | false => exact ⟨_, e, rfl, rfl⟩
theorem Itx.keep {h h' : Heap} {tp : Bool} {it l : Addr} {i : Nat} (q : Itx h tp it l i) (k : ∀ o, h.get? it = some o → h'.get? it = some o) : Itx h' tp it l i := by
  cases tp with
  | true => exact Heap.IsTupleIter.at q k
  | false => exact Heap.IsListIter.at q k
theorem Itx.get {h : Heap} {tp : Bool} {it l : Addr} {i : Nat} (q : Itx h tp it l i) : ∃ vs n, h.get? it = some { cls := .type n, data := .fields vs } ∨ ∃ o, h.get? it = some o ∧ o.data = .fields vs := by
  cases tp with
  | true => obtain ⟨o, e, c, d⟩ := (show h.IsTupleIter it l i from q); exact ⟨_, "", .inr ⟨o, e, d⟩⟩
  | false => obtain ⟨o, e, c, d⟩ := (show h.IsListIter it l i from q); exact ⟨_, "", .inr ⟨o, e, d⟩⟩
theorem draws_sqx {prog : Program} {w : World} {A : Around} (hh : A.handled = none) (tp : Bool) (it l : Addr) (hl : l ≠ it) (items : Array Value) : Draws prog w A it [it, l] items.size (fun i v => items[i]? = some v) (fun i h => Itx h tp it l i ∧ Sqx h tp l items) := by
  cases tp with
  | true => exact draws_tuple hh it l hl items
  | false => exact Draws.list hh it l hl items
/-- zip(l1, l2) -/
theorem meets_zipx (l1 l2 : Addr) (t1 t2 : Bool) (xs ys : Array Value) : Meets (Builtin.«zip.__new__» { pos := [.type "zip", .ref l1, .ref l2] }) (fun _ R s => Sqx s.heap t1 l1 xs ∧ Sqx s.heap t2 l2 ys ∧
    R (.ok (.ret (.ref (s.heap.objs.size + 4)))) { s with heap := ((((s.heap.push (itObj t1 l1)).push (itObj t2 l2)).push { cls := .type "tuple", data := .seq #[.ref s.heap.objs.size, .ref (s.heap.objs.size + 1)] }).push { cls := .type "tuple", data := .seq #[.none, .none] }).push { cls := .type "zip", data := .fields #[.none, .bool false, .bool false, .ref (s.heap.objs.size + 2), .ref (s.heap.objs.size + 3)] } }) := by
  refine Meets.of_wp fun prog w A R s h => ?_
  obtain ⟨h1, h2, hR⟩ := h
  have hsub := sub_zip
  unfold Builtin.«zip.__new__» Builtin.SmallTypes.newClass
  refine wpAny_bind (wpAny_bind (wpAny_pure ?_))
  refine wpAny_ite_false rfl (wpAny_bind (wpAny_of_eq hsub (wpAny_ite_false rfl (wpAny_pure ?_))))
  refine wpAny_ite_false rfl ?_
  unfold Builtin.SmallTypes.iterAll
  dsimp only
  rw [List.forIn_cons]
  refine wpAny_bind (wpAny_bind (wpAny_bind (wpAny_bind (wpAny_holding (pyIter_sqx h1 (wpAny_pure ?_))))))
  dsimp only
  rw [List.forIn_cons]
  have h21 : Sqx (s.heap.push (itObj t1 l1)) t2 l2 ys := h2.keep fun o q => Heap.get?_push_of_some _ q
  refine wpAny_bind (wpAny_bind (wpAny_holding (pyIter_sqx (s := { s with heap := s.heap.push (itObj t1 l1) }) h21 (wpAny_pure ?_))))
  dsimp only
  rw [List.forIn_nil]
  have e1 : ∀ (h : Heap) (o : Obj), (h.push o).objs.size = h.objs.size + 1 := fun h o => by unfold Heap.push; simp
  refine wpAny_pure (wpAny_pure ?_)
  refine wpAny_bind (wpAny_newTuple ?_ (by show 2 ≤ sizeLine; decide))
  refine wpAny_bind (wpAny_newTuple ?_ (by show 2 ≤ sizeLine; decide))
  unfold Builtin.SmallTypes.newRecord
  refine wpAny_bind (wpAny_newObj_type ?_ (by show (5 : Nat) ≤ sizeLine + 2; decide))
  refine wpAny_pure ⟨_, rfl, ?_⟩
  simp only [e1]
  exact hR
def SqB (K : PySem.W.Frag) (H : Hp) (tp : Bool) (a : Addr) (xs : List V) : Prop := if tp = true then SqT K H a xs else SqL K H a xs
theorem SqB.mono {K : PySem.W.Frag} {H H' : Hp} {tp : Bool} {a : Addr} {xs : List V} (e : Same H H') (h : SqB K H tp a xs) : SqB K H' tp a xs := by
  cases tp with
  | true => exact e.tup h
  | false => exact e.seq h
structure ZipB (z TI TO i1 i2 l1 l2 : Addr) : Prop where
  TIz : TI ≠ z
  TOz : TO ≠ z
  i1z : i1 ≠ z
  i2z : i2 ≠ z
  TITO : TI ≠ TO
  TIi1 : TI ≠ i1
  TIi2 : TI ≠ i2
  TOi1 : TO ≠ i1
  TOi2 : TO ≠ i2
  i12 : i1 ≠ i2
  l1z : l1 ≠ z
  l1T : l1 ≠ TO
  l1i : l1 ≠ i1
  l1j : l1 ≠ i2
  l2z : l2 ≠ z
  l2T : l2 ≠ TO
  l2i : l2 ≠ i1
  l2j : l2 ≠ i2
theorem ZipB.a {z TI TO i1 i2 l1 l2 : Addr} (b : ZipB z TI TO i1 i2 l1 l2) : ZipA z TI TO i1 i2 [i1, l1] [i2, l2] :=
  ⟨b.TIz, b.TOz, b.i1z, b.i2z, b.TITO, b.TIi1, b.TIi2, b.TOi1, b.TOi2, b.i12, by simp [Ne.symm b.i1z, Ne.symm b.l1z], by simp [b.TOi1, Ne.symm b.l1T], by simp [Ne.symm b.i12, Ne.symm b.l1j], by simp [Ne.symm b.i2z, Ne.symm b.l2z], by simp [b.TOi2, Ne.symm b.l2T], by simp [b.i12, Ne.symm b.l2i]⟩
section
variable {X : Cx} {pins : List (Addr × Obj)} {σ : St} {H : Hp} {s : Shared}
theorem Inv.sqx (I : Inv X pins σ H s) {tp : Bool} {a : Addr} {xs : List V} (h : SqB X.K H tp a xs) : ∃ its : List Value, Vals xs its ∧ Sqx s.heap tp a its.toArray := by
  cases tp with
  | true => obtain ⟨its, r, p, _⟩ := I.tuple h; exact ⟨its, r, p⟩
  | false => obtain ⟨its, r, p, _⟩ := I.list h; exact ⟨its, r, p.isList⟩
theorem Inv.sqb_inj (I : Inv X pins σ H s) {tp : Bool} {a : Addr} {xs ys : List V} (h : SqB X.K H tp a xs) (h' : SqB X.K H tp a ys) : xs = ys := by
  cases tp with
  | true => exact I.tuple_inj h h'
  | false => exact I.list_inj h h'
end
def Itz (K : PySem.W.Frag) (t1 t2 : Bool) (a b : Addr) : It :=
  ⟨fun i H => ∃ xs ys x y, SqB K H t1 a xs ∧ SqB K H t2 b ys ∧ xs[i]? = some x ∧ ys[i]? = some y,
   fun i H v H' => ∃ x y t, (∀ xs, SqB K H t1 a xs → xs[i]? = some x) ∧ (∀ ys, SqB K H t2 b ys → ys[i]? = some y) ∧ v = .ref t ∧ H t = none ∧ H' = upd H t (.tup [x, y]),
   fun i H => ∃ xs, SqB K H t1 a xs ∧ xs.length = i⟩
theorem turn_zip {P : Program} {w : World} {K : PySem.W.Frag} {elts : List Expr} {x1 : Nat} {pos : Pos} (t1 t2 : Bool) (l1 l2 z TI TO i1 i2 : Addr) (ap : ZipB z TI TO i1 i2 l1 l2) :
    Turn P w K (.Tuple elts x1 pos) (Itz K t1 t2 l1 l2) [z, TI, TO, i1, i2] z (fun i h => IsZip h z TI TO .none ∧ IsPair h TI (.ref i1) (.ref i2) ∧ (∃ a b, IsPair h TO a b) ∧ Itx h t1 i1 l1 i ∧ Itx h t2 i2 l2 i) where
  mem := by simp
  obj := fun i h st b hb => by
    obtain ⟨q1, q2, ⟨a, c, q3⟩, q4, q5⟩ := st
    simp only [List.mem_cons, List.not_mem_nil, or_false] at hb
    rcases hb with rfl | rfl | rfl | rfl | rfl
    · exact ⟨_, q1, fun v z => by cases z⟩
    · exact ⟨_, q2, fun v z => by cases z⟩
    · exact ⟨_, q3, fun v z => by cases z⟩
    · cases t1 with
      | true => obtain ⟨o, e, _, d⟩ := (show h.IsTupleIter _ _ _ from q4); exact ⟨o, e, fun v z => by rw [d] at z; cases z⟩
      | false => obtain ⟨o, e, _, d⟩ := (show h.IsListIter _ _ _ from q4); exact ⟨o, e, fun v z => by rw [d] at z; cases z⟩
    · cases t2 with
      | true => obtain ⟨o, e, _, d⟩ := (show h.IsTupleIter _ _ _ from q5); exact ⟨o, e, fun v z => by rw [d] at z; cases z⟩
      | false => obtain ⟨o, e, _, d⟩ := (show h.IsListIter _ _ _ from q5); exact ⟨o, e, fun v z => by rw [d] at z; cases z⟩
  keep := fun i h h' st k => by
    obtain ⟨q1, q2, ⟨a, c, q3⟩, q4, q5⟩ := st
    exact ⟨k z (by simp) _ q1, k TI (by simp) _ q2, ⟨a, c, k TO (by simp) _ q3⟩, q4.keep fun o q => k i1 (by simp) o q, q5.keep fun o q => k i2 (by simp) o q⟩
  item := by
    intro X hP hw hK hc i pins s σ H E I hf st hg
    subst hP hw hK
    obtain ⟨xs, ys, x, y, hx1, hy1, hx, hy⟩ := hg
    obtain ⟨its1, rv1, p1⟩ := I.sqx hx1
    obtain ⟨its2, rv2, p2⟩ := I.sqx hy1
    obtain ⟨u, hu, ru⟩ := rv1.get hx
    obtain ⟨v, hv, rv⟩ := rv2.get hy
    obtain ⟨q1, q2, ⟨a, c, q3⟩, q4, q5⟩ := st
    have hh := I.ok.hd hc
    have hul : i < its1.toArray.size := by rw [List.size_toArray]; exact (List.getElem?_eq_some_iff.mp hu).1
    have hvl : i < its2.toArray.size := by rw [List.size_toArray]; exact (List.getElem?_eq_some_iff.mp hv).1
    refine pyNext_zip ⟨_, q1, rfl⟩ (zip_item (draws_sqx (A := X.A.in1) hh t1 i1 l1 ap.l1i its1.toArray) (draws_sqx (A := X.A.in1) hh t2 i2 l2 ap.l2j its2.toArray) ap.a q1 q2 q3 ⟨q4, p1⟩ ⟨q5, p2⟩ hul hvl fun x' y' h' tk px py hz' hTO' s1' s2' hnew hsz kk => ?_)
    have ex : x' = u := by
      have : its1.toArray[i]? = some x' := px
      rw [List.getElem?_toArray, hu] at this
      exact (Option.some.inj this).symm
    have ey : y' = v := by
      have : its2.toArray[i]? = some y' := py
      rw [List.getElem?_toArray, hv] at this
      exact (Option.some.inj this).symm
    subst ex ey
    have lt : ∀ b o, s.heap.get? b = some o → b ≠ s.heap.objs.size := fun b o q => Nat.ne_of_lt (Heap.lt_size q)
    have hn : H s.heap.objs.size = none := I.hok.fresh (Nat.le_refl _)
    have lts : ∀ b ∈ [z, TI, TO, i1, i2], b ≠ s.heap.objs.size := fun b hb => by
      simp only [List.mem_cons, List.not_mem_nil, or_false] at hb
      rcases hb with rfl | rfl | rfl | rfl | rfl
      · exact lt _ _ q1
      · exact lt _ _ q2
      · exact lt _ _ q3
      · obtain ⟨vs, n, e | ⟨o, e, _⟩⟩ := q4.get
        · exact lt _ _ e
        · exact lt _ _ e
      · obtain ⟨vs, n, e | ⟨o, e, _⟩⟩ := q5.get
        · exact lt _ _ e
        · exact lt _ _ e
    have I0 : Inv X pins σ (upd H s.heap.objs.size (.tup [x, y])) { s with heap := s.heap.push { cls := .type "tuple", data := .seq #[x', y'] }, toks := s.toks } :=
      I.laid (t' := s.toks) (fun b o q => Heap.get?_push_of_some _ q) (Nat.le_refl _) ⟨by show 2 ≤ sizeLine; decide, [x', y'], .cons ru (.cons rv .nil), ⟨_, Heap.get?_push_size _ rfl, rfl, _, rfl⟩⟩
    have hf' : ∀ b ∈ [z, TI, TO, i1, i2], FpOk X pins (upd H s.heap.objs.size (.tup [x, y])) b := fun b hb => by
      have q := hf b hb
      exact ⟨by rw [upd_ne (lts b hb)]; exact q.1, q.2⟩
    have I1 : Inv X pins σ (upd H s.heap.objs.size (.tup [x, y])) { s with heap := h', toks := tk } :=
      Inv.turnedL (s := { s with heap := s.heap.push { cls := .type "tuple", data := .seq #[x', y'] }, toks := s.toks }) I0 (fp := [z, TI, TO, i1, i2]) (t' := tk) (fun b o hb q => by
        simp only [List.mem_cons, List.not_mem_nil, or_false, not_or] at hb
        rcases get?_push_cases q rfl with q | ⟨rfl, rfl⟩
        · exact kk b o hb.1 hb.2.2.1 hb.2.2.2.1 hb.2.2.2.2 q
        · exact hnew) hf'
    refine ⟨_, rfl, wpAny_letOwnedTupleGo_zip (s := { s with heap := h', toks := tk }) hz' fun h2 hz2 sb => ?_⟩
    have I2 : Inv X pins σ (upd H s.heap.objs.size (.tup [x, y])) { s with heap := h2, toks := tk } :=
      Inv.turnedL (s := { s with heap := h', toks := tk }) I1 (fp := [z, TI, TO, i1, i2]) (t' := tk) (fun b o hb q => (sb.2 b (fun e => hb (by simp [e]))).trans q) hf'
    have hTI' : IsPair h' TI (.ref i1) (.ref i2) := kk TI _ ap.TIz ap.TITO ap.TIi1 ap.TIi2 q2
    refine ⟨.ref s.heap.objs.size, _, I2, rfl, ⟨x, y, _, fun xs' h => by rw [I.sqb_inj h hx1]; exact hx, fun ys' h => by rw [I.sqb_inj h hy1]; exact hy, rfl, hn, rfl⟩, ⟨hz2, (sb.2 TI ap.TIz).trans hTI', ⟨_, _, (sb.2 TO ap.TOz).trans hTO'⟩, s1'.1.keep fun o q => (sb.2 i1 ap.i1z).trans q, s2'.1.keep fun o q => (sb.2 i2 ap.i2z).trans q⟩, fun b hb => (hf' b hb).1⟩
  done := by
    intro X hP hw hK hc i pins s σ H E I hf st hg
    subst hP hw hK
    obtain ⟨xs, hx1, hxl⟩ := hg
    obtain ⟨its1, rv1, p1⟩ := I.sqx hx1
    obtain ⟨q1, q2, ⟨a, c, q3⟩, q4, q5⟩ := st
    have hh := I.ok.hd hc
    have hl := rv1.length
    have en : i = its1.toArray.size := by rw [List.size_toArray]; omega
    subst en
    refine pyNext_zip ⟨_, q1, rfl⟩ (zip_end (draws_sqx (A := X.A.in1) hh t1 i1 l1 ap.l1i its1.toArray) ap.i1z (by simp [Ne.symm ap.i1z, Ne.symm ap.l1z]) q1 q2 q3 ⟨q4, p1⟩ fun h' e kk ho => ?_)
    obtain ⟨o, ho, hcl⟩ := ho
    exact ⟨⟨e, o, rfl, ho, hcl⟩, rfl, I.turnedL (fp := [z, TI, TO, i1, i2]) (t' := s.toks) (fun b o hb q => kk b o (fun z => hb (by simp [z])) (fun z => hb (by simp [z])) q) hf⟩
  self := fun _ _ _ _ _ st h => by
    obtain ⟨q1, _⟩ := st
    exact wpAny_pyIter_zip q1 h
theorem call_zipx {prog : Program} {w : World} {A : Around} {E : Value → Shared → Prop} {s : Shared} {l1 l2 : Addr} {t1 t2 : Bool} {xs ys : Array Value} {Q : Value → Shared → Prop} (h1 : Sqx s.heap t1 l1 xs) (h2 : Sqx s.heap t2 l2 ys)
    (h : ∀ h' : Heap, IsZip h' (s.heap.objs.size + 4) (s.heap.objs.size + 2) (s.heap.objs.size + 3) .none → IsPair h' (s.heap.objs.size + 2) (.ref s.heap.objs.size) (.ref (s.heap.objs.size + 1)) → IsPair h' (s.heap.objs.size + 3) .none .none →
      Itx h' t1 s.heap.objs.size l1 0 → Itx h' t2 (s.heap.objs.size + 1) l2 0 → h'.objs.size = s.heap.objs.size + 5 → (∀ c o, s.heap.get? c = some o → h'.get? c = some o) → Q (.ref (s.heap.objs.size + 4)) { s with heap := h' }) :
    wpAny (model prog w) A (call (.type "zip") [.ref l1, .ref l2]) Q E s := by
  refine callType_new F.called_zip (by decide) (F.typeCall_zip_2 _ _) (F.newCall_zip_2 _ _) (fun obj => F.args_object_init_3 obj _ _) F.entry_zip_new (meets_zipx l1 l2 t1 t2 xs ys) ⟨h1, h2, ?_⟩
  have e1 : ∀ (h : Heap) (o : Obj), (h.push o).objs.size = h.objs.size + 1 := fun h o => by unfold Heap.push; simp
  have ps : ∀ (h : Heap) (o : Obj) (n : Nat), h.objs.size = n → o.isFreed = false → (h.push o).get? n = some o := fun h o n e f => by rw [← e]; exact Heap.get?_push_size _ f
  have fr : ∀ tp l, (itObj tp l).isFreed = false := fun tp l => rfl
  generalize ho1 : itObj t1 l1 = o1
  generalize ho2 : itObj t2 l2 = o2
  have f1 : o1.isFreed = false := by rw [← ho1]; rfl
  have f2 : o2.isFreed = false := by rw [← ho2]; rfl
  generalize hq1 : s.heap.push o1 = q1
  have z1 : q1.objs.size = s.heap.objs.size + 1 := by rw [← hq1]; exact e1 _ _
  have g1 : q1.get? s.heap.objs.size = some o1 := by rw [← hq1]; exact Heap.get?_push_size _ f1
  have k1 : ∀ c o, s.heap.get? c = some o → q1.get? c = some o := fun c o q => by rw [← hq1]; exact Heap.get?_push_of_some _ q
  generalize hq2 : q1.push o2 = q2
  have z2 : q2.objs.size = s.heap.objs.size + 2 := by rw [← hq2, e1, z1]
  have g2 : q2.get? (s.heap.objs.size + 1) = some o2 := by rw [← hq2]; exact ps _ _ _ z1 f2
  have k2 : ∀ c o, q1.get? c = some o → q2.get? c = some o := fun c o q => by rw [← hq2]; exact Heap.get?_push_of_some _ q
  generalize hq3 : q2.push { cls := Value.type "tuple", data := Data.seq #[Value.ref s.heap.objs.size, Value.ref (s.heap.objs.size + 1)] } = q3
  have z3 : q3.objs.size = s.heap.objs.size + 3 := by rw [← hq3, e1, z2]
  have g3 : q3.get? (s.heap.objs.size + 2) = some { cls := Value.type "tuple", data := Data.seq #[Value.ref s.heap.objs.size, Value.ref (s.heap.objs.size + 1)] } := by rw [← hq3]; exact ps _ _ _ z2 rfl
  have k3 : ∀ c o, q2.get? c = some o → q3.get? c = some o := fun c o q => by rw [← hq3]; exact Heap.get?_push_of_some _ q
  generalize hq4 : q3.push { cls := Value.type "tuple", data := Data.seq #[Value.none, Value.none] } = q4
  have z4 : q4.objs.size = s.heap.objs.size + 4 := by rw [← hq4, e1, z3]
  have g4 : q4.get? (s.heap.objs.size + 3) = some { cls := Value.type "tuple", data := Data.seq #[Value.none, Value.none] } := by rw [← hq4]; exact ps _ _ _ z3 rfl
  have k4 : ∀ c o, q3.get? c = some o → q4.get? c = some o := fun c o q => by rw [← hq4]; exact Heap.get?_push_of_some _ q
  generalize hq5 : q4.push { cls := Value.type "zip", data := Data.fields #[Value.none, Value.bool false, Value.bool false, Value.ref (s.heap.objs.size + 2), Value.ref (s.heap.objs.size + 3)] } = q5
  have z5 : q5.objs.size = s.heap.objs.size + 5 := by rw [← hq5, e1, z4]
  have g5 : q5.get? (s.heap.objs.size + 4) = some { cls := Value.type "zip", data := Data.fields #[Value.none, Value.bool false, Value.bool false, Value.ref (s.heap.objs.size + 2), Value.ref (s.heap.objs.size + 3)] } := by rw [← hq5]; exact ps _ _ _ z4 rfl
  have k5 : ∀ c o, q4.get? c = some o → q5.get? c = some o := fun c o q => by rw [← hq5]; exact Heap.get?_push_of_some _ q
  exact ⟨⟨_, g5, rfl⟩, h q5 g5 (k5 _ _ (k4 _ _ g3)) (k5 _ _ g4) (Itx.new (by rw [ho1]; exact k5 _ _ (k4 _ _ (k3 _ _ (k2 _ _ g1))))) (Itx.new (by rw [ho2]; exact k5 _ _ (k4 _ _ (k3 _ _ g2)))) z5 fun c o q => k5 _ _ (k4 _ _ (k3 _ _ (k2 _ _ (k1 _ _ q))))⟩
theorem zipB_new {n l1 l2 : Nat} (h1 : l1 < n) (h2 : l2 < n) : ZipB (n + 4) (n + 2) (n + 3) n (n + 1) l1 l2 := by
  have d : ∀ a b : Nat, a < b → a ≠ b := fun a b h => Nat.ne_of_lt h
  exact ⟨d _ _ (by omega), d _ _ (by omega), d _ _ (by omega), d _ _ (by omega), d _ _ (by omega), (d _ _ (by omega)).symm, (d _ _ (by omega)).symm, (d _ _ (by omega)).symm, (d _ _ (by omega)).symm, d _ _ (by omega),
    d _ _ (by omega), d _ _ (by omega), d _ _ (by omega), d _ _ (by omega), d _ _ (by omega), d _ _ (by omega), d _ _ (by omega), d _ _ (by omega)⟩
def iZip (K : PySem.W.Frag) (ta : TA) : TI := fun σ H R => ta σ H fun vs H1 => ∃ (t1 t2 : Bool) (a b : Addr), vs = [.ref a, .ref b] ∧ (∃ xs, SqB K H1 t1 a xs) ∧ (∃ ys, SqB K H1 t2 b ys) ∧ R (Itz K t1 t2 a b) H1
section
variable {X : Cx}
theorem pi_zip {elts : List Expr} {x1 : Nat} {tpos : Pos} {a b : Expr} {ta : TA} {p pos : Pos} (hg : Gl X "zip") (hm : X.mg "zip" = none) (ha : PA X [a, b] ta) (hs : starEach [a, b] X.env = [(false, eval a X.env), (false, eval b X.env)] := by rfl) (hs2 : starEach [b] X.env = [(false, eval b X.env)] := by rfl) :
    PI X (.Tuple elts x1 tpos) (.Call (.Name "zip" p) [a, b] [] pos) (iZip X.K ta) := by
  intro pins s σ H R I h
  refine Call_ (ld_blt I hg hm PyProof.Rows.boot_zip (PyProof.Rows.callWith_type1 (thn (ha pos pins s σ H _ I h) fun us s1 ⟨vs, H1, I1, r1, q1⟩ => ?_) (by rw [hs, hs2]) (by rw [hs2]; rfl)))
  obtain ⟨t1, t2, l1, l2, e, ⟨xs, hx⟩, ⟨ys, hy⟩, q⟩ := q1
  subst e
  obtain ⟨u, v, rfl, ru, rv⟩ := vals2 r1
  cases ru
  cases rv
  obtain ⟨its1, rv1, p1⟩ := I1.sqx hx
  obtain ⟨its2, rv2, p2⟩ := I1.sqx hy
  refine call_zipx p1 p2 fun h' hz hTI hTO s1' s2' hsz kk => ?_
  refine wpAny_pyIter_zip (s := { s1 with heap := h' }) hz ?_
  have I2 : Inv X pins σ H1 { s1 with heap := h' } := I1.kept (t' := s1.toks) kk
  refine ⟨_, [s1.heap.objs.size + 4, s1.heap.objs.size + 2, s1.heap.objs.size + 3, s1.heap.objs.size, s1.heap.objs.size + 1], _, _, H1, rfl, I2, turn_zip t1 t2 l1 l2 _ _ _ _ _ (zipB_new p1.lt p2.lt), ⟨hz, hTI, ⟨_, _, hTO⟩, s1', s2'⟩, fun b hb => ?_, q⟩
  have hle : s1.heap.objs.size ≤ b := by
    simp only [List.mem_cons, List.not_mem_nil, or_false] at hb
    rcases hb with rfl | rfl | rfl | rfl | rfl <;> omega
  exact I1.fpOk hle (I1.hok.fresh hle)
end
end L2

namespace L2
open PySem PySem.Spec PyProof.Rows
theorem entry_zip_ga : entryFor table "zip.__getattribute__" = some Builtin.«object.__getattribute__» :=
  entryFor_alias (id' := "object.__getattribute__") (by kernel_rfl) (by decide +kernel) (by decide +kernel) (by kernel_rfl)
theorem keys_zip {prog : Program} {w : World} {A : Around} {E : Value → Shared → Prop} {s : Shared} {z : Addr} {vs : Array Value} {Q : Option Value → Shared → Prop} (hh : A.handled = none) (hz : s.heap.get? z = some { cls := .type "zip", data := .fields vs })
    (hQ : ∀ (h' : Heap) (tk : Nat), (∀ b o, s.heap.get? b = some o → h'.get? b = some o) → Q none { s with heap := h', toks := tk }) : wpAny (model prog w) A (getAttr? (.ref z) (Str.ofString "keys")) Q E s := by
  unfold getAttr?
  refine wpAny_bind (wpAny_mkText ?_)
  unfold getAttrBy?
  have ht : ∀ tk, Shared.TypeIs { s with toks := tk } (.ref z) "zip" := fun tk => ⟨_, hz, rfl⟩
  refine wpAny_bind (wpAny_attempt ?_)
  unfold getAttrBy
  refine wpAny_holding (wpAny_bind (wpAny_typeOf (ht _) ?_))
  refine wpAny_bind (wpAny_of_eq F.slot_zip_getattribute.lookup ?_)
  refine wpAny_ite_false rfl ?_
  unfold getAttrByItsOwn hookBefore
  refine wpAny_bind (wpAny_ite_false rfl (wpAny_pure ?_))
  refine wpAny_bind (wpAny_attempt (wpAny_holding ?_))
  unfold callGetattribute
  refine wpAny_ite_false rfl ?_
  unfold boundAndCalled
  refine wpAny_bind (wpAny_of_eq (F.slot_zip_getattribute.bind (.ref z)) ?_)
  dsimp only [List.cons_append, List.nil_append]
  have hz1 : ({ s with toks := s.toks + 1 } : Shared).heap.get? z = some { cls := .type "zip", data := .fields vs } := hz
  refine wpAny_call_entry F.slot_zip_getattribute (ht _) entry_zip_ga ?_ (F.args_zip_getattribute_2 _ _)
  unfold Builtin.«object.__getattribute__»
  refine wpAny_bind (wpAny_pure ?_)
  refine wpAny_bind (wpAny_pure ?_)
  refine wpAny_bind (wpAny_typeOf (ht _) ?_)
  unfold Builtin.ObjectAttr.find
  refine wpAny_bind (wpAny_bind (wpAny_of_eq (show typeLookup (Value.type "zip") (Str.ofString "keys") = pure none from rfl) ?_))
  refine wpAny_bind (wpAny_pure ?_)
  refine wpAny_bind (wpAny_pure ?_)
  unfold Builtin.ObjectAttr.ownThenClass Builtin.ObjectAttr.inOwnDict Builtin.ObjectAttr.ownDict loadHead
  refine wpAny_bind (wpAny_bind (wpAny_bind (wpAny_loadPart' hz1 ?_)))
  dsimp only
  unfold instanceDict
  refine wpAny_bind (wpAny_loadPart' hz1 ?_)
  refine wpAny_ite_true rfl (wpAny_pure ?_)
  refine wpAny_pure ?_
  dsimp only
  unfold Builtin.ObjectAttr.copiedAttributeGuard
  refine wpAny_bind (wpAny_ite_false (by decide +kernel) (wpAny_pure ?_))
  refine wpAny_bind (wpAny_rule (wpAny_pure ?_))
  dsimp only
  refine wpAny_ite_false rfl (wpAny_ite_false rfl ?_)
  unfold Builtin.ObjectAttr.noSuchAttribute typeNameOfCut shownTypeOf
  refine wpAny_bind (wpAny_bind (wpAny_bind (wpAny_typeOf (ht _) ?_)))
  refine wpAny_ite_false rfl (wpAny_pure ?_)
  refine wpAny_of_eq (show typeNameCut 100 (Value.type "zip") = pure "zip" from rfl) ?_
  refine wpAny_raiseAttrError (show A.in1.handled = none from hh) (fun h' tk e ne => ?_) (attrMsg_fits (by decide) (by decide))
  obtain ⟨t, u, he⟩ := ne.there
  have hte : Shared.TypeIs { s with heap := h', toks := tk } (.ref e) "AttributeError" := ⟨_, he, rfl⟩
  unfold getattributeRaised
  refine wpAny_bind (wpAny_isInstance hte sub_AttributeError ?_)
  refine wpAny_ite_true rfl ?_
  unfold hookBehind
  refine wpAny_bind (wpAny_ite_false rfl (wpAny_of_eq F.plainAttrs_zip.noGetattr ?_))
  unfold hookOrError attributeErrorLeaves
  refine wpAny_ite_true rfl (wpAny_bind (wpAny_throw ?_))
  refine wpAny_bind (wpAny_isInstance hte sub_AttributeError ?_)
  exact wpAny_ite_true rfl (wpAny_pure (hQ h' tk ne.keeps))
theorem wp_alive {M : Model} {A : Around} {E : Value → Shared → Prop} {s : Shared} {a : Addr} {Q : Option Obj → Shared → Prop} (h : Q (s.heap.get? a) s) : wpAny M A (loadIfAlive a) Q E s := fun Γ p hA => by
  show Sem.wp M Γ (Sem.loadIfAlive a Sem.pure) _ _ p s
  rw [Sem.wp_loadIfAlive]
  exact wpAny_pure h Γ p hA
/-- a zip whose last tuple is still held -/
def ZipHeld (h : Heap) (z TI TO T : Addr) : Prop := ∃ (f1 : Bool) (o : Obj), h.get? z = some { cls := .type "zip", data := .fields #[rawInt T, .bool f1, .bool false, .ref TI, .ref TO] } ∧ h.get? T = some o
theorem held_not_free {prog : Program} {w : World} {A : Around} {E : Value → Shared → Prop} {s : Shared} {z TI TO T : Addr} {Q : Bool → Shared → Prop} (hz : ZipHeld s.heap z TI TO T) (hne : T ≠ z) (hQ : ∀ h' : Heap, ZipHeld h' z TI TO T → Heap.SameBut z s.heap h' → Q false { s with heap := h' }) :
    wpAny (model prog w) A (Builtin.SmallTypes.ownedTupleIsFree (.ref z)) Q E s := by
  obtain ⟨f1, o, hz, hT⟩ := hz
  unfold Builtin.SmallTypes.ownedTupleIsFree
  refine wpAny_bind (wpAny_field hz rfl rfl ?_)
  refine wpAny_bind (wp_alive ?_)
  rw [show s.heap.get? ((T : Int)).toNat = some o from hT]
  refine wpAny_ite_false rfl ?_
  refine wpAny_bind (wpAny_field hz rfl rfl ?_)
  cases f1 with
  | false =>
    refine wpAny_ite_true rfl (wpAny_bind (wpAny_setField_rec hz (by simp) fun h' hz' sb => wpAny_pure (hQ h' ⟨true, o, hz', (sb.2 T hne).trans hT⟩ sb)))
  | true =>
    refine wpAny_ite_false rfl (wpAny_pure (hQ s.heap ⟨true, o, hz, hT⟩ ⟨rfl, fun _ _ => rfl⟩))
theorem zip_item2 {prog : Program} {w : World} {A : Around} {E : Value → Shared → Prop} {s : Shared} {z TI TO i1 i2 T : Addr} {fp1 fp2 : List Addr} {n1 n2 k1 k2 : Nat} {P1 P2 : Nat → Value → Prop} {St1 St2 : Nat → Heap → Prop} {Q : Value → Shared → Prop}
    (D1 : Draws prog w A i1 fp1 n1 P1 St1) (D2 : Draws prog w A i2 fp2 n2 P2 St2) (ap : ZipA z TI TO i1 i2 fp1 fp2) (hz : ZipHeld s.heap z TI TO T) (hne : T ≠ z) (hn1 : T ≠ i1) (hn2 : T ≠ i2) (hTI : IsPair s.heap TI (.ref i1) (.ref i2))
    (s1 : St1 k1 s.heap) (s2 : St2 k2 s.heap) (hk1 : k1 < n1) (hk2 : k2 < n2)
    (hQ : ∀ (x y : Value) (h' : Heap) (tk : Nat), P1 k1 x → P2 k2 y → ZipHeld h' z TI TO T → St1 (k1 + 1) h' → St2 (k2 + 1) h' → IsPair h' s.heap.objs.size x y → h'.objs.size = s.heap.objs.size + 1 →
      (∀ c o, c ≠ z → c ≠ i1 → c ≠ i2 → s.heap.get? c = some o → h'.get? c = some o) → Q (.ref s.heap.objs.size) { s with heap := h', toks := tk }) :
    wpAny (model prog w) A (Builtin.«zip.__next__» { pos := [.ref z] }) (fun fin s' => ∃ v, fin = Fin.done (Flow.ret v) ∧ Q v s') E s := by
  have hz0 := hz
  obtain ⟨f1, o, hzg, hT⟩ := hz0
  unfold Builtin.«zip.__next__»
  refine wpAny_bind (wpAny_pure ?_)
  refine wpAny_bind (wpAny_field hzg rfl rfl ?_)
  refine wpAny_bind (wpAny_field hzg rfl rfl ?_)
  refine wpAny_bind (wpAny_seqItems hTI rfl ?_)
  refine wpAny_ite_false rfl ?_
  refine wpAny_bind (held_not_free hz hne fun h1 hz1 sb1 => ?_)
  refine wpAny_ite_false rfl ?_
  dsimp only
  rw [← Array.forIn_toList]
  rw [show #[Value.ref i1, Value.ref i2].toList = [Value.ref i1, Value.ref i2] from rfl, List.forIn_cons, bind_assoc]
  have s11 : St1 k1 h1 := D1.frame _ _ _ s1 fun c hc o q => (sb1.2 c (fun e => ap.z1 (e ▸ hc))).trans q
  have s21 : St2 k2 h1 := D2.frame _ _ _ s2 fun c hc o q => (sb1.2 c (fun e => ap.z2 (e ▸ hc))).trans q
  refine wpAny_bind (wpAny_bind (wpAny_holding ?_))
  refine (show wpAny (model prog w) A (if (Value.bool false == Value.bool true) = true then Builtin.SmallTypes.nextOrEnd (.ref i1) else do let x ← Builtin.SmallTypes.nextOf (.ref i1); pure (some x)) _ _ _ from wpAny_ite_false rfl (wpAny_bind (D1.item k1 _ _ _ hk1 s11 fun x h2 tk2 px s12 sb2 => wpAny_pure (wpAny_pure ?_))))
  dsimp only
  have s22 : St2 k2 h2 := D2.frame _ _ _ s21 fun c hc o q => (sb2.2 c (fun e => ap.i12' (e ▸ hc))).trans q
  rw [List.forIn_cons, bind_assoc]
  refine wpAny_bind (wpAny_bind (wpAny_holding ?_))
  refine (show wpAny (model prog w) A (if (Value.bool false == Value.bool true) = true then Builtin.SmallTypes.nextOrEnd (.ref i2) else do let x ← Builtin.SmallTypes.nextOf (.ref i2); pure (some x)) _ _ _ from wpAny_ite_false rfl (wpAny_bind (D2.item k2 _ _ _ hk2 s22 fun y h3 tk3 py s23 sb3 => wpAny_pure (wpAny_pure ?_))))
  dsimp only
  rw [List.forIn_nil]
  refine wpAny_bind (wpAny_pure ?_)
  dsimp only
  refine wpAny_bind (wpAny_newTuple ?_ (by show 2 ≤ sizeLine; decide))
  refine wpAny_pure ⟨_, rfl, ?_⟩
  have e3 : h3.objs.size = s.heap.objs.size := by rw [sb3.1, sb2.1, sb1.1]
  have s13 : St1 (k1 + 1) h3 := D1.frame _ _ _ s12 fun c hc o q => (sb3.2 c (fun e => ap.i21 (e ▸ hc))).trans q
  have k3 : ∀ c o, c ≠ z → c ≠ i1 → c ≠ i2 → s.heap.get? c = some o → h3.get? c = some o := fun c o c1 c2 c3 q => (sb3.2 c c3).trans ((sb2.2 c c2).trans ((sb1.2 c c1).trans q))
  obtain ⟨g1, o1, hz1g, hT1⟩ := hz1
  have kz : h3.get? z = some _ := (sb3.2 z (Ne.symm ap.i2z)).trans ((sb2.2 z (Ne.symm ap.i1z)).trans hz1g)
  have kT : h3.get? T = some o1 := (sb3.2 T hn2).trans ((sb2.2 T hn1).trans hT1)
  dsimp only
  rw [e3]
  refine hQ x y _ tk3 px py ⟨g1, o1, Heap.get?_push_of_some _ kz, Heap.get?_push_of_some _ kT⟩ (D1.frame _ _ _ s13 fun c _ o q => Heap.get?_push_of_some _ q) (D2.frame _ _ _ s23 fun c _ o q => Heap.get?_push_of_some _ q) ?_ ?_ (fun c o c1 c2 c3 q => Heap.get?_push_of_some _ (k3 c o c1 c2 c3 q))
  · rw [← e3]; exact Heap.get?_push_size _ rfl
  · show (h3.push _).objs.size = _
    unfold Heap.push
    simp [e3]
theorem zip_end2 {prog : Program} {w : World} {A : Around} {E : Value → Shared → Prop} {s : Shared} {z TI TO i1 i2 T : Addr} {fp1 : List Addr} {n1 : Nat} {P1 : Nat → Value → Prop} {St1 : Nat → Heap → Prop} {Q : PySem.Fin → Shared → Prop}
    (D1 : Draws prog w A i1 fp1 n1 P1 St1) (z1 : z ∉ fp1) (hz : ZipHeld s.heap z TI TO T) (hne : T ≠ z) (hTI : IsPair s.heap TI (.ref i1) (.ref i2)) (s1 : St1 n1 s.heap)
    (hE : ∀ (h' : Heap) (e : Addr), (∀ c o, c ≠ z → c ≠ i1 → s.heap.get? c = some o → h'.get? c = some o) → (∃ o, h'.get? e = some o ∧ o.cls = .type "StopIteration") → E (.ref e) { s with heap := h' }) :
    wpAny (model prog w) A (Builtin.«zip.__next__» { pos := [.ref z] }) Q E s := by
  have hz0 := hz
  obtain ⟨f1, o, hzg, hT⟩ := hz0
  unfold Builtin.«zip.__next__»
  refine wpAny_bind (wpAny_pure ?_)
  refine wpAny_bind (wpAny_field hzg rfl rfl ?_)
  refine wpAny_bind (wpAny_field hzg rfl rfl ?_)
  refine wpAny_bind (wpAny_seqItems hTI rfl ?_)
  refine wpAny_ite_false rfl ?_
  refine wpAny_bind (held_not_free hz hne fun h1 hz1 sb1 => ?_)
  refine wpAny_ite_false rfl ?_
  dsimp only
  rw [← Array.forIn_toList]
  rw [show #[Value.ref i1, Value.ref i2].toList = [Value.ref i1, Value.ref i2] from rfl, List.forIn_cons, bind_assoc]
  have s11 : St1 n1 h1 := D1.frame _ _ _ s1 fun c hc o q => (sb1.2 c (fun e => z1 (e ▸ hc))).trans q
  refine wpAny_bind (wpAny_bind (wpAny_holding ?_))
  exact (show wpAny (model prog w) A (if (Value.bool false == Value.bool true) = true then Builtin.SmallTypes.nextOrEnd (.ref i1) else do let x ← Builtin.SmallTypes.nextOf (.ref i1); pure (some x)) _ _ _ from wpAny_ite_false rfl (wpAny_bind (D1.done _ _ _ s11 fun h2 e eb2 ho => hE h2 e (fun c o c1 c2 q => eb2 c o c2 ((sb1.2 c c1).trans q)) ho)))
theorem entry_dul : entryFor table "dict.update.loop" = some Builtin.«dict.update.loop» := entryFor_of_tree (by kernel_rfl)
theorem plain_dul : plainId "dict.update.loop" = true := by decide +kernel
theorem stored_new {κ : Type} [DecidableEq κ] {kvs : List (κ × Value)} {k : κ} {v : Value} (h : k ∉ kvs.map (·.1)) : stored kvs k v = kvs ++ [(k, v)] := by
  unfold stored
  rw [if_neg]
  intro z
  obtain ⟨p, hp, e⟩ := List.any_eq_true.mp z
  exact h (List.mem_map.mpr ⟨p, hp, of_decide_eq_true e⟩)
theorem dictSet_of {prog : Program} {w : World} {κ : Type} [DecidableEq κ] {knd : PySem.KeyKind prog w κ} {A : Around} {E : Value → Shared → Prop} {s : Shared} {d : Addr} {kvs : List (κ × Value)} {k : κ} {key v : Value} {Q : Unit → Shared → Prop} (hk : knd.is k key = true) (hd : Heap.DictOf knd s.heap d kvs) (hz : kvs.length ≤ sizeLine)
    (hQ : ∀ (h' : Heap) (tk : Nat), Heap.DictOf knd h' d (stored kvs k v) → Heap.SameBut d s.heap h' → Q () { s with heap := h', toks := tk }) : wpAny (model prog w) A (dictSet d key v) Q E s := by
  unfold dictSet
  exact wpAny_holding (wpAny_bind (knd.pyHash hk (wpAny_dictSetHashed_pairs (s := { s with toks := s.toks + 1 }) hk hd (fun h' dd sb => hQ h' (s.toks + 1) dd sb) hz)))
/-- how a zip stands between two turns of dict's walk -/
def ZipSt (h : Heap) (z TI TO T : Addr) : Prop := (IsZip h z TI TO .none ∧ ∃ a b, IsPair h TO a b) ∨ ZipHeld h z TI TO T
theorem dict_zip_loop {prog : Program} {w : World} {κ : Type} [DecidableEq κ] {knd : PySem.KeyKind prog w κ} {A : Around} {R : Result → Shared → Prop} {z TI TO i1 i2 d : Addr} {fp1 fp2 : List Addr} {n : Nat} {P1 P2 : Nat → Value → Prop} {St1 St2 : Nat → Heap → Prop} {tok : Tok} {ks : Nat → κ}
    (D1 : Draws prog w A.in1.in1 i1 fp1 n P1 St1) (D2 : Draws prog w A.in1.in1 i2 fp2 n P2 St2) (ap : ZipA z TI TO i1 i2 fp1 fp2) (hdz : d ≠ z) (hdTI : d ≠ TI) (hdTO : d ≠ TO) (hd1 : d ≠ i1) (hd2 : d ≠ i2) (hdf1 : d ∉ fp1) (hdf2 : d ∉ fp2)
    (hP : ∀ i x, P1 i x → knd.is (ks i) x = true) (hinj : ∀ i j, i < n → j < n → ks i = ks j → i = j) (hn : n ≤ 1000) :
    ∀ (k i : Nat) (s : Shared) (T : Addr) (kvs : List (κ × Value)) (idx : Int), n - i = k → i ≤ n → ZipSt s.heap z TI TO T → T ≠ z → T ≠ i1 → T ≠ i2 → (IsZip s.heap z TI TO .none ∨ T ≠ d) → IsPair s.heap TI (.ref i1) (.ref i2) → St1 i s.heap → St2 i s.heap → Heap.DictOf knd s.heap d kvs → kvs.map (·.1) = (List.range i).map ks →
      (∀ j, j < i → ∃ x, (kvs[j]?.map (·.2)) = some x ∧ P2 j x) →
      (∀ (h' : Heap) (tk : Nat) (kvs' : List (κ × Value)), Heap.DictOf knd h' d kvs' → kvs'.map (·.1) = (List.range n).map ks → (∀ j, j < n → ∃ x, (kvs'[j]?.map (·.2)) = some x ∧ P2 j x) → (∀ c o, c ≠ z → c ≠ TO → c ≠ i1 → c ≠ i2 → c ≠ d → s.heap.get? c = some o → h'.get? c = some o) →
        R (.ok (.ret .none)) { s with heap := h', toks := tk }) →
      codeAny (model prog w) A (Code.builtin "dict.update.loop" { pos := [.ref d, .ref z, rawInt idx, .none], kw := [] }) R s := by
  intro k
  induction k with
  | zero =>
    intro i s T kvs idx hk hi hz hT hT1 hT2 hTd hTI s1 s2 hd hkeys hvals hR
    have e : i = n := by omega
    subst e
    have ht : s.TypeIs (.ref z) "zip" := by
      rcases hz with ⟨q, _⟩ | ⟨f1, o, q, _⟩
      · exact ⟨_, q, rfl⟩
      · exact ⟨_, q, rfl⟩
    refine codeAny_builtin entry_dul ?_
    rw [Around.under_plainId plain_dul]
    unfold Builtin.«dict.update.loop»
    have key : wpAny (model prog w) A.in1 (pyNext (.ref z)) (fun r s' => r = none ∧ ∃ h', s' = { s with heap := h' } ∧ ∀ c o, c ≠ z → c ≠ i1 → s.heap.get? c = some o → h'.get? c = some o) (fun _ _ => False) s := by
      refine pyNext_zip ht ?_
      rcases hz with ⟨q, a, b, q2⟩ | q
      · refine zip_end D1 ap.i1z ap.z1 q hTI q2 s1 fun h' e kk ho => ⟨?_, rfl, h', rfl, kk⟩
        obtain ⟨o, ho, hc⟩ := ho
        exact ⟨e, o, rfl, ho, hc⟩
      · refine zip_end2 D1 ap.z1 q hT hTI s1 fun h' e kk ho => ⟨?_, rfl, h', rfl, kk⟩
        obtain ⟨o, ho, hc⟩ := ho
        exact ⟨e, o, rfl, ho, hc⟩
    refine wpAny_bind (wpAny_mono key (fun r s' q => ?_) (fun _ _ z => z.elim))
    obtain ⟨rfl, h', rfl, kk⟩ := q
    dsimp only
    refine wpAny_bind (wpAny_pure (wpAny_pure ?_))
    refine hR h' s.toks kvs ?_ hkeys hvals fun c o c1 c2 c3 c4 c5 q => kk c o c1 c3 q
    obtain ⟨o, es, ep, q1, r⟩ := hd
    exact ⟨o, es, ep, kk d o hdz hd1 q1, r⟩
  | succ k ih =>
    intro i s T kvs idx hk hi hz hT hT1 hT2 hTd hTI s1 s2 hd hkeys hvals hR
    have hin : i < n := by omega
    have ht : s.TypeIs (.ref z) "zip" := by
      rcases hz with ⟨q, _⟩ | ⟨f1, o, q, _⟩
      · exact ⟨_, q, rfl⟩
      · exact ⟨_, q, rfl⟩
    have hdlt : ∃ o, s.heap.get? d = some o := by obtain ⟨o, _, _, q, _⟩ := hd; exact ⟨o, q⟩
    have lt : ∀ b o, s.heap.get? b = some o → b ≠ s.heap.objs.size := fun b o q => Nat.ne_of_lt (Heap.lt_size q)
    refine codeAny_builtin entry_dul ?_
    rw [Around.under_plainId plain_dul]
    unfold Builtin.«dict.update.loop»
    have key : wpAny (model prog w) A.in1 (pyNext (.ref z)) (fun r s' => r = some (.ref s.heap.objs.size) ∧ ∃ h' tk T' x y, s' = { s with heap := h', toks := tk } ∧ P1 i x ∧ P2 i y ∧ ZipHeld h' z TI TO T' ∧ T' ≠ z ∧ T' ≠ i1 ∧ T' ≠ i2 ∧ T' ≠ d ∧ St1 (i + 1) h' ∧ St2 (i + 1) h' ∧ IsPair h' s.heap.objs.size x y ∧
        ∀ c o, c ≠ z → c ≠ TO → c ≠ i1 → c ≠ i2 → s.heap.get? c = some o → h'.get? c = some o) (fun _ _ => False) s := by
      refine pyNext_zip ht ?_
      rcases hz with ⟨q, a, b, q2⟩ | q
      · refine wpAny_mono (zip_item D1 D2 ap q hTI q2 s1 s2 hin hin (E := fun _ _ => False) (Q := fun v s' => v = .ref s.heap.objs.size ∧ ∃ h' tk x y, s' = { s with heap := h', toks := tk } ∧ P1 i x ∧ P2 i y ∧ IsZip h' z TI TO (rawInt s.heap.objs.size) ∧ St1 (i + 1) h' ∧ St2 (i + 1) h' ∧ IsPair h' s.heap.objs.size x y ∧ ∀ c o, c ≠ z → c ≠ TO → c ≠ i1 → c ≠ i2 → s.heap.get? c = some o → h'.get? c = some o) fun x y h' tk px py hz' hTO' s1' s2' hnew hsz kk => ⟨rfl, h', tk, x, y, rfl, px, py, hz', s1', s2', hnew, kk⟩) (fun fin s' hq => ?_) (fun _ _ z => z.elim)
        obtain ⟨v, e, rfl, h', tk, x, y, rfl, px, py, hz', s1', s2', hnew, kk⟩ := hq
        obtain ⟨o1, q1⟩ := D1.live _ _ s1
        obtain ⟨o2, q2'⟩ := D2.live _ _ s2
        obtain ⟨od, qd⟩ := hdlt
        exact ⟨_, e, rfl, h', tk, s.heap.objs.size, x, y, rfl, px, py, ⟨false, _, hz', hnew⟩, Ne.symm (lt _ _ q), Ne.symm (lt _ _ q1), Ne.symm (lt _ _ q2'), Ne.symm (lt _ _ qd), s1', s2', hnew, kk⟩
      · have hTd' : T ≠ d := by
          rcases hTd with z0 | z0
          · obtain ⟨f1, o, q1, _⟩ := q
            have z1 := q1.symm.trans z0
            have := congrArg (fun o => o.map Obj.data) z1
            simp [rawInt] at this
          · exact z0
        refine wpAny_mono (zip_item2 D1 D2 ap q hT hT1 hT2 hTI s1 s2 hin hin (E := fun _ _ => False) (Q := fun v s' => v = .ref s.heap.objs.size ∧ ∃ h' tk x y, s' = { s with heap := h', toks := tk } ∧ P1 i x ∧ P2 i y ∧ ZipHeld h' z TI TO T ∧ St1 (i + 1) h' ∧ St2 (i + 1) h' ∧ IsPair h' s.heap.objs.size x y ∧ ∀ c o, c ≠ z → c ≠ i1 → c ≠ i2 → s.heap.get? c = some o → h'.get? c = some o) fun x y h' tk px py hz' s1' s2' hnew hsz kk => ⟨rfl, h', tk, x, y, rfl, px, py, hz', s1', s2', hnew, kk⟩) (fun fin s' hq => ?_) (fun _ _ z => z.elim)
        obtain ⟨v, e, rfl, h', tk, x, y, rfl, px, py, hz', s1', s2', hnew, kk⟩ := hq
        exact ⟨_, e, rfl, h', tk, T, x, y, rfl, px, py, hz', hT, hT1, hT2, hTd', s1', s2', hnew, fun c o c1 _ c3 c4 q => kk c o c1 c3 c4 q⟩
    refine wpAny_bind (wpAny_mono key (fun r s' q => ?_) (fun _ _ z => z.elim))
    obtain ⟨rfl, h', tk, T', x, y, rfl, px, py, hz', t1, t2, t3, t4, s1', s2', hnew, kk⟩ := q
    dsimp only
    have hd' : Heap.DictOf knd h' d kvs := by
      obtain ⟨o, es, ep, q1, r⟩ := hd
      exact ⟨o, es, ep, kk d o hdz hdTO hd1 hd2 q1, r⟩
    have hlen : kvs.length = i := by have := congrArg List.length hkeys; simpa using this
    have hnk : ks i ∉ kvs.map (·.1) := fun z0 => by
      rw [hkeys] at z0
      obtain ⟨j, hj, e⟩ := List.mem_map.mp z0
      have := List.mem_range.mp hj
      have := hinj j i (by omega) hin e
      omega
    refine wpAny_bind (wpAny_holding (wpAny_bind (wpAny_tryCatch ?_)))
    unfold Builtin.Dict.pairItems
    refine wpAny_bind (wpAny_typeOf (T := "tuple") ⟨_, hnew, rfl⟩ ?_)
    refine wpAny_ite_true rfl (wpAny_bind (wpAny_seqItems hnew rfl (wpAny_pure ?_)))
    refine wpAny_holding (dictSet_of (s := { s with heap := h', toks := tk }) (hP i x px) hd' (Nat.le_trans (show kvs.length ≤ 1000 by omega) (by decide)) fun h2 tk2 dd sb => ?_)
    rw [stored_new hnk] at dd
    refine wpAny_pure ⟨plainId_quiet plain_dul _, ?_⟩
    have hTI2 : IsPair h2 TI (.ref i1) (.ref i2) := (sb.2 TI (Ne.symm hdTI)).trans (kk TI _ ap.TIz ap.TITO ap.TIi1 ap.TIi2 hTI)
    obtain ⟨f1, oT, q1, q2⟩ := hz'
    refine ih (i + 1) { s with heap := h2, toks := tk2 } T' (kvs ++ [(ks i, y)]) (idx + 1) (by omega) (by omega) (.inr ⟨f1, oT, (sb.2 z (Ne.symm hdz)).trans q1, (sb.2 T' t4).trans q2⟩) t1 t2 t3 (.inr t4) hTI2 (D1.frame _ _ _ s1' fun c hc o q => (sb.2 c (fun e => hdf1 (e ▸ hc))).trans q) (D2.frame _ _ _ s2' fun c hc o q => (sb.2 c (fun e => hdf2 (e ▸ hc))).trans q) dd ?_ (fun j hj => ?_) fun h3 tk3 kvs' a1 a2 a3 a4 => ?_
    · rw [List.map_append, hkeys, List.range_succ, List.map_append]
      rfl
    · rcases Nat.lt_succ_iff_lt_or_eq.mp hj with z0 | z0
      · obtain ⟨v, hv, pv⟩ := hvals j z0
        refine ⟨v, ?_, pv⟩
        rw [List.getElem?_append_left (by omega)]
        exact hv
      · subst z0
        refine ⟨y, ?_, py⟩
        rw [List.getElem?_append_right (by omega), hlen, Nat.sub_self]
        rfl
    · exact hR h3 tk3 kvs' a1 a2 a3 fun c o c1 c2 c3 c4 c5 q => a4 c o c1 c2 c3 c4 c5 ((sb.2 c c5).trans (kk c o c1 c2 c3 c4 q))
theorem call_dict_zip {prog : Program} {w : World} {κ : Type} [DecidableEq κ] {knd : PySem.KeyKind prog w κ} {A : Around} {E : Value → Shared → Prop} {s : Shared} {z TI TO i1 i2 l1 l2 : Addr} {t1 t2 : Bool} {xs ys : Array Value} {ks : Nat → κ} {Q : Value → Shared → Prop} (hh : A.handled = none)
    (ap : ZipB z TI TO i1 i2 l1 l2) (hz : IsZip s.heap z TI TO .none) (hTI : IsPair s.heap TI (.ref i1) (.ref i2)) (hTO : IsPair s.heap TO .none .none) (s1 : Itx s.heap t1 i1 l1 0) (s2 : Itx s.heap t2 i2 l2 0) (h1 : Sqx s.heap t1 l1 xs) (h2 : Sqx s.heap t2 l2 ys) (hsz : xs.size = ys.size) (hn : xs.size ≤ 1000)
    (hP : ∀ i x, xs[i]? = some x → knd.is (ks i) x = true) (hinj : ∀ i j, i < xs.size → j < xs.size → ks i = ks j → i = j)
    (hQ : ∀ (h' : Heap) (tk : Nat) (kvs : List (κ × Value)), Heap.DictOf knd h' s.heap.objs.size kvs → kvs.map (·.1) = (List.range xs.size).map ks → (∀ j, j < xs.size → (kvs[j]?.map (·.2)) = ys[j]?) → (∀ c o, c ≠ z → c ≠ TO → c ≠ i1 → c ≠ i2 → s.heap.get? c = some o → h'.get? c = some o) → Q (.ref s.heap.objs.size) { s with heap := h', toks := tk }) :
    wpAny (model prog w) A (call (.type "dict") [.ref z]) Q E s := by
  refine callType_codes F.kt_called_dict (F.kt_typeCall_dict_1 _) F.entry_dict_init (kt_code_dict_new (.ref z) (Q₁ := fun v s1 => v = .ref s.heap.objs.size ∧ s1 = _) ⟨rfl, rfl⟩) fun obj s₁ a => ?_
  obtain ⟨rfl, rfl⟩ := a
  have hnew : Heap.DictOf knd (s.heap.push { cls := Value.type "dict", data := Data.dict #[] }) s.heap.objs.size [] := Heap.DictOf.new s.heap
  have lt : ∀ b o, s.heap.get? b = some o → b ≠ s.heap.objs.size := fun b o q => Nat.ne_of_lt (Heap.lt_size q)
  have up : ∀ b o, s.heap.get? b = some o → (s.heap.push { cls := Value.type "dict", data := Data.dict #[] }).get? b = some o := fun b o q => Heap.get?_push_of_some _ q
  have hz' := up _ _ hz
  refine ⟨Heap.DictOf.typeIs hnew, F.args_dict_init_2 _ _, ?_⟩
  unfold Builtin.«dict.__init__» Builtin.Dict.selfAndRest
  refine wpAny_bind (wpAny_bind (wpAny_notOrdered_dict (Heap.DictOf.typeIs hnew) ?_))
  refine wpAny_bind (wpAny_pure (wpAny_pure ?_))
  unfold Builtin.Dict.updateCommon Builtin.Dict.updateFrom
  refine wpAny_bind (wpAny_typeOf (T := "zip") ⟨_, hz', rfl⟩ ?_)
  refine wpAny_ite_true rfl ?_
  refine wpAny_bind (keys_zip (A := A.in1.in1) hh hz' fun h1' tk1 kk1 => ?_)
  refine wpAny_ite_true rfl (wpAny_bind (wpAny_rule ?_))
  refine wpAny_bind (wpAny_pyIter_zip (kk1 _ _ hz') ?_)
  refine wpAny_pure ⟨plainId_quiet plain_dul _, ?_⟩
  have up1 : ∀ b o, s.heap.get? b = some o → h1'.get? b = some o := fun b o q => kk1 b o (up b o q)
  have g1 : ∃ o, s.heap.get? i1 = some o := by obtain ⟨vs, n, e | ⟨o, e, _⟩⟩ := s1.get <;> exact ⟨_, e⟩
  have g2 : ∃ o, s.heap.get? i2 = some o := by obtain ⟨vs, n, e | ⟨o, e, _⟩⟩ := s2.get <;> exact ⟨_, e⟩
  obtain ⟨o1, g1⟩ := g1
  obtain ⟨o2, g2⟩ := g2
  have hdn : Heap.DictOf knd h1' s.heap.objs.size [] := by
    obtain ⟨o, es, ep, q1, r⟩ := hnew
    exact ⟨o, es, ep, kk1 _ _ q1, r⟩
  have dne : ∀ b, b < s.heap.objs.size → s.heap.objs.size ≠ b := fun b h => Ne.symm (Nat.ne_of_lt h)
  have D2 : Draws prog w A.in1.in1.in1 i2 [i2, l2] xs.size (fun i v => ys[i]? = some v) (fun i h => Itx h t2 i2 l2 i ∧ Sqx h t2 l2 ys) := by
    rw [hsz]
    exact draws_sqx (A := A.in1.in1.in1) hh t2 i2 l2 ap.l2j ys
  refine dict_zip_loop (knd := knd) (A := A.in1) (tok := 0) (ks := ks) (draws_sqx (A := A.in1.in1.in1) hh t1 i1 l1 ap.l1i xs) D2 ap.a (Ne.symm (lt _ _ hz)) (Ne.symm (lt _ _ hTI)) (Ne.symm (lt _ _ hTO)) (Ne.symm (lt _ _ g1)) (Ne.symm (lt _ _ g2)) (by simp [Ne.symm (lt _ _ g1), dne _ h1.lt]) (by simp [Ne.symm (lt _ _ g2), dne _ h2.lt]) hP hinj hn
    xs.size 0 { s with heap := h1', toks := tk1 } (s.heap.objs.size + 1) [] 0 (by simp) (Nat.zero_le _) (.inl ⟨kk1 _ _ hz', _, _, up1 _ _ hTO⟩) ?_ ?_ ?_ (.inl (kk1 _ _ hz')) (up1 _ _ hTI) ⟨s1.keep fun o q => up1 _ _ q, h1.keep fun o q => up1 _ _ q⟩ ⟨s2.keep fun o q => up1 _ _ q, h2.keep fun o q => up1 _ _ q⟩ hdn rfl (fun j hj => absurd hj (Nat.not_lt_zero _)) fun h' tk kvs a1 a2 a3 a4 => ?_
  · exact Ne.symm (Nat.ne_of_lt (Nat.lt_succ_of_lt (Heap.lt_size hz)))
  · exact Ne.symm (Nat.ne_of_lt (Nat.lt_succ_of_lt (Heap.lt_size g1)))
  · exact Ne.symm (Nat.ne_of_lt (Nat.lt_succ_of_lt (Heap.lt_size g2)))
  · refine ⟨rfl, hQ h' tk kvs a1 a2 (fun j hj => ?_) fun c o c1 c2 c3 c4 q => a4 c o c1 c2 c3 c4 (lt _ _ q) (up1 _ _ q)⟩
    obtain ⟨x, e, px⟩ := a3 j hj
    rw [e]
    exact px.symm
end L2

namespace L2
open PySem PySem.Spec PyProof.Rows
theorem paired_of_get {α β : Type} {R : α → β → Prop} : ∀ {l : List α} {m : List β}, l.length = m.length → (∀ (i : Nat) a b, l[i]? = some a → m[i]? = some b → R a b) → Paired R l m
  | [], [], _, _ => .nil
  | a :: l, b :: m, hl, h => .cons (h 0 a b rfl rfl) (paired_of_get (by simpa using hl) fun i x y hx hy => h (i + 1) x y (by simpa using hx) (by simpa using hy))
theorem paired_get {α β : Type} {R : α → β → Prop} : ∀ {l : List α} {m : List β} {i : Nat} {a : α}, Paired R l m → l[i]? = some a → ∃ b, m[i]? = some b ∧ R a b
  | _ :: _, _ :: _, 0, _, .cons r _, e => ⟨_, rfl, by cases e; exact r⟩
  | _ :: _, _ :: _, i + 1, _, .cons _ rs, e => by
    obtain ⟨b, h1, h2⟩ := paired_get (i := i) rs (by simpa using e)
    exact ⟨b, by simpa using h1, h2⟩
theorem valueAt_get {κ : Type} [DecidableEq κ] : ∀ {vs : List (κ × Value)} {j : Nat} {k : κ} {v : Value}, (vs.map (·.1)).Nodup → vs[j]? = some (k, v) → valueAt vs k = some v
  | p :: vs, 0, k, v, _, e => by
    cases (show p = (k, v) by simpa using e)
    unfold valueAt
    simp
  | p :: vs, j + 1, k, v, hn, e => by
    have e' : vs[j]? = some (k, v) := by simpa using e
    have hm : k ∈ vs.map (·.1) := List.mem_map.mpr ⟨_, List.mem_of_getElem? e', rfl⟩
    have hne : p.1 ≠ k := fun z => (List.nodup_cons.mp (by simpa using hn)).1 (z ▸ hm)
    have := valueAt_get (List.nodup_cons.mp (by simpa using hn)).2 e'
    unfold valueAt at this ⊢
    rw [List.find?_cons_of_neg (by simpa using hne)]
    exact this
theorem nodup_ix' {α : Type} : ∀ {l : List α} {i j : Nat} {x : α}, l.Nodup → l[i]? = some x → l[j]? = some x → i = j
  | a :: l, 0, 0, x, _, _, _ => rfl
  | a :: l, 0, j + 1, x, hn, e1, e2 => absurd (List.mem_of_getElem? (show l[j]? = some x by simpa using e2)) (by cases (show a = x by simpa using e1); exact (List.nodup_cons.mp hn).1)
  | a :: l, i + 1, 0, x, hn, e1, e2 => absurd (List.mem_of_getElem? (show l[i]? = some x by simpa using e1)) (by cases (show a = x by simpa using e2); exact (List.nodup_cons.mp hn).1)
  | a :: l, i + 1, j + 1, x, hn, e1, e2 => congrArg (· + 1) (nodup_ix' (List.nodup_cons.mp hn).2 (by simpa using e1) (by simpa using e2))
/-- things[person], things a dict by whole numbers -/
def rIxD : R2 := fun x y H Q => ∃ (a : Addr) (kvs : List (Key × V)) (i : Int) (j : Nat) (v : V), x = .ref a ∧ y = .int i ∧ H a = some (.dK kvs) ∧ kvs[j]? = some ((Sum.inl i : Key), v) ∧ Q v H
theorem ix_dict {X : Cx} : IxR X rIxD := by
  intro value slice pins s σ H x y v u Q I rx ry h hs
  obtain ⟨a, kvs, i, j, z, rfl, rfl, hq, he, q⟩ := h
  cases rx
  obtain ⟨t, rfl⟩ := ry
  obtain ⟨_, _, vs, rel, dd⟩ := I.hok a _ hq
  obtain ⟨⟨k', w'⟩, h1, h2, h3⟩ := paired_get rel he
  cases h2
  have hn : (vs.map (·.1)).Nodup := by obtain ⟨_, _, _, _, _, _, _, _, n⟩ := dd; exact n
  refine subscriptTail_builtinR (x := w') dd.typeIs PySem.F.slot_dict_getitem.lookup (wpAny_getItem_of (mixKind_int X.prog X.w i t) dd.mapOf (valueAt_get hn h1) ⟨rfl, ?_⟩) hs
  exact ⟨z, H, I.tok _, h3, q⟩
def tDictZip (K : PySem.W.Frag) (ta : TA) : TE := fun σ H Q => ta σ H fun vs H1 => ∃ (t1 t2 : Bool) (a b : Addr) (ns : List Int) (ys : List V), vs = [.ref a, .ref b] ∧ SqB K H1 t1 a (ns.map V.int) ∧ SqB K H1 t2 b ys ∧ ns.Nodup ∧ ns.length = ys.length ∧ ns.length ≤ 1000 ∧
  ∀ d, H1 d = none → Q (.ref d) (upd H1 d (.dK ((ns.map Sum.inl).zip ys)))
theorem pe_dictZip {X : Cx} {a b : Expr} {ta : TA} {p p2 pos pos2 : Pos} (hc : X.calm = true) (h1 : Gl X "dict") (m1 : X.mg "dict" = none) (h2 : Gl X "zip") (m2 : X.mg "zip" = none) (ha : PA X [a, b] ta)
    (hs : starEach [a, b] X.env = [(false, eval a X.env), (false, eval b X.env)] := by rfl) (hs2 : starEach [b] X.env = [(false, eval b X.env)] := by rfl) : PE X (.Call (.Name "dict" p) [.Call (.Name "zip" p2) [a, b] [] pos2] [] pos) (tDictZip X.K ta) := by
  intro pins s σ H Q I h
  refine wpAny_Call_Name_kw (ld_blt I h1 m1 Boot.dict ?_)
  refine PyProof.Rows.callWith_type1 ?_ rfl rfl
  show wpAny _ _ (spliced ((false, eval (.Call (.Name "zip" p2) [a, b] [] pos2) X.env) :: [])) _ _ s
  refine Calls.spliced_cons ?_
  refine Call_ (ld_blt I h2 m2 PyProof.Rows.boot_zip (PyProof.Rows.callWith_type1 (thn (ha pos2 pins s σ H _ I h) fun us s1 ⟨vs, H1, I1, r1, q1⟩ => ?_) (by rw [hs, hs2]) (by rw [hs2]; rfl)))
  obtain ⟨t1, t2, l1, l2, ns, ys, e, hx, hy, hnd, hlen, hle, q⟩ := q1
  subst e
  obtain ⟨u, v, rfl, ru, rv⟩ := vals2 r1
  cases ru
  cases rv
  obtain ⟨its1, rv1, p1⟩ := I1.sqx hx
  obtain ⟨its2, rv2, p2⟩ := I1.sqx hy
  have hA : X.A.handled = none := I1.ok.hd hc
  have l1' : ns.length = its1.length := by have := rv1.length; simpa using this
  have l2' : ys.length = its2.length := rv2.length
  refine call_zipx p1 p2 fun h' hz hTI hTO s1' s2' hsz kk => ?_
  refine wpAny_pure ?_
  have hbig : sysModules < s1.heap.objs.size := Nat.lt_trans (by decide) ((I1.mod.glob.keeps I1.bk).lt)
  refine call_dict_zip (knd := mixKind X.prog X.w) (s := { s1 with heap := h' }) (ks := fun i => Sum.inl (ns.getD i 0)) hA (zipB_new p1.lt p2.lt) hz hTI hTO s1' s2' (p1.keep fun o q => kk _ _ q) (p2.keep fun o q => kk _ _ q) (by simp; omega) (by simp; omega) (fun i x hx => ?_) (fun i j hi hj e => ?_) fun h2 tk kvs dd hk hv keep => ?_
  · have hi : i < ns.length := by
      have := (List.getElem?_eq_some_iff.mp (show its1[i]? = some x by simpa using hx)).1
      omega
    obtain ⟨u, e1, t, e2⟩ := rv1.get (i := i) (x := .int (ns.getD i 0)) (by rw [List.getElem?_map, List.getElem?_eq_getElem hi]; simp [List.getD_eq_getElem?_getD, List.getElem?_eq_getElem hi])
    have : its1[i]? = some x := by simpa using hx
    rw [this] at e1
    cases e1
    rw [e2]
    exact mixKind_int X.prog X.w _ t
  · have hi' : i < ns.length := by simpa [l1'] using hi
    have hj' : j < ns.length := by simpa [l1'] using hj
    have e' := Sum.inl.inj e
    simp only [List.getD_eq_getElem?_getD, List.getElem?_eq_getElem hi', List.getElem?_eq_getElem hj', Option.getD_some] at e'
    exact nodup_ix' hnd (List.getElem?_eq_getElem hi') (e' ▸ List.getElem?_eq_getElem hj')
  · have fr : ∀ b, s1.heap.objs.size ≤ b → H1 b = none := fun b hb => I1.hok.fresh hb
    have hsz' : s1.heap.objs.size ≤ h'.objs.size := by omega
    have kk2 : ∀ b o, s1.heap.get? b = some o → h2.get? b = some o := fun b o qq => by
      have hlt := Heap.lt_size qq
      have ne : ∀ k, b ≠ s1.heap.objs.size + k := fun k => Nat.ne_of_lt (Nat.lt_of_lt_of_le hlt (Nat.le_add_right _ _))
      exact keep b o (ne 4) (ne 3) (ne 0) (ne 1) (kk b o qq)
    have hkl : kvs.length = its1.length := by have := congrArg List.length hk; simpa using this
    have I2 := I1.laid (t' := tk) (a := h'.objs.size) (o := .dK ((ns.map Sum.inl).zip ys)) kk2 hsz' ⟨?_, ?_, kvs, ?_, dd⟩
    · exact ⟨.ref h'.objs.size, _, I2, rfl, q _ (fr _ hsz')⟩
    · simp
      have : (1000 : Nat) ≤ sizeLine := by decide
      omega
    · have : h'.objs.size ≠ sysModules := Ne.symm (Nat.ne_of_lt (Nat.lt_of_lt_of_le hbig hsz'))
      simpa using this
    · refine paired_of_get (by simp; omega) fun i a b ea eb => ?_
      obtain ⟨a1, a2⟩ := a
      obtain ⟨b1, b2⟩ := b
      obtain ⟨ea1, ea2⟩ := List.getElem?_zip_eq_some.mp ea
      have hi : i < ns.length := by
        have := (List.getElem?_eq_some_iff.mp ea1).1
        simpa using this
      have hkk := congrArg (fun l : List Key => l[i]?) hk
      simp only [List.getElem?_map, eb, Option.map_some] at hkk
      rw [List.getElem?_range (by simp; omega)] at hkk
      have hvv := hv i (by simp; omega)
      rw [eb] at hvv
      simp only [Option.map_some] at hvv
      rw [List.getElem?_map, List.getElem?_eq_getElem hi] at ea1
      refine ⟨?_, ?_⟩
      · have z1 : Sum.inl ns[i] = a1 := by simpa using ea1
        have z2 : b1 = Sum.inl (ns.getD i 0) := by simpa using hkk
        show a1 = b1
        rw [← z1, z2]
        simp [List.getD_eq_getElem?_getD, List.getElem?_eq_getElem hi]
      · obtain ⟨u, e1, e2⟩ := rv2.get ea2
        have z3 : some b2 = its2[i]? := by simpa using hvv
        rw [e1] at z3
        cases z3
        exact e2
end L2

namespace L2
open PySem PySem.Spec PyProof.Rows
/-! ### tuples joined, empty or not; a walk over a list or a tuple -/
def rCatE (K : PySem.W.Frag) : R2 := fun x y H Q => ∃ (a b : Addr) (xs ys : List V), x = .ref a ∧ y = .ref b ∧ SqT K H a xs ∧ SqT K H b ys ∧ xs.length + ys.length ≤ sizeLine ∧
  ∀ p H', Same H H' → SqT K H' p (xs ++ ys) → Q (.ref p) H'
theorem op_catE {X : Cx} : OpR X (binaryOp .Add) (rCatE X.K) := by
  intro pins s σ H x y v u Q I rx ry h
  obtain ⟨a, b, xs, ys, rfl, rfl, ha, hb, hz, q⟩ := h
  by_cases hx : xs = []
  · cases rx
    cases ry
    obtain ⟨its, r1, p1, _⟩ := I.tuple ha
    obtain ⟨its2, r2, p2, _⟩ := I.tuple hb
    have hv : its = [] := r1.nil_iff.mpr hx
    obtain ⟨⟨cls, dd, data, sl⟩, ho, hc, n, hd⟩ := id p1
    obtain ⟨⟨cls2, dd2, data2, sl2⟩, ho2, hc2, n2, hd2⟩ := id p2
    simp only at hc hd hc2 hd2
    subst hc hd hc2 hd2
    refine concat_meets ⟨_, ho, rfl⟩ ⟨_, ho2, rfl⟩ noFill_tuple_add seq_tuple_add PySem.F.slot_tuple_add PySem.F.entry_tuple_add (PySem.F.args_tuple_add_2 _ _)
      (tuple_addW0 a b its.toArray its2.toArray n n2 dd dd2 sl sl2 (by simp [hv])) ⟨ho, ho2, ?_⟩
    exact ⟨.ref b, H, I, rfl, q b H (Same.refl _) (by rw [hx]; exact hb)⟩
  · refine op_catT pins s σ H (.ref a) (.ref b) v u Q I rx ry ⟨a, b, xs, ys, rfl, rfl, ha, hb, hx, hz, fun e => ?_, fun _ p hp => ?_⟩
    · exact q a H (Same.refl _) (by rw [e, List.append_nil]; exact ha)
    · exact q p _ (same_new hp _) (SqT.of upd_same)
def Itb (K : PySem.W.Frag) (tp : Bool) (a : Addr) : It := if tp = true then Itt K a else Itl K a
theorem pi_sqb {X : Cx} {tg l : Expr} {tl : TE} (hl : PE X l tl) : PI X tg l (fun σ H R => tl σ H fun x H1 => ∃ (a : Addr) (tp : Bool), x = .ref a ∧ (∃ xs, SqB X.K H1 tp a xs) ∧ R (Itb X.K tp a) H1) := by
  intro pins s σ H R I h
  refine thn (hl pins s σ H _ I h) fun v t ⟨x, G, J, rx, a, tp, e, ⟨xs, hq⟩, q⟩ => ?_
  cases e
  cases rx
  have new : ∀ b ∈ [t.heap.objs.size], t.heap.objs.size ≤ b := fun b hb => by rw [List.mem_singleton.mp hb]; exact Nat.le_refl _
  cases tp with
  | true =>
    obtain ⟨us, _, pt, _⟩ := J.tuple hq
    refine wpAny_pyIter_tuple (items := us.toArray) pt ?_
    exact ⟨_, [t.heap.objs.size], _, _, G, rfl, J.kept (t' := t.toks) (fun b o z => Heap.get?_push_of_some _ z), turn_tuple a t.heap.objs.size, ⟨_, Heap.get?_push_size _ rfl, rfl, rfl⟩, (fun b hb => J.fpOk (new b hb) (J.hok.fresh (new b hb))), q⟩
  | false =>
    obtain ⟨us, _, pt, _⟩ := J.list hq
    refine wpAny_pyIter_list (items := us.toArray) pt.isList ?_
    exact ⟨_, [t.heap.objs.size], _, _, G, rfl, J.kept (t' := t.toks) (fun b o z => Heap.get?_push_of_some _ z), turn_list a t.heap.objs.size, ⟨_, Heap.get?_push_size _ rfl, rfl, rfl⟩, (fun b hb => J.fpOk (new b hb) (J.hok.fresh (new b hb))), q⟩
theorem for_sqb {K : PySem.W.Frag} {tp : Bool} {a : Addr} {xs : List V} {g : TG} {tb : TS} {D : Ends} {σ : St} {H : Hp} (Pv : Nat → St → Hp → Prop) (h0 : Pv 0 σ H) (hl : ∀ i σ H, i ≤ xs.length → Pv i σ H → SqB K H tp a xs)
    (hs : ∀ i x σ H, xs[i]? = some x → Pv i σ H → g x σ H fun σ2 H2 => tb { D with nx := Pv (i + 1), ct := Pv (i + 1), bk := D.nx } σ2 H2) (hd : ∀ σ H, Pv xs.length σ H → D.nx σ H) :
    ∃ W : Nat → Nat → St → Hp → Prop, (∃ m, W 0 m σ H) ∧ ∀ i m σ H, W i m σ H → ((Itb K tp a).stop i H ∧ D.nx σ H) ∨
      ((Itb K tp a).go i H ∧ ∃ N : St → Hp → Prop, (∀ σ' H', N σ' H' → ∃ m', m' < m ∧ W (i + 1) m' σ' H') ∧ ∀ x H', (Itb K tp a).yld i H x H' → g x σ H' fun σ2 H2 => tb { D with nx := N, ct := N, bk := D.nx } σ2 H2) := by
  cases tp with
  | true => exact for_tup Pv h0 hl hs hd
  | false => exact for_list Pv h0 hl hs hd
theorem Rw.sqb {K : PySem.W.Frag} {H : Hp} {a : Addr} {ns : List Int} (h : Rw K H (.ref a) ns) : ∃ tp, SqB K H tp a (ns.map V.int) := by
  obtain ⟨b, e, q | q⟩ := h
  · cases e; exact ⟨false, q⟩
  · cases e; exact ⟨true, q⟩
theorem SqB.over {K : PySem.W.Frag} {H : Hp} {tp : Bool} {a p : Addr} {o : HO} {xs : List V} (h : SqB K H tp a xs) (hne : a ≠ p) : SqB K (upd H p o) tp a xs := by
  cases tp with
  | true => exact SqT.over h hne
  | false => exact SqL.over h hne
/-! ### the deal by turns -/
def leftIn (w ts : List Int) : List Int := w.filter fun t => !decide (t ∈ ts)
def bestF (w ts : List Int) : Int := (leftIn w ts).getD 0 0
theorem pigeon : ∀ (row ts : List Int), row.Nodup → (∀ t ∈ row, t ∈ ts) → row.length ≤ ts.length
  | [], _, _, _ => Nat.zero_le _
  | a :: r, ts, hn, h => by
    have ha := h a List.mem_cons_self
    have := pigeon r (ts.erase a) (List.nodup_cons.mp hn).2 fun t ht => (List.mem_erase_of_ne (show t ≠ a from fun z => (List.nodup_cons.mp hn).1 (z ▸ ht))).mpr (h t (List.mem_cons_of_mem _ ht))
    rw [List.length_erase_of_mem ha] at this
    have := List.length_pos_of_mem ha
    rw [List.length_cons]
    omega
theorem free_ex {n : Nat} {w ts : List Int} (h : LN.Pm n w) (hl : ts.length < n) : ∃ t ∈ w, t ∉ ts := by
  refine Classical.byContradiction fun z => ?_
  have := pigeon w ts h.nodup fun t ht => Classical.byContradiction fun y => z ⟨t, ht, y⟩
  rw [h.len] at this
  omega
theorem bestF_get {w ts : List Int} (h : ∃ t ∈ w, t ∉ ts) : (leftIn w ts)[0]? = some (bestF w ts) ∧ bestF w ts ∈ w ∧ bestF w ts ∉ ts := by
  obtain ⟨t, h1, h2⟩ := h
  have hm : t ∈ leftIn w ts := List.mem_filter.mpr ⟨h1, by simpa using h2⟩
  unfold bestF
  cases hf : leftIn w ts with
  | nil => rw [hf] at hm; cases hm
  | cons b r =>
    have hb : b ∈ leftIn w ts := by rw [hf]; exact List.mem_cons_self
    obtain ⟨h3, h4⟩ := List.mem_filter.mp hb
    exact ⟨rfl, h3, by simpa using h4⟩
def tk (W : List (List Int)) (o : List Int) : Nat → List Int
  | 0 => []
  | k + 1 => tk W o k ++ [bestF (W.getD (o.getD k 0).toNat []) (tk W o k)]
def bt (W : List (List Int)) (o : List Int) (k : Nat) : Int := bestF (W.getD (o.getD k 0).toNat []) (tk W o k)
theorem tk_eq (W : List (List Int)) (o : List Int) : ∀ k, tk W o k = (List.range k).map (bt W o)
  | 0 => rfl
  | k + 1 => by
    rw [List.range_succ, List.map_append, ← tk_eq W o k]
    rfl
theorem tk_len (W : List (List Int)) (o : List Int) (k : Nat) : (tk W o k).length = k := by rw [tk_eq]; simp
structure Deals (n : Nat) (W : List (List Int)) (o ds : List Int) : Prop where
  len : ds.length = n
  at' : ∀ j, j < n → ds[(o.getD j 0).toNat]? = some (bt W o j)
theorem Deals.uniq {n : Nat} {W : List (List Int)} {o ds es : List Int} (ho : LN.Pm n o) (h1 : Deals n W o ds) (h2 : Deals n W o es) : ds = es := by
  apply List.ext_getElem?
  intro i
  by_cases hi : i < n
  · have hm : (i : Int) ∈ o := ho.mem.mpr ⟨by omega, by omega⟩
    obtain ⟨j, hj, e⟩ := List.mem_iff_getElem.mp hm
    have hjn : j < n := by rw [ho.len] at hj; exact hj
    have ed : (o.getD j 0).toNat = i := by rw [List.getD_eq_getElem?_getD, List.getElem?_eq_getElem hj, e]; rfl
    have a1 := h1.at' j hjn
    have a2 := h2.at' j hjn
    rw [ed] at a1 a2
    rw [a1, a2]
  · rw [List.getElem?_eq_none (by rw [h1.len]; omega), List.getElem?_eq_none (by rw [h2.len]; omega)]
structure Ws41 (n : Nat) (W : List (List Int)) : Prop where
  lo : 1 ≤ n
  hi : n ≤ 6
  len : W.length = n
  pm : ∀ w ∈ W, LN.Pm n w
def spBestF (K : PySem.W.Frag) : Sp := fun vs H Q _ => ∃ (w l : Addr) (row ts : List Int), vs = [.ref w, .ref l] ∧ SqT K H w (row.map V.int) ∧ SqL K H l (ts.map V.int) ∧ row.length ≤ 63 ∧ (∃ t ∈ row, t ∉ ts) ∧ ∀ H', Same H H' → Q (.int (bestF row ts)) H'
def spDealBy (K : PySem.W.Frag) (x : Xs) : Sp := fun vs H Q E => ∃ (a : Addr) (v : V) (ws : List V) (W : List (List Int)) (n : Nat) (o : List Int), vs = [.ref a, v] ∧ SqL K H a ws ∧ Paired (IsR K H) ws W ∧ Ws41 n W ∧ Rw K H v o ∧ o.length ≤ 60 ∧
  (¬ LN.Pm n o → ∀ H', Same H H' → E (.ref x.NoOrder) none H') ∧ (LN.Pm n o → ∀ p ds H', Same H H' → H p = none → H' p = some (.tup (ds.map V.int)) → Deals n W o ds → Q (.ref p) H')
def spRefused41 (K : PySem.W.Frag) : Sp := fun vs H Q _ => ∃ (a : Addr) (v : V) (ws : List V) (W : List (List Int)) (n : Nat) (o : List Int), vs = [.ref a, v] ∧ SqL K H a ws ∧ Paired (IsR K H) ws W ∧ Ws41 n W ∧ Rw K H v o ∧ o.length ≤ 60 ∧ ¬ LN.Pm n o ∧ ∀ H', Same H H' → Q (.bl true) H'
/-- no order of n people -/
def Bad (K : PySem.W.Frag) (n : Nat) (H : Hp) (v : V) : Prop := ∃ b, IsR K H v b ∧ ¬ LN.Pm n b ∧ b.length ≤ 60
theorem Bad.mono {K : PySem.W.Frag} {n : Nat} {H H' : Hp} {v : V} (e : Same H H') (h : Bad K n H v) : Bad K n H' v := by
  obtain ⟨b, h1, h2⟩ := h
  exact ⟨b, h1.mono e, h2⟩
theorem Bad.over {K : PySem.W.Frag} {n : Nat} {H : Hp} {v : V} {p : Addr} {ys zs : List V} (h : Bad K n H v) (hp : H p = some (.lst ys)) : Bad K n (upd H p (.lst zs)) v := by
  obtain ⟨b, h1, h2⟩ := h
  exact ⟨b, h1.over hp, h2⟩
def spBent41 (K : PySem.W.Frag) : Sp := fun vs H Q _ => ∃ (a : Addr) (o : List Int) (n : Nat) (c : Int), vs = [.ref a, .int c] ∧ SqT K H a (o.map V.int) ∧ LN.Pm n o ∧ 1 ≤ n ∧ n ≤ 6 ∧
  ∀ p bs H', Same H H' → H' p = some (.lst bs) → (∀ v ∈ bs, Bad K n H' v) → Q (.ref p) H'
theorem cat_i {K : PySem.W.Frag} {H : Hp} {a b : Addr} {l m : List Int} {Q : VK} (h1 : SqT K H a (l.map V.int)) (h2 : SqT K H b (m.map V.int)) (hl : l.length + m.length ≤ 1000) (q : ∀ p H', Same H H' → SqT K H' p ((l ++ m).map V.int) → Q (.ref p) H') : rCatE K (.ref a) (.ref b) H Q :=
  ⟨a, b, _, _, rfl, rfl, h1, h2, by rw [List.length_map, List.length_map]; exact Nat.le_trans hl (by decide), fun p H' S h => q p H' S (by rw [List.map_append]; exact h)⟩
end L2

namespace HM
open LM LN
/-! ### sets below n, and Hall's theorem -/
def cnt (n : Nat) (S : Nat → Bool) : Nat := (List.range n).countP S
theorem cnt_succ (n : Nat) (S : Nat → Bool) : cnt (n + 1) S = cnt n S + if S n = true then 1 else 0 := by
  unfold cnt
  rw [List.range_succ, List.countP_append]
  simp [List.countP_cons]
theorem cnt_mono {S S' : Nat → Bool} : ∀ {n : Nat}, (∀ i, i < n → S i = true → S' i = true) → cnt n S ≤ cnt n S'
  | 0, _ => Nat.le_refl _
  | n + 1, h => by
    have ih := cnt_mono (n := n) fun i hi => h i (Nat.lt_succ_of_lt hi)
    rw [cnt_succ, cnt_succ]
    by_cases e : S n = true
    · rw [if_pos e, if_pos (h n (Nat.lt_succ_self n) e)]; omega
    · rw [if_neg e]; omega
theorem cnt_or_le (S S' : Nat → Bool) : ∀ n : Nat, cnt n (fun i => S i || S' i) ≤ cnt n S + cnt n S'
  | 0 => Nat.le_refl _
  | n + 1 => by
    have ih := cnt_or_le S S' n
    rw [cnt_succ, cnt_succ, cnt_succ]
    cases S n <;> cases S' n <;> simp <;> omega
theorem cnt_or_eq {S S' : Nat → Bool} (hd : ∀ i, S i = true → S' i = true → False) : ∀ n : Nat, cnt n (fun i => S i || S' i) = cnt n S + cnt n S'
  | 0 => rfl
  | n + 1 => by
    have ih := cnt_or_eq hd n
    rw [cnt_succ, cnt_succ, cnt_succ, ih]
    cases h1 : S n <;> cases h2 : S' n <;> simp <;> try omega
    exact (hd n h1 h2).elim
theorem cnt_pos {S : Nat → Bool} : ∀ {n : Nat}, 0 < cnt n S → ∃ i, i < n ∧ S i = true
  | 0, h => absurd h (Nat.lt_irrefl _)
  | n + 1, h => by
    rw [cnt_succ] at h
    by_cases e : S n = true
    · exact ⟨n, Nat.lt_succ_self n, e⟩
    · rw [if_neg e] at h
      obtain ⟨i, h1, h2⟩ := cnt_pos (n := n) (by omega)
      exact ⟨i, Nat.lt_succ_of_lt h1, h2⟩
theorem cnt_one (c : Nat) : ∀ n : Nat, cnt n (fun i => i == c) = if c < n then 1 else 0
  | 0 => rfl
  | n + 1 => by
    rw [cnt_succ, cnt_one c n]
    by_cases e : n = c
    · subst e; simp
    · by_cases h : c < n
      · simp [e, h, show c < n + 1 by omega]
      · simp [e, h, show ¬ c < n + 1 by omega]
theorem cnt_split (n : Nat) (A S : Nat → Bool) (h : ∀ i, S i = true → A i = true) : cnt n A = cnt n S + cnt n (fun i => A i && !S i) := by
  rw [← cnt_or_eq (S := S) (S' := fun i => A i && !S i) (fun i h1 h2 => by simp [h1] at h2)]
  congr 1
  funext i
  cases h1 : S i with
  | true => simp [h i h1]
  | false => simp
def nb (n : Nat) (E : Nat → Nat → Bool) (S : Nat → Bool) (c : Nat) : Bool := (List.range n).any fun r => S r && E r c
theorem nb_iff {n : Nat} {E : Nat → Nat → Bool} {S : Nat → Bool} {c : Nat} : nb n E S c = true ↔ ∃ r, r < n ∧ S r = true ∧ E r c = true := by
  unfold nb
  rw [List.any_eq_true]
  constructor
  · rintro ⟨r, h1, h2⟩
    rw [Bool.and_eq_true] at h2
    exact ⟨r, List.mem_range.mp h1, h2⟩
  · rintro ⟨r, h1, h2, h3⟩
    exact ⟨r, List.mem_range.mpr h1, by rw [h2, h3]; rfl⟩
theorem hall (n : Nat) : ∀ (m : Nat) (A : Nat → Bool) (E : Nat → Nat → Bool), cnt n A = m → (∀ S : Nat → Bool, (∀ i, S i = true → A i = true) → cnt n S ≤ cnt n (nb n E S)) →
    ∃ f : Nat → Nat, (∀ r, r < n → A r = true → f r < n ∧ E r (f r) = true) ∧ ∀ r r', r < n → r' < n → A r = true → A r' = true → f r = f r' → r = r' := by
  intro m
  induction m using Nat.strongRecOn with
  | _ m ih =>
    intro A E hA hH
    by_cases h0 : m = 0
    · have no : ∀ r, r < n → A r = true → False := fun r hr h => by
        have : cnt n (fun i => i == r) ≤ cnt n A := cnt_mono fun i _ e => by rw [eq_of_beq e]; exact h
        rw [cnt_one, if_pos hr, hA, h0] at this
        omega
      exact ⟨fun _ => 0, fun r hr h => (no r hr h).elim, fun r _ hr _ h => (no r hr h).elim⟩
    by_cases hc : ∃ S0 : Nat → Bool, (∀ i, S0 i = true → A i = true) ∧ 0 < cnt n S0 ∧ cnt n S0 < m ∧ cnt n (nb n E S0) ≤ cnt n S0
    · obtain ⟨S0, hs, hp, hl, hcr⟩ := hc
      obtain ⟨f1, g1, g2⟩ := ih _ hl S0 E rfl fun S h => hH S fun i hi => hs i (h i hi)
      have hsp := cnt_split n A S0 hs
      obtain ⟨f2, k1, k2⟩ := ih (cnt n fun i => A i && !S0 i) (by omega) (fun i => A i && !S0 i) (fun r c => E r c && !nb n E S0 c) rfl fun S h => by
        have hdis : ∀ i, S i = true → S0 i = true → False := fun i h1 h2 => by
          have := h i h1
          simp [h2] at this
        have hT := hH (fun i => S i || S0 i) fun i hi => by
          rcases Bool.or_eq_true_iff.mp hi with z | z
          · have := h i z
            rw [Bool.and_eq_true] at this
            exact this.1
          · exact hs i z
        rw [cnt_or_eq hdis] at hT
        have h2 : cnt n (nb n E fun i => S i || S0 i) ≤ cnt n (fun c => nb n (fun r c => E r c && !nb n E S0 c) S c || nb n E S0 c) := cnt_mono fun c _ hc => by
          obtain ⟨r, hr, hS, hE⟩ := nb_iff.mp hc
          cases hn : nb n E S0 c with
          | true => simp
          | false =>
            rw [Bool.or_false]
            rcases Bool.or_eq_true_iff.mp hS with z | z
            · exact nb_iff.mpr ⟨r, hr, z, by simp [hE, hn]⟩
            · exact absurd (nb_iff.mpr ⟨r, hr, z, hE⟩) (by rw [hn]; exact Bool.false_ne_true)
        have h3 := cnt_or_le (nb n (fun r c => E r c && !nb n E S0 c) S) (nb n E S0) n
        omega
      have sep : ∀ r r', r < n → S0 r = true → r' < n → A r' = true → ¬ S0 r' = true → f1 r = f2 r' → False := fun r r' hr h1 hr' h2 h3 e => by
        have a1 := (g1 r hr h1).2
        have a2 := (k1 r' hr' (by simp [h2, h3])).2
        rw [← e, Bool.and_eq_true] at a2
        have := nb_iff.mpr ⟨r, hr, h1, a1⟩
        rw [this] at a2
        exact absurd a2.2 (by decide)
      refine ⟨fun r => if S0 r = true then f1 r else f2 r, fun r hr h => ?_, fun r r' hr hr' h h' e => ?_⟩
      · dsimp only
        by_cases z : S0 r = true
        · rw [if_pos z]; exact g1 r hr z
        · rw [if_neg z]
          obtain ⟨a1, a2⟩ := k1 r hr (by simp [h, z])
          rw [Bool.and_eq_true] at a2
          exact ⟨a1, a2.1⟩
      · dsimp only at e
        by_cases z : S0 r = true
        · rw [if_pos z] at e
          by_cases z' : S0 r' = true
          · rw [if_pos z'] at e; exact g2 r r' hr hr' z z' e
          · rw [if_neg z'] at e; exact (sep r r' hr z hr' h' z' e).elim
        · rw [if_neg z] at e
          by_cases z' : S0 r' = true
          · rw [if_pos z'] at e; exact (sep r' r hr' z' hr h z e.symm).elim
          · rw [if_neg z'] at e; exact k2 r r' hr hr' (by simp [h, z]) (by simp [h', z']) e
    · obtain ⟨r0, hr0, hA0⟩ := cnt_pos (n := n) (S := A) (by omega)
      have h1 := hH (fun i => i == r0) fun i hi => by rw [eq_of_beq hi]; exact hA0
      rw [cnt_one, if_pos hr0] at h1
      obtain ⟨c0, hc0, hn0⟩ := cnt_pos (n := n) (S := nb n E fun i => i == r0) (by omega)
      obtain ⟨r1, hr1, e1, hE0⟩ := nb_iff.mp hn0
      have e1 : r1 = r0 := eq_of_beq e1
      subst e1
      have hsp := cnt_split n A (fun i => i == r1) fun i hi => by rw [eq_of_beq hi]; exact hA0
      rw [cnt_one, if_pos hr0] at hsp
      obtain ⟨f, k1, k2⟩ := ih (cnt n fun i => A i && !(i == r1)) (by omega) (fun i => A i && !(i == r1)) (fun r c => E r c && !(c == c0)) rfl fun S h => by
        by_cases hz : cnt n S = 0
        · omega
        have hSA : ∀ i, S i = true → A i = true := fun i hi => by
          have := h i hi
          rw [Bool.and_eq_true] at this
          exact this.1
        have hlt : cnt n S < m := by
          have := cnt_mono (n := n) fun i _ => h i
          omega
        have hbig : cnt n S < cnt n (nb n E S) := Classical.byContradiction fun z => hc ⟨S, hSA, by omega, hlt, by omega⟩
        have h2 : cnt n (nb n E S) ≤ cnt n (fun c => nb n (fun r c => E r c && !(c == c0)) S c || c == c0) := cnt_mono fun c _ hc => by
          obtain ⟨r, hr, hS, hE⟩ := nb_iff.mp hc
          cases hn : c == c0 with
          | true => simp
          | false => rw [Bool.or_false]; exact nb_iff.mpr ⟨r, hr, hS, by simp [hE, hn]⟩
        have h3 := cnt_or_le (nb n (fun r c => E r c && !(c == c0)) S) (fun c => c == c0) n
        have h4 := cnt_one c0 n
        rw [if_pos hc0] at h4
        omega
      refine ⟨fun r => if r = r1 then c0 else f r, fun r hr h => ?_, fun r r' hr hr' h h' e => ?_⟩
      · dsimp only
        by_cases z : r = r1
        · rw [if_pos z, z]; exact ⟨hc0, hE0⟩
        · rw [if_neg z]
          obtain ⟨a1, a2⟩ := k1 r hr (by simp [h, z])
          rw [Bool.and_eq_true] at a2
          exact ⟨a1, a2.1⟩
      · dsimp only at e
        by_cases z : r = r1
        · by_cases z' : r' = r1
          · rw [z, z']
          · rw [if_pos z, if_neg z'] at e
            have := (k1 r' hr' (by simp [h', z'])).2
            rw [← e] at this
            simp at this
        · by_cases z' : r' = r1
          · rw [if_neg z, if_pos z'] at e
            have := (k1 r hr (by simp [h, z])).2
            rw [e] at this
            simp at this
          · rw [if_neg z, if_neg z'] at e
            exact k2 r r' hr hr' (by simp [h, z]) (by simp [h', z']) e
/-! ### equal sums: a deal within -/
def sm : Nat → (Nat → Int) → Int
  | 0, _ => 0
  | n + 1, f => sm n f + f n
theorem sm_congr {f g : Nat → Int} : ∀ {n : Nat}, (∀ i, i < n → f i = g i) → sm n f = sm n g
  | 0, _ => rfl
  | n + 1, h => by
    show sm n f + f n = sm n g + g n
    rw [sm_congr fun i hi => h i (Nat.lt_succ_of_lt hi), h n (Nat.lt_succ_self n)]
theorem sm_le {f g : Nat → Int} : ∀ {n : Nat}, (∀ i, i < n → f i ≤ g i) → sm n f ≤ sm n g
  | 0, _ => Int.le_refl _
  | n + 1, h => by
    have h1 := sm_le fun i hi => h i (Nat.lt_succ_of_lt hi)
    have h2 := h n (Nat.lt_succ_self n)
    show sm n f + f n ≤ sm n g + g n
    omega
theorem sm_add (f g : Nat → Int) : ∀ n : Nat, sm n (fun i => f i + g i) = sm n f + sm n g
  | 0 => rfl
  | n + 1 => by
    show sm n (fun i => f i + g i) + (f n + g n) = (sm n f + f n) + (sm n g + g n)
    rw [sm_add f g n]
    omega
theorem sm_zero : ∀ n : Nat, sm n (fun _ => 0) = 0
  | 0 => rfl
  | n + 1 => by show sm n (fun _ => 0) + 0 = 0; rw [sm_zero n]; rfl
theorem sm_swap (a : Nat → Nat → Int) (m : Nat) : ∀ n : Nat, sm n (fun i => sm m (a i)) = sm m (fun j => sm n fun i => a i j)
  | 0 => (sm_zero m).symm
  | n + 1 => by
    show sm n (fun i => sm m (a i)) + sm m (a n) = sm m (fun j => (sm n fun i => a i j) + a n j)
    rw [sm_swap a m n, sm_add]
theorem sm_cnt (S : Nat → Bool) (R : Int) : ∀ n : Nat, sm n (fun i => if S i = true then R else 0) = R * cnt n S
  | 0 => by show (0 : Int) = R * 0; simp
  | n + 1 => by
    show sm n _ + (if S n = true then R else 0) = _
    rw [sm_cnt S R n, cnt_succ]
    by_cases e : S n = true
    · rw [if_pos e, if_pos e]; push_cast; rw [Int.mul_add, Int.mul_one]
    · rw [if_neg e, if_neg e]; simp
structure RegF (n : Nat) (M : Nat → Nat → Int) (R : Int) : Prop where
  pos : 0 < R
  nn : ∀ i j, 0 ≤ M i j
  row : ∀ i, i < n → sm n (M i) = R
  col : ∀ j, j < n → sm n (fun i => M i j) = R
theorem deal_ex {n : Nat} {M : Nat → Nat → Int} {R : Int} (h : RegF n M R) : ∃ f : Nat → Nat, (∀ r, r < n → f r < n ∧ M r (f r) ≠ 0) ∧ ∀ r r', r < n → r' < n → f r = f r' → r = r' := by
  obtain ⟨f, h1, h2⟩ := hall n _ (fun _ => true) (fun r c => decide (M r c ≠ 0)) rfl fun S _ => by
    have e1 : sm n (fun i => if S i = true then R else 0) = sm n (fun i => sm n fun j => if S i = true then M i j else 0) := sm_congr fun i hi => by
      by_cases e : S i = true
      · rw [if_pos e, ← h.row i hi]
        exact sm_congr fun j _ => by rw [if_pos e]
      · rw [if_neg e]
        exact (sm_zero n).symm.trans (sm_congr fun j _ => by rw [if_neg e])
    have e2 : sm n (fun j => sm n fun i => if S i = true then M i j else 0) ≤ sm n (fun j => if nb n (fun r c => decide (M r c ≠ 0)) S j = true then R else 0) := sm_le fun j hj => by
      by_cases e : nb n (fun r c => decide (M r c ≠ 0)) S j = true
      · rw [if_pos e, ← h.col j hj]
        exact sm_le fun i _ => by
          by_cases z : S i = true
          · rw [if_pos z]; exact Int.le_refl _
          · rw [if_neg z]; exact h.nn i j
      · rw [if_neg e]
        exact Int.le_of_eq ((sm_congr fun i hi => by
          by_cases z : S i = true
          · rw [if_pos z]
            exact Classical.byContradiction fun y => e (nb_iff.mpr ⟨i, hi, z, decide_eq_true y⟩)
          · rw [if_neg z]).trans (sm_zero n))
    rw [← sm_swap, ← e1, sm_cnt, sm_cnt] at e2
    have := Int.le_of_mul_le_mul_left e2 h.pos
    omega
  exact ⟨f, fun r hr => ⟨(h1 r hr rfl).1, by simpa using (h1 r hr rfl).2⟩, fun r r' hr hr' e => h2 r r' hr hr' rfl rfl e⟩
end HM

namespace HM
open LM LN
def ent (M : List (List Int)) (p t : Nat) : Int := (M.getD p []).getD t 0
structure Reg (n : Nat) (M : List (List Int)) (R : Int) : Prop where
  len : M.length = n
  cols : ∀ r ∈ M, r.length = n
  nn : ∀ p t, 0 ≤ ent M p t
  row : ∀ i, i < n → sm n (ent M i) = R
  col : ∀ j, j < n → sm n (fun i => ent M i j) = R
theorem getD_lt {α : Type} {l : List α} {i : Nat} {d : α} (h : i < l.length) : l.getD i d = l[i] := by rw [List.getD_eq_getElem?_getD, List.getElem?_eq_getElem h]; rfl
theorem addDeal_len {M : List (List Int)} {d : List Int} {w : Int} (h : M.length = d.length) : (addDeal M d w).length = M.length := by simp [addDeal, h]
theorem addDeal_get {M : List (List Int)} {d : List Int} {w : Int} {p : Nat} (h : M.length = d.length) (hp : p < M.length) : (addDeal M d w)[p]? = some (addOne (M.getD p []) (d.getD p 0) w) := by
  unfold addDeal
  rw [List.getElem?_zipWith, List.getElem?_eq_getElem hp, List.getElem?_eq_getElem (show p < d.length by omega), getD_lt hp, getD_lt (show p < d.length by omega)]
theorem ent_add {n : Nat} {M : List (List Int)} {R : Int} {d : List Int} {w : Int} (h : Reg n M R) (hd : d.length = n) (hb : ∀ t ∈ d, 0 ≤ t ∧ t < n) {p : Nat} (hp : p < n) (t : Nat) :
    ent (addDeal M d w) p t = ent M p t + if (d.getD p 0).toNat = t then w else 0 := by
  have hl : M.length = d.length := by rw [h.len, hd]
  have hpm : p < M.length := by rw [h.len]; exact hp
  have hrow : (M.getD p []).length = n := by rw [getD_lt hpm]; exact h.cols _ (List.getElem_mem hpm)
  have hdp := hb (d.getD p 0) (by rw [getD_lt (show p < d.length by omega)]; exact List.getElem_mem _)
  unfold ent
  rw [show (addDeal M d w).getD p [] = addOne (M.getD p []) (d.getD p 0) w by rw [List.getD_eq_getElem?_getD, addDeal_get hl hpm]; rfl]
  generalize M.getD p [] = r at hrow
  generalize d.getD p 0 = x at hdp
  unfold addOne
  rw [List.getD_eq_getElem?_getD, List.getElem?_set]
  by_cases e : x.toNat = t
  · subst e
    rw [if_pos rfl, if_pos rfl, if_pos (by omega)]
    rfl
  · rw [if_neg e, if_neg e, ← List.getD_eq_getElem?_getD]
    omega
theorem cnt_congr {S S' : Nat → Bool} {n : Nat} (h : ∀ i, i < n → S i = S' i) : cnt n S = cnt n S' :=
  Nat.le_antisymm (cnt_mono fun i hi e => by rw [← h i hi]; exact e) (cnt_mono fun i hi e => by rw [h i hi]; exact e)
theorem pm_at {n : Nat} {d : List Int} (h : Pm n d) {t : Nat} (ht : t < n) : ∃ p, p < n ∧ d.getD p 0 = (t : Int) ∧ ∀ q, q < n → (d.getD q 0).toNat = t → q = p := by
  obtain ⟨p, hp, e⟩ := List.mem_iff_getElem.mp (h.mem.mpr (show (0 : Int) ≤ (t : Int) ∧ (t : Int) < n by omega))
  have hl := h.len
  refine ⟨p, by omega, by rw [getD_lt hp, e], fun q hq eq => ?_⟩
  have hq' : q < d.length := by omega
  have b := h.mem.mp (List.getElem_mem hq')
  rw [getD_lt hq'] at eq
  have : d[q] = d[p] := by rw [e]; omega
  exact (List.getElem?_inj hq' h.nodup).mp (by rw [List.getElem?_eq_getElem hq', List.getElem?_eq_getElem hp, this])
theorem sm_one {n : Nat} {p : Nat} (hp : p < n) {S : Nat → Bool} (hS : ∀ q, q < n → (S q = true ↔ q = p)) (w : Int) : sm n (fun q => if S q = true then w else 0) = w := by
  rw [sm_cnt, cnt_congr (S' := fun q => q == p) fun i hi => by
    rw [Bool.eq_iff_iff, hS i hi]
    exact ⟨fun e => by rw [e]; exact beq_self_eq_true _, fun e => eq_of_beq e⟩, cnt_one, if_pos hp]
  simp
theorem mem_ent {n : Nat} {M : List (List Int)} {r : List Int} (hl : M.length = n) (hr : r ∈ M) : ∃ p, p < n ∧ M.getD p [] = r := by
  obtain ⟨p, hp, e⟩ := List.mem_iff_getElem.mp hr
  exact ⟨p, by omega, by rw [getD_lt hp, e]⟩
theorem Reg.add {n : Nat} {M : List (List Int)} {R : Int} {d : List Int} {w : Int} (h : Reg n M R) (hd : Pm n d) (hw : ∀ p, p < n → 0 ≤ ent M p (d.getD p 0).toNat + w) : Reg n (addDeal M d w) (R + w) := by
  have hdl := hd.len
  have hl : M.length = d.length := by rw [h.len, hdl]
  have hb : ∀ t ∈ d, 0 ≤ t ∧ t < n := fun t ht => hd.mem.mp ht
  have hE := fun {p} (hp : p < n) t => ent_add (w := w) h hdl hb hp t
  have hlen : (addDeal M d w).length = n := by rw [addDeal_len hl, h.len]
  have bd : ∀ p, p < n → 0 ≤ d.getD p 0 ∧ d.getD p 0 < n := fun p hp => hb _ (by rw [getD_lt (show p < d.length by omega)]; exact List.getElem_mem _)
  refine ⟨hlen, fun r hr => ?_, fun p t => ?_, fun i hi => ?_, fun j hj => ?_⟩
  · obtain ⟨p, hp, e⟩ := mem_ent hlen hr
    rw [← e, List.getD_eq_getElem?_getD, addDeal_get hl (by rw [h.len]; exact hp)]
    show (addOne _ _ _).length = n
    rw [addOne_len]
    have hpm : p < M.length := by rw [h.len]; exact hp
    rw [getD_lt hpm]
    exact h.cols _ (List.getElem_mem hpm)
  · by_cases hp : p < n
    · rw [hE hp]
      by_cases e : (d.getD p 0).toNat = t
      · rw [if_pos e, ← e]; exact hw p hp
      · rw [if_neg e, Int.add_zero]; exact h.nn p t
    · unfold ent
      rw [show (addDeal M d w).getD p [] = [] by rw [List.getD_eq_getElem?_getD, List.getElem?_eq_none (by omega)]; rfl]
      exact Int.le_refl 0
  · rw [sm_congr (g := fun t => ent M i t + if decide ((d.getD i 0).toNat = t) = true then w else 0) fun t _ => by rw [hE hi]; simp, sm_add, h.row i hi, sm_one (p := (d.getD i 0).toNat) (by have := bd i hi; omega) (fun q _ => by rw [decide_eq_true_iff]; exact eq_comm)]
  · obtain ⟨p, hp, e, hu⟩ := pm_at hd hj
    rw [sm_congr (g := fun i => ent M i j + if decide ((d.getD i 0).toNat = j) = true then w else 0) fun t ht => by rw [hE ht]; simp, sm_add, h.col j hj, sm_one (p := p) hp (fun q hq => by
      rw [decide_eq_true_iff]
      exact ⟨hu q hq, fun z => by rw [z, e]; rfl⟩)]
theorem Reg.zero (n : Nat) : Reg n (List.replicate n (List.replicate n 0)) 0 := by
  have e : ∀ p t, ent (List.replicate n (List.replicate n 0)) p t = 0 := fun p t => by
    unfold ent
    by_cases hp : p < n
    · rw [show (List.replicate n (List.replicate n (0 : Int))).getD p [] = List.replicate n 0 by rw [getD_lt (by simpa using hp), List.getElem_replicate]]
      by_cases ht : t < n
      · rw [getD_lt (by simpa using ht), List.getElem_replicate]
      · rw [List.getD_eq_getElem?_getD, List.getElem?_eq_none (by simpa using ht)]; rfl
    · rw [show (List.replicate n (List.replicate n (0 : Int))).getD p [] = [] by rw [List.getD_eq_getElem?_getD, List.getElem?_eq_none (by simpa using hp)]; rfl]
      rfl
  refine ⟨by simp, fun r hr => by rw [(List.mem_replicate.mp hr).2]; simp, fun p t => by rw [e]; decide, fun i _ => ?_, fun j _ => ?_⟩
  · exact (sm_congr fun t _ => e i t).trans (sm_zero n)
  · exact (sm_congr fun t _ => e t j).trans (sm_zero n)
theorem Reg.regF {n : Nat} {M : List (List Int)} {R : Int} (h : Reg n M R) (hR : 0 < R) : RegF n (ent M) R := ⟨hR, h.nn, h.row, h.col⟩
/-! ### the first deal within -/
def within (M : List (List Int)) : Nat → List Int → Option (List Int)
  | 0, b => some b
  | k + 1, b => (List.range M.length).findSome? fun t => if ent M b.length t ≠ 0 ∧ (t : Int) ∉ b then within M k (b ++ [(t : Int)]) else none
theorem within_sound {M : List (List Int)} : ∀ {k : Nat} {b d : List Int}, within M k b = some d → b.Nodup → d.Nodup ∧ d.length = b.length + k ∧ (∀ j, j < b.length → d.getD j 0 = b.getD j 0) ∧ ∀ j, b.length ≤ j → j < b.length + k → ∃ t : Nat, t < M.length ∧ d.getD j 0 = (t : Int) ∧ ent M j t ≠ 0
  | 0, b, d, h, hb => by
    cases h
    exact ⟨hb, rfl, fun _ _ => rfl, fun j h1 h2 => by omega⟩
  | k + 1, b, d, h, hb => by
    obtain ⟨t, ht, e⟩ := List.exists_of_findSome?_eq_some h
    split at e
    · rename_i hc
      have hb' : (b ++ [(t : Int)]).Nodup := List.nodup_append.mpr ⟨hb, by simp, fun x hx y hy => by rw [List.mem_singleton.mp hy]; intro z; exact hc.2 (z ▸ hx)⟩
      obtain ⟨h1, h2, h3, h4⟩ := within_sound e hb'
      rw [List.length_append, List.length_singleton] at h2 h3 h4
      have hat : d.getD b.length 0 = (t : Int) := by
        rw [h3 b.length (by omega), List.getD_eq_getElem?_getD, List.getElem?_append_right (Nat.le_refl _), Nat.sub_self]
        rfl
      refine ⟨h1, by omega, fun j hj => ?_, fun j hj1 hj2 => ?_⟩
      · rw [h3 j (by omega), List.getD_eq_getElem?_getD, List.getElem?_append_left hj, ← List.getD_eq_getElem?_getD]
      · by_cases e2 : j = b.length
        · subst e2
          exact ⟨t, List.mem_range.mp ht, hat, hc.1⟩
        · exact h4 j (by omega) (by omega)
    · cases e
theorem within_some {M : List (List Int)} {f : Nat → Nat} (hf : ∀ j, j < M.length → f j < M.length ∧ ent M j (f j) ≠ 0) (hi : ∀ j j', j < M.length → j' < M.length → f j = f j' → j = j') : ∀ {k : Nat} {b : List Int}, b.length + k ≤ M.length → (∀ j, b.length ≤ j → j < b.length + k → (f j : Int) ∉ b) → (within M k b).isSome = true
  | 0, b, _, _ => rfl
  | k + 1, b, hl, hb => by
    unfold within
    rw [List.findSome?_isSome_iff]
    obtain ⟨h1, h2⟩ := hf b.length (by omega)
    refine ⟨f b.length, List.mem_range.mpr h1, ?_⟩
    rw [if_pos ⟨h2, hb b.length (Nat.le_refl _) (by omega)⟩]
    refine within_some hf hi (by rw [List.length_append, List.length_singleton]; omega) fun j hj1 hj2 z => ?_
    rw [List.length_append, List.length_singleton] at hj1 hj2
    rcases List.mem_append.mp z with z | z
    · exact hb j (by omega) (by omega) z
    · have := List.mem_singleton.mp z
      have := hi j b.length (by omega) (by omega) (by omega)
      omega
theorem pm_of {n : Nat} {d : List Int} (hl : d.length = n) (hn : d.Nodup) (hb : ∀ t ∈ d, 0 ≤ t ∧ t < n) : Pm n d := by
  unfold Pm
  have key : ∀ (m : Nat) (l : List Int) (r : List Int), l.length = m → r.length = m → l.Nodup → (∀ t ∈ l, t ∈ r) → l.Perm r := by
    intro m
    induction m with
    | zero => intro l r h1 h2 _ _; rw [List.length_eq_zero_iff.mp h1, List.length_eq_zero_iff.mp h2]
    | succ m ih =>
      intro l r h1 h2 hn h
      cases l with
      | nil => cases h1
      | cons a l =>
        have ha := h a List.mem_cons_self
        refine (List.Perm.cons a (ih l (r.erase a) (by simpa using h1) (by rw [List.length_erase_of_mem ha, h2]; rfl) (List.nodup_cons.mp hn).2 fun t ht => ?_)).trans (List.perm_cons_erase ha).symm
        exact (List.mem_erase_of_ne (show t ≠ a from fun z => (List.nodup_cons.mp hn).1 (z ▸ ht))).mpr (h t (List.mem_cons_of_mem _ ht))
  exact key n d (rng n) hl (rng_len n) hn fun t ht => mem_rng.mpr (hb t ht)
/-! ### one lot more -/
def valsM (M : List (List Int)) (d : List Int) : List Int := List.zipWith (fun r t => r.getD t.toNat 0) M d
def minGo (s : Int) (l : List Int) : Int := l.foldl (fun s p => if p < s then p else s) s
def minL (l : List Int) : Int := minGo (l.headD 0) l
theorem minGo_le : ∀ (l : List Int) (s : Int), minGo s l ≤ s ∧ (∀ x ∈ l, minGo s l ≤ x) ∧ (minGo s l = s ∨ minGo s l ∈ l)
  | [], s => ⟨Int.le_refl _, (fun _ h => nomatch h), .inl rfl⟩
  | a :: l, s => by
    obtain ⟨h1, h2, h3⟩ := minGo_le l (if a < s then a else s)
    have e : minGo s (a :: l) = minGo (if a < s then a else s) l := rfl
    rw [e]
    by_cases c : a < s
    · rw [if_pos c] at h1 h2 h3 ⊢
      refine ⟨by omega, fun x hx => ?_, .inr ?_⟩
      · rcases List.mem_cons.mp hx with z | z
        · rw [z]; exact h1
        · exact h2 x z
      · rcases h3 with z | z
        · rw [z]; exact List.mem_cons_self
        · exact List.mem_cons_of_mem _ z
    · rw [if_neg c] at h1 h2 h3 ⊢
      refine ⟨h1, fun x hx => ?_, ?_⟩
      · rcases List.mem_cons.mp hx with z | z
        · rw [z]; omega
        · exact h2 x z
      · rcases h3 with z | z
        · exact .inl z
        · exact .inr (List.mem_cons_of_mem _ z)
theorem minL_ok {l : List Int} (h : l ≠ []) : minL l ∈ l ∧ ∀ x ∈ l, minL l ≤ x := by
  cases l with
  | nil => exact absurd rfl h
  | cons a l =>
    obtain ⟨h1, h2, h3⟩ := minGo_le (a :: l) a
    refine ⟨?_, h2⟩
    rcases h3 with z | z
    · show minGo a (a :: l) ∈ _
      rw [z]; exact List.mem_cons_self
    · exact z
def dealOf (M : List (List Int)) : List Int := (within M M.length []).getD []
def wOf (M : List (List Int)) : Int := minL (valsM M (dealOf M))
theorem sm_one_le {n : Nat} {f : Nat → Int} (hf : ∀ i, 0 ≤ f i) : ∀ {i : Nat}, i < n → f i ≤ sm n f := by
  have nn : ∀ m, 0 ≤ sm m f := fun m => by
    have := sm_le (n := m) (f := fun _ => 0) (g := f) fun i _ => hf i
    rw [sm_zero] at this
    exact this
  induction n with
  | zero => intro i h; exact absurd h (Nat.not_lt_zero _)
  | succ n ih =>
    intro i h
    show f i ≤ sm n f + f n
    by_cases e : i = n
    · subst e; have := nn i; omega
    · have := ih (i := i) (by omega)
      have := hf n
      omega
structure StepOk (n : Nat) (M : List (List Int)) (R : Int) : Prop where
  some : within M n [] = some (dealOf M)
  pm : Pm n (dealOf M)
  ne : ∀ p, p < n → ent M p ((dealOf M).getD p 0).toNat ≠ 0
  le : ∀ p, p < n → wOf M ≤ ent M p ((dealOf M).getD p 0).toNat
  eq : ∃ p, p < n ∧ ent M p ((dealOf M).getD p 0).toNat = wOf M
  w1 : 1 ≤ wOf M
  wR : wOf M ≤ R
  reg : Reg n (addDeal M (dealOf M) (-wOf M)) (R - wOf M)
theorem valsM_get {n : Nat} {M : List (List Int)} {d : List Int} (hM : M.length = n) (hd : d.length = n) {p : Nat} (hp : p < n) : (valsM M d)[p]? = some (ent M p (d.getD p 0).toNat) := by
  unfold valsM ent
  rw [List.getElem?_zipWith, List.getElem?_eq_getElem (show p < M.length by omega), List.getElem?_eq_getElem (show p < d.length by omega), getD_lt (show p < M.length by omega), getD_lt (show p < d.length by omega)]
theorem Reg.step {n : Nat} {M : List (List Int)} {R : Int} (h : Reg n M R) (hR : 0 < R) (hn : 1 ≤ n) : StepOk n M R := by
  have hMl := h.len
  obtain ⟨f, f1, f2⟩ := deal_ex (h.regF hR)
  have hs := within_some (M := M) (f := f) (by rw [hMl]; exact f1) (by rw [hMl]; exact f2) (k := n) (b := []) (by simp [hMl]) fun j _ _ => List.not_mem_nil
  obtain ⟨d, hd⟩ := Option.isSome_iff_exists.mp hs
  have ed : dealOf M = d := by unfold dealOf; rw [hMl, hd]; rfl
  obtain ⟨s1, s2, s3, s4⟩ := within_sound hd List.nodup_nil
  rw [List.length_nil, Nat.zero_add] at s2 s4
  have hb : ∀ t ∈ d, 0 ≤ t ∧ t < n := fun t ht => by
    obtain ⟨j, hj, e⟩ := List.mem_iff_getElem.mp ht
    obtain ⟨t', h1, h2, _⟩ := s4 j (Nat.zero_le _) (by omega)
    rw [getD_lt hj, e] at h2
    omega
  have pm := pm_of s2 s1 hb
  have ne : ∀ p, p < n → ent M p (d.getD p 0).toNat ≠ 0 := fun p hp => by
    obtain ⟨t', h1, h2, h3⟩ := s4 p (Nat.zero_le _) hp
    rw [h2]
    exact h3
  have vne : valsM M d ≠ [] := fun z => by
    have := valsM_get hMl s2 (p := 0) (by omega)
    rw [z] at this
    cases this
  have vl : (valsM M d).length = n := by unfold valsM; simp [hMl, s2]
  obtain ⟨m1, m2⟩ := minL_ok vne
  have ew : wOf M = minL (valsM M d) := by unfold wOf; rw [ed]
  obtain ⟨p0, hp0, e0⟩ := List.mem_iff_getElem.mp m1
  have hp0n : p0 < n := by omega
  have eq0 : ent M p0 (d.getD p0 0).toNat = wOf M := by
    have := valsM_get hMl s2 hp0n
    rw [List.getElem?_eq_getElem hp0, e0] at this
    rw [ew]
    exact (Option.some.inj this).symm
  have le : ∀ p, p < n → wOf M ≤ ent M p (d.getD p 0).toNat := fun p hp => by
    rw [ew]
    exact m2 _ (List.mem_of_getElem? (valsM_get hMl s2 hp))
  have w1 : 1 ≤ wOf M := by
    have := ne p0 hp0n
    have := h.nn p0 (d.getD p0 0).toNat
    omega
  have wR : wOf M ≤ R := by
    rw [← eq0, ← h.row p0 hp0n]
    refine sm_one_le (fun i => h.nn p0 i) ?_
    have := hb (d.getD p0 0) (by rw [getD_lt (show p0 < d.length by omega)]; exact List.getElem_mem _)
    omega
  rw [← ed] at pm ne le eq0
  refine ⟨by rw [hd, ed], pm, ne, le, ⟨p0, hp0n, eq0⟩, w1, wR, ?_⟩
  have := h.add (w := -wOf M) pm fun p hp => by have := le p hp; omega
  rw [Int.sub_eq_add_neg]
  exact this
/-! ### lot by lot -/
def it (Z : List (List Int)) (T : Int) : Nat → List (List Int) × Int
  | 0 => (Z, T)
  | k + 1 => (addDeal (it Z T k).1 (dealOf (it Z T k).1) (-wOf (it Z T k).1), (it Z T k).2 - wOf (it Z T k).1)
def lotAt (Z : List (List Int)) (T : Int) (k : Nat) : Int × List Int := (wOf (it Z T k).1, dealOf (it Z T k).1)
def lotsL (Z : List (List Int)) (T : Int) (k : Nat) : List (Int × List Int) := (List.range k).map (lotAt Z T)
def pn (n : Nat) (M : List (List Int)) : Int := sm n fun p => (cnt n fun t => decide (ent M p t ≠ 0) : Nat)
structure ItOk (n : Nat) (Z : List (List Int)) (T : Int) (k : Nat) : Prop where
  reg : Reg n (it Z T k).1 (it Z T k).2
  r0 : 0 ≤ (it Z T k).2
  rT : (it Z T k).2 ≤ T
  lots : ∀ j, j < k → StepOk n (it Z T j).1 (it Z T j).2
  ent : ∀ p, p < n → ∀ t, ent Z p t = ent (it Z T k).1 p t + sm k fun j => if ((lotAt Z T j).2.getD p 0).toNat = t then (lotAt Z T j).1 else 0
  wts : sm k (fun j => (lotAt Z T j).1) = T - (it Z T k).2
  kill : ∀ j, j < k → ∃ p, p < n ∧ HM.ent (it Z T k).1 p ((lotAt Z T j).2.getD p 0).toNat = 0
  few : (it Z T k).2 ≠ 0 → pn n (it Z T k).1 + k ≤ pn n Z
  last : (it Z T k).2 = 0 → (k : Int) + n ≤ pn n Z + 1
  ap : ∀ i j, i < j → j < k → (lotAt Z T i).2 ≠ (lotAt Z T j).2
theorem cnt_lt {S S' : Nat → Bool} {c : Nat} : ∀ {n : Nat}, (∀ i, i < n → S i = true → S' i = true) → c < n → S' c = true → S c = false → cnt n S + 1 ≤ cnt n S' := by
  intro n h hc h1 h2
  have : cnt n (fun i => S i || i == c) = cnt n S + cnt n (fun i => i == c) := cnt_or_eq (fun i a b => by rw [eq_of_beq b, h2] at a; cases a) n
  have h3 : cnt n (fun i => S i || i == c) ≤ cnt n S' := cnt_mono fun i hi z => by
    rcases Bool.or_eq_true_iff.mp z with z | z
    · exact h i hi z
    · rw [eq_of_beq z]; exact h1
  have h4 := cnt_one c n
  rw [if_pos hc] at h4
  omega
theorem sm_lt {f g : Nat → Int} {c : Nat} : ∀ {n : Nat}, (∀ i, i < n → f i ≤ g i) → c < n → f c + 1 ≤ g c → sm n f + 1 ≤ sm n g := by
  intro n
  induction n with
  | zero => intro _ h _; exact absurd h (Nat.not_lt_zero _)
  | succ n ih =>
    intro h hc h1
    show sm n f + f n + 1 ≤ sm n g + g n
    by_cases e : c = n
    · subst e
      have := sm_le (n := c) fun i hi => h i (Nat.lt_succ_of_lt hi)
      omega
    · have := ih (fun i hi => h i (Nat.lt_succ_of_lt hi)) (by omega) h1
      have := h n (Nat.lt_succ_self n)
      omega
def Fin (Z : List (List Int)) (T : Int) (k : Nat) : Prop := (it Z T k).2 = 0 ∧ ∀ j, j < k → (it Z T j).2 ≠ 0
theorem Fin.uniq {Z : List (List Int)} {T : Int} {k k' : Nat} (h : Fin Z T k) (h' : Fin Z T k') : k = k' := by
  rcases Nat.lt_trichotomy k k' with z | z | z
  · exact absurd h.1 (h'.2 k z)
  · exact z
  · exact absurd h'.1 (h.2 k' z)
def accM (n : Nat) (Z : List (List Int)) (T : Int) : Nat → List (List Int)
  | 0 => List.replicate n (List.replicate n 0)
  | i + 1 => addDeal (accM n Z T i) (dealOf (it Z T i).1) (wOf (it Z T i).1)
end HM

namespace L2
open PySem PySem.Spec PyProof.Rows
/-! ### tables of sets: a free place is found -/
def stepI (mask i : Nat) : Nat := (i * 5 + 1) % (mask + 1)
def itI (mask : Nat) : Nat → Nat → Nat
  | 0, i => i
  | q + 1, i => itI mask q (stepI mask i)
theorem itI_add (mask : Nat) : ∀ (a b i : Nat), itI mask (a + b) i = itI mask b (itI mask a i)
  | 0, b, i => by rw [Nat.zero_add]; rfl
  | a + 1, b, i => by rw [Nat.add_right_comm]; exact itI_add mask a b (stepI mask i)
def orbI (mask : Nat) : Nat → Nat → List Nat
  | 0, _ => []
  | q + 1, i => i :: orbI mask q (stepI mask i)
theorem mem_orbI {mask e : Nat} : ∀ {q i : Nat}, e ∈ orbI mask q i → ∃ b, b < q ∧ itI mask b i = e
  | 0, _, h => nomatch h
  | q + 1, i, h => by
    rcases List.mem_cons.mp h with z | z
    · exact ⟨0, Nat.succ_pos _, z.symm⟩
    · obtain ⟨b, h1, h2⟩ := mem_orbI z
      exact ⟨b + 1, by omega, h2⟩
structure FullI (mask : Nat) : Prop where
  back : itI mask (mask + 1) 0 = 0
  all : ∀ e, e ≤ mask → e ∈ orbI mask (mask + 1) 0
theorem FullI.reach {mask : Nat} (F : FullI mask) {i e : Nat} (hi : i ≤ mask) (he : e ≤ mask) : ∃ q, q ≤ mask ∧ itI mask q i = e := by
  obtain ⟨a, ha, ea⟩ := mem_orbI (F.all i hi)
  obtain ⟨b, hb, eb⟩ := mem_orbI (F.all e he)
  by_cases h : a ≤ b
  · refine ⟨b - a, by omega, ?_⟩
    rw [← ea, ← itI_add, show a + (b - a) = b by omega, eb]
  · refine ⟨b + (mask + 1) - a, by omega, ?_⟩
    rw [← ea, ← itI_add, show a + (b + (mask + 1) - a) = (mask + 1) + b by omega, itI_add, F.back, eb]
/-- from place i with the rest pt of the hash, e is come to within m leaps -/
def Reach (mask e : Nat) : Nat → Nat → Nat → Prop
  | 0, i, _ => i = e
  | m + 1, i, pt => i = e ∨ Reach mask e m (SetTable.leap mask i pt).1 (SetTable.leap mask i pt).2
theorem Reach.up {mask e : Nat} : ∀ {m m' i pt : Nat}, Reach mask e m i pt → m ≤ m' → Reach mask e m' i pt
  | 0, 0, _, _, h, _ => h
  | 0, m' + 1, _, _, h, _ => .inl h
  | m + 1, 0, _, _, _, hm => absurd hm (Nat.not_succ_le_zero _)
  | m + 1, m' + 1, i, pt, h, hm => by
    rcases h with h | h
    · exact .inl h
    · exact .inr (h.up (Nat.le_of_succ_le_succ hm))
theorem leap_le (mask i pt : Nat) : (SetTable.leap mask i pt).1 ≤ mask := Nat.le_of_lt_succ (Nat.mod_lt _ (Nat.succ_pos _))
theorem reach_zero {mask e : Nat} : ∀ {q i : Nat}, itI mask q i = e → Reach mask e q i 0
  | 0, i, h => h
  | q + 1, i, h => .inr (reach_zero (q := q) (i := stepI mask i) h)
/-! the probing -/
def Near (t : SetTable) : Nat → SetTable.Probe → Prop
  | 0, p => t.slot p.j = .empty
  | m + 1, p => t.slot p.j = .empty ∨ Near t m (t.advance p)
theorem Near.up {t : SetTable} : ∀ {m m' : Nat} {p : SetTable.Probe}, Near t m p → m ≤ m' → Near t m' p
  | 0, 0, _, h, _ => h
  | 0, m' + 1, _, h, _ => .inl h
  | m + 1, 0, _, _, hm => absurd hm (Nat.not_succ_le_zero _)
  | m + 1, m' + 1, p, h, hm => by
    rcases h with h | h
    · exact .inl h
    · exact .inr (h.up (Nat.le_of_succ_le_succ hm))
def stP (mask i pt : Nat) (d : Option Nat) : SetTable.Probe := { j := i, more := SetTable.runEnd mask i - i, i, perturb := pt, dummy := d }
theorem near_run {t : SetTable} {m : Nat} : ∀ (r : Nat) (p : SetTable.Probe), p.more = r → Near t m (stP t.mask (SetTable.leap t.mask p.i p.perturb).1 (SetTable.leap t.mask p.i p.perturb).2 p.dummy) → Near t (m + r + 1) p
  | 0, p, hr, h => by
    refine .inr ?_
    unfold SetTable.advance
    rw [if_neg (by omega)]
    exact h
  | r + 1, p, hr, h => by
    refine .inr ?_
    unfold SetTable.advance
    rw [if_pos (by omega)]
    exact near_run r _ (by show p.more - 1 = r; omega) h
theorem run_le (mask i : Nat) : SetTable.runEnd mask i - i ≤ 9 := by
  unfold SetTable.runEnd
  split <;> omega
end L2
namespace L2
open PySem PySem.Spec PyProof.Rows
/-! laying the table anew -/
/-- k places are taken, by the numbers below k -/
structure OwnI (mask : Nat) (owner : Array (Option Nat)) (k : Nat) : Prop where
  size : owner.size = mask + 1
  cnt : (List.range (mask + 1)).countP (fun j => (owner.getD j none).isSome) = k
  lt : ∀ j v, owner.getD j none = some v → v < k
end L2
namespace L2
open PySem PySem.Spec PyProof.Rows
section
variable {prog : Program} {w : World} {A : Around} {E : Value → Shared → Prop} {s : Shared}
/-- a stored value is a tuple of whole numbers -/
def TupV (prog : Program) (w : World) (h : Heap) (k : List Int) (v : Value) : Prop := ∃ b, v = .ref b ∧ IsTupleKey (intKind prog w) h k b
end
end L2
namespace L2
open PySem PySem.Spec PyProof.Rows
structure TabQ (t : SetTable) (n : Nat) : Prop where
  mask : t.mask = 7 ∨ t.mask = 31 ∨ t.mask = 127
  dm : t.dummies = #[]
  sz : t.place.size = n
  room : n * 5 < t.mask * 3
theorem TabQ.fits {t : SetTable} {n : Nat} (T : TabQ t n) : t.fits n = true := by
  unfold SetTable.fits SetTable.fill
  rw [T.dm, T.sz]
  have := T.room
  simp
  omega
def SetQ (prog : Program) (w : World) (h : Heap) (a : Addr) (ks : List (List Int)) (n : Nat) : Prop :=
  ∃ o es ep t, h.get? a = some o ∧ o.ExactSet ∧ o.data = .set es ep t ∧ TabQ t es.size ∧ es.size = n ∧ ∀ e ∈ es.toList, ∃ k, TupV prog w h k e.2 ∧ k ∈ ks
theorem TupV.keeps {prog : Program} {w : World} {h h' : Heap} {k : List Int} {v : Value} {a : Addr} {o : Obj} {es ep t} (H : TupV prog w h k v) (ho : h.get? a = some o) (hd : o.data = .set es ep t) (sb : Heap.SameBut a h h') : TupV prog w h' k v := by
  obtain ⟨b, rfl, ob, items, n, h1, h2, h3, h4⟩ := H
  refine ⟨b, rfl, ob, items, n, ?_, h2, h3, h4⟩
  rw [sb.2 b fun z => ?_]
  · exact h1
  · subst z
    rw [ho] at h1
    cases h1
    rw [hd] at h3
    cases h3
section
variable {prog : Program} {w : World} {A : Around} {E : Value → Shared → Prop} {s : Shared}
end
end L2
namespace L2
open PySem PySem.Spec PyProof.Rows
theorem SetQ.congr {prog : Program} {w : World} {h h' : Heap} {a : Addr} {ks : List (List Int)} {n : Nat} (H : SetQ prog w h a ks n) (e : ∀ o, h.get? a = some o → h'.get? a = some o) (et : ∀ k b, k ∈ ks → IsTupleKey (intKind prog w) h k b → IsTupleKey (intKind prog w) h' k b) : SetQ prog w h' a ks n := by
  obtain ⟨o, es, ep, t, ho, hex, hd, T, hsz, hes⟩ := H
  refine ⟨o, es, ep, t, e o ho, hex, hd, T, hsz, fun x hx => ?_⟩
  obtain ⟨k, ⟨b, h1, h2⟩, h3⟩ := hes x hx
  exact ⟨k, ⟨b, h1, et k b h3 h2⟩, h3⟩
end L2
namespace L2
open PySem PySem.Spec PyProof.Rows
theorem items_of_vals {prog : Program} {w : World} : ∀ {r : List Int} {its : List Value}, Vals (r.map V.int) its → ItemsAre (intKind prog w) r its
  | [], [], _ => .nil
  | i :: r, v :: its, h => by
    cases h with
    | cons h1 h2 =>
      obtain ⟨t, rfl⟩ := h1
      exact .cons (beq_self_eq_true _) (items_of_vals h2)
theorem Inv.tupV {X : Cx} {pins : List (Addr × Obj)} {σ : St} {H : Hp} {s : Shared} (I : Inv X pins σ H s) {v : V} {u : Value} {r : List Int} (h : IsR X.K H v r) (rv : RelV v u) : TupV X.prog X.w s.heap r u := by
  obtain ⟨a, rfl, hq⟩ := h
  cases (show u = Value.ref a from rv)
  obtain ⟨its, rs, ⟨o, h1, h2, n, h3⟩, _⟩ := I.tuple hq
  exact ⟨a, rfl, o, its.toArray, n, h1, h2, h3, items_of_vals rs⟩
def tLenSet (K : PySem.W.Frag) (te : TE) : TE := fun σ H Q => te σ H fun x H1 => ∃ (l : Addr) (xs : List V) (Ks : List (List Int)), x = .ref l ∧ SqL K H1 l xs ∧ Paired (IsR K H1) xs Ks ∧ Ks.Nodup ∧ Ks.length ≤ 60 ∧ Q (.int (Ks.length : Nat)) H1
end L2

namespace L2
open PySem PySem.Spec PyProof.Rows
/-! ### lots of a table: promises -/
/-- a row of fractions as a list -/
def RwFL (K : PySem.W.Frag) (H : Hp) (T : Int) (v : V) (m : List Int) : Prop := ∃ a gs, v = .ref a ∧ SqL K H a gs ∧ Paired (IsF K H) gs (fr T m)
theorem RwFL.mono {K : PySem.W.Frag} {H H' : Hp} {T : Int} {v : V} {m : List Int} (e : Same H H') (h : RwFL K H T v m) : RwFL K H' T v m := by
  obtain ⟨a, gs, rfl, h1, h2⟩ := h
  exact ⟨a, gs, rfl, e.seq h1, fracs_mono e h2⟩
/-- the same, standing apart from lo -/
def RwFX (K : PySem.W.Frag) (H : Hp) (T : Int) (lo : Addr) (v : V) (m : List Int) : Prop := ∃ a gs, v = .ref a ∧ a ≠ lo ∧ H a = some (.lst gs) ∧ Paired (IsF K H) gs (fr T m)
theorem RwFX.fl {K : PySem.W.Frag} {H : Hp} {T : Int} {lo : Addr} {v : V} {m : List Int} (h : RwFX K H T lo v m) : RwFL K H T v m := by
  obtain ⟨a, gs, rfl, _, h1, h2⟩ := h
  exact ⟨a, gs, rfl, SqL.of h1, h2⟩
theorem RwFX.mono {K : PySem.W.Frag} {H H' : Hp} {T : Int} {lo : Addr} {v : V} {m : List Int} (e : Same H H') (h : RwFX K H T lo v m) : RwFX K H' T lo v m := by
  obtain ⟨a, gs, rfl, h0, h1, h2⟩ := h
  exact ⟨a, gs, rfl, h0, e _ _ h1, fracs_mono e h2⟩
theorem RwFX.over {K : PySem.W.Frag} {H : Hp} {T : Int} {lo : Addr} {ys zs : List V} {v : V} {m : List Int} (h : RwFX K H T lo v m) (hp : H lo = some (.lst ys)) : RwFX K (upd H lo (.lst zs)) T lo v m := by
  obtain ⟨a, gs, rfl, h0, h1, h2⟩ := h
  exact ⟨a, gs, rfl, h0, by rw [upd_ne h0]; exact h1, Paired.mapP h2 fun _ _ q => q.over hp⟩
theorem IsLot.over {K : PySem.W.Frag} {H : Hp} {T : Int} {v : V} {l : Lot} {p : Addr} {ys zs : List V} (h : IsLot K H T v l) (hp : H p = some (.lst ys)) : IsLot K (upd H p (.lst zs)) T v l := by
  obtain ⟨a, f, g, rfl, h1, h2, h3⟩ := h
  exact ⟨a, f, g, rfl, tup_over h1 hp, h2.over hp, tup_over h3 hp⟩
structure Sq31 (n : Nat) (T : Int) (M : List (List Int)) : Prop where
  lo : 1 ≤ n
  hi : n ≤ 6
  t0 : 0 < T
  t1 : T < 2 ^ 80
  len : M.length = n
  cols : ∀ r ∈ M, r.length = n
def spWithin (K : PySem.W.Frag) (m : Nat) : Sp := fun vs H Q _ => ∃ (l b : Addr) (rs : List V) (M : List (List Int)) (T : Int) (n k : Nat) (bs : List Int), vs = [.ref l, .ref b] ∧ SqL K H l rs ∧ Paired (RwFL K H T) rs M ∧ Sq31 n T M ∧ SqT K H b (bs.map V.int) ∧ bs.length + k = n ∧ k ≤ m ∧
  (HM.within M k bs = none → ∀ H', Same H H' → Q .non H') ∧ (∀ d, HM.within M k bs = some d → ∀ p H', Same H H' → SqT K H' p (d.map V.int) → Q (.ref p) H')
def spRowW (K : PySem.W.Frag) : Sp := fun vs H Q _ => ∃ (r w : Addr) (gs : List V) (m : List Int) (t T x : Int), vs = [.ref r, .int t, .ref w] ∧ SqL K H r gs ∧ Paired (IsF K H) gs (fr T m) ∧ IsF K H (.ref w) (FQ.red x T) ∧ (0 < T ∧ T < 2 ^ 80) ∧ (0 ≤ t ∧ t < m.length) ∧ m.length ≤ 6 ∧ (0 ≤ m.getD t.toNat 0 ∧ m.getD t.toNat 0 ≤ T) ∧ (0 ≤ x ∧ x ≤ T) ∧
  ∀ p gs' H', Same H H' → H p = none → H' p = some (.lst gs') → Paired (IsF K H') gs' (fr T (LM.addOne m t (-x))) → Q (.ref p) H'
/-- a table of equal sums -/
structure Tb31 (n : Nat) (T : Int) (Z : List (List Int)) : Prop where
  lo : 1 ≤ n
  hi : n ≤ 6
  t0 : 0 < T
  t1 : T < 2 ^ 80
  reg : HM.Reg n Z T
def spLotsOf (K : PySem.W.Frag) : Sp := fun vs H Q _ => ∃ (a : Addr) (us : List V) (Z : List (List Int)) (T : Int) (n : Nat), vs = [.ref a] ∧ SqL K H a us ∧ Paired (RwFT K H T) us Z ∧ Tb31 n T Z ∧
  ∀ k p ls H', HM.Fin Z T k → Same H H' → H p = none → H' p = some (.lst ls) → Paired (IsLot K H' T) ls (HM.lotsL Z T k) → Q (.ref p) H'
def spLotsHold (K : PySem.W.Frag) : Sp := fun vs H Q _ => ∃ (a l : Addr) (us ls : List V) (Z : List (List Int)) (T : Int) (n k : Nat), vs = [.ref a, .ref l] ∧ SqL K H a us ∧ Paired (RwFT K H T) us Z ∧ Tb31 n T Z ∧ HM.Fin Z T k ∧ SqL K H l ls ∧ Paired (IsLot K H T) ls (HM.lotsL Z T k) ∧
  ∀ H', Same H H' → Q (.bl true) H'
end L2

namespace L2
open PySem PySem.Spec PyProof.Rows
/-! ### pairs of tuples of whole numbers as keys -/
abbrev PKey := List Int × List Int
def IsPK (prog : Program) (w : World) (h : Heap) (k : PKey) (a : Addr) : Prop :=
  ∃ o n x y, h.get? a = some o ∧ o.cls = .type "tuple" ∧ o.data = .seq #[.ref x, .ref y] n ∧ IsTupleKey (intKind prog w) h k.1 x ∧ IsTupleKey (intKind prog w) h k.2 y
section
variable {prog : Program} {w : World} {A : Around} {E : Value → Shared → Prop} {s : Shared}
theorem IsPK.typeIs {k : PKey} {a : Addr} (x : IsPK prog w s.heap k a) : s.TypeIs (.ref a) "tuple" := let ⟨o, _, _, _, ho, hc, _⟩ := x; ⟨o, ho, hc⟩
def pkHash (prog : Program) (w : World) (k : PKey) : Int := reduceHash (Builtin.Tuple.tupleHashOf [tupleKeyHash (intKind prog w) k.1, tupleKeyHash (intKind prog w) k.2])
theorem pyHash_pk {k : PKey} {a : Addr} {Q : Int → Shared → Prop} (hu : A.units + 2 < cLine) (hk : IsPK prog w s.heap k a) (h : Q (pkHash prog w k) { s with toks := s.toks + ((k.1.length + 1) + (k.2.length + 1) + 1) }) : wpAny (model prog w) A (pyHash (.ref a)) Q E s := by
  have hT := hk.typeIs
  obtain ⟨o, n, x, y, ho, _, hd, h1, h2⟩ := hk
  unfold pyHash pyHashByItsType
  refine wpAny_bind (wpAny_cRoomFor_or (.inr (by omega)) ?_)
  refine wpAny_bind (wpAny_specialOf hT F.slot_tuple_hash.lookup ?_)
  show wpAny _ _ (if (some (Value.builtin "tuple.__hash__") == some Value.none) = true then _ else _) Q E s
  rw [if_neg (by rw [beq_builtin_none]; exact Bool.false_ne_true)]
  refine wpAny_bind (wpAny_specialOf hT F.slot_tuple_hash.lookup ?_)
  show wpAny _ _ (callSpecialIfBoundUnlessNone? (.ref a) "__hash__" _ >>= _) Q E s
  refine wpAny_bind (wpAny_callSpecialIfBoundUnlessNone?_slot hT F.slot_tuple_hash (wpAny_call_entry F.slot_tuple_hash hT F.entry_tuple_hash ?_ (F.args_tuple_hash_1 _)))
  show wpAny _ _ (Builtin.Tuple.tupleItemsOf (.ref a) >>= _) _ _ s
  refine wpAny_bind (wpAny_tupleItemsOf ho hd ?_)
  rw [← Array.forIn_toList, show #[Value.ref x, Value.ref y].toList = [Value.ref x, Value.ref y] from rfl]
  rw [List.forIn_cons, bind_assoc]
  refine wpAny_bind (wpAny_bind (wpAny_pyHash_tuple (show A.units + 1 < cLine by omega) h1 ?_))
  refine wpAny_pure ?_
  dsimp only
  rw [List.forIn_cons, bind_assoc]
  refine wpAny_bind (wpAny_bind (wpAny_pyHash_tuple (s := { s with toks := s.toks + (k.1.length + 1) }) (show A.units + 1 < cLine by omega) h2 ?_))
  refine wpAny_pure ?_
  dsimp only
  rw [List.forIn_nil]
  refine wpAny_bind (wpAny_pure ?_)
  refine wpAny_ret_mkInt ?_
  show wpAny _ _ (if (decide (-(2 : Int) ^ 63 ≤ Builtin.Tuple.tupleHashOf [tupleKeyHash (intKind prog w) k.1, tupleKeyHash (intKind prog w) k.2]) && decide (Builtin.Tuple.tupleHashOf [tupleKeyHash (intKind prog w) k.1, tupleKeyHash (intKind prog w) k.2] < 2 ^ 63)) = true then _ else _) Q E _
  unfold pkHash reduceHash at h
  split at h
  · rename_i hr
    rw [if_pos hr]
    exact wpAny_pure (by simpa [Nat.add_assoc] using h)
  · rename_i hr
    rw [if_neg hr]
    exact wpAny_bind (wpAny_rule (wpAny_pure (by simpa [Nat.add_assoc] using h)))
theorem IsPK.inj {h : Heap} {a : Addr} {k k' : PKey} (hx : IsPK prog w h k a) (hy : IsPK prog w h k' a) : k = k' := by
  obtain ⟨o, n, x, y, ho, _, hd, h1, h2⟩ := hx
  obtain ⟨o', n', x', y', ho', _, hd', h1', h2'⟩ := hy
  rw [ho] at ho'
  cases ho'
  rw [hd] at hd'
  injection hd' with e _
  have e' := congrArg Array.toList e
  simp only [List.cons.injEq, Value.ref.injEq, and_true] at e'
  obtain ⟨e1, e2⟩ := e'
  subst e1 e2
  exact Prod.ext (h1.inj h1') (h2.inj h2')
theorem IsPK.keeps {h h' : Heap} {k : PKey} {a d : Addr} {o : Obj} {es ep} (hx : IsPK prog w h k a) (ho : h.get? d = some o) (hd : o.data = .dict es ep) (hs : Heap.SameBut d h h') : IsPK prog w h' k a := by
  obtain ⟨o1, n, x, y, h0, hc, hdd, h1, h2⟩ := hx
  have hne : a ≠ d := by
    rintro rfl
    rw [ho] at h0
    cases h0
    rw [hd] at hdd
    cases hdd
  exact ⟨o1, n, x, y, (hs.2 a hne).trans h0, hc, hdd, h1.keeps ho hd hs, h2.keeps ho hd hs⟩
theorem eqBool_pk {k k' : PKey} {a b : Addr} {Q : Bool → Shared → Prop} (hu : A.units + 2 < cLine) (hx : IsPK prog w s.heap k a) (hy : IsPK prog w s.heap k' b) (h : Q (decide (k = k')) s) : wpAny (model prog w) A (eqBool (.ref a) (.ref b)) Q E s := by
  unfold eqBool
  try with_reducible refine wpAny_holding ?_
  show wpAny _ _ (if (Value.ref a == Value.ref b) = true then _ else _) Q E s
  by_cases hab : (Value.ref a == Value.ref b) = true
  · rw [if_pos hab]
    have e : a = b := by have := eq_of_beq hab; injection this
    subst e
    have e := hx.inj hy
    subst e
    exact wpAny_bind (wpAny_rule (wpAny_pure (by simpa using h)))
  · rw [if_neg hab]
    have hTa := hx.typeIs
    have hTb := hy.typeIs
    obtain ⟨o, n, x, y, ho, _, hd, h1, h2⟩ := hx
    obtain ⟨o', n', x', y', ho', _, hd', h1', h2'⟩ := hy
    refine wpAny_bind (wpAny_richCompare_same_room (op := .Eq) hTa hTb F.slot_tuple_eq (wpAny_call_entry F.slot_tuple_eq hTa F.entry_tuple_eq ?_ (F.args_tuple_eq_2 _ _)) (by omega))
    show wpAny _ _ (isInstance (.ref b) (.type "tuple") >>= _) _ _ s
    refine wpAny_bind (wpAny_isInstance hTb isSubtype_tuple_tuple ?_)
    simp only [Bool.not_true, Bool.false_eq_true, if_false]
    refine wpAny_bind (wpAny_tupleItemsOf ho hd ?_)
    refine wpAny_bind (wpAny_tupleItemsOf ho' hd' ?_)
    rw [show List.zip #[Value.ref x, Value.ref y].toList #[Value.ref x', Value.ref y'].toList = [(Value.ref x, Value.ref x'), (Value.ref y, Value.ref y')] from rfl]
    rw [List.forIn_cons, bind_assoc]
    refine wpAny_bind (wpAny_bind (wpAny_eqBool_tuple (show A.units + 1 < cLine by omega) h1 h1' ?_))
    by_cases e1 : k.1 = k'.1
    · rw [decide_eq_true e1]
      simp only [Bool.not_true, Bool.false_eq_true, if_false]
      refine wpAny_pure ?_
      dsimp only
      rw [List.forIn_cons, bind_assoc]
      refine wpAny_bind (wpAny_bind (wpAny_eqBool_tuple (show A.units + 1 < cLine by omega) h2 h2' ?_))
      by_cases e2 : k.2 = k'.2
      · rw [decide_eq_true e2]
        simp only [Bool.not_true, Bool.false_eq_true, if_false]
        refine wpAny_pure ?_
        dsimp only
        rw [List.forIn_nil]
        refine wpAny_bind (wpAny_pure (wpAny_pure ⟨_, rfl, (fun e => nomatch e), wpAny_truthy_bool ?_⟩))
        rw [decide_eq_true (Prod.ext e1 e2)] at h
        exact h
      · rw [decide_eq_false e2]
        simp only [Bool.not_false, if_true]
        rw [decide_eq_false (fun z => e2 (by rw [z]))] at h
        exact wpAny_bind (wpAny_pure (wpAny_pure (wpAny_bind (wpAny_pure (wpAny_pure ⟨_, rfl, (fun e => nomatch e), wpAny_truthy_bool h⟩)))))
    · rw [decide_eq_false e1]
      simp only [Bool.not_false, if_true]
      rw [decide_eq_false (fun z => e1 (by rw [z]))] at h
      exact wpAny_bind (wpAny_pure (wpAny_pure (wpAny_bind (wpAny_pure (wpAny_pure ⟨_, rfl, (fun e => nomatch e), wpAny_truthy_bool h⟩)))))
theorem quiet_in {f : Nat} {ks : List Int} {a : Addr} {Q : Bool → Shared → Prop} (hk : IsTupleKey (intKind prog w) s.heap ks a) (h : Q true s) : wpAny (model prog w) A (eqIsQuiet (f + 1) (.ref a)) Q E s := by
  have hT := hk.typeIs
  obtain ⟨o, items, n, ho, _, hd, hi⟩ := hk
  unfold eqIsQuiet
  refine wpAny_bind (wpAny_specialOf hT F.slot_tuple_eq.lookup ?_)
  show wpAny _ _ (isInstance (.ref a) (.type "tuple") >>= _) _ _ s
  refine wpAny_bind (wpAny_isInstance hT isSubtype_tuple_tuple ?_)
  simp only [Bool.not_true, Bool.false_eq_true, if_false]
  refine wpAny_bind (wpAny_seqItems ho hd ?_)
  refine wpAny_bind ?_
  show wpAny _ _ (forIn items _ _) _ _ s
  rw [← Array.forIn_toList]
  refine wpAny_forIn_list _ (fun rest r s' => r.1 = none ∧ s' = s ∧ ∀ v ∈ rest, carriedByValue v = true) _ ?_ ?_ _ _ ⟨rfl, rfl, hi.byValue⟩
  · rintro v rest r s' ⟨_, rfl, ha⟩
    rw [eqIsQuiet_byValue _ (ha v List.mem_cons_self)]
    refine wpAny_bind (wpAny_pure ?_)
    simp only [Bool.not_true, Bool.false_eq_true, if_false]
    exact wpAny_pure ⟨rfl, rfl, fun u hu' => ha u (List.mem_cons_of_mem _ hu')⟩
  · rintro ⟨r1, r2⟩ s' ⟨hr, rfl, _⟩
    simp only at hr
    subst hr
    exact wpAny_pure h
theorem quiet_pk {k : PKey} {a : Addr} {Q : Bool → Shared → Prop} (hk : IsPK prog w s.heap k a) (h : Q true s) : wpAny (model prog w) A (eqIsQuiet 8 (.ref a)) Q E s := by
  have hT := hk.typeIs
  obtain ⟨o, n, x, y, ho, _, hd, h1, h2⟩ := hk
  unfold eqIsQuiet
  refine wpAny_bind (wpAny_specialOf hT F.slot_tuple_eq.lookup ?_)
  show wpAny _ _ (isInstance (.ref a) (.type "tuple") >>= _) _ _ s
  refine wpAny_bind (wpAny_isInstance hT isSubtype_tuple_tuple ?_)
  simp only [Bool.not_true, Bool.false_eq_true, if_false]
  refine wpAny_bind (wpAny_seqItems ho hd ?_)
  show wpAny _ _ (forIn #[Value.ref x, Value.ref y] _ _ >>= _) _ _ s
  rw [← Array.forIn_toList, show #[Value.ref x, Value.ref y].toList = [Value.ref x, Value.ref y] from rfl, List.forIn_cons, bind_assoc]
  refine wpAny_bind (wpAny_bind (quiet_in h1 ?_))
  simp only [Bool.not_true, Bool.false_eq_true, if_false]
  refine wpAny_pure ?_
  dsimp only
  rw [List.forIn_cons, bind_assoc]
  refine wpAny_bind (wpAny_bind (quiet_in h2 ?_))
  simp only [Bool.not_true, Bool.false_eq_true, if_false]
  refine wpAny_pure ?_
  dsimp only
  rw [List.forIn_nil]
  exact wpAny_bind (wpAny_pure (wpAny_pure h))
end
def pairKind (prog : Program) (w : World) : HeapKind prog w PKey where
  is := IsPK prog w
  hash := pkHash prog w
  draws := fun k => (k.1.length + 1) + (k.2.length + 1) + 1
  room := fun A => A.units + 2 < cLine
  inj := fun hx hy => hx.inj hy
  keeps := fun x ho hd hs => x.keeps ho hd hs
  pyHash := fun hu hk h => pyHash_pk hu hk h
  eqBool := fun hu hx hy h => eqBool_pk hu hx hy h
  quiet := fun hk h => quiet_pk hk h
end L2
namespace L2
open PySem PySem.Spec PyProof.Rows
/-! ### dicts with such keys, of whole numbers -/
structure KW (κ : Type) [DecidableEq κ] where
  knd : (prog : Program) → (w : World) → HeapKind prog w κ
  at' : PySem.W.Frag → Hp → κ → Addr → Prop
  ok : ∀ {X : Cx} {pins : List (Addr × Obj)} {σ : St} {H : Hp} {s : Shared} {k : κ} {a : Addr}, Inv X pins σ H s → at' X.K H k a → (knd X.prog X.w).is s.heap k a
  map : ∀ {K : PySem.W.Frag} {H H' : Hp} {k : κ} {a : Addr}, (∀ b xs, SqT K H b xs → SqT K H' b xs) → at' K H k a → at' K H' k a
  room : ∀ {prog : Program} {w : World} {A : Around}, A.units + 3 < cLine → (knd prog w).room A.in1
  room' : ∀ {prog : Program} {w : World} {A : Around}, A.units + 3 < cLine → (knd prog w).room A
def DXe {P : Program} {w : World} {κ : Type} [DecidableEq κ] (knd : HeapKind P w κ) (xs : List (κ × Addr × Value)) (ep : Nat) (d : Addr) (h : Heap) : Prop :=
  (d == sysModules) = false ∧ ∃ o es, h.get? d = some o ∧ o.ExactDict ∧ o.data = .dict es ep ∧ es.toList = xs.map (entryOfKey knd) ∧ (xs.map (·.1)).Nodup
def DictE {κ : Type} [DecidableEq κ] (W : KW κ) (P : Program) (w : World) (K : PySem.W.Frag) (H : Hp) (d : Addr) (ep : Nat) (kvs : List (κ × Int)) : Prop :=
  ∃ xs, H d = some (.ext (DXe (W.knd P w) xs ep d)) ∧ Paired (fun (p : κ × Int) (q : κ × Addr × Value) => p.1 = q.1 ∧ (∃ t, q.2.2 = Value.int p.2 t) ∧ W.at' K H p.1 q.2.1) kvs xs
def DictI {κ : Type} [DecidableEq κ] (W : KW κ) (P : Program) (w : World) (K : PySem.W.Frag) (H : Hp) (d : Addr) (kvs : List (κ × Int)) : Prop := ∃ ep, DictE W P w K H d ep kvs
section
variable {κ : Type} [DecidableEq κ] {W : KW κ} {P : Program} {w : World} {K : PySem.W.Frag} {H H' : Hp} {d : Addr} {ep : Nat} {kvs : List (κ × Int)}
theorem DictE.mono (e : Same H H') (h : DictE W P w K H d ep kvs) : DictE W P w K H' d ep kvs := by
  obtain ⟨xs, h1, h2⟩ := h
  exact ⟨xs, e _ _ h1, Paired.mapP h2 fun _ _ ⟨a, b, c⟩ => ⟨a, b, W.map (fun _ _ q => e.tup q) c⟩⟩
theorem DictI.mono (e : Same H H') (h : DictI W P w K H d kvs) : DictI W P w K H' d kvs := by
  obtain ⟨ep, h⟩ := h
  exact ⟨ep, h.mono e⟩
theorem xtup_over {p a : Addr} {φ : Heap → Prop} {o : HO} {xs : List V} (h : SqT K H a xs) (hp : H p = some (.ext φ)) : SqT K (upd H p o) a xs := by
  rcases h with (h | ⟨u, h⟩) | h
  · exact .inl (.inl (by rw [upd_ne (fun z => by rw [z, hp] at h; cases h)]; exact h))
  · exact .inl (.inr ⟨u, by rw [upd_ne (fun z => by rw [z, hp] at h; cases h)]; exact h⟩)
  · exact .inr h
/-- another dict is changed -/
theorem DictE.overX {p : Addr} {φ : Heap → Prop} {o : HO} (h : DictE W P w K H d ep kvs) (hp : H p = some (.ext φ)) (hne : d ≠ p) : DictE W P w K (upd H p o) d ep kvs := by
  obtain ⟨xs, h1, h2⟩ := h
  exact ⟨xs, by rw [upd_ne hne]; exact h1, Paired.mapP h2 fun _ _ ⟨a, b, c⟩ => ⟨a, b, W.map (fun _ _ q => xtup_over q hp) c⟩⟩
theorem DXe.frame {knd : HeapKind P w κ} {xs : List (κ × Addr × Value)} {h1 h2 : Heap} (h : DXe knd xs ep d h1) (k : ∀ o, h1.get? d = some o → h2.get? d = some o) : DXe knd xs ep d h2 := by
  obtain ⟨a, o, es, b, c⟩ := h
  exact ⟨a, o, es, k o b, c⟩
theorem objOk_x {knd : HeapKind P w κ} {xs : List (κ × Addr × Value)} {h : Heap} (hx : DXe knd xs ep d h) : ObjOk P w H h d (.ext (DXe knd xs ep d)) :=
  ⟨hx, let ⟨_, o, _, b, _⟩ := hx; ⟨o, b⟩, fun _ _ a b => a.frame b⟩
end
section
variable {κ : Type} [DecidableEq κ] {W : KW κ} {X : Cx} {pins : List (Addr × Obj)} {σ : St} {H : Hp} {s : Shared} {d : Addr} {ep : Nat} {kvs : List (κ × Int)} {A : Around} {E : Value → Shared → Prop}
theorem Inv.dx (I : Inv X pins σ H s) (h : DictE W X.prog X.w X.K H d ep kvs) : ∃ xs, DXe (W.knd X.prog X.w) xs ep d s.heap ∧ s.heap.DictOfH (W.knd X.prog X.w) d xs ∧ Paired (fun (p : κ × Int) (q : κ × Addr × Value) => p.1 = q.1 ∧ (∃ t, q.2.2 = Value.int p.2 t) ∧ W.at' X.K H p.1 q.2.1) kvs xs := by
  obtain ⟨xs, h1, h2⟩ := h
  obtain ⟨hx, _, _⟩ := I.hok d _ h1
  obtain ⟨h3, o, es, a, b, c, e, f⟩ := id hx
  refine ⟨xs, hx, ⟨o, es, ep, a, b, c, e, fun q hq => ?_, f⟩, h2⟩
  obtain ⟨i, hi, eq⟩ := List.mem_iff_getElem.mp hq
  obtain ⟨p, hp, e1, _, e3⟩ := Paired.get h2 (List.getElem?_eq_getElem hi)
  rw [eq] at e1 e3
  rw [← e1]
  exact W.ok I e3
theorem paired_find {xs : List (κ × Addr × Value)} {K : PySem.W.Frag} {H : Hp} (k : κ) : ∀ {kvs : List (κ × Int)}, Paired (fun (p : κ × Int) (q : κ × Addr × Value) => p.1 = q.1 ∧ (∃ t, q.2.2 = Value.int p.2 t) ∧ W.at' K H p.1 q.2.1) kvs xs → (kvs.lookup k = none ∧ atKey xs k = none) ∨ ∃ n a t, kvs.lookup k = some n ∧ atKey xs k = some (a, Value.int n t) := by
  induction xs with
  | nil =>
    intro kvs h
    cases h
    exact .inl ⟨rfl, rfl⟩
  | cons q xs ih =>
    intro kvs h
    cases h with
    | @cons p _ ps _ hp hr =>
      obtain ⟨e1, ⟨t, e2⟩, _⟩ := hp
      obtain ⟨pk, pn⟩ := p
      obtain ⟨qk, qa, qv⟩ := q
      dsimp only at e1 e2
      subst e1 e2
      by_cases e : pk = k
      · subst e
        refine .inr ⟨pn, qa, t, ?_, ?_⟩
        · simp [List.lookup]
        · simp [atKey]
      · have h1 : ((pk, pn) :: ps).lookup k = ps.lookup k := by
          rw [List.lookup_cons, show (k == pk) = false from beq_false_of_ne (Ne.symm e)]
        have h2 : atKey ((pk, qa, Value.int pn t) :: xs) k = atKey xs k := by
          unfold atKey
          rw [List.find?_cons_of_neg (by simpa using e)]
        rw [h1, h2]
        exact ih hr
/-- d.get(key, n) -/
def tXGet (W : KW κ) (P : Program) (w : World) (K : PySem.W.Frag) (td ty tx : TE) : TE := fun σ H Q => td σ H fun x H1 => ∃ (d : Addr), x = .ref d ∧ (∃ kvs, DictI W P w K H1 d kvs) ∧ ty σ H1 fun y H2 => tx σ H2 fun z H3 => ∃ (a : Addr) (k : κ) (n : Int) (kvs : List (κ × Int)), y = .ref a ∧ z = .int n ∧ DictI W P w K H3 d kvs ∧ W.at' K H3 k a ∧ Q (.int ((kvs.lookup k).getD n)) H3
theorem pe_xget {P : Program} {w : World} {K : PySem.W.Frag} {o e f : Expr} {apos cpos : Pos} {td ty tx : TE} {j : Nat} (hP : X.prog = P) (hw : X.w = w) (hK : X.K = K) (hr : Room j X.A) (ho : PE X o td) (he : PE X e ty) (hf : PE X f tx) (hbase : attributeBase o "get" X.env (eval o X.env) = eval o X.env := by rfl)
    (hfew : ((backTo cpos (starEach [e, f] X.env)).all (fun x => !x.1) && (backToKw cpos (keywordEach [] X.env)).all (fun x => x.1.isSome) && decide (([e, f] : List Expr).length + ([] : List Keyword).length + (if ([] : List Keyword).isEmpty then 0 else 1) < 30)) = true := by rfl)
    (hline : (apos.endLine == cpos.line) = true := by rfl) (htrees : backTo cpos (starEach [e, f] X.env) = [(false, eval e X.env), (false, eval f X.env)] := by rfl) : PE X (.Call (.Attribute o "get" apos) [e, f] [] cpos) (tXGet W P w K td ty tx) := by
  subst hP hw hK
  intro pins s σ H Q I h
  refine wpAny_Call_method hbase hfew hline PySem.F.plainAttrs_dict PySem.F.slot_dict_get PySem.F.type_dict_get (thn (ho pins s σ H _ I h) fun u s1 ⟨x, H1, I1, rx, d, ex, ⟨kvs1, ep1, dd1⟩, q1⟩ => ?_)
  subst ex
  obtain rfl : u = Value.ref d := rx
  obtain ⟨xs1, ⟨hsys, o1, es1, g1, g2, _⟩, hd1, _⟩ := I1.dx dd1
  refine ⟨hd1.typeIs, fun b z => ?_, ?_⟩
  · cases z
    exact ⟨o1, g1, g2.2.1⟩
  rw [htrees]
  refine Calls.callWith_builtin rfl (Calls.evalArgs_plain (Calls.spliced_cons (thn (he pins s1 σ H1 _ I1 q1) fun iv s2 ⟨y, H2, I2, ry, q2⟩ => Calls.spliced_cons (thn (hf pins s2 σ H2 _ I2 q2) fun fv s3 ⟨z, H3, I3, rz, a, k, n, kvs, ey, ez, ⟨ep3, dd3⟩, hk, q3⟩ => Calls.spliced_nil ?_))))
  subst ey ez
  cases (show iv = Value.ref a from ry)
  obtain ⟨tn, rfl⟩ := rz
  obtain ⟨xs, ⟨hsys3, _⟩, hd3, rel⟩ := I3.dx dd3
  refine call_meetsIn PySem.F.slot_dict_get hd3.typeIs PySem.F.entry_dict_get (PySem.F.args_dict_get_3 _ _ _) (meetsH_dict_get_default (W.knd X.prog X.w) d a hsys3 (.int n tn)) ⟨W.room (by have := hr.units; omega), k, xs, W.ok I3 hk, hd3, ?_⟩
  refine ⟨_, H3, I3.tok _, ?_, q3⟩
  rcases paired_find k rel with ⟨e1, e2⟩ | ⟨m, b, t, e1, e2⟩
  · rw [e1, e2]; exact ⟨_, rfl⟩
  · rw [e1, e2]; exact ⟨_, rfl⟩
def putD (kvs : List (κ × Int)) (k : κ) (n : Int) : List (κ × Int) := if (kvs.lookup k).isSome = true then kvs.map (fun p => if p.1 = k then (p.1, n) else p) else kvs ++ [(k, n)]
theorem paired_put {K : PySem.W.Frag} {H H' : Hp} {xs : List (κ × Addr × Value)} {kvs : List (κ × Int)} {k : κ} {a : Addr} {n : Int} {t : Tok} (rel : Paired (fun (p : κ × Int) (q : κ × Addr × Value) => p.1 = q.1 ∧ (∃ t, q.2.2 = Value.int p.2 t) ∧ W.at' K H p.1 q.2.1) kvs xs)
    (up : ∀ (k' : κ) (b : Addr), W.at' K H k' b → W.at' K H' k' b) (hk : W.at' K H k a) : Paired (fun (p : κ × Int) (q : κ × Addr × Value) => p.1 = q.1 ∧ (∃ t, q.2.2 = Value.int p.2 t) ∧ W.at' K H' p.1 q.2.1) (putD kvs k n) (storedH xs k a (.int n t)) := by
  unfold putD
  rcases paired_find k rel with ⟨e1, e2⟩ | ⟨m, b, t', e1, e2⟩
  · rw [e1, storedH_new e2]
    exact Paired.app (Paired.mapP rel fun _ _ ⟨x1, x2, x3⟩ => ⟨x1, x2, up _ _ x3⟩) (.cons ⟨rfl, ⟨t, rfl⟩, up _ _ hk⟩ .nil)
  · rw [e1, storedH_old e2]
    show Paired _ (kvs.map fun p => if p.1 = k then (p.1, n) else p) (xs.map (putAt k (.int n t)))
    clear e1 e2
    induction rel with
    | nil => exact .nil
    | @cons p q ps qs h _ ih =>
      obtain ⟨x1, x2, x3⟩ := h
      refine .cons ?_ ih
      unfold putAt
      dsimp only
      by_cases e : p.1 = k
      · rw [if_pos e, if_pos (x1 ▸ e)]
        exact ⟨x1, ⟨t, rfl⟩, up _ _ x3⟩
      · rw [if_neg e, if_neg (fun z => e (x1.trans z))]
        exact ⟨x1, x2, up _ _ x3⟩
/-- d[key] = n -/
def rSetX (W : KW κ) (P : Program) (w : World) (K : PySem.W.Frag) : V → V → V → Hp → (Hp → Prop) → Prop := fun o i v H Q => ∃ (d a : Addr) (k : κ) (n : Int) (kvs : List (κ × Int)), o = .ref d ∧ i = .ref a ∧ v = .int n ∧ DictI W P w K H d kvs ∧ W.at' K H k a ∧ kvs.length ≤ 1000000 ∧
  ∀ H', (∃ φ φ', H d = some (.ext φ) ∧ H' = upd H d (.ext φ')) → DictI W P w K H' d (putD kvs k n) → Q H'
theorem set_x {P : Program} {w : World} {K : PySem.W.Frag} {j : Nat} (hP : X.prog = P) (hw : X.w = w) (hK : X.K = K) (hr : Room j X.A) : PSet X (rSetX W P w K) := by
  subst hP hw hK
  intro pins s σ H o i v ov iv u Q I ro ri rv h
  obtain ⟨d, a, k, n, kvs, rfl, rfl, rfl, ⟨ep, dd⟩, hk, hl, q⟩ := h
  cases ro
  cases ri
  obtain ⟨t, rfl⟩ := rv
  obtain ⟨xs, ⟨hsys, o1, es1, g1, g2, g3, _⟩, hd, rel⟩ := I.dx dd
  have hxl := Paired.len rel
  refine wpAny_setItem_heap (W.room (by have := hr.units; omega)) (W.ok I hk) hd (fun h' hd' sb => ?_) (Nat.le_trans (show xs.length ≤ 1000000 by omega) (by decide))
  obtain ⟨o2, es2, ep2, a1, a2, a3, a4, a5, a6⟩ := hd'
  obtain ⟨xs0, h1, h2⟩ := dd
  have nx : DXe (W.knd X.prog X.w) (storedH xs k a (.int n t)) ep2 d h' := ⟨hsys, o2, es2, a1, a2, a3, a4, a6⟩
  have I2 := I.write (t' := s.toks + (W.knd X.prog X.w).draws k) (x := d) (e := d) (o := .ext (DXe (W.knd X.prog X.w) (storedH xs k a (.int n t)) ep2 d)) (by rw [h1]; trivial) (.inl rfl) (fun b ob hb qq => (sb.2 b hb).trans qq) ⟨o2, a1⟩ (objOk_x nx)
  refine ⟨_, I2, q _ ⟨_, _, h1, rfl⟩ ⟨ep2, storedH xs k a (.int n t), upd_same, ?_⟩⟩
  have up : ∀ (k' : κ) (b : Addr), W.at' X.K H k' b → W.at' X.K (upd H d (.ext (DXe (W.knd X.prog X.w) (storedH xs k a (.int n t)) ep2 d))) k' b := fun k' b hb => W.map (fun _ _ qq => xtup_over qq h1) hb
  generalize upd H d (.ext (DXe (W.knd X.prog X.w) (storedH xs k a (.int n t)) ep2 d)) = Hn at up
  exact paired_put rel up hk
end
end L2
namespace L2
open PySem PySem.Spec PyProof.Rows
section
variable {κ : Type} [DecidableEq κ] {W : KW κ} {X : Cx}
theorem Inv.bigS {pins : List (Addr × Obj)} {σ : St} {H : Hp} {s : Shared} (I : Inv X pins σ H s) : sysModules < s.heap.objs.size := Nat.lt_trans (by decide) ((I.mod.glob.keeps I.bk).lt)
theorem dxe_new {P : Program} {w : World} (knd : HeapKind P w κ) (h : Heap) (hb : sysModules < h.objs.size) : DXe knd [] 0 h.objs.size (h.push { cls := .type "dict", data := .dict #[] }) :=
  ⟨beq_eq_false_iff_ne.mpr (Ne.symm (Nat.ne_of_lt hb)), _, #[], Heap.get?_push_size _ rfl, ⟨rfl, rfl, rfl⟩, rfl, rfl, List.nodup_nil⟩
/-- {} -/
def tXNew (W : KW κ) (P : Program) (w : World) (K : PySem.W.Frag) : TE := fun _ H Q => ∀ d H', H d = none → (∃ φ, H' = upd H d (.ext φ)) → DictI W P w K H' d [] → Q (.ref d) H'
theorem pe_xnew {P : Program} {w : World} {K : PySem.W.Frag} {pos : Pos} (hP : X.prog = P) (hw : X.w = w) (hK : X.K = K) : PE X (.Dict [] [] pos) (tXNew W P w K) := by
  subst hP hw hK
  exact fun pins s σ H Q I h => wpAny_Dict_empty ⟨.ref s.heap.objs.size, _, I.laid (a := s.heap.objs.size) (o := .ext (DXe (W.knd X.prog X.w) [] 0 s.heap.objs.size)) (t' := s.toks) (fun _ _ q => Heap.get?_push_of_some _ q) (Nat.le_refl _) (objOk_x (dxe_new _ s.heap I.bigS)), rfl,
    h _ _ (I.hok.fresh (Nat.le_refl _)) ⟨_, rfl⟩ ⟨0, [], upd_same, .nil⟩⟩
/-- {key: n} -/
def tXNew1 (W : KW κ) (P : Program) (w : World) (K : PySem.W.Frag) (tk tv : TE) : TE := fun σ H Q => ∀ d H1, H d = none → (∃ φ, H1 = upd H d (.ext φ)) → DictI W P w K H1 d [] → tk σ H1 fun x H2 => tv σ H2 fun y H3 => ∃ (a : Addr) (k : κ) (n : Int), x = .ref a ∧ y = .int n ∧ W.at' K H3 k a ∧ DictI W P w K H3 d [] ∧
  ∀ H', (∃ φ φ', H3 d = some (.ext φ) ∧ H' = upd H3 d (.ext φ')) → DictI W P w K H' d [(k, n)] → Q (.ref d) H'
theorem pe_xnew1 {P : Program} {w : World} {K : PySem.W.Frag} {j : Nat} {ke ve : Expr} {pos : Pos} {tk tv : TE} (hP : X.prog = P) (hw : X.w = w) (hK : X.K = K) (hr : Room j X.A) (hk : PE X ke tk) (hv : PE X ve tv) : PE X (.Dict [some ke] [ve] pos) (tXNew1 W P w K tk tv) := by
  subst hP hw hK
  intro pins s σ H Q I h
  have I1 := I.laid (a := s.heap.objs.size) (o := .ext (DXe (W.knd X.prog X.w) [] 0 s.heap.objs.size)) (t' := s.toks) (h' := s.heap.push { cls := .type "dict", data := .dict #[] }) (fun _ _ q => Heap.get?_push_of_some _ q) (Nat.le_refl _) (objOk_x (dxe_new _ s.heap I.bigS))
  have q0 := h s.heap.objs.size _ (I.hok.fresh (Nat.le_refl _)) ⟨_, rfl⟩ ⟨0, [], upd_same, .nil⟩
  refine wpAny_Dict_any rfl rfl (by simp) (by show 1 ≤ 15; decide) ?_
  refine pairTrees_cons_walk (thn (hk pins _ σ _ _ I1 q0) fun u s1 ⟨x, H2, I2, rx, q2⟩ => thn (hv pins s1 σ H2 _ I2 q2) fun v s2 ⟨y, H3, I3, ry, a, k, n, ex, ey, ha, ⟨ep, dd⟩, q3⟩ => pairTrees_nil_walk ?_)
  subst ex ey
  cases (show u = Value.ref a from rx)
  obtain ⟨t, rfl⟩ := ry
  obtain ⟨xs, ⟨hsys, _⟩, hd, rel⟩ := I3.dx dd
  cases rel
  unfold storeAll
  rw [List.forIn_cons]
  refine wpAny_bind (wpAny_bind (wpAny_dictSet_heap (hsz := Nat.zero_le _) (W.room' (by have := hr.units; omega)) (W.ok I3 ha) hd fun h' hd' sb => wpAny_pure ?_))
  dsimp only
  rw [List.forIn_nil]
  refine wpAny_pure ?_
  obtain ⟨o2, es2, ep2, a1, a2, a3, a4, a5, a6⟩ := hd'
  obtain ⟨xs0, h1, h2⟩ := dd
  have nx : DXe (W.knd X.prog X.w) (storedH [] k a (.int n t)) ep2 s.heap.objs.size h' := ⟨hsys, o2, es2, a1, a2, a3, a4, a6⟩
  have I4 := I3.write (t' := s2.toks + (W.knd X.prog X.w).draws k) (x := s.heap.objs.size) (e := s.heap.objs.size) (o := .ext (DXe (W.knd X.prog X.w) (storedH [] k a (.int n t)) ep2 s.heap.objs.size)) (by rw [h1]; trivial) (.inl rfl) (fun b ob hb qq => (sb.2 b hb).trans qq) ⟨o2, a1⟩ (objOk_x nx)
  refine ⟨.ref s.heap.objs.size, _, I4, rfl, q3 _ ⟨_, _, h1, rfl⟩ ⟨ep2, storedH [] k a (.int n t), upd_same, ?_⟩⟩
  exact .cons ⟨rfl, ⟨t, rfl⟩, W.map (fun _ _ qq => xtup_over qq h1) ha⟩ .nil
end
end L2
namespace L2
open PySem PySem.Spec PyProof.Rows
/-! ### a dict's pairs, one by one -/
def RawD (h : Heap) (d : Addr) (es : Array DictEntry) (ep : Nat) : Prop := ∃ o, h.get? d = some o ∧ o.ExactDict ∧ o.data = .dict es ep
section
variable {prog : Program} {w : World} {A : Around} {E : Value → Shared → Prop} {s : Shared}
theorem RawD.ty {d : Addr} {es : Array DictEntry} {ep : Nat} (r : RawD s.heap d es ep) : s.TypeIs (.ref d) "dict" := let ⟨o, a, b, _⟩ := r; ⟨o, a, b.1⟩
theorem meets_itemsR (d : Addr) (hs : (d == sysModules) = false) : MeetsIn prog w (Builtin.«dict.items» ⟨[.ref d], []⟩) (fun _ R s => (∃ es ep, RawD s.heap d es ep) ∧ R (.ok (.ret (.ref s.heap.objs.size))) { s with heap := s.heap.push { cls := .type "dict_items", data := .fields #[.ref d] } }) :=
  .of_wp fun A R s ⟨⟨es, ep, r⟩, h⟩ => by
    unfold Builtin.«dict.items» Builtin.Dict.noArgs Builtin.Dict.showsAll
    refine wpAny_bind (wpAny_bind (wpAny_notOrdered_dict r.ty (wpAny_pure ?_)))
    rw [if_neg (by rw [hs]; exact Bool.false_ne_true)]
    exact wpAny_bind (wpAny_pure (wpAny_bind (wpAny_newObj_type (wpAny_pure ⟨_, rfl, h⟩))))
theorem iter_itemsR {v d : Addr} {es : Array DictEntry} {ep : Nat} {Q : Value → Shared → Prop} (hv : s.heap.IsItemsView v d) (r : RawD s.heap d es ep)
    (hQ : Q (.ref s.heap.objs.size) { s with heap := s.heap.push { cls := .type "dict_itemiterator", data := .fields #[.none, .bool false, .ref d, .int 0 0, .int es.size 0, .int ep 0, .none, .none] } }) : wpAny (model prog w) A (pyIter (.ref v)) Q E s := by
  obtain ⟨ov, k1, k2, k3⟩ := id hv
  obtain ⟨o, r1, r2, r3⟩ := id r
  refine wpAny_pyIter_slot hv.typeIs F.slot_dict_items_iter (wpAny_call_entry F.slot_dict_items_iter hv.typeIs F.entry_dict_items_iter ?_ (F.args_dict_items_iter_1 _))
  unfold Builtin.«dict_items.__iter__» Builtin.Dict_items.dictOf Builtin.Dict_items.newIterator
  refine wpAny_bind (wpAny_pure (wpAny_bind (wpAny_bind (wpAny_field k1 k3 (x := .ref d) rfl (wpAny_pure ?_)))))
  refine wpAny_bind (wpAny_bind (wpAny_dictEntries r1 r3 (wpAny_bind (wpAny_dictEpoch r1 r3 ?_))))
  have hown : Builtin.Dict_items.ownsTuple "dict_itemiterator" = true := by decide
  simp only [hown, if_true]
  refine wpAny_newObj_type (wpAny_pure ⟨_, rfl, "dict_itemiterator", _, ⟨_, Heap.get?_push_size _ rfl, rfl⟩, F.slot_dict_itemiterator_next.lookup, ?_⟩) (by simp only [sizeOk, Builtin.Dict_items.ownedTupleFields, List.size_toArray, List.length_append, List.length_cons, List.length_nil, sizeLine_eq]; omega)
  simpa [rawInt, Builtin.Dict_items.ownedTupleFields] using hQ
theorem next_itemsR {it d : Addr} {i ep : Nat} {es : Array DictEntry} {ok ov : Value} {Q : Option Value → Shared → Prop} (hit : IsItemIter s.heap it d i es.size ep ok ov) (r : RawD s.heap d es ep) (hlt : i < es.size)
    (hQ : ∀ h', IsItemIterOut h' it d (i + 1) es.size ep es[i].key es[i].val s.heap.objs.size → h'.get? s.heap.objs.size = some { cls := .type "tuple", data := .seq #[es[i].key, es[i].val] } → h'.objs.size = s.heap.objs.size + 1 →
      (∀ b o, b ≠ it → s.heap.get? b = some o → h'.get? b = some o) → Q (some (.ref s.heap.objs.size)) { s with heap := h' }) : wpAny (model prog w) A (pyNext (.ref it)) Q E s := by
  obtain ⟨hp, g, dr, tk, os⟩ := s
  obtain ⟨o, r1, r2, r3⟩ := id r
  have ht : Shared.TypeIs ⟨hp, g, dr, tk, os⟩ (.ref it) "dict_itemiterator" := ⟨_, hit, rfl⟩
  unfold pyNext
  refine wpAny_bind (wpAny_attempt (wpAny_callSpecial?_slot (name := Str.ofString "__next__") ht F.slot_dict_itemiterator_next (wpAny_call_entry F.slot_dict_itemiterator_next ht F.entry_dict_itemiterator_next ?_ (F.args_dict_itemiterator_next_1 _))))
  refine wpAny_bind (wpAny_pure (wpAny_bind (wpAny_bind ?_)))
  first | refine wpAny_bind (wpAny_typeNameOfWhole_itemiter ht (wpAny_pure ?_)) | refine wpAny_bind (wpAny_typeNameOf_itemiter ht (wpAny_pure ?_))
  refine wpAny_bind (wpAny_fieldsOf hit rfl ?_)
  have hown : Builtin.Dict_items.ownsTuple "dict_itemiterator" = true := by decide
  simp only [hown, if_true]
  show wpAny _ _ (if (Value.ref d == Value.none) = true then _ else _) _ _ _
  rw [if_neg (show ¬ ((Value.ref d == Value.none) = true) from Bool.false_ne_true)]
  refine wpAny_bind (wpAny_pure (wpAny_bind (wpAny_dictEntries r1 r3 ?_)))
  rw [if_neg (by simp)]
  refine wpAny_bind (wpAny_pure (wpAny_bind (wpAny_dictEpoch r1 r3 ?_)))
  rw [if_neg (by simp)]
  refine wpAny_pure ?_
  simp only [show ¬ ((i : Int) < 0) from by omega, if_false, Int.toNat_natCast, Array.getElem?_eq_getElem hlt]
  refine wpAny_bind ?_
  first | refine wpAny_bind (wpAny_typeNameOfWhole_itemiter ht (wpAny_pure ?_)) | refine wpAny_bind (wpAny_typeNameOf_itemiter ht (wpAny_pure ?_))
  refine wpAny_bind (wpAny_isOneOf_itemiter ht ?_)
  show wpAny _ _ (setField (.ref it) 3 (rawInt ((i : Int) + 1)) >>= _) _ _ ⟨hp, g, dr, tk, os⟩
  refine wpAny_bind (wpAny_setField_rec hit (by simp) fun h1 e1 s1 => ?_)
  replace s1 : Heap.SameBut it hp h1 := s1
  replace e1 : IsItemIter h1 it d (i + 1) es.size ep ok ov := by
    have e : ((i + 1 : Nat) : Int) = (i : Int) + 1 := by omega
    unfold IsItemIter; rw [e]; simpa [rawInt] using e1
  have ht1 : Shared.TypeIs ⟨h1, g, dr, tk, os⟩ (.ref it) "dict_itemiterator" := ⟨_, e1, rfl⟩
  refine wpAny_bind (wpAny_holding (wpAny_bind (wpAny_isOneOf_itemiter ht1 (wpAny_bind (wpAny_isOneOf_itemiter ht1 ?_)))))
  show wpAny _ _ (Builtin.Dict_items.pairFromOwner (.ref it) 6 es[i].key es[i].val) _ _ ⟨h1, g, dr, tk, os⟩
  generalize es[i].key = ky at *
  generalize es[i].val = vl at *
  unfold Builtin.Dict_items.pairFromOwner Builtin.Dict_items.ownedTupleIsFree
  refine wpAny_bind (wpAny_newTuple ?_)
  have e2 : IsItemIter (h1.push { cls := .type "tuple", data := .seq #[ky, vl] }) it d (i + 1) es.size ep ok ov := Heap.get?_push_of_some _ e1
  have z1 : h1.objs.size = hp.objs.size := s1.1
  have t2 : (h1.push { cls := .type "tuple", data := .seq #[ky, vl] }).get? hp.objs.size = some { cls := .type "tuple", data := .seq #[ky, vl] } := by rw [← z1]; exact Heap.get?_push_size _ rfl
  have z2 : (h1.push { cls := .type "tuple", data := .seq #[ky, vl] }).objs.size = hp.objs.size + 1 := by rw [Heap.size_push, z1]
  have k2 : ∀ b o, b ≠ it → hp.get? b = some o → (h1.push { cls := .type "tuple", data := .seq #[ky, vl] }).get? b = some o := fun b o hb e => Heap.get?_push_of_some _ (s1.extBut b o hb e)
  have il : it ≠ hp.objs.size := Nat.ne_of_lt (Heap.lt_size hit)
  show wpAny _ _ _ _ _ ⟨h1.push { cls := .type "tuple", data := .seq #[ky, vl] }, g, dr, tk, os⟩
  rw [z1]
  generalize h1.push { cls := .type "tuple", data := .seq #[ky, vl] } = h2 at e2 t2 z2 k2
  clear e1 s1 ht1 z1
  refine wpAny_bind (wpAny_bind (wpAny_field e2 rfl (x := .none) rfl (wpAny_pure ?_)))
  simp only [if_true]
  refine wpAny_bind (wpAny_field e2 rfl (x := ok) rfl (wpAny_bind (wpAny_field e2 rfl (x := ov) rfl ?_)))
  refine wpAny_bind (wpAny_setField_rec e2 (by simp) fun h3 e3 s3 => ?_)
  replace s3 : Heap.SameBut it h2 h3 := s3
  replace e3 : IsItemIter h3 it d (i + 1) es.size ep ky ov := e3
  refine wpAny_bind (wpAny_setField_rec e3 (by simp) fun h4 e4 s4 => ?_)
  replace s4 : Heap.SameBut it h3 h4 := s4
  replace e4 : IsItemIter h4 it d (i + 1) es.size ep ky vl := e4
  refine wpAny_bind (wpAny_setField_rec e4 (by simp) fun h5 e5 s5 => ?_)
  replace s5 : Heap.SameBut it h4 h5 := s5
  replace e5 : IsItemIterOut h5 it d (i + 1) es.size ep ky vl hp.objs.size := e5
  refine wpAny_bind (wpAny_setField_rec e5 (by simp) fun h6 e6 s6 => ?_)
  replace s6 : Heap.SameBut it h5 h6 := s6
  replace e6 : IsItemIterOut h6 it d (i + 1) es.size ep ky vl hp.objs.size := e6
  have kk : ∀ b o, b ≠ it → h2.get? b = some o → h6.get? b = some o := fun b o hb e => s6.extBut b o hb (s5.extBut b o hb (s4.extBut b o hb (s3.extBut b o hb e)))
  refine wpAny_bind (wpAny_letGo (wpAny_pure (wpAny_pure ⟨_, rfl, wpAny_pure (hQ h6 e6 (kk _ _ (Ne.symm il) t2) ?_ fun b o hb e => kk b o hb (k2 b o hb e))⟩)))
  show h6.objs.size = hp.objs.size + 1
  rw [s6.1, s5.1, s4.1, s3.1, z2]
theorem end_itemsR {it d : Addr} {i ep : Nat} {es : Array DictEntry} {ok ov : Value} {Q : Option Value → Shared → Prop} (hh : A.handled = none) (hit : IsItemIter s.heap it d i es.size ep ok ov) (r : RawD s.heap d es ep) (hge : es.size ≤ i)
    (hQ : ∀ h', Heap.ExtBut it s.heap h' → Q none { s with heap := h' }) : wpAny (model prog w) A (pyNext (.ref it)) Q E s := by
  obtain ⟨o, r1, r2, r3⟩ := id r
  have ht : s.TypeIs (.ref it) "dict_itemiterator" := ⟨_, hit, rfl⟩
  unfold pyNext
  refine wpAny_bind (wpAny_attempt (wpAny_callSpecial?_slot (name := Str.ofString "__next__") ht F.slot_dict_itemiterator_next (wpAny_call_entry F.slot_dict_itemiterator_next ht F.entry_dict_itemiterator_next ?_ (F.args_dict_itemiterator_next_1 _))))
  refine wpAny_bind (wpAny_pure (wpAny_bind (wpAny_bind ?_)))
  first | refine wpAny_bind (wpAny_typeNameOfWhole_itemiter ht (wpAny_pure ?_)) | refine wpAny_bind (wpAny_typeNameOf_itemiter ht (wpAny_pure ?_))
  refine wpAny_bind (wpAny_fieldsOf hit rfl ?_)
  have hown : Builtin.Dict_items.ownsTuple "dict_itemiterator" = true := by decide
  simp only [hown, if_true]
  show wpAny _ _ (if (Value.ref d == Value.none) = true then _ else _) _ _ s
  rw [if_neg (show ¬ ((Value.ref d == Value.none) = true) from Bool.false_ne_true)]
  refine wpAny_bind (wpAny_pure (wpAny_bind (wpAny_dictEntries r1 r3 ?_)))
  rw [if_neg (by simp)]
  refine wpAny_bind (wpAny_pure (wpAny_bind (wpAny_dictEpoch r1 r3 ?_)))
  rw [if_neg (by simp)]
  refine wpAny_pure ?_
  simp only [show ¬ ((i : Int) < 0) from by omega, if_false, Int.toNat_natCast, Array.getElem?_eq_none hge]
  refine wpAny_bind ?_
  first | refine wpAny_bind (wpAny_typeNameOfWhole_itemiter ht (wpAny_pure ?_)) | refine wpAny_bind (wpAny_typeNameOf_itemiter ht (wpAny_pure ?_))
  show wpAny _ _ (setField (.ref it) 2 .none >>= _) _ _ s
  refine wpAny_bind (wpAny_setField hit rfl (by simp) ?_)
  show wpAny _ _ (newExc (.type "StopIteration") [] >>= _) _ _ _
  refine wpAny_bind ?_
  simp only [newExc, newTuple]
  refine wpAny_bind (wpAny_newObj_type ?_ (by size_fits))
  refine wpAny_bind (m := firstArgMember _ _) (wpAny_of_eq (a := Value.none) (by first | rfl | (simp only [firstArgMember]; rfl)) ?_)
  refine wpAny_newObj_type ?_ (by size_fits)
  simp only [raiseNew]
  refine wpAny_bind (wpAny_handled ?_)
  rw [show A.in1.handled = none from hh]
  refine wpAny_bind (wpAny_pure (wpAny_throw ?_))
  refine wpAny_bind (wpAny_isInstance (T := "StopIteration") (b := true) ⟨_, Heap.get?_push_size _ rfl, rfl⟩ isSubtype_stop ?_)
  exact wpAny_pure (hQ _ (((Heap.SameBut.update ..).extBut.push _).push _))
end
end L2
namespace L2
open PySem PySem.Spec PyProof.Rows
section
variable {κ : Type} [DecidableEq κ]
def Itm (W : KW κ) (P : Program) (w : World) (K : PySem.W.Frag) (d : Addr) (ep n : Nat) : It :=
  ⟨fun i H => ∃ kvs k m, DictE W P w K H d ep kvs ∧ kvs.length = n ∧ kvs[i]? = some (k, m),
   fun i H v H' => ∃ a k m t, (∀ kvs, DictE W P w K H d ep kvs → kvs[i]? = some (k, m)) ∧ W.at' K H k a ∧ v = .ref t ∧ H t = none ∧ H' = upd H t (.tup [.ref a, .int m]),
   fun i H => ∃ kvs, DictE W P w K H d ep kvs ∧ kvs.length = n ∧ n ≤ i⟩
theorem Inv.dx_inj {W : KW κ} {X : Cx} {pins : List (Addr × Obj)} {σ : St} {H : Hp} {s : Shared} {d : Addr} {ep : Nat} {kvs kvs' : List (κ × Int)} (I : Inv X pins σ H s) (h : DictE W X.prog X.w X.K H d ep kvs) (h' : DictE W X.prog X.w X.K H d ep kvs') : kvs = kvs' := by
  obtain ⟨xs, ⟨_, o, es, a1, a2, a3, a4, _⟩, hd, rel⟩ := I.dx h
  obtain ⟨xs', ⟨_, o', es', b1, b2, b3, b4, _⟩, hd', rel'⟩ := I.dx h'
  rw [a1] at b1
  cases b1
  rw [a3] at b3
  injection b3 with e1 _
  subst e1
  rw [a4] at b4
  have l1 := Paired.len rel
  have l2 := Paired.len rel'
  have l3 := congrArg List.length b4
  rw [List.length_map, List.length_map] at l3
  refine List.ext_getElem (by omega) fun i h1 h2 => ?_
  obtain ⟨q, hq, r1, ⟨t1, r2⟩, r3⟩ := Paired.get' (i := i) rel (List.getElem?_eq_getElem h1)
  obtain ⟨q', hq', r1', ⟨t1', r2'⟩, r3'⟩ := Paired.get' (i := i) rel' (List.getElem?_eq_getElem h2)
  have e := congrArg (fun l : List DictEntry => l[i]?) b4
  simp only [List.getElem?_map, hq, hq', Option.map_some] at e
  have e := Option.some.inj e
  unfold entryOfKey at e
  injection e with _ e2 e3
  injection e2 with e2
  have k1 := W.ok I r3
  have k2 := W.ok I r3'
  rw [e2] at k1
  have ek := (W.knd X.prog X.w).inj k1 k2
  rw [r2, r2'] at e3
  injection e3 with e4 _
  exact Prod.ext ek e4
theorem entry_items_self : entryFor table "dict_itemiterator.__iter__" = some Builtin.«dict_keyiterator.__iter__» := entryFor_alias (id' := "dict_keyiterator.__iter__") rfl rfl (by decide +kernel) rfl
theorem iter_selfR {P : Program} {w : World} {A : Around} {E : Value → Shared → Prop} {s : Shared} {it d : Addr} {i n ep : Nat} {ok ov : Value} {Q : Value → Shared → Prop} (hit : IsItemIter s.heap it d i n ep ok ov) (h : Q (.ref it) s) : wpAny (model P w) A (pyIter (.ref it)) Q E s := by
  have ht : s.TypeIs (.ref it) "dict_itemiterator" := ⟨_, hit, rfl⟩
  refine wpAny_pyIter_slot ht F.slot_dict_itemiterator_iter (wpAny_call_entry F.slot_dict_itemiterator_iter ht entry_items_self ?_ (F.args_dict_itemiterator_iter_1 _))
  exact wpAny_bind (wpAny_pure (wpAny_pure ⟨_, rfl, "dict_itemiterator", _, ht, F.slot_dict_itemiterator_next.lookup, h⟩))
theorem turn_items {W : KW κ} {P : Program} {w : World} {K : PySem.W.Frag} {elts : List Expr} {x1 : Nat} {pos : Pos} (d it : Addr) (ep n : Nat) : Turn P w K (.Tuple elts x1 pos) (Itm W P w K d ep n) [it] it (fun i h => ∃ ok ov, IsItemIter h it d i n ep ok ov) where
  mem := by simp
  obj := fun i h st b hb => by
    obtain ⟨ok, ov, q⟩ := st
    rw [List.mem_singleton.mp hb]
    exact ⟨_, q, fun v z => by cases z⟩
  keep := fun i h h' st k => by
    obtain ⟨ok, ov, q⟩ := st
    exact ⟨ok, ov, k it (by simp) _ q⟩
  item := by
    intro X hP hw hK hc i pins s σ H E I hf st hg
    subst hP hw hK
    obtain ⟨kvs, k, m, dd, hln, hk⟩ := hg
    obtain ⟨xs, ⟨_, o, es, a1, a2, a3, a4, _⟩, hd, rel⟩ := I.dx dd
    obtain ⟨ok, ov, hit⟩ := st
    have hes : es.size = n := by
      have := congrArg List.length a4
      have := Paired.len rel
      simp at *
      omega
    subst hes
    have hi : i < es.size := by have := (List.getElem?_eq_some_iff.mp hk).1; omega
    obtain ⟨q, hq, r1, ⟨t1, r2⟩, r3⟩ := Paired.get' rel hk
    have ee : es[i] = entryOfKey (W.knd X.prog X.w) q := by
      have e := congrArg (fun l : List DictEntry => l[i]?) a4
      simp only [List.getElem?_map, hq, Option.map_some, Array.getElem?_toList, Array.getElem?_eq_getElem hi] at e
      exact Option.some.inj e
    refine next_itemsR hit ⟨o, a1, a2, a3⟩ hi fun h' so ht hsz kk => ?_
    rw [ee] at so ht
    obtain ⟨qk, qa, qv⟩ := q
    dsimp only at r1 r2 r3
    subst r1 r2
    dsimp only [entryOfKey] at so ht
    have li : it ≠ s.heap.objs.size := Nat.ne_of_lt (Heap.lt_size hit)
    have hn : H s.heap.objs.size = none := I.hok.fresh (Nat.le_refl _)
    have I0 : Inv X pins σ (upd H s.heap.objs.size (.tup [.ref qa, .int m])) { s with heap := s.heap.push { cls := .type "tuple", data := .seq #[.ref qa, .int m t1] }, toks := s.toks } :=
      I.laid (t' := s.toks) (fun b o q => Heap.get?_push_of_some _ q) (Nat.le_refl _) ⟨by show 2 ≤ sizeLine; decide, [.ref qa, .int m t1], .cons rfl (.cons ⟨_, rfl⟩ .nil), ⟨_, Heap.get?_push_size _ rfl, rfl, _, rfl⟩⟩
    have hf' : ∀ b ∈ [it], FpOk X pins (upd H s.heap.objs.size (.tup [.ref qa, .int m])) b := fun b hb => by
      have q := hf b hb
      refine ⟨?_, q.2⟩
      rw [upd_ne (by rw [List.mem_singleton.mp hb]; exact li)]
      exact q.1
    have I1 : Inv X pins σ (upd H s.heap.objs.size (.tup [.ref qa, .int m])) { s with heap := h', toks := s.toks } :=
      Inv.turnedL (s := { s with heap := s.heap.push { cls := .type "tuple", data := .seq #[.ref qa, .int m t1] }, toks := s.toks }) I0 (fp := [it]) (t' := s.toks) (fun b o hb q => by
        rcases get?_push_cases q rfl with q | ⟨rfl, rfl⟩
        · exact kk b o (fun z => hb (by simp [z])) q
        · exact ht) hf'
    refine ⟨_, rfl, wpAny_letOwnedTupleGo_items (s := { s with heap := h' }) so fun h2 se sb => ?_⟩
    have I2 : Inv X pins σ (upd H s.heap.objs.size (.tup [.ref qa, .int m])) { s with heap := h2, toks := s.toks } :=
      Inv.turnedL (s := { s with heap := h', toks := s.toks }) I1 (fp := [it]) (t' := s.toks) (fun b o hb q => (sb.2 b (fun z => hb (by simp [z]))).trans q) hf'
    exact ⟨.ref s.heap.objs.size, _, I2, rfl, ⟨qa, k, m, _, fun kvs' h => by rw [I.dx_inj h dd]; exact hk, r3, rfl, hn, rfl⟩, ⟨_, _, se⟩, fun b hb => (hf' b hb).1⟩
  done := by
    intro X hP hw hK hc i pins s σ H E I hf st hg
    subst hP hw hK
    obtain ⟨kvs, dd, hln, hge⟩ := hg
    obtain ⟨xs, ⟨_, o, es, a1, a2, a3, a4, _⟩, hd, rel⟩ := I.dx dd
    obtain ⟨ok, ov, hit⟩ := st
    have hes : es.size = n := by
      have := congrArg List.length a4
      have := Paired.len rel
      simp at *
      omega
    subst hes
    exact end_itemsR (I.ok.hd hc) hit ⟨o, a1, a2, a3⟩ hge fun h' eb => ⟨rfl, I.turnedL (fp := [it]) (t' := s.toks) (fun b o hb q => eb b o (fun z => hb (by simp [z])) q) hf⟩
  self := fun _ _ _ _ _ st h => by
    obtain ⟨ok, ov, hit⟩ := st
    exact iter_selfR hit h
/-- for k, v in d.items() -/
def iItems (W : KW κ) (P : Program) (w : World) (K : PySem.W.Frag) (td : TE) : TI := fun σ H R => td σ H fun x H1 => ∃ (d : Addr) (ep : Nat) (kvs : List (κ × Int)), x = .ref d ∧ DictE W P w K H1 d ep kvs ∧ R (Itm W P w K d ep kvs.length) H1
theorem pi_items {W : KW κ} {X : Cx} {P : Program} {w : World} {K : PySem.W.Frag} {elts : List Expr} {x1 : Nat} {tpos apos cpos : Pos} {o : Expr} {td : TE} (hP : X.prog = P) (hw : X.w = w) (hK : X.K = K) (ho : PE X o td) (hbase : attributeBase o "items" X.env (eval o X.env) = eval o X.env := by rfl) (hline : (apos.endLine == cpos.line) = true := by rfl) :
    PI X (.Tuple elts x1 tpos) (.Call (.Attribute o "items" apos) [] [] cpos) (iItems W P w K td) := by
  subst hP hw hK
  intro pins s σ H R I h
  refine wpAny_Call_method0_late hbase hline (thn (ho pins s σ H _ I h) fun v s1 ⟨x, H1, I1, r1, d, ep, kvs, ex, dd, q⟩ => ?_)
  subst ex
  obtain rfl : v = Value.ref d := r1
  obtain ⟨xs, ⟨hsys, od, es, a1, a2, a3, a4, _⟩, hd, rel⟩ := I1.dx dd
  have hes : es.size = kvs.length := by
    have := congrArg List.length a4
    have := Paired.len rel
    simp at *
    omega
  refine ⟨"dict", _, PySem.F.plainAttrs_dict, PySem.F.slot_dict_items, PySem.F.type_dict_items, hd.typeIs, fun b z => by cases z; exact ⟨od, a1, a2.2.1⟩, Calls.callWith_builtin rfl (PySem.evalArgs_none ?_)⟩
  refine call_meetsIn PySem.F.slot_dict_items hd.typeIs PySem.F.entry_dict_items (PySem.F.args_dict_items_1 _) (meets_itemsR d hsys) ⟨⟨es, ep, od, a1, a2, a3⟩, ?_⟩
  have up : ∀ b o, s1.heap.get? b = some o → (s1.heap.push { cls := .type "dict_items", data := .fields #[.ref d] }).get? b = some o := fun b o z => Heap.get?_push_of_some _ z
  have I2 : Inv X pins σ H1 { s1 with heap := s1.heap.push { cls := .type "dict_items", data := .fields #[.ref d] } } := I1.kept (t' := s1.toks) up
  refine iter_itemsR (s := { s1 with heap := s1.heap.push { cls := .type "dict_items", data := .fields #[.ref d] } }) ⟨_, Heap.get?_push_size _ rfl, rfl, rfl⟩ ⟨od, up _ _ a1, a2, a3⟩ ?_
  rw [hes]
  have I3 := I2.kept (t' := s1.toks) (h' := (s1.heap.push { cls := .type "dict_items", data := .fields #[.ref d] }).push { cls := .type "dict_itemiterator", data := .fields #[.none, .bool false, .ref d, .int 0 0, .int kvs.length 0, .int ep 0, .none, .none] }) fun b o z => Heap.get?_push_of_some _ z
  refine ⟨_, [(s1.heap.push { cls := .type "dict_items", data := .fields #[.ref d] }).objs.size], _, _, H1, rfl, I3, turn_items d _ ep kvs.length, ⟨_, _, Heap.get?_push_size _ rfl⟩, fun b hb => ?_, q⟩
  rw [List.mem_singleton.mp hb]
  exact I2.fpOk (Nat.le_refl _) (I2.hok.fresh (Nat.le_refl _))
theorem for_items {W : KW κ} {P : Program} {w : World} {K : PySem.W.Frag} {d : Addr} {ep : Nat} {kvs : List (κ × Int)} {g : TG} {tb : TS} {D : Ends} {σ : St} {H : Hp} (Pv : Nat → St → Hp → Prop) (h0 : Pv 0 σ H) (hl : ∀ i σ H, i ≤ kvs.length → Pv i σ H → DictE W P w K H d ep kvs)
    (hs : ∀ i k m a σ H t, kvs[i]? = some (k, m) → W.at' K H k a → H t = none → Pv i σ H → g (.ref t) σ (upd H t (.tup [.ref a, .int m])) fun σ2 H2 => tb { D with nx := Pv (i + 1), ct := Pv (i + 1), bk := D.nx } σ2 H2) (hd : ∀ σ H, Pv kvs.length σ H → D.nx σ H) :
    ∃ Wv : Nat → Nat → St → Hp → Prop, (∃ m, Wv 0 m σ H) ∧ ∀ i m σ H, Wv i m σ H → ((Itm W P w K d ep kvs.length).stop i H ∧ D.nx σ H) ∨
      ((Itm W P w K d ep kvs.length).go i H ∧ ∃ N : St → Hp → Prop, (∀ σ' H', N σ' H' → ∃ m', m' < m ∧ Wv (i + 1) m' σ' H') ∧ ∀ x H', (Itm W P w K d ep kvs.length).yld i H x H' → g x σ H' fun σ2 H2 => tb { D with nx := N, ct := N, bk := D.nx } σ2 H2) := by
  refine ⟨fun i m σ H => m = kvs.length - i ∧ i ≤ kvs.length ∧ Pv i σ H, ⟨kvs.length, by simp, Nat.zero_le _, h0⟩, ?_⟩
  rintro i m σ H ⟨rfl, hi, p⟩
  have q := hl i σ H hi p
  by_cases hlt : i < kvs.length
  · refine .inr ⟨⟨kvs, _, _, q, rfl, List.getElem?_eq_getElem hlt⟩, Pv (i + 1), fun σ' H' p' => ⟨kvs.length - (i + 1), by omega, rfl, hlt, p'⟩, fun x H' y => ?_⟩
    obtain ⟨a, k, m, t, h1, h2, rfl, h3, rfl⟩ := y
    exact hs i k m a σ H t (h1 kvs q) h2 h3 p
  · have e : i = kvs.length := by omega
    subst e
    exact .inl ⟨⟨kvs, q, rfl, Nat.le_refl _⟩, hd σ H p⟩
end
/-- keys: tuples of whole numbers -/
def keyR : KW (List Int) where
  knd := fun prog w => tupleKind (intKind prog w)
  at' := fun K H k a => SqT K H a (k.map V.int)
  ok := fun {X pins σ H s k a} I h => by
    obtain ⟨b, e, hb⟩ := I.tupV (v := .ref a) (u := .ref a) ⟨a, rfl, h⟩ rfl
    cases e
    exact hb
  map := fun f h => f _ _ h
  room := fun h => by show _ + 1 < cLine; omega
  room' := fun h => by show _ < cLine; omega
/-- keys: pairs of such tuples -/
def keyP : KW PKey where
  knd := pairKind
  at' := fun K H k a => ∃ x y, SqT K H a [.ref x, .ref y] ∧ SqT K H x (k.1.map V.int) ∧ SqT K H y (k.2.map V.int)
  ok := fun {X pins σ H s k a} I h => by
    obtain ⟨x, y, h1, h2, h3⟩ := h
    obtain ⟨b1, e1, k1⟩ := I.tupV (v := .ref x) (u := .ref x) ⟨x, rfl, h2⟩ rfl
    obtain ⟨b2, e2, k2⟩ := I.tupV (v := .ref y) (u := .ref y) ⟨y, rfl, h3⟩ rfl
    cases e1
    cases e2
    obtain ⟨its, rs, ⟨o, q1, q2, n, q3⟩, _⟩ := I.tuple h1
    cases rs with
    | cons r1 rs =>
      cases rs with
      | cons r2 rs =>
        cases rs
        cases r1
        cases r2
        exact ⟨o, n, x, y, q1, q2, q3, k1, k2⟩
  map := fun f h => by
    obtain ⟨x, y, h1, h2, h3⟩ := h
    exact ⟨x, y, f _ _ h1, f _ _ h2, f _ _ h3⟩
  room := fun h => by show _ + 1 + 2 < cLine; omega
  room' := fun h => by show _ + 2 < cLine; omega
end L2

namespace TM
open LM LN
/-! ### rising lists -/
def Srt (l : List Int) : Prop := l.Pairwise (· ≤ ·)
theorem srt_uniq : ∀ {l m : List Int}, l.Perm m → Srt l → Srt m → l = m
  | [], m, h, _, _ => (List.nil_perm.mp h).symm
  | a :: l, [], h, _, _ => by have := h.length_eq; simp at this
  | a :: l, b :: m, h, h1, h2 => by
    have e : a = b := by
      have ha := List.mem_cons.mp (h.mem_iff.mp (List.mem_cons_self (a := a)))
      have hb := List.mem_cons.mp (h.mem_iff.mpr (List.mem_cons_self (a := b)))
      obtain ⟨h1a, _⟩ := List.pairwise_cons.mp h1
      obtain ⟨h2a, _⟩ := List.pairwise_cons.mp h2
      rcases ha with z | z
      · exact z
      · rcases hb with y | y
        · exact y.symm
        · have := h1a b y
          have := h2a a z
          omega
    subst e
    rw [srt_uniq (List.perm_cons a |>.mp h) (List.pairwise_cons.mp h1).2 (List.pairwise_cons.mp h2).2]
def insI (x : Int) : List Int → List Int
  | [] => [x]
  | a :: l => if x ≤ a then x :: a :: l else a :: insI x l
def srt : List Int → List Int
  | [] => []
  | a :: l => insI a (srt l)
theorem insI_perm (x : Int) : ∀ l, (insI x l).Perm (x :: l)
  | [] => List.Perm.refl _
  | a :: l => by
    unfold insI
    split
    · exact List.Perm.refl _
    · exact ((insI_perm x l).cons a).trans (List.Perm.swap x a l)
theorem insI_srt (x : Int) : ∀ {l}, Srt l → Srt (insI x l)
  | [], _ => List.pairwise_cons.mpr ⟨(fun _ h => nomatch h), List.Pairwise.nil⟩
  | a :: l, h => by
    unfold insI
    obtain ⟨h1, h2⟩ := List.pairwise_cons.mp h
    split
    · rename_i c
      exact List.pairwise_cons.mpr ⟨fun b hb => by
        rcases List.mem_cons.mp hb with z | z
        · omega
        · have := h1 b z; omega, h⟩
    · rename_i c
      refine List.pairwise_cons.mpr ⟨fun b hb => ?_, insI_srt x h2⟩
      rcases List.mem_cons.mp ((insI_perm x l).mem_iff.mp hb) with z | z
      · omega
      · exact h1 b z
theorem srt_perm : ∀ l, (srt l).Perm l
  | [] => List.Perm.refl _
  | a :: l => (insI_perm a (srt l)).trans ((srt_perm l).cons a)
theorem srt_srt : ∀ l, Srt (srt l)
  | [] => List.Pairwise.nil
  | a :: l => insI_srt a (srt_srt l)
theorem srt_eq {l m : List Int} (h : m.Perm l) (hs : Srt m) : m = srt l := srt_uniq (h.trans (srt_perm l).symm) hs (srt_srt l)
theorem srt_snoc (l : List Int) (x : Int) : srt (srt l ++ [x]) = srt (l ++ [x]) := srt_eq ((srt_perm _).trans ((srt_perm l).append_right [x])) (srt_srt _)
theorem mem_srt {l : List Int} {x : Int} : x ∈ srt l ↔ x ∈ l := (srt_perm l).mem_iff
/-! ### all beginnings -/
def freeP (n : Nat) (π : List Int) : List Int := (rng n).filter fun p => !decide (p ∈ π)
def exts (n : Nat) (π : List Int) : List (List Int) := (freeP n π).map fun p => π ++ [p]
def pre (n : Nat) : Nat → List (List Int)
  | 0 => [[]]
  | k + 1 => (pre n k).flatMap (exts n)
structure PreOk (n k : Nat) (π : List Int) : Prop where
  len : π.length = k
  nd : π.Nodup
  bd : ∀ p ∈ π, 0 ≤ p ∧ p < n
theorem pre_ok {n : Nat} : ∀ {k : Nat} {π : List Int}, π ∈ pre n k → PreOk n k π
  | 0, π, h => by
    rw [List.mem_singleton.mp h]
    exact ⟨rfl, List.nodup_nil, fun _ h => nomatch h⟩
  | k + 1, π, h => by
    obtain ⟨ρ, h1, h2⟩ := List.mem_flatMap.mp h
    obtain ⟨p, h3, rfl⟩ := List.mem_map.mp h2
    obtain ⟨h4, h5⟩ := List.mem_filter.mp h3
    have I := pre_ok h1
    have h6 : p ∉ ρ := by simpa using h5
    refine ⟨by rw [List.length_append, I.len]; rfl, List.nodup_append.mpr ⟨I.nd, by simp, fun x hx y hy z => h6 (by rw [List.mem_singleton.mp hy] at z; rw [← z]; exact hx)⟩, fun q hq => ?_⟩
    rcases List.mem_append.mp hq with z | z
    · exact I.bd q z
    · rw [List.mem_singleton.mp z]; exact mem_rng.mp h4
theorem free_len {n k : Nat} {π : List Int} (h : PreOk n k π) : (freeP n π).length + k = n := by
  have key : ∀ (l m : List Int), l.Nodup → m.Nodup → (∀ x ∈ m, x ∈ l) → (l.filter fun p => !decide (p ∈ m)).length + m.length = l.length := by
    intro l m hl hm hs
    have hp : (l.filter fun p => decide (p ∈ m)).Perm m := by
      refine (List.perm_ext_iff_of_nodup (hl.filter _) hm).mpr fun x => ?_
      rw [List.mem_filter]
      exact ⟨fun z => of_decide_eq_true z.2, fun z => ⟨hs x z, decide_eq_true z⟩⟩
    have h1 := List.length_eq_countP_add_countP (p := fun p => decide (p ∈ m)) (l := l)
    rw [List.countP_eq_length_filter, List.countP_eq_length_filter, hp.length_eq] at h1
    have e : (l.filter fun a => decide (¬ decide (a ∈ m) = true)) = l.filter fun p => !decide (p ∈ m) := List.filter_congr fun x _ => by by_cases z : x ∈ m <;> simp [z]
    rw [e] at h1
    omega
  have := key (rng n) π (rng_nodup n) h.nd fun x hx => mem_rng.mpr (h.bd x hx)
  rw [rng_len, h.len] at this
  exact this
def smL {α : Type} (l : List α) (f : α → Int) : Int := (l.map f).sum
theorem smL_nil {α : Type} (f : α → Int) : smL [] f = 0 := rfl
theorem smL_cons {α : Type} (a : α) (l : List α) (f : α → Int) : smL (a :: l) f = f a + smL l f := by unfold smL; simp
theorem smL_app {α : Type} (l m : List α) (f : α → Int) : smL (l ++ m) f = smL l f + smL m f := by unfold smL; simp
theorem smL_congr {α : Type} {l : List α} {f g : α → Int} (h : ∀ x ∈ l, f x = g x) : smL l f = smL l g := by unfold smL; rw [List.map_congr_left h]
theorem smL_flat {α β : Type} (g : α → List β) (f : β → Int) : ∀ l : List α, smL (l.flatMap g) f = smL l fun x => smL (g x) f
  | [] => rfl
  | a :: l => by rw [List.flatMap_cons, smL_app, smL_cons, smL_flat g f l]
theorem smL_map {α β : Type} (g : α → β) (f : β → Int) (l : List α) : smL (l.map g) f = smL l fun x => f (g x) := by unfold smL; rw [List.map_map]; rfl
theorem smL_add {α : Type} (f g : α → Int) : ∀ l : List α, smL l (fun x => f x + g x) = smL l f + smL l g
  | [] => rfl
  | a :: l => by rw [smL_cons, smL_cons, smL_cons, smL_add f g l]; omega
theorem smL_mul {α : Type} (c : Int) (f : α → Int) : ∀ l : List α, smL l (fun x => c * f x) = c * smL l f
  | [] => by show (0 : Int) = c * 0; rw [Int.mul_zero]
  | a :: l => by rw [smL_cons, smL_cons, smL_mul c f l, Int.mul_add]
theorem smL_const {α : Type} (c : Int) : ∀ l : List α, smL l (fun _ => c) = c * l.length
  | [] => by show (0 : Int) = c * 0; rw [Int.mul_zero]
  | a :: l => by rw [smL_cons, smL_const c l, List.length_cons]; push_cast; rw [Int.mul_add, Int.mul_one, Int.add_comm]
theorem smL_zero {α : Type} (l : List α) : smL l (fun _ => 0) = 0 := by rw [smL_const, Int.zero_mul]
theorem smL_swap {α β : Type} (f : α → β → Int) (m : List β) : ∀ l : List α, smL l (fun x => smL m (f x)) = smL m fun y => smL l fun x => f x y
  | [] => (smL_zero m).symm
  | a :: l => by rw [smL_cons, smL_swap f m l, ← smL_add]; exact smL_congr fun y _ => (smL_cons a l fun x => f x y).symm
/-! each beginning goes on in so many ways -/
def fct : Nat → Int
  | 0 => 1
  | k + 1 => fct k * ((k : Int) + 1)
theorem sum_take {n : Nat} (g : List Int → Int) {j : Nat} : ∀ d, j + d ≤ n → fct (n - (j + d)) * smL (pre n (j + d)) (fun o => g (o.take j)) = fct (n - j) * smL (pre n j) fun o => g (o.take j)
  | 0, _ => rfl
  | d + 1, h => by
    have ih := sum_take (n := n) g (j := j) d (by omega)
    rw [← ih]
    have e : smL (pre n (j + (d + 1))) (fun o => g (o.take j)) = ((n - (j + d) : Nat) : Int) * smL (pre n (j + d)) fun o => g (o.take j) := by
      show smL ((pre n (j + d)).flatMap (exts n)) _ = _
      rw [smL_flat, ← smL_mul]
      refine smL_congr fun π hπ => ?_
      have I := pre_ok hπ
      have hl := free_len I
      unfold exts
      rw [smL_map, smL_congr (g := fun _ => g (π.take j)) fun p _ => by rw [List.take_append_of_le_length (by rw [I.len]; omega)], smL_const, Int.mul_comm, show ((freeP n π).length : Int) = ((n - (j + d) : Nat) : Int) by omega]
    rw [e, ← Int.mul_assoc]
    congr 1
    obtain ⟨m, hm⟩ : ∃ m, n - (j + d) = m + 1 := ⟨n - (j + d) - 1, by omega⟩
    rw [hm, show n - (j + (d + 1)) = m by omega]
    show fct m * ((m + 1 : Nat) : Int) = fct m * ((m : Int) + 1)
    push_cast
    rfl
theorem sum_pre {n : Nat} (g : List Int → Int) {j : Nat} (hj : j ≤ n) : smL (pre n n) (fun o => g (o.take j)) = fct (n - j) * smL (pre n j) g := by
  have := sum_take (n := n) g (j := j) (n - j) (by omega)
  rw [show j + (n - j) = n by omega, Nat.sub_self] at this
  rw [show fct 0 = 1 from rfl, Int.one_mul] at this
  rw [this, smL_congr (g := g) fun o ho => by rw [List.take_of_length_le (by rw [(pre_ok ho).len]; exact Nat.le_refl _)]]
theorem pre_len (n : Nat) : ((pre n n).length : Int) = fct n := by
  have := sum_pre (n := n) (fun _ => 1) (j := 0) (Nat.zero_le _)
  rw [smL_const, smL_const] at this
  rw [Int.one_mul, Nat.sub_zero] at this
  rw [this]
  show fct n * (1 * (([[]] : List (List Int)).length : Int)) = fct n
  simp
end TM

namespace L2
open PySem PySem.Spec PyProof.Rows
open TM
/-! ### the table by turns: counts over all orders -/
theorem bestF_congr {w ts us : List Int} (h : ∀ t, t ∈ ts ↔ t ∈ us) : bestF w ts = bestF w us := by
  unfold bestF leftIn
  rw [List.filter_congr (q := fun t => !decide (t ∈ us)) fun t _ => by simp only [decide_eq_decide.mpr (h t)]]
theorem tk_take (W : List (List Int)) (o : List Int) {j : Nat} : ∀ k, k ≤ j → tk W (o.take j) k = tk W o k
  | 0, _ => rfl
  | k + 1, h => by
    show tk W (o.take j) k ++ [_] = tk W o k ++ [_]
    rw [tk_take W o k (by omega), show (o.take j).getD k 0 = o.getD k 0 by rw [List.getD_eq_getElem?_getD, List.getD_eq_getElem?_getD, List.getElem?_take_of_lt (by omega)]]
theorem bt_take (W : List (List Int)) (o : List Int) {j k : Nat} (h : k < j) : bt W (o.take j) k = bt W o k := by
  unfold bt
  rw [tk_take W o k (by omega), show (o.take j).getD k 0 = o.getD k 0 by rw [List.getD_eq_getElem?_getD, List.getD_eq_getElem?_getD, List.getElem?_take_of_lt h]]
/-- what has been taken behind a beginning -/
def tkA (W : List (List Int)) (π : List Int) : List Int := tk W π π.length
def bestP (W : List (List Int)) (p : Int) (ts : List Int) : Int := bestF (W.getD p.toNat []) ts
theorem tkA_snoc (W : List (List Int)) (π : List Int) (p : Int) : tkA W (π ++ [p]) = tkA W π ++ [bestP W p (tkA W π)] := by
  unfold tkA bestP
  rw [List.length_append, show π.length + ([p] : List Int).length = π.length + 1 from rfl]
  have e : tk W (π ++ [p]) π.length = tk W π π.length := by
    have := tk_take W (π ++ [p]) (j := π.length) π.length (Nat.le_refl _)
    rw [List.take_append_of_le_length (Nat.le_refl _), List.take_length] at this
    exact this.symm
  show tk W (π ++ [p]) π.length ++ [bestF (W.getD ((π ++ [p]).getD π.length 0).toNat []) (tk W (π ++ [p]) π.length)] = _
  rw [e, show (π ++ [p]).getD π.length 0 = p by rw [List.getD_eq_getElem?_getD, List.getElem?_append_right (Nat.le_refl _), Nat.sub_self]; rfl]
def keyOf (W : List (List Int)) (π : List Int) : PKey := (srt π, srt (tkA W π))
def turnsK (n : Nat) (W : List (List Int)) (k : PKey) : List (Int × Int) := (freeP n k.1).map fun p => (p, bestP W p k.2)
def nextK (k : PKey) (pt : Int × Int) : PKey := (srt (k.1 ++ [pt.1]), srt (k.2 ++ [pt.2]))
theorem turnsK_key (n : Nat) (W : List (List Int)) (π : List Int) : turnsK n W (keyOf W π) = (freeP n π).map fun p => (p, bestP W p (tkA W π)) := by
  unfold turnsK keyOf freeP
  rw [List.filter_congr (q := fun p => !decide (p ∈ π)) fun p _ => by simp only [decide_eq_decide.mpr (mem_srt (l := π) (x := p))]]
  exact List.map_congr_left fun p _ => by unfold bestP; rw [bestF_congr fun t => mem_srt]
theorem nextK_key (W : List (List Int)) (π : List Int) (p : Int) : nextK (keyOf W π) (p, bestP W p (tkA W π)) = keyOf W (π ++ [p]) := by
  unfold nextK keyOf
  rw [srt_snoc, srt_snoc, tkA_snoc]
/-! ### dicts as sums -/
section
variable {κ : Type} [DecidableEq κ]
def wsum (F : κ → Int) (kvs : List (κ × Int)) : Int := smL kvs fun p => p.2 * F p.1
def KN (kvs : List (κ × Int)) : Prop := (kvs.map Prod.fst).Nodup
theorem lookup_none {k : κ} : ∀ {kvs : List (κ × Int)}, kvs.lookup k = none ↔ k ∉ kvs.map Prod.fst
  | [] => by simp [List.lookup]
  | (a, m) :: kvs => by
    rw [List.lookup_cons]
    by_cases e : k = a
    · subst e; simp
    · rw [show (k == a) = false from beq_false_of_ne e]
      show kvs.lookup k = none ↔ _
      rw [lookup_none, List.map_cons, List.mem_cons]
      simp [e]
theorem put_new {kvs : List (κ × Int)} {k : κ} (h : kvs.lookup k = none) (x : Int) : putD kvs k x = kvs ++ [(k, x)] := by unfold putD; rw [h]; rfl
theorem put_old {kvs : List (κ × Int)} {k : κ} {m : Int} (h : kvs.lookup k = some m) (x : Int) : putD kvs k x = kvs.map fun p => if p.1 = k then (p.1, x) else p := by unfold putD; rw [h]; rfl
theorem put_kn {kvs : List (κ × Int)} (h : KN kvs) (k : κ) (x : Int) : KN (putD kvs k x) := by
  cases e : kvs.lookup k with
  | none =>
    rw [put_new e]
    unfold KN
    rw [List.map_append]
    exact List.nodup_append.mpr ⟨h, by simp, fun a ha b hb z => lookup_none.mp e (by have hb' : b = k := List.mem_singleton.mp hb; rw [← hb', ← z]; exact ha)⟩
  | some m =>
    rw [put_old e]
    unfold KN
    rw [List.map_map, show (Prod.fst ∘ fun p : κ × Int => if p.1 = k then (p.1, x) else p) = Prod.fst from funext fun p => by show (if p.1 = k then (p.1, x) else p).1 = p.1; split <;> rfl]
    exact h
theorem put_len (kvs : List (κ × Int)) (k : κ) (x : Int) : (putD kvs k x).length ≤ kvs.length + 1 := by
  unfold putD
  split
  · rw [List.length_map]; omega
  · rw [List.length_append]; exact Nat.le_refl _
theorem wsum_old (F : κ → Int) {k : κ} {m x : Int} : ∀ {kvs : List (κ × Int)}, KN kvs → kvs.lookup k = some m → wsum F (kvs.map fun p => if p.1 = k then (p.1, x) else p) = wsum F kvs + (x - m) * F k
  | [], _, h => by simp [List.lookup] at h
  | (a, y) :: kvs, hn, h => by
    have hn' := List.nodup_cons.mp (show ((a :: kvs.map Prod.fst) : List κ).Nodup from hn)
    rw [List.lookup_cons] at h
    unfold wsum
    rw [List.map_cons, smL_cons, smL_cons]
    by_cases e : k = a
    · subst e
      rw [beq_self_eq_true] at h
      have h : y = m := Option.some.inj h
      subst h
      have same : kvs.map (fun p : κ × Int => if p.1 = k then (p.1, x) else p) = kvs := by
        have : ∀ p ∈ kvs, (if p.1 = k then (p.1, x) else p) = p := fun p hp => if_neg (show ¬ p.1 = k from fun z => hn'.1 (z ▸ List.mem_map.mpr ⟨p, hp, rfl⟩))
        rw [List.map_congr_left this]
        simp
      rw [same]
      show (if k = k then (k, x) else (k, y)).2 * F (if k = k then (k, x) else (k, y)).1 + _ = _
      rw [if_pos rfl]
      show x * F k + _ = y * F k + _ + _
      rw [Int.sub_mul]
      omega
    · rw [show (k == a) = false from beq_false_of_ne e] at h
      have ih := wsum_old F (x := x) hn'.2 h
      unfold wsum at ih
      rw [ih]
      show (if a = k then (a, x) else (a, y)).2 * F (if a = k then (a, x) else (a, y)).1 + _ = _
      rw [if_neg (Ne.symm e)]
      omega
/-- d[k] = d.get(k, 0) + x -/
def addD (kvs : List (κ × Int)) (k : κ) (x : Int) : List (κ × Int) := putD kvs k ((kvs.lookup k).getD 0 + x)
theorem wsum_add (F : κ → Int) {kvs : List (κ × Int)} (h : KN kvs) (k : κ) (x : Int) : wsum F (addD kvs k x) = wsum F kvs + x * F k := by
  unfold addD
  cases e : kvs.lookup k with
  | none =>
    rw [put_new e]
    unfold wsum
    rw [smL_app, smL_cons, smL_nil]
    show _ + ((0 + x) * F k + 0) = _
    rw [Int.zero_add]
    omega
  | some m =>
    rw [put_old e, wsum_old F h e]
    show wsum F kvs + (m + x - m) * F k = _
    rw [show m + x - m = x by omega]
theorem wsum_at {kvs : List (κ × Int)} (h : KN kvs) (k : κ) : (kvs.lookup k).getD 0 = wsum (fun a => if a = k then 1 else 0) kvs := by
  induction kvs with
  | nil => rfl
  | cons p kvs ih =>
    obtain ⟨a, m⟩ := p
    have hn' := List.nodup_cons.mp (show ((a :: kvs.map Prod.fst) : List κ).Nodup from h)
    unfold wsum at ih ⊢
    rw [smL_cons, List.lookup_cons]
    by_cases e : k = a
    · subst e
      rw [beq_self_eq_true]
      have z : smL kvs (fun p => p.2 * if p.1 = k then 1 else 0) = 0 := (smL_congr (g := fun _ => 0) fun p hp => by rw [if_neg (show ¬ p.1 = k from fun z => hn'.1 (z ▸ List.mem_map.mpr ⟨p, hp, rfl⟩)), Int.mul_zero]).trans (smL_zero _)
      rw [z]
      show m = m * (if k = k then 1 else 0) + 0
      rw [if_pos rfl]
      omega
    · rw [show (k == a) = false from beq_false_of_ne e]
      show (kvs.lookup k).getD 0 = m * (if a = k then 1 else 0) + _
      rw [if_neg (Ne.symm e), ih hn'.2]
      omega
end
/-! ### the two countings agree -/
def ind (p t : Int) (q u : Int) : Int := if q = p ∧ u = t then 1 else 0
/-- what the counting by beginnings comes to -/
def cnt42 (n : Nat) (W : List (List Int)) (F : List Int → Int) : Nat → Int
  | 0 => 0
  | k + 1 => cnt42 n W F k + fct (n - (k + 1)) * smL (pre n k) fun π => smL (freeP n π) fun p => F [p, bestP W p (tkA W π)]
/-- what the counting by whole orders comes to -/
def cntO (W : List (List Int)) (n : Nat) (o : List Int) (p t : Int) : Int := HM.sm n fun j => ind p t (o.getD j 0) (bt W o j)
theorem smL_sm {α : Type} (f : α → Nat → Int) (l : List α) : ∀ n, smL l (fun x => HM.sm n (f x)) = HM.sm n fun j => smL l fun x => f x j
  | 0 => smL_zero l
  | n + 1 => by
    show smL l (fun x => HM.sm n (f x) + f x n) = HM.sm n _ + _
    rw [smL_add, smL_sm f l n]
theorem cnt_agree {n : Nat} (W : List (List Int)) (p t : Int) : ∀ k, k ≤ n → cnt42 n W (fun l => ind p t (l.getD 0 0) (l.getD 1 0)) k = HM.sm k fun j => smL (pre n n) fun o => ind p t (o.getD j 0) (bt W o j)
  | 0, _ => rfl
  | k + 1, hk => by
    show cnt42 n W _ k + _ = HM.sm k _ + _
    rw [cnt_agree W p t k (by omega)]
    congr 1
    have e : smL (pre n n) (fun o => ind p t (o.getD k 0) (bt W o k)) = smL (pre n n) fun o => (fun o => ind p t (o.getD k 0) (bt W o k)) (o.take (k + 1)) := smL_congr fun o _ => by
      show _ = ind p t ((o.take (k + 1)).getD k 0) (bt W (o.take (k + 1)) k)
      rw [bt_take W o (Nat.lt_succ_self k), show (o.take (k + 1)).getD k 0 = o.getD k 0 by rw [List.getD_eq_getElem?_getD, List.getD_eq_getElem?_getD, List.getElem?_take_of_lt (Nat.lt_succ_self k)]]
    show _ = smL (pre n n) fun o => ind p t (o.getD k 0) (bt W o k)
    rw [e, sum_pre (fun o => ind p t (o.getD k 0) (bt W o k)) hk]
    congr 1
    show _ = smL ((pre n k).flatMap (exts n)) _
    rw [smL_flat]
    refine smL_congr fun π hπ => ?_
    have I := pre_ok hπ
    unfold exts
    rw [smL_map]
    refine smL_congr fun q _ => ?_
    have e1 : (π ++ [q]).getD k 0 = q := by rw [← I.len, List.getD_eq_getElem?_getD, List.getElem?_append_right (Nat.le_refl _), Nat.sub_self]; rfl
    have e2 : bt W (π ++ [q]) k = bestP W q (tkA W π) := by
      unfold bt bestP tkA
      rw [e1, ← I.len]
      have := tk_take W (π ++ [q]) (j := π.length) π.length (Nat.le_refl _)
      rw [List.take_append_of_le_length (Nat.le_refl _), List.take_length] at this
      rw [this]
    rw [e1, e2]
    rfl
theorem counts_eq {n : Nat} (W : List (List Int)) (p t : Int) : cnt42 n W (fun l => ind p t (l.getD 0 0) (l.getD 1 0)) n = smL (pre n n) fun o => cntO W n o p t := by
  rw [cnt_agree W p t n (Nat.le_refl _)]
  unfold cntO
  rw [smL_sm]
theorem cntO_bd (W : List (List Int)) (n : Nat) (o : List Int) (p t : Int) : 0 ≤ cntO W n o p t ∧ cntO W n o p t ≤ n := by
  unfold cntO
  have h : ∀ j, 0 ≤ ind p t (o.getD j 0) (bt W o j) ∧ ind p t (o.getD j 0) (bt W o j) ≤ 1 := fun j => by unfold ind; split <;> omega
  constructor
  · have := HM.sm_le (n := n) (f := fun _ => 0) (g := fun j => ind p t (o.getD j 0) (bt W o j)) fun j _ => (h j).1
    rw [HM.sm_zero] at this
    exact this
  · have := HM.sm_le (n := n) (f := fun j => ind p t (o.getD j 0) (bt W o j)) (g := fun _ => if (true : Bool) = true then 1 else 0) fun j _ => by rw [if_pos rfl]; exact (h j).2
    rw [HM.sm_cnt (fun _ => true) 1 n] at this
    have e : HM.cnt n (fun _ => true) = n := by unfold HM.cnt; simp
    rw [e] at this
    omega
/-! ### turn by turn -/
structure CI (n : Nat) (W : List (List Int)) (k : Nat) (C : List (List Int × Int)) : Prop where
  kn : KN C
  sum : ∀ F, wsum F C = cnt42 n W F k
  len : C.length ≤ k * 46656
structure BI (n : Nat) (W : List (List Int)) (k : Nat) (B : List (PKey × Int)) : Prop where
  kn : KN B
  sum : ∀ F, wsum F B = smL (pre n k) fun π => F (keyOf W π)
  len : B.length ≤ 6 ^ k
  key : ∀ p ∈ B, ∃ π ∈ pre n k, p.1 = keyOf W π
def phiC (n : Nat) (W : List (List Int)) (F : List Int → Int) (key : PKey) : Int := smL (turnsK n W key) fun pt => F [pt.1, pt.2]
def phiL (n : Nat) (W : List (List Int)) (G : PKey → Int) (key : PKey) : Int := smL (turnsK n W key) fun pt => G (nextK key pt)
structure TJ (n : Nat) (W : List (List Int)) (k : Nat) (B : List (PKey × Int)) (i : Nat) (key : PKey) (num : Int) (j : Nat) (C : List (List Int × Int)) (L : List (PKey × Int)) : Prop where
  ck : KN C
  lk : KN L
  cs : ∀ F, wsum F C = cnt42 n W F k + fct (n - (k + 1)) * (smL (B.take i) (fun e => e.2 * phiC n W F e.1) + num * smL ((turnsK n W key).take j) fun pt => F [pt.1, pt.2])
  ls : ∀ G, wsum G L = smL (B.take i) (fun e => e.2 * phiL n W G e.1) + num * smL ((turnsK n W key).take j) fun pt => G (nextK key pt)
  cl : C.length ≤ k * 46656 + i * 6 + j
  ll : L.length ≤ i * 6 + j
  lv : ∀ p ∈ L, ∃ π ∈ pre n (k + 1), p.1 = keyOf W π
abbrev TI0 (n : Nat) (W : List (List Int)) (k : Nat) (B : List (PKey × Int)) (i : Nat) (C : List (List Int × Int)) (L : List (PKey × Int)) : Prop := ∀ key num, TJ n W k B i key num 0 C L
section
variable {n : Nat} {W : List (List Int)} {k : Nat} {B : List (PKey × Int)} {C : List (List Int × Int)} {L : List (PKey × Int)}
theorem CI.zero : CI n W 0 [] := ⟨List.nodup_nil, fun _ => rfl, Nat.zero_le _⟩
theorem BI.zero : BI n W 0 [(([], []), 1)] := ⟨by unfold KN; simp, fun F => by
    show smL [(([], []), 1)] (fun p : PKey × Int => p.2 * F p.1) = smL [[]] _
    rw [smL_cons, smL_nil, smL_cons, smL_nil]
    show 1 * F ([], []) + 0 = F (keyOf W []) + 0
    rw [Int.one_mul]
    rfl, Nat.le_refl _, fun p hp => ⟨[], List.mem_singleton.mpr rfl, by rw [List.mem_singleton.mp hp]; rfl⟩⟩
theorem TI0.start (h : CI n W k C) : TI0 n W k B 0 C [] := fun key num => ⟨h.kn, List.nodup_nil, fun F => by
    rw [h.sum F, List.take_zero, List.take_zero, smL_nil, smL_nil, Int.mul_zero]
    omega, fun G => by
    rw [List.take_zero, List.take_zero, smL_nil, smL_nil, Int.mul_zero]
    rfl, by have := h.len; omega, Nat.zero_le _, fun _ h => nomatch h⟩
theorem TJ.step {i j : Nat} {key : PKey} {num : Int} {pt : Int × Int} (h : TJ n W k B i key num j C L) (hp : (turnsK n W key)[j]? = some pt) (hv : ∃ π ∈ pre n (k + 1), nextK key pt = keyOf W π) :
    TJ n W k B i key num (j + 1) (addD C [pt.1, pt.2] (num * fct (n - (k + 1)))) (addD L (nextK key pt) num) := by
  refine ⟨put_kn h.ck _ _, put_kn h.lk _ _, fun F => ?_, fun G => ?_, ?_, ?_, fun p hp' => ?_⟩
  · rw [wsum_add F h.ck, h.cs F, List.take_add_one, hp, smL_app]
    show _ + num * fct (n - (k + 1)) * F [pt.1, pt.2] = _ + _ * (_ + num * (_ + smL [pt] _))
    rw [smL_cons, smL_nil, Int.add_zero, show num * fct (n - (k + 1)) * F [pt.1, pt.2] = fct (n - (k + 1)) * (num * F [pt.1, pt.2]) by ac_rfl, Int.add_assoc, ← Int.mul_add, Int.add_assoc, ← Int.mul_add]
  · rw [wsum_add G h.lk, h.ls G, List.take_add_one, hp, smL_app]
    show _ + num * G (nextK key pt) = _ + num * (_ + smL [pt] _)
    rw [smL_cons, smL_nil, Int.mul_add, Int.mul_add, Int.mul_zero, Int.add_zero]
    omega
  · unfold addD
    exact Nat.le_trans (put_len _ _ _) (by have := h.cl; omega)
  · unfold addD
    exact Nat.le_trans (put_len _ _ _) (by have := h.ll; omega)
  · unfold addD putD at hp'
    split at hp'
    · obtain ⟨q, hq, e⟩ := List.mem_map.mp hp'
      obtain ⟨π, h1, h2⟩ := h.lv q hq
      refine ⟨π, h1, ?_⟩
      rw [← e, ← h2]
      split <;> rfl
    · rcases List.mem_append.mp hp' with z | z
      · exact h.lv p z
      · rw [List.mem_singleton.mp z]
        exact hv
theorem TJ.done {i : Nat} {key : PKey} {num : Int} (hB : B[i]? = some (key, num)) (hl : (turnsK n W key).length ≤ 6) (h : TJ n W k B i key num (turnsK n W key).length C L) : TI0 n W k B (i + 1) C L := fun key' num' => by
  refine ⟨h.ck, h.lk, fun F => ?_, fun G => ?_, ?_, ?_, h.lv⟩
  · rw [h.cs F, List.take_length, List.take_zero, smL_nil, Int.mul_zero, Int.add_zero, List.take_add_one, hB, smL_app]
    show _ + _ * (_ + _) = _ + _ * (_ + smL [(key, num)] _)
    rw [smL_cons, smL_nil, Int.add_zero]
    rfl
  · rw [h.ls G, List.take_length, List.take_zero, smL_nil, Int.mul_zero, Int.add_zero, List.take_add_one, hB, smL_app]
    show _ + _ = _ + smL [(key, num)] _
    rw [smL_cons, smL_nil, Int.add_zero]
    rfl
  · have := h.cl; omega
  · have := h.ll; omega
theorem TI0.finish (hB : BI n W k B) (hk : k < 6) (h : TI0 n W k B B.length C L) : CI n W (k + 1) C ∧ BI n W (k + 1) L := by
  have h0 := h ([], []) 0
  have hb : B.length ≤ 7776 := Nat.le_trans hB.len (by
    have : 6 ^ k ≤ 6 ^ 5 := Nat.pow_le_pow_right (by decide) (by omega)
    simpa using this)
  refine ⟨⟨h0.ck, fun F => ?_, by have := h0.cl; omega⟩, ⟨h0.lk, fun G => ?_, ?_, h0.lv⟩⟩
  · rw [h0.cs F, List.take_length, List.take_zero, smL_nil, Int.mul_zero, Int.add_zero]
    show _ + _ * wsum (phiC n W F) B = cnt42 n W F k + _
    rw [hB.sum]
    congr 2
    refine smL_congr fun π _ => ?_
    unfold phiC
    rw [turnsK_key, smL_map]
  · rw [h0.ls G, List.take_length, List.take_zero, smL_nil, Int.mul_zero, Int.add_zero]
    show wsum (phiL n W G) B = smL ((pre n k).flatMap (exts n)) _
    rw [hB.sum, smL_flat]
    refine smL_congr fun π _ => ?_
    unfold phiL exts
    rw [turnsK_key, smL_map, smL_map]
    exact smL_congr fun p _ => by rw [nextK_key]
  · have := h0.ll
    have := hB.len
    rw [Nat.pow_succ]
    omega
end
/-! ### promises -/
def spBestFS (K : PySem.W.Frag) : Sp := fun vs H Q _ => ∃ (w l : Addr) (row ts : List Int), vs = [.ref w, .ref l] ∧ SqT K H w (row.map V.int) ∧ (SqL K H l (ts.map V.int) ∨ SqT K H l (ts.map V.int)) ∧ row.length ≤ 63 ∧ (∃ t ∈ row, t ∉ ts) ∧ ∀ H', Same H H' → Q (.int (bestF row ts)) H'
def spWithOne (K : PySem.W.Frag) : Sp := fun vs H Q _ => ∃ (a : Addr) (ns : List Int) (x : Int), vs = [.ref a, .int x] ∧ SqT K H a (ns.map V.int) ∧ ns.length ≤ 60 ∧ ∀ p H', Same H H' → SqT K H' p ((srt (ns ++ [x])).map V.int) → Q (.ref p) H'
def spTurnsF (K : PySem.W.Frag) : Sp := fun vs H Q _ => ∃ (a g t : Addr) (ws : List V) (W : List (List Int)) (n : Nat) (key : PKey), vs = [.ref a, .ref g, .ref t] ∧ SqL K H a ws ∧ Paired (IsR K H) ws W ∧ Ws41 n W ∧ SqT K H g (key.1.map V.int) ∧ SqT K H t (key.2.map V.int) ∧ key.2.length < n ∧
  ∀ p ls H', Same H H' → H p = none → H' p = some (.lst ls) → Paired (IsF K H') ls (turnsK n W key) → Q (.ref p) H'
def spOrdersOf : Sp := fun vs H Q _ => ∃ k : Nat, vs = [.int k] ∧ k ≤ 6 ∧ Q (.int (fct k)) H
def spCounts (P : Program) (w : World) (K : PySem.W.Frag) : Sp := fun vs H Q _ => ∃ (a : Addr) (ws : List V) (W : List (List Int)) (n : Nat), vs = [.ref a] ∧ SqL K H a ws ∧ Paired (IsR K H) ws W ∧ Ws41 n W ∧
  ∀ d C H', Same H H' → DictI keyR P w K H' d C → CI n W n C → Q (.ref d) H'
def shareR (n : Nat) (W : List (List Int)) (p : Int) : List (Int × Int) := (List.range n).map fun (t : Nat) => FQ.red (cnt42 n W (fun l => ind p t (l.getD 0 0) (l.getD 1 0)) n) (fct n)
def spShares (P : Program) (w : World) (K : PySem.W.Frag) : Sp := fun vs H Q _ => ∃ (d : Addr) (C : List (List Int × Int)) (W : List (List Int)) (n : Nat) (p : Int), vs = [.ref d, .int p, .int n] ∧ DictI keyR P w K H d C ∧ CI n W n C ∧ n ≤ 6 ∧
  ∀ q gs H', Same H H' → H q = none → H' q = some (.tup gs) → Paired (IsF K H') gs (shareR n W p) → Q (.ref q) H'
def RwG (K : PySem.W.Frag) (H : Hp) (v : V) (r : List (Int × Int)) : Prop := ∃ a gs, v = .ref a ∧ SqT K H a gs ∧ Paired (IsF K H) gs r
theorem RwG.mono {K : PySem.W.Frag} {H H' : Hp} {v : V} {r : List (Int × Int)} (e : Same H H') (h : RwG K H v r) : RwG K H' v r := by
  obtain ⟨a, gs, rfl, h1, h2⟩ := h
  exact ⟨a, gs, rfl, e.tup h1, fracs_mono e h2⟩
def tabT (n : Nat) (W : List (List Int)) : List (List (Int × Int)) := (List.range n).map fun (p : Nat) => shareR n W p
def spByTurns (K : PySem.W.Frag) : Sp := fun vs H Q _ => ∃ (a : Addr) (ws : List V) (W : List (List Int)) (n : Nat), vs = [.ref a] ∧ SqL K H a ws ∧ Paired (IsR K H) ws W ∧ Ws41 n W ∧
  ∀ q us H', Same H H' → H q = none → H' q = some (.lst us) → Paired (RwG K H') us (tabT n W) → Q (.ref q) H'
def spOrders42 (K : PySem.W.Frag) : Sp := fun vs H Q _ => ∃ n : Nat, vs = [.int n] ∧ 1 ≤ n ∧ n ≤ 6 ∧ ∀ q os H', Same H H' → H q = none → H' q = some (.lst os) → Paired (IsR K H') os (pre n n) → Q (.ref q) H'
/-! ### what stays while dicts are changed -/
structure KX (bad : List Addr) (H H' : Hp) : Prop where
  keep : ∀ b o, b ∉ bad → H b = some o → H' b = some o
  was : ∀ b ∈ bad, ∃ φ, H b = some (.ext φ)
  is : ∀ b ∈ bad, ∃ φ, H' b = some (.ext φ)
section
variable {bad : List Addr} {H H' H'' : Hp} {K : PySem.W.Frag}
theorem KX.refl (h : ∀ b ∈ bad, ∃ φ, H b = some (.ext φ)) : KX bad H H := ⟨fun _ _ _ e => e, h, h⟩
theorem KX.trans (a : KX bad H H') (b : KX bad H' H'') : KX bad H H'' := ⟨fun c o hc e => b.keep c o hc (a.keep c o hc e), a.was, b.is⟩
theorem KX.of (e : Same H H') (h : ∀ b ∈ bad, ∃ φ, H b = some (.ext φ)) : KX bad H H' := ⟨fun _ _ _ q => e _ _ q, h, fun b hb => by obtain ⟨φ, q⟩ := h b hb; exact ⟨φ, e _ _ q⟩⟩
theorem KX.put {d : Addr} (h : ∀ b ∈ bad, ∃ φ, H b = some (.ext φ)) (hd : d ∈ bad) (e : ∃ φ φ', H d = some (.ext φ) ∧ H' = upd H d (.ext φ')) : KX bad H H' := by
  obtain ⟨φ, φ', h1, rfl⟩ := e
  refine ⟨fun b o hb q => by rw [upd_ne (show b ≠ d from fun z => hb (by rw [z]; exact hd))]; exact q, h, fun b hb => ?_⟩
  by_cases z : b = d
  · subst z; exact ⟨φ', upd_same⟩
  · rw [upd_ne z]; exact h b hb
theorem KX.get (a : KX bad H H') {b : Addr} {o : HO} (h : H b = some o) (hn : ∀ φ, o ≠ .ext φ) : H' b = some o := a.keep b o (fun z => by obtain ⟨φ, q⟩ := a.was b z; rw [h] at q; exact hn φ (Option.some.inj q)) h
theorem KX.tup (a : KX bad H H') {b : Addr} {xs : List V} (h : SqT K H b xs) : SqT K H' b xs := by
  rcases h with (h | ⟨u, h⟩) | h
  · exact .inl (.inl (a.get h fun _ z => by cases z))
  · exact .inl (.inr ⟨u, a.get h fun _ z => by cases z⟩)
  · exact .inr h
theorem KX.lst (a : KX bad H H') {b : Addr} {xs : List V} (h : H b = some (.lst xs)) : H' b = some (.lst xs) := a.get h fun _ z => by cases z
theorem KX.same {H0 : Hp} (a : KX bad H H') (e : Same H0 H) (hf : ∀ b ∈ bad, H0 b = none) : Same H0 H' := fun b o q => a.keep b o (fun z => by rw [hf b z] at q; cases q) (e b o q)
theorem KX.dict {κ : Type} [DecidableEq κ] {W : KW κ} {P : Program} {w : World} {d : Addr} {ep : Nat} {kvs : List (κ × Int)} (a : KX bad H H') (h : DictE W P w K H d ep kvs) (hd : d ∉ bad) : DictE W P w K H' d ep kvs := by
  obtain ⟨xs, h1, h2⟩ := h
  exact ⟨xs, a.keep _ _ hd h1, Paired.mapP h2 fun _ _ ⟨x1, x2, x3⟩ => ⟨x1, x2, W.map (fun _ _ q => a.tup q) x3⟩⟩
theorem DictI.ext {κ : Type} [DecidableEq κ] {W : KW κ} {P : Program} {w : World} {d : Addr} {kvs : List (κ × Int)} (h : DictI W P w K H d kvs) : ∃ φ, H d = some (.ext φ) := by
  obtain ⟨ep, xs, h1, _⟩ := h
  exact ⟨_, h1⟩
end
theorem fct_le {m : Nat} (h : m ≤ 6) : 0 < TM.fct m ∧ TM.fct m ≤ 720 :=
  (show ∀ m ∈ List.range 7, 0 < TM.fct m ∧ TM.fct m ≤ 720 by decide) m (List.mem_range.mpr (by omega))
theorem srt_len (l : List Int) : (TM.srt l).length = l.length := (TM.srt_perm l).length_eq
theorem key_next {n k : Nat} {W : List (List Int)} {π : List Int} {pt : Int × Int} (hπ : π ∈ TM.pre n k) (hp : pt ∈ turnsK n W (keyOf W π)) : ∃ ρ ∈ TM.pre n (k + 1), nextK (keyOf W π) pt = keyOf W ρ := by
  rw [turnsK_key] at hp
  obtain ⟨p, h1, rfl⟩ := List.mem_map.mp hp
  exact ⟨π ++ [p], List.mem_flatMap.mpr ⟨π, hπ, List.mem_map.mpr ⟨p, h1, rfl⟩⟩, nextK_key W π p⟩
/-! ### tables of whole numbers, by a function -/
def tabI (n : Nat) (f : Nat → Nat → Int) : List (List Int) := (List.range n).map fun p => (List.range n).map fun t => f p t
theorem tabI_len (n : Nat) (f : Nat → Nat → Int) : (tabI n f).length = n := by unfold tabI; simp
theorem tabI_row {n : Nat} {f : Nat → Nat → Int} {p : Nat} (hp : p < n) : (tabI n f)[p]? = some ((List.range n).map fun t => f p t) := by unfold tabI; rw [List.getElem?_map, List.getElem?_range hp]; rfl
theorem row_at {n : Nat} {g : Nat → Int} {t : Nat} (ht : t < n) : ((List.range n).map g)[t]? = some (g t) := by rw [List.getElem?_map, List.getElem?_range ht]; rfl
/-! ### the first that is free -/
/-! ### rows of fractions, by their lists -/
theorem RwG.rep {K : PySem.W.Frag} {H : Hp} {v : V} {r : List (Int × Int)} (h : RwG K H v r) (hl : r.length ≤ 1000) : Rep K H v (.tuple (r.map dF)) := by
  obtain ⟨a, gs, rfl, h1, h2⟩ := h
  have := Paired.len h2
  exact .tup h1 (Reps.of_fracs h2) (by omega)
theorem tabT_len (n : Nat) (W : List (List Int)) : (tabT n W).length = n := by unfold tabT; simp
theorem shareR_len (n : Nat) (W : List (List Int)) (p : Int) : (shareR n W p).length = n := by unfold shareR; simp
/-- the whole counting, as the law has it -/
def allC (n : Nat) (W : List (List Int)) (p t : Nat) : Int := TM.smL (TM.pre n n) fun o => cntO W n o p t
theorem share_all {n : Nat} {W : List (List Int)} {p : Nat} : shareR n W p = (List.range n).map fun (t : Nat) => FQ.red (allC n W p t) (TM.fct n) := by
  unfold shareR allC
  exact List.map_congr_left fun t _ => by rw [counts_eq]
/-- what stands at a key, or nothing -/
def getD0 {κ : Type} [DecidableEq κ] (kvs : List (κ × Int)) (k : κ) : Int := (kvs.lookup k).getD 0
theorem ind_pair (C : List (List Int × Int)) (h : KN C) (n : Nat) (W : List (List Int)) (hs : ∀ F, wsum F C = cnt42 n W F n) (p t : Int) : getD0 C [p, t] = cnt42 n W (fun l => ind p t (l.getD 0 0) (l.getD 1 0)) n := by
  have e1 := wsum_at h [p, t]
  have e2 : cnt42 n W (fun a => if a = [p, t] then 1 else 0) n = cnt42 n W (fun l => ind p t (l.getD 0 0) (l.getD 1 0)) n := by
    have key : ∀ k, cnt42 n W (fun a => if a = [p, t] then 1 else 0) k = cnt42 n W (fun l => ind p t (l.getD 0 0) (l.getD 1 0)) k := by
      intro k
      induction k with
      | zero => rfl
      | succ k ih =>
        show cnt42 n W _ k + _ = cnt42 n W _ k + _
        rw [ih]
        congr 2
        exact TM.smL_congr fun π _ => TM.smL_congr fun q _ => by
          show (if [q, bestP W q (tkA W π)] = [p, t] then (1 : Int) else 0) = ind p t q (bestP W q (tkA W π))
          unfold ind
          simp
    exact key n
  rw [← e2, ← hs]
  exact e1
/-! ### rows that lie, when another list changes -/
theorem RowsAt.off {H0 H : Hp} {L r : Addr} {rs : List Addr} {M : List (List Int)} {o : HO} (R : RowsAt H0 H L rs M) (h1 : r ∉ rs) (h2 : r ≠ L) : RowsAt H0 (L2.upd H r o) L rs M :=
  ⟨by rw [upd_ne (fun z => h2 z.symm)]; exact R.lst, paired_keep R.rows h1, R.nd, R.fr, R.frL, R.nL⟩
theorem RowsAt.fresh {H0 H : Hp} {L r : Addr} {rs : List Addr} {M : List (List Int)} (R : RowsAt H0 H L rs M) (h : H r = none) : r ∉ rs ∧ r ≠ L :=
  ⟨(fun z => by
    obtain ⟨i, hi, e⟩ := List.mem_iff_getElem.mp z
    obtain ⟨m, _, h2⟩ := Paired.get' R.rows (show rs[i]? = some r by rw [List.getElem?_eq_getElem hi, e])
    rw [h] at h2
    cases h2), (fun z => by
    rw [z, R.lst] at h
    cases h)⟩
theorem pre_pm {n : Nat} {o : List Int} (h : o ∈ TM.pre n n) : LN.Pm n o := by
  have I := TM.pre_ok h
  have hl := TM.free_len I
  have he : TM.freeP n o = [] := List.eq_nil_of_length_eq_zero (by omega)
  refine (List.perm_ext_iff_of_nodup I.nd (LM.rng_nodup n)).mpr fun x => ⟨fun hx => LM.mem_rng.mpr (I.bd x hx), fun hx => ?_⟩
  refine Classical.byContradiction fun z => ?_
  have : x ∈ TM.freeP n o := List.mem_filter.mpr ⟨hx, by simpa using z⟩
  rw [he] at this
  cases this
theorem sum_le6 : ∀ l : List Nat, (∀ x ∈ l, x ≤ 6) → l.sum ≤ 6 * l.length
  | [], _ => Nat.le_refl _
  | a :: l, h => by
    have h1 := h a List.mem_cons_self
    have h2 := sum_le6 l fun x hx => h x (List.mem_cons_of_mem _ hx)
    rw [List.sum_cons, List.length_cons]
    omega
theorem exts_len {n : Nat} (hn : n ≤ 6) (π : List Int) : (TM.exts n π).length ≤ 6 := by
  unfold TM.exts TM.freeP
  rw [List.length_map]
  have h1 := List.length_filter_le (fun p => !decide (p ∈ π)) (LM.rng n)
  rw [LM.rng_len] at h1
  omega
end L2

namespace L2
open TM
/-! ### the table by turns is a table; whoever tells other wishes gains nothing -/
theorem sm_one {n c : Nat} (hc : c < n) (x : Int) : HM.sm n (fun i => if i = c then x else 0) = x := by
  have h := HM.sm_cnt (fun i => i == c) x n
  rw [HM.cnt_one, if_pos hc] at h
  rw [HM.sm_congr (g := fun i => if (i == c) = true then x else 0) fun i _ => by by_cases e : i = c <;> simp [e], h]
  simp
theorem sm_len {α : Type} (l : List α) : smL l (fun _ => (1 : Int)) = l.length := by rw [smL_const, Int.one_mul]
theorem bt_ok {n : Nat} {W : List (List Int)} {o : List Int} (ok : Ws41 n W) (ho : LN.Pm n o) {k : Nat} (hk : k < n) : 0 ≤ bt W o k ∧ bt W o k < n ∧ bt W o k ∉ tk W o k := by
  have hol := ho.len
  have hob := ho.mem.mp (show o.getD k 0 ∈ o by rw [HM.getD_lt (by omega)]; exact List.getElem_mem _)
  have hwk : (o.getD k 0).toNat < W.length := by have := ok.len; omega
  have hpm := ok.pm _ (List.getElem_mem hwk)
  unfold bt
  rw [HM.getD_lt hwk]
  have hb := bestF_get (free_ex (ts := tk W o k) hpm (by rw [tk_len]; exact hk))
  have := hpm.mem.mp hb.2.1
  exact ⟨this.1, this.2, hb.2.2⟩
theorem tk_pm {n : Nat} {W : List (List Int)} {o : List Int} (ok : Ws41 n W) (ho : LN.Pm n o) : LN.Pm n (tk W o n) := by
  have key : ∀ k, k ≤ n → (tk W o k).Nodup ∧ ∀ t ∈ tk W o k, 0 ≤ t ∧ t < n := by
    intro k
    induction k with
    | zero => exact fun _ => ⟨List.nodup_nil, fun _ h => nomatch h⟩
    | succ k ih =>
      intro hk
      obtain ⟨h1, h2⟩ := ih (by omega)
      obtain ⟨b0, b1, b2⟩ := bt_ok ok ho (k := k) (by omega)
      have e : tk W o (k + 1) = tk W o k ++ [bt W o k] := rfl
      rw [e]
      refine ⟨List.nodup_append.mpr ⟨h1, by simp, fun x hx y hy z => b2 (by rw [List.mem_singleton.mp hy] at z; rw [← z]; exact hx)⟩, fun t ht => ?_⟩
      rcases List.mem_append.mp ht with z | z
      · exact h2 t z
      · rw [List.mem_singleton.mp z]; exact ⟨b0, b1⟩
  obtain ⟨h1, h2⟩ := key n (Nat.le_refl _)
  refine (List.perm_ext_iff_of_nodup h1 (LM.rng_nodup n)).mpr fun x => ⟨fun hx => LM.mem_rng.mpr (h2 x hx), fun hx => ?_⟩
  refine Classical.byContradiction fun z => ?_
  have hx' := LM.mem_rng.mp hx
  have := pigeon (x :: tk W o n) (LM.rng n) (List.nodup_cons.mpr ⟨z, h1⟩) fun t ht => LM.mem_rng.mpr (by
    rcases List.mem_cons.mp ht with e | e
    · rw [e]; exact hx'
    · exact h2 t e)
  rw [List.length_cons, tk_len, LM.rng_len] at this
  omega
theorem tk_at (W : List (List Int)) (o : List Int) {n j : Nat} (hj : j < n) : (tk W o n).getD j 0 = bt W o j := by
  rw [tk_eq, List.getD_eq_getElem?_getD, List.getElem?_map, List.getElem?_range hj]; rfl
/-- the place of a person in an order -/
theorem cntO_at {n : Nat} (W : List (List Int)) {o : List Int} (ho : LN.Pm n o) {p : Nat} (hp : p < n) : ∃ j, j < n ∧ o.getD j 0 = (p : Int) ∧ (∀ i, i < n → o.getD i 0 = (p : Int) → i = j) ∧ ∀ V t, cntO V n o p t = if bt V o j = t then 1 else 0 := by
  obtain ⟨j, hj, e, hu⟩ := HM.pm_at ho hp
  refine ⟨j, hj, e, fun i hi ei => hu i hi (by rw [ei]; rfl), fun V t => ?_⟩
  unfold cntO
  rw [HM.sm_congr (g := fun i => if i = j then (if bt V o j = t then 1 else 0) else 0) fun i hi => ?_, sm_one hj]
  unfold ind
  by_cases c : i = j
  · subst c
    rw [if_pos rfl]
    by_cases c2 : bt V o i = t
    · rw [if_pos c2, if_pos ⟨e, c2⟩]
    · rw [if_neg c2, if_neg fun z => c2 z.2]
  · rw [if_neg c, if_neg fun z => c (hu i hi (by rw [z.1]; rfl))]
theorem cntO_row {n : Nat} {W : List (List Int)} {o : List Int} (ok : Ws41 n W) (ho : LN.Pm n o) {p : Nat} (hp : p < n) : HM.sm n (fun t => cntO W n o p t) = 1 := by
  obtain ⟨j, hj, _, _, h⟩ := cntO_at W ho hp
  obtain ⟨b0, b1, _⟩ := bt_ok ok ho hj
  rw [HM.sm_congr (g := fun t => if t = (bt W o j).toNat then 1 else 0) fun t _ => ?_, sm_one (by omega)]
  show cntO W n o p t = _
  rw [h]
  by_cases c : bt W o j = t
  · rw [if_pos c, if_pos (by omega)]
  · rw [if_neg c, if_neg (by omega)]
theorem cntO_col {n : Nat} {W : List (List Int)} {o : List Int} (ok : Ws41 n W) (ho : LN.Pm n o) {t : Nat} (ht : t < n) : HM.sm n (fun p => cntO W n o p t) = 1 := by
  unfold cntO
  rw [HM.sm_swap]
  obtain ⟨j, hj, e, hu⟩ := HM.pm_at (tk_pm ok ho) ht
  rw [HM.sm_congr (g := fun i => if i = j then 1 else 0) fun i hi => ?_, sm_one hj]
  have hol := ho.len
  have hob := ho.mem.mp (show o.getD i 0 ∈ o by rw [HM.getD_lt (by omega)]; exact List.getElem_mem _)
  rw [tk_at W o hj] at e
  by_cases c : i = j
  · subst c
    rw [if_pos rfl, HM.sm_congr (g := fun p => if p = (o.getD i 0).toNat then 1 else 0) fun p _ => ?_, sm_one (by omega)]
    unfold ind
    by_cases c2 : p = (o.getD i 0).toNat
    · rw [if_pos c2, if_pos ⟨by omega, e⟩]
    · rw [if_neg c2, if_neg fun z => c2 (by omega)]
  · rw [if_neg c, HM.sm_congr (g := fun _ => 0) fun p _ => ?_, HM.sm_zero]
    unfold ind
    rw [if_neg fun z => c (hu i hi (by rw [tk_at W o hi, z.2]; rfl))]
theorem allC_row {n : Nat} {W : List (List Int)} (ok : Ws41 n W) {p : Nat} (hp : p < n) : HM.sm n (fun t => allC n W p t) = fct n := by
  unfold allC
  rw [← smL_sm (fun o t => cntO W n o p t), smL_congr (g := fun _ => 1) fun o ho => cntO_row ok (pre_pm ho) hp, sm_len, pre_len]
theorem allC_col {n : Nat} {W : List (List Int)} (ok : Ws41 n W) {t : Nat} (ht : t < n) : HM.sm n (fun p => allC n W p t) = fct n := by
  unfold allC
  rw [← smL_sm (fun o p => cntO W n o p t), smL_congr (g := fun _ => 1) fun o ho => cntO_col ok (pre_pm ho) ht, sm_len, pre_len]
theorem smL_nn {α : Type} {l : List α} {f : α → Int} (h : ∀ x ∈ l, 0 ≤ f x) : 0 ≤ smL l f := by
  induction l with
  | nil => exact Int.le_refl _
  | cons a l ih =>
    rw [smL_cons]
    have := h a List.mem_cons_self
    have := ih fun x hx => h x (List.mem_cons_of_mem _ hx)
    omega
theorem smL_le {α : Type} {l : List α} {f g : α → Int} (h : ∀ x ∈ l, f x ≤ g x) : smL l f ≤ smL l g := by
  induction l with
  | nil => exact Int.le_refl _
  | cons a l ih =>
    rw [smL_cons, smL_cons]
    have := h a List.mem_cons_self
    have := ih fun x hx => h x (List.mem_cons_of_mem _ hx)
    omega
theorem allC_nn (n : Nat) (W : List (List Int)) (p t : Nat) : 0 ≤ allC n W p t := smL_nn fun o _ => (cntO_bd W n o p t).1
theorem ent_tabI {n : Nat} {f : Nat → Nat → Int} {p t : Nat} (hp : p < n) (ht : t < n) : HM.ent (tabI n f) p t = f p t := by
  unfold HM.ent
  rw [List.getD_eq_getElem?_getD, List.getD_eq_getElem?_getD, tabI_row hp]
  show (((List.range n).map fun t => f p t)[t]?).getD 0 = _
  rw [row_at ht]
  rfl
theorem tabI_reg {n : Nat} {W : List (List Int)} (ok : Ws41 n W) : HM.Reg n (tabI n (allC n W)) (fct n) := by
  refine ⟨tabI_len _ _, fun r hr => ?_, fun p t => ?_, fun i hi => ?_, fun j hj => ?_⟩
  · unfold tabI at hr
    obtain ⟨q, _, rfl⟩ := List.mem_map.mp hr
    simp
  · by_cases hp : p < n
    · by_cases ht : t < n
      · rw [ent_tabI hp ht]; exact allC_nn n W p t
      · unfold HM.ent
        rw [List.getD_eq_getElem?_getD, List.getD_eq_getElem?_getD, tabI_row hp]
        show 0 ≤ (((List.range n).map fun t => allC n W p t)[t]?).getD 0
        rw [List.getElem?_eq_none (by simpa using ht)]
        exact Int.le_refl _
    · unfold HM.ent
      have hz : (tabI n (allC n W))[p]? = none := List.getElem?_eq_none (by rw [tabI_len]; omega)
      rw [List.getD_eq_getElem?_getD, List.getD_eq_getElem?_getD, hz]
      exact Int.le_refl _
  · rw [HM.sm_congr (g := fun t => allC n W i t) fun t ht => ent_tabI hi ht]; exact allC_row ok hi
  · rw [HM.sm_congr (g := fun p => allC n W p j) fun p hp => ent_tabI hp hj]; exact allC_col ok hj
/-! other wishes told -/
theorem tk_other {W V : List (List Int)} {o : List Int} {i : Nat} (h : ∀ q, q ≠ i → W.getD q [] = V.getD q []) : ∀ k, (∀ j, j < k → (o.getD j 0).toNat ≠ i) → tk W o k = tk V o k
  | 0, _ => rfl
  | k + 1, hk => by
    have ih := tk_other h k fun j hj => hk j (by omega)
    show tk W o k ++ [bestF (W.getD (o.getD k 0).toNat []) (tk W o k)] = tk V o k ++ [bestF (V.getD (o.getD k 0).toNat []) (tk V o k)]
    rw [ih, h _ (hk k (by omega))]
theorem best_take {ts : List Int} {b : Int} : ∀ {row : List Int} {k : Nat}, b ∈ row.take k → b ∉ ts → bestF row ts ∈ row.take k
  | [], k, h, _ => by simp at h
  | a :: r, 0, h, _ => by simp at h
  | a :: r, k + 1, h, hb => by
    rw [List.take_succ_cons] at h ⊢
    unfold bestF leftIn
    by_cases c : a ∈ ts
    · rw [List.filter_cons_of_neg (by simpa using c)]
      rcases List.mem_cons.mp h with e | e
      · rw [e] at hb; exact absurd c hb
      · exact List.mem_cons_of_mem _ (best_take e hb)
    · rw [List.filter_cons_of_pos (by simpa using c)]
      exact List.mem_cons_self
theorem best_idx {ts : List Int} {b : Int} : ∀ {row : List Int}, b ∈ row → b ∉ ts → row.idxOf (bestF row ts) ≤ row.idxOf b
  | [], h, _ => by cases h
  | a :: r, h, hb => by
    unfold bestF leftIn
    by_cases c : a ∈ ts
    · rw [List.filter_cons_of_neg (by simpa using c)]
      have hne : b ≠ a := fun z => hb (z ▸ c)
      have hm : b ∈ r := by
        rcases List.mem_cons.mp h with e | e
        · exact absurd e hne
        · exact e
      have ih := best_idx hm hb
      have hbn : bestF r ts ≠ a := fun z => (bestF_get ⟨b, hm, hb⟩).2.2 (z ▸ c)
      show (a :: r).idxOf (bestF r ts) ≤ _
      rw [List.idxOf_cons, List.idxOf_cons, show (a == bestF r ts) = false from beq_false_of_ne (Ne.symm hbn), show (a == b) = false from beq_false_of_ne (Ne.symm hne)]
      simpa using ih
    · rw [List.filter_cons_of_pos (by simpa using c)]
      show (a :: r).idxOf a ≤ _
      rw [List.idxOf_cons_self]
      exact Nat.zero_le _
structure Told (n i : Nat) (W V : List (List Int)) (row : List Int) : Prop where
  okW : Ws41 n W
  okV : Ws41 n V
  hi : i < n
  row : W.getD i [] = row
  oth : ∀ q, q ≠ i → W.getD q [] = V.getD q []
theorem Told.at {n i : Nat} {W V : List (List Int)} {row o : List Int} (h : Told n i W V row) (ho : LN.Pm n o) : ∃ j, j < n ∧ o.getD j 0 = (i : Int) ∧ (∀ U t, cntO U n o i t = if bt U o j = t then 1 else 0) ∧ bt W o j = bestF row (tk W o j) ∧ bt V o j ∈ row ∧ bt V o j ∉ tk W o j := by
  obtain ⟨j, hj, e, hu, hc⟩ := cntO_at W ho h.hi
  have hol := ho.len
  have hn : ∀ j', j' < j → (o.getD j' 0).toNat ≠ i := fun j' hj' z => by
    have hb := ho.mem.mp (show o.getD j' 0 ∈ o by rw [HM.getD_lt (by omega)]; exact List.getElem_mem _)
    have := hu j' (by omega) (by omega)
    omega
  have et := tk_other h.oth j hn
  obtain ⟨b0, b1, b2⟩ := bt_ok h.okV ho hj
  have hil : i < W.length := by have := h.okW.len; have := h.hi; omega
  have hpm := h.okW.pm _ (List.getElem_mem hil)
  rw [← HM.getD_lt (d := []) hil, h.row] at hpm
  refine ⟨j, hj, e, hc, ?_, hpm.mem.mpr ⟨b0, b1⟩, et ▸ b2⟩
  unfold bt
  rw [e, show ((i : Int)).toNat = i from rfl, h.row]
theorem Told.idx {n i : Nat} {W V : List (List Int)} {row o ds es : List Int} (h : Told n i W V row) (ho : LN.Pm n o) (h1 : Deals n W o ds) (h2 : Deals n V o es) : row.idxOf (ds.getD i 0) ≤ row.idxOf (es.getD i 0) ∧ ds.getD i 0 ∈ row ∧ es.getD i 0 ∈ row := by
  obtain ⟨j, hj, e, hc, eb, hm, hf⟩ := h.at ho
  have a1 := h1.at' j hj
  have a2 := h2.at' j hj
  rw [e, show ((i : Int)).toNat = i from rfl] at a1 a2
  rw [List.getD_eq_getElem?_getD, List.getD_eq_getElem?_getD, a1, a2]
  show row.idxOf (bt W o j) ≤ row.idxOf (bt V o j) ∧ bt W o j ∈ row ∧ bt V o j ∈ row
  rw [eb]
  exact ⟨best_idx hm hf, (bestF_get ⟨_, hm, hf⟩).2.1, hm⟩
theorem ind_sum (b : Int) : ∀ {l : List Int}, l.Nodup → smL l (fun t => if b = t then (1 : Int) else 0) = if b ∈ l then 1 else 0
  | [], _ => by simp [smL]
  | a :: l, h => by
    obtain ⟨h1, h2⟩ := List.nodup_cons.mp h
    rw [smL_cons, ind_sum b h2]
    by_cases c : b = a
    · subst c
      simp [h1]
    · simp [c]
theorem acc_all {n i : Nat} {W : List (List Int)} {w : List Int} (hw : LN.Pm n w) (k : Nat) : (((w.take k).map fun t => ((List.range n).map fun t => allC n W i t).getD t.toNat 0).sum) = smL (pre n n) fun o => smL (w.take k) fun t => cntO W n o i t := by
  rw [smL_swap]
  unfold smL
  congr 1
  refine List.map_congr_left fun t ht => ?_
  have hb := hw.mem.mp (List.mem_of_mem_take ht)
  rw [List.getD_eq_getElem?_getD, row_at (by omega)]
  show allC n W i t.toNat = _
  unfold allC smL
  rw [show ((t.toNat : Nat) : Int) = t by omega]
theorem Told.acc {n i : Nat} {W V : List (List Int)} {row : List Int} (h : Told n i W V row) (k : Nat) :
    (((row.take k).map fun t => ((List.range n).map fun t => allC n V i t).getD t.toNat 0).sum) ≤ (((row.take k).map fun t => ((List.range n).map fun t => allC n W i t).getD t.toNat 0).sum) := by
  have hil : i < W.length := by have := h.okW.len; have := h.hi; omega
  have hpm := h.okW.pm _ (List.getElem_mem hil)
  rw [← HM.getD_lt (d := []) hil, h.row] at hpm
  rw [acc_all hpm, acc_all hpm]
  refine smL_le fun o ho => ?_
  obtain ⟨j, hj, e, hc, eb, hm, hf⟩ := h.at (pre_pm ho)
  have hnd : (row.take k).Nodup := hpm.nodup.sublist (List.take_sublist _ _)
  rw [smL_congr (g := fun t => if bt V o j = t then 1 else 0) fun t _ => hc V t, smL_congr (f := fun t => cntO W n o i t) (g := fun t => if bt W o j = t then 1 else 0) fun t _ => hc W t, ind_sum _ hnd, ind_sum _ hnd]
  by_cases c : bt V o j ∈ row.take k
  · rw [if_pos c, if_pos (by rw [eb]; exact best_take c hf)]
    exact Int.le_refl _
  · rw [if_neg c]
    split <;> decide
theorem sm_part {f : Nat → Int} (nn : ∀ i, 0 ≤ f i) {n : Nat} {T : Int} (h : HM.sm n f = T) {j : Nat} (hj : j ≤ n) : 0 ≤ HM.sm j f ∧ HM.sm j f ≤ T := by
  have h0 : ∀ j, 0 ≤ HM.sm j f := fun j => by
    have := HM.sm_le (n := j) (f := fun _ => 0) (g := f) fun i _ => nn i
    rw [HM.sm_zero] at this
    exact this
  refine ⟨h0 j, ?_⟩
  rw [← h]
  clear h
  induction n with
  | zero => rw [Nat.le_zero.mp hj]; exact Int.le_refl _
  | succ n ih =>
    by_cases c : j = n + 1
    · rw [c]; exact Int.le_refl _
    · have := ih (by omega)
      have := nn n
      show HM.sm j f ≤ HM.sm n f + f n
      omega
theorem deals_ex {n : Nat} {W : List (List Int)} {o : List Int} (ok : Ws41 n W) (ho : LN.Pm n o) : ∃ ds, Deals n W o ds := by
  refine ⟨(List.range n).map fun (p : Nat) => bt W o (o.idxOf (p : Int)), ⟨by simp, fun j hj => ?_⟩⟩
  have hl := ho.len
  have hjo : j < o.length := by omega
  have hb := ho.mem.mp (List.getElem_mem hjo)
  rw [HM.getD_lt hjo, List.getElem?_map, List.getElem?_range (by omega)]
  show some (bt W o (o.idxOf ((o[j].toNat : Nat) : Int))) = _
  rw [show ((o[j].toNat : Nat) : Int) = o[j] by omega, ho.nodup.idxOf_getElem j hjo]
end L2

namespace L2
open PySem PySem.Spec PyProof.Rows
/-! ### a walk over a zip -/
theorem for_zip {K : PySem.W.Frag} {t1 t2 : Bool} {a b : Addr} {xs ys : List V} {g : TG} {tb : TS} {D : Ends} {σ : St} {H : Hp} (Pv : Nat → St → Hp → Prop) (he : xs.length = ys.length) (h0 : Pv 0 σ H)
    (hl : ∀ i σ H, i ≤ xs.length → Pv i σ H → SqB K H t1 a xs ∧ SqB K H t2 b ys)
    (hs : ∀ i x y σ H t, xs[i]? = some x → ys[i]? = some y → H t = none → Pv i σ H → g (.ref t) σ (upd H t (.tup [x, y])) fun σ2 H2 => tb { D with nx := Pv (i + 1), ct := Pv (i + 1), bk := D.nx } σ2 H2) (hd : ∀ σ H, Pv xs.length σ H → D.nx σ H) :
    ∃ W : Nat → Nat → St → Hp → Prop, (∃ m, W 0 m σ H) ∧ ∀ i m σ H, W i m σ H →
      ((Itz K t1 t2 a b).stop i H ∧ D.nx σ H) ∨ ((Itz K t1 t2 a b).go i H ∧ ∃ N : St → Hp → Prop, (∀ σ' H', N σ' H' → ∃ m', m' < m ∧ W (i + 1) m' σ' H') ∧ ∀ x H', (Itz K t1 t2 a b).yld i H x H' → g x σ H' fun σ2 H2 => tb { D with nx := N, ct := N, bk := D.nx } σ2 H2) := by
  refine ⟨fun i m σ H => m = xs.length - i ∧ i ≤ xs.length ∧ Pv i σ H, ⟨xs.length, by simp, Nat.zero_le _, h0⟩, ?_⟩
  rintro i m σ H ⟨rfl, hi, p⟩
  obtain ⟨q1, q2⟩ := hl i σ H hi p
  by_cases hlt : i < xs.length
  · refine .inr ⟨⟨xs, ys, xs[i], ys[i], q1, q2, by simp [hlt], by simp [show i < ys.length by omega]⟩, Pv (i + 1), fun σ' H' p' => ⟨xs.length - (i + 1), by omega, rfl, hlt, p'⟩, fun x H' y => ?_⟩
    obtain ⟨x', y', t, h1, h2, rfl, h3, rfl⟩ := y
    exact hs i x' y' σ H t (h1 xs q1) (h2 ys q2) h3 p
  · have e : i = xs.length := by omega
    subst e
    exact .inl ⟨⟨xs, q1, rfl⟩, hd σ H p⟩
/-! ### the place of a number in a tuple -/
section
variable {X : Cx}
theorem ints_at : ∀ {vs : List Value} {ns : List Int} (hi : IntsAre vs ns) {i : Nat} (h : i < vs.length), ∃ t, vs[i] = Value.int (ns[i]'(by rw [← hi.length]; exact h)) t
  | _, _, .cons n t r, 0, _ => ⟨t, rfl⟩
  | _, _, .cons n t r, i + 1, h => ints_at r (i := i) (by simpa using h)
theorem index_tup_ints {prog : Program} {w : World} {A : Around} {E : Value → Shared → Prop} {s : Shared} {a : Addr} {vs : List Value} {ns : List Int} {k : Int} {t : Tok} {Q : Value → Shared → Prop} (ht : IsTup s.heap a vs.toArray) (hi : IntsAre vs ns)
    (hk : k ∈ ns) (h : Q (.int (ns.idxOf k : Nat) s.toks) { s with toks := s.toks + 1 }) : wpAny (model prog w) A (call (.builtin "tuple.index") [.ref a, .int k t]) Q E s := by
  have hlen := hi.length
  have hj : ns.idxOf k < ns.length := List.idxOf_lt_length_iff.mpr hk
  refine call_meets PySem.F.slot_tuple_index ht.typeIs PySem.F.entry_tuple_index (PySem.F.args_tuple_index_2 _ _) (S := fun A R s => IsTup s.heap a vs.toArray ∧ R (.ok (.ret (.int (ns.idxOf k : Nat) s.toks))) { s with toks := s.toks + 1 }) ?_ ⟨ht, h⟩
  intro prog w A R s ⟨ht, h⟩
  show wpAny _ _ _ _ _ _
  unfold Builtin.«tuple.index»
  simp only [Std.Legacy.Range.forIn_eq_forIn_range']
  wp_walk using tupleItemsOf_ ht
  have hsz : ([:min vs.toArray.size vs.toArray.size] : Std.Legacy.Range).size = vs.length := by simp [Std.Legacy.Range.size]
  rw [hsz]
  refine wpAny_forIn_list (M := model prog w) (A := A.in1) _ (fun l b s' => b = ((none : Option PySem.Fin), ()) ∧ s' = s ∧ ∃ i, l = List.range' i (vs.length - i) ∧ i ≤ ns.idxOf k) _ (fun x rest b s' hI => ?_) (fun b s' hI => ?_) _ _ ⟨rfl, rfl, 0, rfl, Nat.zero_le _⟩
  · obtain ⟨rfl, rfl, i, hl, hile⟩ := hI
    have hin : i < vs.length := by omega
    rw [show vs.length - i = (vs.length - (i + 1)) + 1 by omega, List.range'_succ] at hl
    injection hl with hx hrest
    subst hx
    obtain ⟨tv, hv⟩ : ∃ tv, vs[x] = Value.int (ns[x]'(by omega)) tv := ints_at hi hin
    have hget : vs.toArray[x]? = some (Value.int (ns[x]'(by omega)) tv) := by simp [hin, hv]
    rw [hget]
    refine wpAny_bind (wpAny_eqBool_int ?_)
    by_cases c : ns[x]'(by omega) = k
    · have hx : ns.idxOf k = x := by
        have h1 : ns.idxOf k ≤ x := by
          refine Nat.le_of_not_lt fun z => ?_
          exact absurd c (by simpa using List.not_of_lt_findIdx z)
        omega
      rw [show (ns[x]'(by omega) == k) = true by simp [c], if_pos rfl]
      wp_walk
      rw [hx] at h
      exact h
    · rw [show (ns[x]'(by omega) == k) = false by simp [c], if_neg (by decide)]
      refine wpAny_pure ⟨rfl, rfl, x + 1, hrest, ?_⟩
      refine Nat.lt_of_le_of_ne hile fun z => c ?_
      have := List.getElem_idxOf hj
      simp only [← z] at this
      exact this
  · obtain ⟨_, _, i, hl, hile⟩ := hI
    have := congrArg List.length hl
    simp at this
    omega
/-- tuples of which it is known that they have no names of their own -/
theorem SqT.frz {K : PySem.W.Frag} {H : Hp} {a : Addr} {o : Obj} {xs : List V} (h : H a = some (.frz o (.tup xs))) : SqT K H a xs := .inl (.inr ⟨o, h⟩)
theorem call_tuple_ofF : CallR X (.type "tuple") (fun xs H Q => ∃ p ys, xs = [.ref p] ∧ SqL X.K H p ys ∧ ∀ l o, H l = none → o.dict = none → Q (.ref l) (upd H l (.frz o (.tup ys)))) := by
  intro pins s σ H xs us Q I r h
  obtain ⟨p, ys, rfl, hq, q⟩ := h
  obtain ⟨u, rfl, rx⟩ := vals1 r
  cases rx
  obtain ⟨its, r', pl, hz⟩ := I.list hq
  have hlen := r'.length
  refine call_tuple_list pl.isList (fun h' kp => ?_) (by simp only [List.size_toArray] <;> omega)
  have I1 : Inv X pins σ H { s with heap := h' } := I.kept (t' := s.toks) kp
  have I2 : Inv X pins σ (upd H h'.objs.size (.frz { cls := .type "tuple", data := .seq its.toArray } (.tup ys))) { s with heap := h'.push { cls := .type "tuple", data := .seq its.toArray } } :=
    I1.laid (t' := s.toks) (fun b o e => Heap.get?_push_of_some _ e) (Nat.le_refl _) (show ObjOk X.prog X.w _ _ _ (.frz _ (.tup ys)) from ⟨Heap.get?_push_size _ rfl, hz, its, r', IsTup.new _ _⟩)
  exact ⟨.ref h'.objs.size, _, I2, rfl, q _ _ (I1.hok.fresh (Nat.le_refl _)) rfl⟩
def tIdxT (K : PySem.W.Frag) (to te : TE) : TE := fun σ H Q => to σ H fun x H1 => ∃ (l : Addr) (o : Obj) (xs : List V), x = .ref l ∧ H1 l = some (.frz o (.tup xs)) ∧ o.dict = none ∧ te σ H1 fun y H2 => ∃ (ns : List Int) (k : Int), y = .int k ∧ SqT K H2 l (ns.map V.int) ∧ k ∈ ns ∧ Q (.int (ns.idxOf k : Nat)) H2
theorem pe_idxT {K : PySem.W.Frag} {o e : Expr} {apos cpos : Pos} {to te : TE} (hK : X.K = K) (ho : PE X o to) (he : PE X e te) (hbase : attributeBase o "index" X.env (eval o X.env) = eval o X.env := by rfl)
    (hfew : ((backTo cpos (starEach [e] X.env)).all (fun x => !x.1) && (backToKw cpos (keywordEach [] X.env)).all (fun x => x.1.isSome) && decide (([e] : List Expr).length + ([] : List Keyword).length + (if ([] : List Keyword).isEmpty then 0 else 1) < 30)) = true := by rfl)
    (hline : (apos.endLine == cpos.line) = true := by rfl) (htrees : backTo cpos (starEach [e] X.env) = [(false, eval e X.env)] := by rfl) : PE X (.Call (.Attribute o "index" apos) [e] [] cpos) (tIdxT K to te) := by
  subst hK
  intro pins s σ H Q I h
  refine wpAny_Call_method hbase hfew hline PySem.F.plainAttrs_tuple PySem.F.slot_tuple_index PySem.F.type_tuple_index (thn (ho pins s σ H _ I h) fun u s1 ⟨x, H1, I1, rx, l, ob, xs, ex, hx, hd, q1⟩ => ?_)
  subst ex
  obtain rfl : u = Value.ref l := rx
  obtain ⟨g1, hz, its, r, pl⟩ := (show ObjOk X.prog X.w H1 s1.heap l (.frz ob (.tup xs)) from I1.hok l _ hx)
  refine ⟨pl.typeIs, fun b z => ?_, ?_⟩
  · cases z
    exact ⟨ob, g1, hd⟩
  rw [htrees]
  refine Calls.callWith_builtin rfl (Calls.evalArgs_plain (Calls.spliced_cons (thn (he pins s1 σ H1 _ I1 q1) fun iv s2 ⟨y, H2, I2, ry, ns, k, ey, hq, hk, q2⟩ => Calls.spliced_nil ?_)))
  subst ey
  obtain ⟨tk, rfl⟩ := ry
  obtain ⟨its2, r2, pl2, _⟩ := I2.tuple hq
  exact index_tup_ints pl2 (ints_are r2) hk ⟨.int _, H2, I2.tok _, ⟨_, rfl⟩, q2⟩
end
/-! ### promises -/
def IsRF (K : PySem.W.Frag) (H : Hp) (v : V) (row : List Int) : Prop := ∃ a o, v = .ref a ∧ H a = some (.frz o (.tup (row.map V.int))) ∧ o.dict = none
theorem IsRF.isR {K : PySem.W.Frag} {H : Hp} {v : V} {row : List Int} (h : IsRF K H v row) : IsR K H v row := by
  obtain ⟨a, o, rfl, q, _⟩ := h
  exact ⟨a, rfl, SqT.frz q⟩
theorem IsRF.mono {K : PySem.W.Frag} {H H' : Hp} {v : V} {row : List Int} (e : Same H H') (h : IsRF K H v row) : IsRF K H' v row := by
  obtain ⟨a, o, rfl, q, d⟩ := h
  exact ⟨a, o, rfl, e _ _ q, d⟩
theorem IsRF.over {K : PySem.W.Frag} {H : Hp} {v : V} {p : Addr} {ys zs : List V} {row : List Int} (h : IsRF K H v row) (hp : H p = some (.lst ys)) : IsRF K (upd H p (.lst zs)) v row := by
  obtain ⟨a, o, rfl, q, d⟩ := h
  exact ⟨a, o, rfl, by rw [upd_ne (fun z => by rw [z, hp] at q; cases q)]; exact q, d⟩
def spOrderF : Sp := fun vs H Q _ => ∃ (num : Int) (n : Nat), vs = [.int num, .int n] ∧ n ≤ 63 ∧ ∀ p o H', Same H H' → H p = none → H' p = some (.frz o (.tup ((LN.order num n).map V.int))) → o.dict = none → Q (.ref p) H'
def spWishesF (K : PySem.W.Frag) : Sp := fun vs H Q _ => ∃ (a : Addr) (ns : List Int) (at' : Int) (n : Nat), vs = [.ref a, .int at', .int n] ∧ SqL K H a (ns.map V.int) ∧ 0 ≤ at' ∧ n ≤ 6 ∧
  ∀ p ws H', Same H H' → H p = none → H' p = some (.lst ws) → Paired (IsRF K H') ws (LN.wishes ns at' n) → Q (.ref p) H'
def noLess (ws row1 : List Int) (T1 : Int) (row2 : List Int) (T2 : Int) : Bool := (List.range ws.length).all fun i => !decide (accs row1 ws (i + 1) * T2 < accs row2 ws (i + 1) * T1)
def spNoLess (K : PySem.W.Frag) : Sp := fun vs H Q _ => ∃ (w a b : Addr) (ws : List Int) (ss ts : List V) (row1 row2 : List Int) (T1 T2 : Int), vs = [.ref w, .ref a, .ref b] ∧ SqT K H w (ws.map V.int) ∧ SqT K H a ss ∧ SqT K H b ts ∧
  Paired (IsF K H) ss (row1.map fun x => FQ.red x T1) ∧ Paired (IsF K H) ts (row2.map fun x => FQ.red x T2) ∧ (0 < T1 ∧ T1 < 2 ^ 80) ∧ (0 < T2 ∧ T2 < 2 ^ 80) ∧ (∀ x ∈ row1, 0 ≤ x ∧ x ≤ T1) ∧ (∀ x ∈ row2, 0 ≤ x ∧ x ≤ T2) ∧
  (∀ w ∈ ws, 0 ≤ w ∧ w < row1.length) ∧ (∀ w ∈ ws, 0 ≤ w ∧ w < row2.length) ∧ ws.length ≤ 63 ∧ ∀ H', Same H H' → Q (.bl (noLess ws row1 T1 row2 T2)) H'
def spIsTable (K : PySem.W.Frag) : Sp := fun vs H Q _ => ∃ (a : Addr) (us : List V) (Z : List (List Int)) (T : Int) (n : Nat), vs = [.ref a, .int n] ∧ SqL K H a us ∧ Paired (RwFT K H T) us Z ∧ Tb31 n T Z ∧ ∀ H', Same H H' → Q (.bl true) H'
theorem rows_of_grows {K : PySem.W.Frag} {H : Hp} {T : Int} : ∀ {Z : List (List Int)} {us : List V}, Paired (RwG K H) us (Z.map (fr T)) → Paired (RwFT K H T) us Z
  | [], _, .nil => .nil
  | _ :: _, _, .cons h t => .cons h (rows_of_grows t)
theorem tabT_eq (n : Nat) (W : List (List Int)) : tabT n W = (tabI n (allC n W)).map (fr (TM.fct n)) := by
  unfold tabT tabI
  rw [List.map_map]
  refine List.map_congr_left fun p _ => ?_
  rw [share_all]
  show _ = fr (TM.fct n) ((List.range n).map fun t => allC n W p t)
  unfold fr
  rw [List.map_map]
  rfl
theorem tabT_tb {n : Nat} {W : List (List Int)} (ok : Ws41 n W) : Tb31 n (TM.fct n) (tabI n (allC n W)) := by
  have h := fct_le ok.hi
  exact ⟨ok.lo, ok.hi, h.1, by omega, tabI_reg ok⟩
theorem noLess_same {ws row1 row2 : List Int} {T : Int} (hT : 0 < T) (h : ∀ i, i < ws.length → accs row2 ws (i + 1) ≤ accs row1 ws (i + 1)) : noLess ws row1 T row2 T = true := by
  unfold noLess
  rw [List.all_eq_true]
  intro i hi
  have := h i (List.mem_range.mp hi)
  have h2 : ¬ accs row1 ws (i + 1) * T < accs row2 ws (i + 1) * T := Int.not_lt.mpr (Int.mul_le_mul_of_nonneg_right this (Int.le_of_lt hT))
  simp [h2]
/-- each share of a row of a table -/
theorem reg_bd {n : Nat} {Z : List (List Int)} {T : Int} (h : HM.Reg n Z T) {r : List Int} (hr : r ∈ Z) : ∀ x ∈ r, 0 ≤ x ∧ x ≤ T := by
  intro x hx
  obtain ⟨p, hp, rfl⟩ := List.mem_iff_getElem.mp hr
  obtain ⟨t, ht, rfl⟩ := List.mem_iff_getElem.mp hx
  have e : HM.ent Z p t = Z[p][t] := by unfold HM.ent; rw [HM.getD_lt hp, HM.getD_lt ht]
  have hpn : p < n := by rw [← h.len]; exact hp
  have htn : t < n := by rw [← h.cols _ hr]; exact ht
  refine ⟨by rw [← e]; exact h.nn p t, ?_⟩
  rw [← e, ← h.row p hpn]
  have : HM.sm n (fun i => if i = t then HM.ent Z p t else 0) ≤ HM.sm n (HM.ent Z p) := HM.sm_le fun i _ => by
    by_cases c : i = t
    · rw [if_pos c, c]; exact Int.le_refl _
    · rw [if_neg c]; exact h.nn p i
  rw [sm_one htn] at this
  exact this
theorem pfx_get {T : Int} {row ws : List Int} {i : Nat} (hi : i < ws.length) : (pfx T row ws)[i]? = some (FQ.red (accs row ws (i + 1)) T) := by
  unfold pfx
  rw [List.getElem?_map, List.getElem?_range hi]
  rfl
theorem Paired.setP {α β : Type} {F : α → β → Prop} : ∀ {xs : List α} {ys : List β} {p : Nat} {x : α} {y : β}, Paired F xs ys → F x y → Paired F (xs.set p x) (ys.set p y)
  | _, _, _, _, _, .nil, _ => .nil
  | _, _, 0, _, _, .cons _ t, h => .cons h t
  | _, _, p + 1, _, _, .cons a t, h => .cons a (Paired.setP t h)
end L2

namespace Nk63
open PySem PySem.Spec PyProof.Rows L2
def top (i : Nat) : Stmt := PySem.Challenge.pw_wishlots_k63_whole_other_wishes_told.main.body.getD i (.Pass ⟨0, 0, 0, 0⟩)
structure Md (K : PySem.W.Frag) (mg : Str → Option Value) (x : Xs) : Prop where
  f_is_whole : Def K mg "is_whole" (top 5)
  f_common_divisor : Def K mg "common_divisor" (top 6)
  f_fraction : Def K mg "fraction" (top 7)
  f_is_listing : Def K mg "is_listing" (top 9)
  f_holds_each_once : Def K mg "holds_each_once" (top 10)
  f_best_free : Def K mg "best_free" (top 12)
  f_deal_by : Def K mg "deal_by" (top 13)
  f_with_one : Def K mg "with_one" (top 14)
  f_turns_from : Def K mg "turns_from" (top 15)
  f_orders_of : Def K mg "orders_of" (top 16)
  f_counts_of : Def K mg "counts_of" (top 17)
  f_shares_by_turns : Def K mg "shares_by_turns" (top 18)
  f_by_turns : Def K mg "by_turns" (top 19)
  f__law_cell_at : Def K mg "_law_cell_at" (top 21)
  f__law_mixed : Def K mg "_law_mixed" (top 22)
  f__law_divisor : Def K mg "_law_divisor" (top 23)
  f__law_lowest : Def K mg "_law_lowest" (top 24)
  f__law_plus : Def K mg "_law_plus" (top 25)
  f__law_less : Def K mg "_law_less" (top 26)
  f__law_whole : Def K mg "_law_whole" (top 27)
  f__law_is_fraction : Def K mg "_law_is_fraction" (top 28)
  f__law_order : Def K mg "_law_order" (top 29)
  f__law_wishes : Def K mg "_law_wishes" (top 30)
  f__law_prefixes : Def K mg "_law_prefixes" (top 31)
  f__law_no_less : Def K mg "_law_no_less" (top 32)
  f__law_is_table : Def K mg "_law_is_table" (top 33)
  f_law : Def K mg "law" (top 34)
  b_isinstance : mg "isinstance" = none
  b_int : mg "int" = none
  b_bool : mg "bool" = none
  b_str : mg "str" = none
  b_list : mg "list" = none
  b_tuple : mg "tuple" = none
  b_abs : mg "abs" = none
  b_len : mg "len" = none
  b_range : mg "range" = none
  b_sorted : mg "sorted" = none
  b_all : mg "all" = none
  b_zip : mg "zip" = none
  b_dict : mg "dict" = none
  x_WishError : XCls K mg "WishError" x.WishError
  x_NoFraction : XCls K mg "NoFraction" x.NoFraction
  x_NoOrder : XCls K mg "NoOrder" x.NoOrder
  i_NoOrder : XIs K x.NoOrder
  s_NoOrder : PySem.W.mroIn K x.NoOrder (.ref x.WishError) = some true
theorem sc_is_whole : FnScope ["value"] ["value"] (defScope (top 5)) := ⟨rfl, rfl, rfl, by decide +kernel, rfl, by decide +kernel, by decide +kernel⟩
set_option maxHeartbeats 4000000 in
theorem d_is_whole {P : Program} {w : World} {K : PySem.W.Frag} {mg : Str → Option Value} {base : Heap} {x : Xs} (M : Md K mg x) : Dn P w K mg base CX0 1 "is_whole" ["value"] (spWhole) := by
  have nd := (sc_is_whole).nd
  refine M.f_is_whole.ok sc_is_whole (fun vs H Q E h => ?_) (fun _ _ _ _ _ _ us hl => match us, hl with | [_], _ => rfl) (fun f cdv A outer s H vs Q E hr h => ?_)
  · obtain ⟨i, rfl, q⟩ := h
    rfl
  obtain ⟨i, rfl, q⟩ := h
  refine ⟨_, (pss_one (ps_ret (pe_and (pe_callB call_isT rfl M.b_isinstance Boot.«isinstance» (pa_cons (pv 0) (pa_cons (pe_ty rfl M.b_int Boot.«int») pa_nil))) (pe_one (pe_not (pe_callB call_isT rfl M.b_isinstance Boot.«isinstance» (pa_cons (pv 0) (pa_cons (pe_ty rfl M.b_bool Boot.«bool») pa_nil)))))))), ?_⟩
  refine ⟨_, rfl, .int i, "int", "int", rfl, by decide, rfl, _, rfl, ?_⟩
  refine iteT ⟨_, rfl, .int i, "bool", "int", rfl, by decide, rfl, _, rfl, q⟩
theorem sc_common_divisor : FnScope ["one", "two", "greater", "smaller", "rest"] ["one", "two"] (defScope (top 6)) := ⟨rfl, rfl, rfl, by decide +kernel, rfl, by decide +kernel, by decide +kernel⟩
set_option maxHeartbeats 4000000 in
theorem d_common_divisor {P : Program} {w : World} {K : PySem.W.Frag} {mg : Str → Option Value} {base : Heap} {x : Xs} (M : Md K mg x) : Dn P w K mg base CX0 1 "common_divisor" ["one", "two"] (spGcd) := by
  have nd := (sc_common_divisor).nd
  refine M.f_common_divisor.ok sc_common_divisor (fun vs H Q E h => ?_) (fun _ _ _ _ _ _ us hl => match us, hl with | [_, _], _ => rfl) (fun f cdv A outer s H vs Q E hr h => ?_)
  · obtain ⟨i, j, rfl, q⟩ := h
    rfl
  obtain ⟨i, j, rfl, q⟩ := h
  refine ⟨_, (pss_cons (ps_set (i := 2) nd rfl (Or.inl rfl) (pe_callB call_abs rfl M.b_abs Boot.«abs» (pa_cons (pv 0) pa_nil)))
      (pss_cons (ps_set (i := 3) nd rfl (Or.inl rfl) (pe_callB call_abs rfl M.b_abs Boot.«abs» (pa_cons (pv 1) pa_nil)))
      (pss_cons (ps_while PassesOwn.never (pt_cmpR op_ne (pv 3) pe_int (nomark _)) (pss_cons (ps_set (i := 4) nd rfl (Or.inl rfl) (pe_op op_mod (pv 2) (pv 3)))
      (pss_cons (ps_set (i := 2) nd rfl (Or.inl rfl) (pv 3))
      (pss_one (ps_set (i := 3) nd rfl (Or.inl rfl) (pv 4))))))
      (pss_one (ps_ret (pv 2)))))), ?_⟩
  refine ⟨_, rfl, i, rfl, _, rfl, j, rfl, ?_⟩
  refine while_of (fun m σ H' => H' = H ∧ ∃ (a b : Int) (r : Option V), σ = [some (.int i), some (.int j), some (.int a), some (.int b), r] ∧ 0 ≤ a ∧ 0 ≤ b ∧ Int.gcd a b = Int.gcd i j ∧ m = b.toNat)
    ⟨_, rfl, _, _, _, rfl, ?_, ?_, ?_, rfl⟩ (fun m σ H' hP => ?_) (fun σ H' Q1 Q2 hQ h => ?_)
  · split <;> omega
  · split <;> omega
  · split <;> split <;> simp
  · obtain ⟨rfl, a, b, r, rfl, ha, hb, hg, rfl⟩ := hP
    refine ⟨_, rfl, rfl, _, rfl, ?_⟩
    refine ite2 (fun c => ?_) (fun c => ?_)
    · have hb0 : b ≠ 0 := fun z => by subst z; simp at c
      refine ⟨_, rfl, _, rfl, a, b, rfl, rfl, by show (0 : Int) < b; omega, _, rfl, _, rfl, ?_⟩
      refine ⟨(a % b).toNat, ?_, rfl, b, a % b, _, rfl, hb, Int.emod_nonneg _ hb0, ?_, rfl⟩
      · have := Int.emod_lt_of_pos a (show 0 < b by omega)
        have := Int.emod_nonneg a hb0
        omega
      · rw [FQ.gcd_turn, hg]
    · have hb0 : b = 0 := by
        by_cases z : b = 0
        · exact z
        · exact absurd (by simpa using z) c
      subst hb0
      refine ⟨_, rfl, ?_⟩
      have e : (a : Int) = (Int.gcd i j : Int) := by rw [← hg]; simp; omega
      rw [e]
      exact q
  · obtain ⟨v, e, sc, k, ek, q⟩ := h
    exact ⟨v, e, sc, k, ek, hQ _ _ q⟩
theorem sc_fraction : FnScope ["top", "bottom", "divisor"] ["top", "bottom"] (defScope (top 7)) := ⟨rfl, rfl, rfl, by decide +kernel, rfl, by decide +kernel, by decide +kernel⟩
set_option maxHeartbeats 4000000 in
theorem d_fraction {P : Program} {w : World} {K : PySem.W.Frag} {mg : Str → Option Value} {base : Heap} {x : Xs} (M : Md K mg x)
    (Gis_whole : Dn P w K mg base CX0 1 "is_whole" ["value"] (spWhole))
    (Gcommon_divisor : Dn P w K mg base CX0 1 "common_divisor" ["one", "two"] (spGcd)) : Dn P w K mg base (CXE P w) 2 "fraction" ["top", "bottom"] (spFractionE x) := by
  have nd := (sc_fraction).nd
  refine M.f_fraction.okE sc_fraction (fun vs H Q E h => ?_) (fun _ _ _ _ _ _ us hl => match us, hl with | [_, _], _ => rfl) (fun f cdv A outer s H vs Q E hr h => ?_)
  · obtain ⟨t, b, rfl, hE, q⟩ := h
    rfl
  obtain ⟨t, b, rfl, hE, q⟩ := h
  refine ⟨_, (pss_cons (ps_if (PW.pt (pw_or (pt_not (pt_val (pe_fn Gis_whole hr (by decide) rfl pass0 (pa_cons (pv 0) pa_nil)))) (pw_or (pt_not (pt_val (pe_fn Gis_whole hr (by decide) rfl pass0 (pa_cons (pv 1) pa_nil)))) (pw_or1 (pt_cmpR op_eq (pv 1) pe_int (nomark _)))))) (pss_one (ps_raise M.x_NoFraction rfl (pa_cons pe_str pa_nil))) pss_nil)
      (pss_cons (ps_set (i := 2) nd rfl (Or.inl rfl) (pe_fn Gcommon_divisor hr (by decide) rfl pass0 (pa_cons (pv 0) (pa_cons (pv 1) pa_nil))))
      (pss_cons (ps_if (pt_cmpR op_lt (pv 1) pe_int (nomark _)) (pss_one (ps_set (i := 2) nd rfl (Or.inl rfl) (pe_un un_neg (pv 2)))) pss_nil)
      (pss_one (ps_ret (pe_tup (pa_cons (pe_op op_divB (pv 0) (pv 2)) (pa_cons (pe_op op_divB (pv 1) (pv 2)) pa_nil)))))))), ?_⟩
  refine ⟨_, rfl, t, rfl, _, rfl, iteF ⟨_, rfl, b, rfl, _, rfl, iteF ⟨_, rfl, rfl, _, rfl, iteD2 (fun c => ?_) (fun c => ?_)⟩⟩⟩
  · exact ⟨by show 1 ≤ sizeLine; decide, hE (Veq c)⟩
  have hb : b ≠ 0 := fun z => c (by rw [z])
  obtain ⟨hz, q⟩ := q hb
  refine ⟨_, rfl, _, rfl, t, b, rfl, ?_⟩
  refine ⟨_, rfl, b, 0, rfl, rfl, _, rfl, ?_⟩
  have hs := fraction_div (t := t) hb hz
  refine ite2 (fun c => ?_) (fun c => ?_)
  · have hneg : b < 0 := of_decide_eq_true c
    have e := hs.1 hneg
    refine ⟨_, rfl, _, rfl, ?_⟩
    refine ⟨_, rfl, _, rfl, t, _, rfl, rfl, e.1, _, rfl, _, rfl, b, _, rfl, rfl, e.1, by show 2 ≤ sizeLine; decide, fun p hp => q p _ (same_new hp _) ?_⟩
    rw [upd_same]
    show some (HO.tup [V.int (t.fdiv _), V.int (b.fdiv _)]) = _
    rw [e.2.1, e.2.2]
    rfl
  · have hpos : ¬ b < 0 := of_decide_eq_false (Bool.eq_false_iff.mpr c)
    have e := hs.2 hpos
    refine ⟨_, rfl, _, rfl, t, _, rfl, rfl, e.1, _, rfl, _, rfl, b, _, rfl, rfl, e.1, by show 2 ≤ sizeLine; decide, fun p hp => q p _ (same_new hp _) ?_⟩
    rw [upd_same]
    show some (HO.tup [V.int (t.fdiv _), V.int (b.fdiv _)]) = _
    rw [e.2.1, e.2.2]
    rfl
theorem sc_is_listing : FnScope ["value"] ["value"] (defScope (top 9)) := ⟨rfl, rfl, rfl, by decide +kernel, rfl, by decide +kernel, by decide +kernel⟩
set_option maxHeartbeats 4000000 in
theorem d_is_listing {P : Program} {w : World} {K : PySem.W.Frag} {mg : Str → Option Value} {base : Heap} {x : Xs} (M : Md K mg x) : Dn P w K mg base CX0 1 "is_listing" ["value"] (spListing K) := by
  have nd := (sc_is_listing).nd
  refine M.f_is_listing.ok sc_is_listing (fun vs H Q E h => ?_) (fun _ _ _ _ _ _ us hl => match us, hl with | [_], _ => rfl) (fun f cdv A outer s H vs Q E hr h => ?_)
  · obtain ⟨v, t, rfl, ty, q⟩ := h
    rfl
  obtain ⟨v, t, rfl, ty, q⟩ := h
  refine ⟨_, (pss_one (ps_ret (pe_callB call_isT2 rfl M.b_isinstance Boot.«isinstance» (pa_cons (pv 0) (pa_cons (pe_tup (pa_cons (pe_ty rfl M.b_list Boot.«list») (pa_cons (pe_ty rfl M.b_tuple Boot.«tuple») pa_nil))) pa_nil))))), ?_⟩
  refine ⟨_, rfl, by show 2 ≤ sizeLine; decide, fun tp htp => ?_⟩
  exact ⟨v, tp, t, rfl, SqT.of upd_same, ty.mono (same_new htp _), q _ (same_new htp _)⟩
theorem sc_holds_each_once : FnScope ["row", "count"] ["row", "count"] (defScope (top 10)) := ⟨rfl, rfl, rfl, by decide +kernel, rfl, by decide +kernel, by decide +kernel⟩
set_option maxHeartbeats 4000000 in
theorem d_holds_each_once {P : Program} {w : World} {K : PySem.W.Frag} {mg : Str → Option Value} {base : Heap} {x : Xs} (M : Md K mg x)
    (Gis_listing : Dn P w K mg base CX0 1 "is_listing" ["value"] (spListing K))
    (Gis_whole : Dn P w K mg base CX0 1 "is_whole" ["value"] (spWhole)) : Dn P w K mg base CX0 2 "holds_each_once" ["row", "count"] (spIsWish K) := by
  have nd := (sc_holds_each_once).nd
  refine M.f_holds_each_once.ok sc_holds_each_once (fun vs H Q E h => ?_) (fun _ _ _ _ _ _ us hl => match us, hl with | [_, _], _ => rfl) (fun f cdv A outer s H vs Q E hr h => ?_)
  · obtain ⟨v, ns, n, rfl, hv, hl, hn, q⟩ := h
    rfl
  obtain ⟨v, ns, n, rfl, hv, hl, hn, q⟩ := h
  refine ⟨_, (pss_cons (ps_if (PW.pt (pw_or (pt_not (pt_val (pe_fn Gis_listing hr (by decide) rfl pass0 (pa_cons (pv 0) pa_nil)))) (pw_or1 (pt_not (pt_val (pe_callB (call_all rfl) rfl M.b_all Boot.«all» (pa_cons (pe_comp rfl (N := ["number"]) (caps := [none]) (CompOk.of (by kernel_rfl)) (gk_name rfl) (pi_seq (pv 0)) (fun _ _ _ _ => (pg_name (i := 0) (show (["number"] : List Str).Nodup by decide +kernel) rfl (Or.inl rfl) (Or.inr rfl))) (fun _ _ _ _ => pts_nil) (fun _ _ _ _ => (pe_fn Gis_whole hr (by decide) rfl pass0 (pa_cons (pv 0) pa_nil)))) pa_nil))))))) (pss_one (ps_ret pe_bl)) pss_nil)
      (pss_one (ps_ret (pe_cmpR (op_eqD hr) (pe_callB (call_sorted) rfl M.b_sorted Boot.«sorted» (pa_cons (pv 0) pa_nil)) (pe_callTy (call_list_rng rfl) rfl M.b_list Boot.«list» (pa_cons (pe_callTy call_range rfl M.b_range PyProof.Rows.boot_range (pa_cons (pv 1) pa_nil)) pa_nil)) (nomark _))))), ?_⟩
  obtain ⟨t, ty, ht⟩ := hv.ty
  refine ⟨_, rfl, v, t, rfl, ty, fun H1 S1 => ⟨_, rfl, ?_⟩⟩
  rw [ht]
  refine iteF ?_
  obtain ⟨a, rfl, hv1⟩ := hv.mono S1
  rcases hv1 with hv1 | hv1
  · refine .inl ⟨_, rfl, a, rfl, ⟨_, hv1⟩, ?_⟩
    refine comp_list1 (xs := ns.map V.int) (fun i ys H2 => H2 = H1 ∧ ys = (List.replicate i true).map V.bl) ⟨rfl, rfl⟩ (fun i ys H2 _ hP => by rw [hP.1]; exact hv1) (fun i y ys H2 hx hP => ?_) (fun ys H2 hP D hD => ?_)
    · obtain ⟨rfl, rfl⟩ := hP
      rw [List.getElem?_map] at hx
      have hi : i < ns.length := by
        by_cases z : i < ns.length
        · exact z
        · rw [List.getElem?_eq_none (by omega)] at hx; cases hx
      rw [List.getElem?_eq_getElem hi] at hx
      cases hx
      refine ⟨_, rfl, ns[i], rfl, small1000 (by simp; omega), rfl, ?_⟩
      rw [List.replicate_succ', List.map_append]
      rfl
    · obtain ⟨rfl, rfl⟩ := hP
      rw [List.length_map]
      have S2 : Same H2 (upd H2 D (.lst ((List.replicate ns.length true).map V.bl))) := same_new hD _
      have hD : SqL K (upd H2 D (.lst ((List.replicate ns.length true).map V.bl))) D ((List.replicate ns.length true).map V.bl) := SqL.of upd_same
      have hv2 := Rw.mono (S1.trans S2) hv
      generalize upd H2 D (.lst ((List.replicate ns.length true).map V.bl)) = H3 at S2 hD hv2 ⊢
      refine ⟨D, List.replicate ns.length true, rfl, hD, _, rfl, ?_⟩
      rw [show (List.replicate ns.length true).all id = true by simp]
      refine iteF ?_
      obtain ⟨a', e', hv2⟩ := hv2
      cases e'
      refine ⟨_, rfl, a, ns, rfl, hv2, by omega, fun l ns' hl' hp hs => ?_⟩
      refine ⟨_, rfl, (n : Int), rfl, fun l2 hl2 => ⟨l2, n, rfl, upd_same, by omega, fun l3 hl3 => ?_⟩⟩
      have e3 : ((List.range n).map fun (i : Nat) => V.int (i : Int)) = (LM.rng n).map V.int := by unfold LM.rng; rw [List.map_map]; rfl
      have S4 : Same H3 _ := ((same_new hl' (.lst (ns'.map V.int))).trans (same_new hl2 (.rng 0 n))).trans (same_new hl3 (.lst ((List.range n).map fun (i : Nat) => V.int (i : Int))))
      refine ⟨.list (ns'.map PyData.int), .list ((LM.rng n).map PyData.int), ?_, ?_, shaped_ok (n := 1) (by simp [okD]) (by decide), shaped_ok (n := 1) (by simp [okD]) (by decide), ?_⟩
      · exact .lst (SqL.of (same_new hl3 _ _ _ (same_new hl2 _ _ _ upd_same))) (Reps.ints ns') (by rw [List.length_map, hp.length_eq]; omega)
      · exact .lst (SqL.of (by rw [upd_same, e3])) (Reps.ints _) (by rw [List.length_map, LM.rng_len]; omega)
      · rw [eqv_ints]
        refine q _ _ (S1.trans (S2.trans S4)) ?_
        rw [decide_eq_true_eq]
        exact LM.sorted_iff hp hs
  · refine .inr ⟨_, rfl, a, rfl, ⟨_, hv1⟩, ?_⟩
    refine comp_tup1 (xs := ns.map V.int) (fun i ys H2 => H2 = H1 ∧ ys = (List.replicate i true).map V.bl) ⟨rfl, rfl⟩ (fun i ys H2 _ hP => by rw [hP.1]; exact hv1) (fun i y ys H2 hx hP => ?_) (fun ys H2 hP D hD => ?_)
    · obtain ⟨rfl, rfl⟩ := hP
      rw [List.getElem?_map] at hx
      have hi : i < ns.length := by
        by_cases z : i < ns.length
        · exact z
        · rw [List.getElem?_eq_none (by omega)] at hx; cases hx
      rw [List.getElem?_eq_getElem hi] at hx
      cases hx
      refine ⟨_, rfl, ns[i], rfl, small1000 (by simp; omega), rfl, ?_⟩
      rw [List.replicate_succ', List.map_append]
      rfl
    · obtain ⟨rfl, rfl⟩ := hP
      rw [List.length_map]
      have S2 : Same H2 (upd H2 D (.lst ((List.replicate ns.length true).map V.bl))) := same_new hD _
      have hD : SqL K (upd H2 D (.lst ((List.replicate ns.length true).map V.bl))) D ((List.replicate ns.length true).map V.bl) := SqL.of upd_same
      have hv2 := Rw.mono (S1.trans S2) hv
      generalize upd H2 D (.lst ((List.replicate ns.length true).map V.bl)) = H3 at S2 hD hv2 ⊢
      refine ⟨D, List.replicate ns.length true, rfl, hD, _, rfl, ?_⟩
      rw [show (List.replicate ns.length true).all id = true by simp]
      refine iteF ?_
      obtain ⟨a', e', hv2⟩ := hv2
      cases e'
      refine ⟨_, rfl, a, ns, rfl, hv2, by omega, fun l ns' hl' hp hs => ?_⟩
      refine ⟨_, rfl, (n : Int), rfl, fun l2 hl2 => ⟨l2, n, rfl, upd_same, by omega, fun l3 hl3 => ?_⟩⟩
      have e3 : ((List.range n).map fun (i : Nat) => V.int (i : Int)) = (LM.rng n).map V.int := by unfold LM.rng; rw [List.map_map]; rfl
      have S4 : Same H3 _ := ((same_new hl' (.lst (ns'.map V.int))).trans (same_new hl2 (.rng 0 n))).trans (same_new hl3 (.lst ((List.range n).map fun (i : Nat) => V.int (i : Int))))
      refine ⟨.list (ns'.map PyData.int), .list ((LM.rng n).map PyData.int), ?_, ?_, shaped_ok (n := 1) (by simp [okD]) (by decide), shaped_ok (n := 1) (by simp [okD]) (by decide), ?_⟩
      · exact .lst (SqL.of (same_new hl3 _ _ _ (same_new hl2 _ _ _ upd_same))) (Reps.ints ns') (by rw [List.length_map, hp.length_eq]; omega)
      · exact .lst (SqL.of (by rw [upd_same, e3])) (Reps.ints _) (by rw [List.length_map, LM.rng_len]; omega)
      · rw [eqv_ints]
        refine q _ _ (S1.trans (S2.trans S4)) ?_
        rw [decide_eq_true_eq]
        exact LM.sorted_iff hp hs
theorem sc_best_free : FnScope ["wish", "taken"] ["wish", "taken"] (defScope (top 12)) := ⟨rfl, rfl, rfl, by decide +kernel, rfl, by decide +kernel, by decide +kernel⟩
set_option maxHeartbeats 4000000 in
theorem d_best_free {P : Program} {w : World} {K : PySem.W.Frag} {mg : Str → Option Value} {base : Heap} {x : Xs} (M : Md K mg x) : Dn P w K mg base CX0 1 "best_free" ["wish", "taken"] (spBestFS K) := by
  have nd := (sc_best_free).nd
  refine M.f_best_free.ok sc_best_free (fun vs H Q E h => ?_) (fun _ _ _ _ _ _ us hl => match us, hl with | [_, _], _ => rfl) (fun f cdv A outer s H vs Q E hr h => ?_)
  · obtain ⟨w, l, row, ts, rfl, hw, hl, h63, hex, q⟩ := h
    rfl
  obtain ⟨w, l, row, ts, rfl, hw, hl, h63, hex, q⟩ := h
  refine ⟨_, (pss_one (ps_ret (pe_ix ix_list (pe_comp rfl (N := ["thing", "taken"]) (caps := [none, some 1]) (CompOk.of (by kernel_rfl)) (gk_name rfl) (pi_tup (pv 0)) (fun _ _ _ _ => (pg_name (i := 0) (show (["thing", "taken"] : List Str).Nodup by decide +kernel) rfl (Or.inl rfl) (Or.inr rfl))) (fun _ _ _ _ => (pts_one (pt_cmpR (op_notIn_seqK (K := K) rfl) (pv 0) (pv 1) (by with_unfolding_all rfl)))) (fun _ _ _ _ => (pv 0))) pe_int (fun _ _ => rfl)))), ?_⟩
  refine ⟨_, rfl, w, rfl, ⟨_, hw⟩, ?_⟩
  refine comp_tup (xs := row.map V.int) (fun j ys H' => H' = H ∧ ys = (leftIn (row.take j) ts).map V.int)
    ⟨rfl, rfl⟩ (fun j ys H' _ hP => by rw [hP.1]; exact hw) (fun j y ys H' hy hP => ?_) (fun ys H' hP pl hpl => ?_)
  · obtain ⟨rfl, rfl⟩ := hP
    rw [List.getElem?_map] at hy
    cases hri : row[j]? with
    | none => rw [hri] at hy; cases hy
    | some u =>
      rw [hri] at hy
      have hy' : V.int u = y := Option.some.inj hy
      subst hy'
      refine ⟨_, rfl, _, rfl, l, _, rfl, hl, rfl, flat_ints _, _, rfl, ?_⟩
      have hlen : ((leftIn (row.take j) ts).map V.int).length < sizeLine := by
        rw [List.length_map]
        have h1 := List.length_filter_le (fun t => !decide (t ∈ ts)) (row.take j)
        rw [List.length_take] at h1
        exact small1000 (by unfold leftIn; omega)
      show if (!inV (.int u) (ts.map V.int)) = true then _ else _
      unfold leftIn at hlen ⊢
      rw [inV_int, List.take_add_one, hri, List.filter_append, List.map_append]
      refine iteN2 (fun c => ?_) (fun c => ?_)
      · refine ⟨_, rfl, hlen, rfl, ?_⟩
        simp [c]
      · refine ⟨rfl, ?_⟩
        simp [c]
  · obtain ⟨rfl, rfl⟩ := hP
    rw [List.length_map, List.take_length]
    exact ⟨pl, _, 0, _, rfl, rfl, SqL.of upd_same, atI_ok (by decide) (by show _ = _; rw [show (0 : Int).toNat = 0 from rfl]; rw [List.getElem?_map, (bestF_get hex).1]; rfl), q _ (same_new hpl _)⟩
theorem sc_deal_by : FnScope ["wishes", "order", "taken", "person", "things"] ["wishes", "order"] (defScope (top 13)) := ⟨rfl, rfl, rfl, by decide +kernel, rfl, by decide +kernel, by decide +kernel⟩
set_option maxHeartbeats 4000000 in
theorem d_deal_by {P : Program} {w : World} {K : PySem.W.Frag} {mg : Str → Option Value} {base : Heap} {x : Xs} (M : Md K mg x)
    (Gholds_each_once : Dn P w K mg base CX0 2 "holds_each_once" ["row", "count"] (spIsWish K))
    (Gbest_free : Dn P w K mg base CX0 1 "best_free" ["wish", "taken"] (spBestFS K)) : Dn P w K mg base (CXE P w) 3 "deal_by" ["wishes", "order"] (spDealBy K x) := by
  have nd := (sc_deal_by).nd
  refine M.f_deal_by.okE sc_deal_by (fun vs H Q E h => ?_) (fun _ _ _ _ _ _ us hl => match us, hl with | [_, _], _ => rfl) (fun f cdv A outer s H vs Q E hr h => ?_)
  · obtain ⟨a, v, ws, W, n, o, rfl, hA, hW, ok, hv, ho60, hE, q⟩ := h
    rfl
  obtain ⟨a, v, ws, W, n, o, rfl, hA, hW, ok, hv, ho60, hE, q⟩ := h
  refine ⟨_, (pss_cons (ps_if (pt_not (pt_val (pe_fn Gholds_each_once hr (by decide) rfl pass0 (pa_cons (pv 1) (pa_cons (pe_callB call_len_seq rfl M.b_len PySem.boot_len (pa_cons (pv 0) pa_nil)) pa_nil))))) (pss_one (ps_raise M.x_NoOrder rfl (pa_cons pe_str pa_nil))) pss_nil)
      (pss_cons (ps_set (i := 2) nd rfl (Or.inl rfl) (pe_lst pa_nil))
      (pss_cons (ps_for PassesOwn.leaving rfl (pi_sqb (pv 1)) (pg_name (i := 3) nd rfl (Or.inl rfl)) (pss_one (ps_expr (pe_bm PySem.F.plainAttrs_list PySem.F.slot_list_append PySem.F.type_list_append mt_append (pv 2) (pa_cons (pe_fn Gbest_free hr (by decide) rfl pass0 (pa_cons (pe_ix ix_list (pv 0) (pv 3) (fun _ _ => rfl)) (pa_cons (pv 2) pa_nil))) pa_nil)))))
      (pss_cons (ps_set (i := 4) nd rfl (Or.inr rfl) (pe_dictZip rfl rfl M.b_dict rfl M.b_zip (pa_cons (pv 1) (pa_cons (pv 2) pa_nil))))
      (pss_one (ps_ret (pe_callTy call_tuple_of rfl M.b_tuple Boot.«tuple» (pa_cons (pe_comp rfl (N := ["person", "things"]) (caps := [none, some 4]) (CompOk.of (by kernel_rfl)) (gk_name rfl) (pi_range1 rfl M.b_range (pa_cons (pe_callB call_len_seq rfl M.b_len PySem.boot_len (pa_cons (pv 0) pa_nil)) pa_nil)) (fun _ _ _ _ => (pg_name (i := 0) (show (["person", "things"] : List Str).Nodup by decide +kernel) rfl (Or.inl rfl) (Or.inr rfl))) (fun _ _ _ _ => pts_nil) (fun _ _ _ _ => (pe_ix ix_dict (pv 1) (pv 0) (fun _ _ => rfl)))) pa_nil)))))))), ?_⟩
  have hwl := Paired.len hW
  have hn1 := ok.lo
  have hn6 := ok.hi
  have hWn := ok.len
  refine ⟨_, rfl, _, rfl, a, ws, rfl, .inl hA, v, o, ws.length, rfl, hv, ho60, by omega, fun b H1 S1 hb => ⟨_, rfl, ?_⟩⟩
  rw [hwl, hWn] at hb
  cases b with
  | false => exact iteT ⟨by show 1 ≤ sizeLine; decide, hE (fun z => nomatch hb.mpr z) H1 S1⟩
  | true =>
  refine iteF ?_
  have hpm : LN.Pm n o := hb.mp rfl
  have q := q hpm
  have hol := hpm.len
  have small0 : (0 : Nat) ≤ sizeLine := by decide
  obtain ⟨oa, rfl⟩ : ∃ oa, v = .ref oa := by obtain ⟨oa, e, _⟩ := hv; exact ⟨oa, e⟩
  obtain ⟨tp, hB⟩ := (hv.mono S1).sqb
  refine ⟨small0, fun f hf => ?_⟩
  have hf0 : H f = none := S1.free hf
  have S2 : Same H1 (upd H1 f (.lst [])) := same_new hf _
  have hf2 : upd H1 f (.lst []) f = some (.lst []) := upd_same
  have hB2 := SqB.mono S2 hB
  have ol : (o.map V.int).length = n := by rw [List.length_map]; exact hol
  refine ⟨_, rfl, oa, tp, rfl, ⟨_, hB2⟩, ?_⟩
  refine for_sqb (xs := o.map V.int) (fun k σ H' => Same H1 H' ∧ H' f = some (.lst ((tk W o k).map V.int)) ∧ ∃ r3 r4, σ = [some (.ref a), some (.ref oa), some (.ref f), r3, r4])
    ⟨S2, hf2, _, _, rfl⟩ (fun k σ H' _ hP => SqB.mono hP.1 hB) (fun k x' σ H' hx hP => ?_) (fun σ H' hP => ?_)
  · obtain ⟨S3, hF, r3, r4, rfl⟩ := hP
    have hk : k < o.length := by
      have := (List.getElem?_eq_some_iff.mp hx).1
      rw [List.length_map] at this
      exact this
    rw [map_int_get hk] at hx
    cases hx
    have hom : o.getD k 0 ∈ o := by
      rw [List.getD_eq_getElem?_getD, List.getElem?_eq_getElem hk]
      exact List.getElem_mem hk
    have hob := hpm.mem.mp hom
    have hwk : (o.getD k 0).toNat < W.length := by omega
    have eW : W.getD (o.getD k 0).toNat [] = W[(o.getD k 0).toNat] := by rw [List.getD_eq_getElem?_getD, List.getElem?_eq_getElem hwk]; rfl
    have hwpm := ok.pm _ (List.getElem_mem hwk)
    obtain ⟨wv, hwv, hwR⟩ := Paired.get hW (List.getElem?_eq_getElem hwk)
    obtain ⟨wa, rfl, hwa⟩ := (hwR.mono S1).mono S3
    have hwlen := hwpm.len
    refine ⟨_, rfl, .inl ⟨rfl, _, SqL.of hF⟩, _, rfl, _, rfl, a, ws, _, _, rfl, rfl, (S1.trans S3).seq hA, atI_ok hob.1 hwv, _, rfl, wa, f, _, tk W o k, rfl, hwa, .inl (SqL.of hF), by omega, free_ex hwpm (by rw [tk_len]; omega), fun H4 S4 => ?_⟩
    refine ⟨f, _, _, rfl, rfl, S4 _ _ hF, small1000 (by rw [List.length_map, tk_len]; omega), ?_⟩
    refine ⟨(S3.trans S4).over hf _, ?_, _, _, rfl⟩
    rw [upd_same, show tk W o (k + 1) = tk W o k ++ [bestF (W.getD (o.getD k 0).toNat []) (tk W o k)] from rfl, List.map_append, eW]
    rfl
  obtain ⟨S3, hF, r3, r4, rfl⟩ := hP
  rw [ol] at hF
  have S13 := S1.trans S3
  refine ⟨_, rfl, _, rfl, tp, false, oa, f, o, (tk W o n).map V.int, rfl, SqB.mono S3 hB, SqL.of hF, hpm.nodup, by rw [List.length_map, tk_len, hol], by omega, fun d hd => ?_⟩
  have S4 : Same H' (upd H' d (.dK ((o.map Sum.inl).zip ((tk W o n).map V.int)))) := same_new hd _
  have hd4 : upd H' d (.dK ((o.map Sum.inl).zip ((tk W o n).map V.int))) d = some (.dK ((o.map Sum.inl).zip ((tk W o n).map V.int))) := upd_same
  generalize upd H' d (.dK ((o.map Sum.inl).zip ((tk W o n).map V.int))) = H4 at S4 hd4 ⊢
  have S14 := S13.trans S4
  refine ⟨_, rfl, a, ws, rfl, .inl (S14.seq hA), _, rfl, by omega, by omega, ?_⟩
  refine comp_range1 (n := ws.length) (fun i ys H5 => H5 = H4 ∧ ∃ ds : List Int, ys = ds.map V.int ∧ ds.length = i ∧ ∀ j, j < n → (o.getD j 0).toNat < i → ds[(o.getD j 0).toNat]? = some (bt W o j))
    ⟨rfl, [], rfl, rfl, fun j _ hj => absurd hj (Nat.not_lt_zero _)⟩ (fun i ys H5 hi hP => ?_) (fun ys H5 hP D hD => ?_)
  · obtain ⟨rfl, ds, rfl, hdl, hds⟩ := hP
    have hin : i < n := by omega
    obtain ⟨j, hj, e⟩ := List.mem_iff_getElem.mp (hpm.mem.mpr (show (0 : Int) ≤ (i : Int) ∧ (i : Int) < n by omega))
    have hjn : j < n := by omega
    have ej : o.getD j 0 = (i : Int) := by rw [List.getD_eq_getElem?_getD, List.getElem?_eq_getElem hj, e]; rfl
    refine ⟨_, rfl, _, rfl, d, _, _, j, .int (bt W o j), rfl, rfl, hd4, ?_, small1000 (by rw [List.length_map]; omega), rfl, ds ++ [bt W o j], by rw [List.map_append]; rfl, by rw [List.length_append, hdl]; rfl, fun j' hj' hlt => ?_⟩
    · refine List.getElem?_zip_eq_some.mpr ⟨?_, ?_⟩
      · rw [List.getElem?_map, List.getElem?_eq_getElem hj, e, Int.zero_add]
        rfl
      · rw [List.getElem?_map, tk_eq, List.getElem?_map, List.getElem?_range hjn]
        rfl
    · rcases Nat.lt_succ_iff_lt_or_eq.mp hlt with z | z
      · rw [List.getElem?_append_left (by omega)]
        exact hds j' hj' z
      · have hj2 : j' < o.length := by omega
        have e2 : o.getD j' 0 = o[j'] := by rw [List.getD_eq_getElem?_getD, List.getElem?_eq_getElem hj2]; rfl
        have hb2 := hpm.mem.mp (List.getElem_mem hj2)
        have e3 : o[j'] = (i : Int) := by rw [e2] at z; omega
        have ejj : j' = j := nodup_ix' hpm.nodup (by rw [List.getElem?_eq_getElem hj2, e3]) (by rw [List.getElem?_eq_getElem hj, e])
        subst ejj
        rw [z, List.getElem?_append_right (by omega), hdl, Nat.sub_self]
        rfl
  · obtain ⟨rfl, ds, rfl, hdl, hds⟩ := hP
    have hdn : ds.length = n := by omega
    refine ⟨D, _, rfl, .inl ⟨SqL.of upd_same, fun p hp => q p ds _ (S14.trans ((same_new hD _).trans (same_new hp _))) ?_ upd_same ⟨hdn, fun j hj => hds j hj ?_⟩⟩⟩
    · exact S14.free ((same_new hD _).free hp)
    · have hj2 : j < o.length := by omega
      have hb2 := hpm.mem.mp (List.getElem_mem hj2)
      rw [List.getD_eq_getElem?_getD, List.getElem?_eq_getElem hj2]
      show o[j].toNat < ws.length
      omega
theorem sc_with_one : FnScope ["numbers", "number"] ["numbers", "number"] (defScope (top 14)) := ⟨rfl, rfl, rfl, by decide +kernel, rfl, by decide +kernel, by decide +kernel⟩
set_option maxHeartbeats 4000000 in
theorem d_with_one {P : Program} {w : World} {K : PySem.W.Frag} {mg : Str → Option Value} {base : Heap} {x : Xs} (M : Md K mg x) : Dn P w K mg base CX0 1 "with_one" ["numbers", "number"] (spWithOne K) := by
  have nd := (sc_with_one).nd
  refine M.f_with_one.ok sc_with_one (fun vs H Q E h => ?_) (fun _ _ _ _ _ _ us hl => match us, hl with | [_, _], _ => rfl) (fun f cdv A outer s H vs Q E hr h => ?_)
  · obtain ⟨a, ns, x, rfl, hA, h60, q⟩ := h
    rfl
  obtain ⟨a, ns, x, rfl, hA, h60, q⟩ := h
  refine ⟨_, (pss_one (ps_ret (pe_callTy call_tuple_of rfl M.b_tuple Boot.«tuple» (pa_cons (pe_callB (call_sorted) rfl M.b_sorted Boot.«sorted» (pa_cons (pe_op op_catE (pv 0) (pe_tup (pa_cons (pv 1) pa_nil))) pa_nil)) pa_nil)))), ?_⟩
  refine ⟨_, rfl, _, rfl, by show 1 ≤ sizeLine; decide, fun t1 ht1 => ?_⟩
  have S1 : Same H (upd H t1 (.tup [.int x])) := same_new ht1 _
  have h1 : SqT K (upd H t1 (.tup [.int x])) t1 (([x] : List Int).map V.int) := SqT.of upd_same
  generalize upd H t1 (.tup [.int x]) = H1 at S1 h1 ⊢
  refine cat_i (S1.tup hA) h1 (by simp; omega) fun p2 H2 S2 h2 => ?_
  refine ⟨p2, ns ++ [x], rfl, .inr h2, by simp; omega, fun l ns' hl hp hs => ?_⟩
  refine ⟨l, _, rfl, .inl ⟨SqL.of upd_same, fun p hp' => q p _ (S1.trans (S2.trans ((same_new hl _).trans (same_new hp' _)))) ?_⟩⟩
  rw [TM.srt_eq hp hs]
  exact SqT.of upd_same
theorem sc_turns_from : FnScope ["wishes", "gone", "taken", "people"] ["wishes", "gone", "taken"] (defScope (top 15)) := ⟨rfl, rfl, rfl, by decide +kernel, rfl, by decide +kernel, by decide +kernel⟩
set_option maxHeartbeats 4000000 in
theorem d_turns_from {P : Program} {w : World} {K : PySem.W.Frag} {mg : Str → Option Value} {base : Heap} {x : Xs} (M : Md K mg x)
    (Gbest_free : Dn P w K mg base CX0 1 "best_free" ["wish", "taken"] (spBestFS K)) : Dn P w K mg base CX0 2 "turns_from" ["wishes", "gone", "taken"] (spTurnsF K) := by
  have nd := (sc_turns_from).nd
  refine M.f_turns_from.ok sc_turns_from (fun vs H Q E h => ?_) (fun _ _ _ _ _ _ us hl => match us, hl with | [_, _, _], _ => rfl) (fun f cdv A outer s H vs Q E hr h => ?_)
  · obtain ⟨a, g, t, ws, W, n, key, rfl, hA, hW, ok, hg, ht, hkl, q⟩ := h
    rfl
  obtain ⟨a, g, t, ws, W, n, key, rfl, hA, hW, ok, hg, ht, hkl, q⟩ := h
  refine ⟨_, (pss_cons (ps_setComp (i := 3) nd rfl rfl rfl rfl (N := ["person", "gone"]) (caps := [none, some 1]) (CompOk.of (by kernel_rfl)) (gk_name rfl) (pi_range1 rfl M.b_range (pa_cons (pe_callB call_len_seq rfl M.b_len PySem.boot_len (pa_cons (pv 0) pa_nil)) pa_nil)) (fun _ _ _ _ => (pg_name (i := 0) (show (["person", "gone"] : List Str).Nodup by decide +kernel) rfl (Or.inl rfl) (Or.inr rfl))) (fun _ _ _ _ => (pts_one (pt_cmpR (op_notIn_seqK (K := K) rfl) (pv 0) (pv 1) (by with_unfolding_all rfl)))) (fun _ _ _ _ => (pv 0)))
      (pss_one (ps_ret (pe_comp rfl (N := ["person", "wishes", "taken"]) (caps := [none, some 0, some 2]) (CompOk.of (by kernel_rfl)) (gk_name rfl) (pi_list (pv 3)) (fun _ _ _ _ => (pg_name (i := 0) (show (["person", "wishes", "taken"] : List Str).Nodup by decide +kernel) rfl (Or.inl rfl) (Or.inr rfl))) (fun _ _ _ _ => pts_nil) (fun _ _ _ _ => (pe_tup (pa_cons (pv 0) (pa_cons (pe_fn Gbest_free hr (by decide) rfl pass0 (pa_cons (pe_ix (ix_listK (K := K) rfl) (pv 1) (pv 0) (fun _ _ => rfl)) (pa_cons (pv 2) pa_nil))) pa_nil)))))))), ?_⟩
  have hwl := Paired.len hW
  have hn1 := ok.lo
  have hn6 := ok.hi
  have hWn := ok.len
  have hwn : ws.length = n := by omega
  refine ⟨_, rfl, a, ws, rfl, .inl hA, _, rfl, by omega, by omega, ?_⟩
  refine comp_range (n := ws.length) (fun i ys H1 => H1 = H ∧ ys = (((LM.rng n).take i).filter fun p => !decide (p ∈ key.1)).map V.int) ⟨rfl, rfl⟩ (fun i ys H1 hi hP => ?_) (fun ys H1 hP D hD => ?_)
  · obtain ⟨rfl, rfl⟩ := hP
    have hri : (LM.rng n)[i]? = some (i : Int) := by unfold LM.rng; rw [List.getElem?_map, List.getElem?_range (by omega)]; rfl
    have hlen : ((((LM.rng n).take i).filter fun p => !decide (p ∈ key.1)).map V.int).length < sizeLine := by
      rw [List.length_map]
      have h1 := List.length_filter_le (fun p => !decide (p ∈ key.1)) ((LM.rng n).take i)
      rw [List.length_take] at h1
      exact small1000 (by omega)
    refine ⟨_, rfl, _, rfl, g, _, rfl, .inr hg, rfl, flat_ints _, _, rfl, ?_⟩
    show if (!inV (.int (0 + (i : Int))) (key.1.map V.int)) = true then _ else _
    rw [Int.zero_add, inV_int, List.take_add_one, hri, List.filter_append, List.map_append]
    refine iteN2 (fun c => ?_) (fun c => ?_)
    · refine ⟨_, rfl, hlen, rfl, ?_⟩
      simp [c]
    · refine ⟨rfl, ?_⟩
      simp [c]
  obtain ⟨rfl, rfl⟩ := hP
  rw [List.take_of_length_le (by rw [LM.rng_len]; omega), show List.filter (fun p => !decide (p ∈ key.1)) (LM.rng n) = TM.freeP n key.1 from rfl]
  have S2 : Same H1 (upd H1 D (.lst ((TM.freeP n key.1).map V.int))) := same_new hD _
  have hD2 : SqL K (upd H1 D (.lst ((TM.freeP n key.1).map V.int))) D ((TM.freeP n key.1).map V.int) := SqL.of upd_same
  generalize upd H1 D (.lst ((TM.freeP n key.1).map V.int)) = H2 at S2 hD2 ⊢
  refine ⟨_, rfl, D, rfl, ⟨_, hD2⟩, ?_⟩
  refine comp_list1 (xs := (TM.freeP n key.1).map V.int) (fun j ys H3 => Same H2 H3 ∧ Paired (IsF K H3) ys ((turnsK n W key).take j)) ⟨Same.refl _, by rw [List.take_zero]; exact .nil⟩ (fun j ys H3 _ hP => hP.1.seq hD2) (fun j y ys H3 hy hP => ?_) (fun ys H3 hP De hDe => ?_)
  · obtain ⟨S3, hys⟩ := hP
    have hj : j < (TM.freeP n key.1).length := by have := (List.getElem?_eq_some_iff.mp hy).1; rw [List.length_map] at this; exact this
    obtain ⟨p, hp⟩ : ∃ p, (TM.freeP n key.1)[j]? = some p := ⟨_, List.getElem?_eq_getElem hj⟩
    rw [List.getElem?_map, hp] at hy
    cases hy
    have hpm := LM.mem_rng.mp (List.mem_filter.mp (List.mem_of_getElem? hp)).1
    have hpw : p.toNat < W.length := by omega
    have hwpm := ok.pm _ (List.getElem_mem hpw)
    have eW : W.getD p.toNat [] = W[p.toNat] := HM.getD_lt hpw
    obtain ⟨wv, hwv, hwR⟩ := Paired.get hW (List.getElem?_eq_getElem hpw)
    obtain ⟨wa, rfl, hwa⟩ := hwR.mono (S2.trans S3)
    have hyl := Paired.len hys
    rw [List.length_take] at hyl
    have hfl : (TM.freeP n key.1).length ≤ n := by
      have h1 := List.length_filter_le (fun p => !decide (p ∈ key.1)) (LM.rng n)
      rw [LM.rng_len] at h1
      exact h1
    have et : (turnsK n W key)[j]? = some (p, bestF W[p.toNat] key.2) := by
      unfold turnsK
      rw [List.getElem?_map, hp]
      show some (p, bestP W p key.2) = _
      unfold bestP
      rw [eW]
    have hwlen := hwpm.len
    generalize W[p.toNat] = row at hwa hwpm et hwlen
    refine ⟨_, rfl, _, rfl, _, rfl, a, ws, _, _, rfl, rfl, (S2.trans S3).seq hA, atI_ok hpm.1 hwv, _, rfl, wa, t, row, key.2, rfl, hwa, .inr ((S2.trans S3).tup ht), by omega, free_ex hwpm hkl, fun H4 S4 => ⟨by show 2 ≤ sizeLine; decide, fun pt hpt => ⟨small1000 (by omega), S3.trans (S4.trans (same_new hpt _)), ?_⟩⟩⟩
    rw [List.take_add_one, et]
    exact Paired.app (fracs_mono (S4.trans (same_new hpt _)) hys) (.cons ⟨pt, rfl, SqT.of upd_same⟩ .nil)
  · obtain ⟨S3, hys⟩ := hP
    rw [List.take_of_length_le (by unfold turnsK; rw [List.length_map, List.length_map]; exact Nat.le_refl _)] at hys
    exact q De ys _ (S2.trans (S3.trans (same_new hDe _))) ((S2.trans S3).free hDe) upd_same (fracs_mono (same_new hDe _) hys)
theorem sc_orders_of : FnScope ["count", "orders", "number"] ["count"] (defScope (top 16)) := ⟨rfl, rfl, rfl, by decide +kernel, rfl, by decide +kernel, by decide +kernel⟩
set_option maxHeartbeats 4000000 in
theorem d_orders_of {P : Program} {w : World} {K : PySem.W.Frag} {mg : Str → Option Value} {base : Heap} {x : Xs} (M : Md K mg x) : Dn P w K mg base CX0 1 "orders_of" ["count"] (spOrdersOf) := by
  have nd := (sc_orders_of).nd
  refine M.f_orders_of.ok sc_orders_of (fun vs H Q E h => ?_) (fun _ _ _ _ _ _ us hl => match us, hl with | [_], _ => rfl) (fun f cdv A outer s H vs Q E hr h => ?_)
  · obtain ⟨k, rfl, hk, q⟩ := h
    rfl
  obtain ⟨k, rfl, hk, q⟩ := h
  refine ⟨_, (pss_cons (ps_set (i := 1) nd rfl (Or.inl rfl) pe_int)
      (pss_cons (ps_for PassesOwn.never rfl (pi_range2 rfl M.b_range (pa_cons pe_int (pa_cons (pe_op op_add (pv 0) pe_int) pa_nil))) (pg_name (i := 2) nd rfl (Or.inl rfl)) (pss_one (ps_set (i := 1) nd rfl (Or.inl rfl) (pe_op op_mulB (pv 1) (pv 2)))))
      (pss_one (ps_ret (pv 1))))), ?_⟩
  refine ⟨_, rfl, _, _, rfl, rfl, _, _, rfl, ⟨by omega, by omega, by omega, by omega⟩, ?_⟩
  have e : ((k : Int) + 1 - 1).toNat = k := by omega
  show ∃ _, _
  rw [e]
  refine for_range (n := k) (fun i σ H' => H' = H ∧ ∃ r, σ = [some (.int k), some (.int (TM.fct i)), r]) ⟨rfl, _, rfl⟩ (fun i σ H' hi hP => ?_) (fun σ H' hP => ?_)
  · obtain ⟨rfl, r, rfl⟩ := hP
    refine ⟨_, rfl, _, rfl, _, _, rfl, rfl, mulR (by omega), rfl, some (.int (1 + (i : Int))), ?_⟩
    rw [show TM.fct (i + 1) = TM.fct i * (1 + (i : Int)) by show TM.fct i * ((i : Int) + 1) = _; rw [Int.add_comm (i : Int) 1]]
    rfl
  · obtain ⟨rfl, r, rfl⟩ := hP
    exact ⟨_, rfl, q⟩
theorem sc_counts_of : FnScope ["wishes", "counts", "beginnings", "turn", "endings", "longer", "beginning", "number", "person", "thing", "state"] ["wishes"] (defScope (top 17)) := ⟨rfl, rfl, rfl, by decide +kernel, rfl, by decide +kernel, by decide +kernel⟩
set_option maxHeartbeats 4000000 in
theorem d_counts_of {P : Program} {w : World} {K : PySem.W.Frag} {mg : Str → Option Value} {base : Heap} {x : Xs} (M : Md K mg x)
    (Gorders_of : Dn P w K mg base CX0 1 "orders_of" ["count"] (spOrdersOf))
    (Gturns_from : Dn P w K mg base CX0 2 "turns_from" ["wishes", "gone", "taken"] (spTurnsF K))
    (Gwith_one : Dn P w K mg base CX0 1 "with_one" ["numbers", "number"] (spWithOne K)) : Dn P w K mg base CX0 3 "counts_of" ["wishes"] (spCounts P w K) := by
  have nd := (sc_counts_of).nd
  refine M.f_counts_of.ok sc_counts_of (fun vs H Q E h => ?_) (fun _ _ _ _ _ _ us hl => match us, hl with | [_], _ => rfl) (fun f cdv A outer s H vs Q E hr h => ?_)
  · obtain ⟨a, ws, W, n, rfl, hA, hW, ok, q⟩ := h
    rfl
  obtain ⟨a, ws, W, n, rfl, hA, hW, ok, q⟩ := h
  refine ⟨_, (pss_cons (ps_set (i := 1) nd rfl (Or.inl rfl) (pe_xnew (W := keyR) (P := P) (w := w) (K := K) rfl rfl rfl))
      (pss_cons (ps_set (i := 2) nd rfl (Or.inl rfl) (pe_xnew1 (W := keyP) (P := P) (w := w) (K := K) rfl rfl rfl hr (pe_tup (pa_cons (pe_tup pa_nil) (pa_cons (pe_tup pa_nil) pa_nil))) pe_int))
      (pss_cons (ps_for PassesOwn.never rfl (pi_range1 rfl M.b_range (pa_cons (pe_callB call_len_seq rfl M.b_len PySem.boot_len (pa_cons (pv 0) pa_nil)) pa_nil)) (pg_name (i := 3) nd rfl (Or.inl rfl)) (pss_cons (ps_set (i := 4) nd rfl (Or.inl rfl) (pe_fn Gorders_of hr (by decide) rfl pass0 (pa_cons (pe_op op_sub (pe_op op_sub (pe_callB call_len_seq rfl M.b_len PySem.boot_len (pa_cons (pv 0) pa_nil)) (pv 3)) pe_int) pa_nil)))
      (pss_cons (ps_set (i := 5) nd rfl (Or.inl rfl) (pe_xnew (W := keyP) (P := P) (w := w) (K := K) rfl rfl rfl))
      (pss_cons (ps_for PassesOwn.never rfl (pi_items (W := keyP) (P := P) (w := w) (K := K) rfl rfl rfl (pv 2)) (pg_tup rfl (pgs_cons (pg_name (i := 6) nd rfl (Or.inl rfl)) (pgs_cons (pg_name (i := 7) nd rfl (Or.inl rfl)) pgs_nil))) (pss_one (ps_for PassesOwn.never rfl (pi_list (pe_fn Gturns_from hr (by decide) rfl pass0 (pa_cons (pv 0) (pa_cons (pe_ix ix_tup (pv 6) pe_int (fun _ _ => rfl)) (pa_cons (pe_ix ix_tup (pv 6) pe_int (fun _ _ => rfl)) pa_nil))))) (pg_tup rfl (pgs_cons (pg_name (i := 8) nd rfl (Or.inl rfl)) (pgs_cons (pg_name (i := 9) nd rfl (Or.inl rfl)) pgs_nil))) (pss_cons (ps_asg (pe_op op_add (pe_xget (W := keyR) (P := P) (w := w) (K := K) rfl rfl rfl hr (pv 1) (pe_tup (pa_cons (pv 8) (pa_cons (pv 9) pa_nil))) pe_int) (pe_op op_mulB (pv 7) (pv 4))) (pg_sub (pv 1) (pe_tup (pa_cons (pv 8) (pa_cons (pv 9) pa_nil))) (set_x (W := keyR) (P := P) (w := w) (K := K) rfl rfl rfl hr)))
      (pss_cons (ps_set (i := 10) nd rfl (Or.inl rfl) (pe_tup (pa_cons (pe_fn Gwith_one hr (by decide) rfl pass0 (pa_cons (pe_ix ix_tup (pv 6) pe_int (fun _ _ => rfl)) (pa_cons (pv 8) pa_nil))) (pa_cons (pe_fn Gwith_one hr (by decide) rfl pass0 (pa_cons (pe_ix ix_tup (pv 6) pe_int (fun _ _ => rfl)) (pa_cons (pv 9) pa_nil))) pa_nil))))
      (pss_one (ps_asg (pe_op op_add (pe_xget (W := keyP) (P := P) (w := w) (K := K) rfl rfl rfl hr (pv 5) (pv 10) pe_int) (pv 7)) (pg_sub (pv 5) (pv 10) (set_x (W := keyP) (P := P) (w := w) (K := K) rfl rfl rfl hr)))))))))
      (pss_one (ps_set (i := 2) nd rfl (Or.inl rfl) (pv 5)))))))
      (pss_one (ps_ret (pv 1)))))), ?_⟩
  have hwl := Paired.len hW
  have hn1 := ok.lo
  have hn6 := ok.hi
  have hWn := ok.len
  have hwn : ws.length = n := by omega
  have small0 : (0 : Nat) ≤ sizeLine := by decide
  have small2 : (2 : Nat) ≤ sizeLine := by decide
  refine fun c H1 hc0 hφ1 hC0 => ?_
  have S1 : Same H H1 := by obtain ⟨φ, rfl⟩ := hφ1; exact same_new hc0 _
  clear hφ1
  refine fun bg H2 hb0 hφ2 hB0 => ?_
  have hb00 : H bg = none := S1.free hb0
  have S2 : Same H1 H2 := by obtain ⟨φ, rfl⟩ := hφ2; exact same_new hb0 _
  have hcb : c ≠ bg := fun z => by obtain ⟨φ, e⟩ := hC0.ext; rw [z, hb0] at e; cases e
  clear hφ2
  refine ⟨small0, fun p1 hp1 => ⟨small0, fun p2 hp2 => ⟨small2, fun p3 hp3 => ?_⟩⟩⟩
  have S3 : Same H2 (upd (upd (upd H2 p1 (.tup [])) p2 (.tup [])) p3 (.tup [.ref p1, .ref p2])) := (same_new hp1 _).trans ((same_new hp2 _).trans (same_new hp3 _))
  have h31 : SqT K (upd (upd (upd H2 p1 (.tup [])) p2 (.tup [])) p3 (.tup [.ref p1, .ref p2])) p3 [.ref p1, .ref p2] := SqT.of upd_same
  have h32 : SqT K (upd (upd (upd H2 p1 (.tup [])) p2 (.tup [])) p3 (.tup [.ref p1, .ref p2])) p1 (([] : List Int).map V.int) := SqT.of (same_new hp3 _ _ _ (same_new hp2 _ _ _ upd_same))
  have h33 : SqT K (upd (upd (upd H2 p1 (.tup [])) p2 (.tup [])) p3 (.tup [.ref p1, .ref p2])) p2 (([] : List Int).map V.int) := SqT.of (same_new hp3 _ _ _ upd_same)
  generalize upd (upd (upd H2 p1 (.tup [])) p2 (.tup [])) p3 (.tup [.ref p1, .ref p2]) = H3 at S3 h31 h32 h33 ⊢
  refine ⟨p3, ([], []), 1, rfl, rfl, ⟨p1, p2, h31, h32, h33⟩, hB0.mono S3, fun H4 hφ4 hB4 => ?_⟩
  have hb3 := (hB0.mono S3).ext
  have X4 : KX [bg] H3 H4 := KX.put (fun b hb => by rw [List.mem_singleton.mp hb]; exact hb3) (List.mem_singleton.mpr rfl) hφ4
  have S04 : Same H H4 := X4.same (S1.trans (S2.trans S3)) fun b hb => by rw [List.mem_singleton.mp hb]; exact hb00
  have hC4 : DictI keyR P w K H4 c [] := by
    obtain ⟨ep, hC⟩ := hC0
    exact ⟨ep, X4.dict (hC.mono (S2.trans S3)) (fun z => hcb (List.mem_singleton.mp z))⟩
  clear X4 hφ4 hb3 S3 h31 h32 h33 hB0 hC0 S1 S2 hp1 hp2 hp3 hb0
  refine ⟨_, rfl, a, ws, rfl, .inl (S04.seq hA), _, rfl, by omega, by omega, ?_⟩
  refine for_range (n := ws.length) (fun k σ H5 => Same H H5 ∧ ∃ (bg : Addr) (C : List (List Int × Int)) (B : List (PKey × Int)) (r3 r4 r5 r6 r7 r8 r9 r10 : Option V), σ = [some (.ref a), some (.ref c), some (.ref bg), r3, r4, r5, r6, r7, r8, r9, r10] ∧ H bg = none ∧ c ≠ bg ∧
      DictI keyR P w K H5 c C ∧ CI n W k C ∧ DictI keyP P w K H5 bg B ∧ BI n W k B)
    ⟨S04, bg, [], _, _, _, _, _, _, _, _, _, rfl, hb00, hcb, hC4, CI.zero, hB4, BI.zero⟩ (fun k σ H5 hk hP => ?_) (fun σ H5 hP => ?_)
  · clear S04 hC4 hB4 hcb hb00
    obtain ⟨S5, bg, C, B, r3, r4, r5, r6, r7, r8, r9, r10, rfl, hb0, hcb, hC, hCI, hB, hBI⟩ := hP
    have hkn : k < n := by omega
    refine ⟨_, rfl, a, ws, rfl, .inl (S5.seq hA), _, rfl, _, _, rfl, rfl, _, _, rfl, rfl, n - (k + 1), by show [V.int _] = [V.int _]; rw [show (ws.length : Int) - (0 + (k : Int)) - 1 = ((n - (k + 1) : Nat) : Int) by omega], by omega, ?_⟩
    have hft := fct_le (show n - (k + 1) ≤ 6 by omega)
    refine fun lg H6 hl0 hφ6 hL0 => ?_
    have hlH : H lg = none := S5.free hl0
    have S6 : Same H5 H6 := by obtain ⟨φ, rfl⟩ := hφ6; exact same_new hl0 _
    have hcl : c ≠ lg := fun z => by obtain ⟨φ, e⟩ := hC.ext; rw [z, hl0] at e; cases e
    have hbl : bg ≠ lg := fun z => by obtain ⟨φ, e⟩ := hB.ext; rw [z, hl0] at e; cases e
    clear hφ6
    obtain ⟨ep, hBe⟩ := hB.mono S6
    have hbad : bg ∉ [c, lg] := fun z => by
      rcases List.mem_cons.mp z with z | z
      · exact hcb z.symm
      · exact hbl (List.mem_singleton.mp z)
    have hfr : ∀ b ∈ [c, lg], H b = none := fun b hb => by
      rcases List.mem_cons.mp hb with z | z
      · rw [z]; exact hc0
      · rw [List.mem_singleton.mp z]; exact hlH
    have exts : ∀ {H' : Hp} {C : List (List Int × Int)} {L : List (PKey × Int)}, DictI keyR P w K H' c C → DictI keyP P w K H' lg L → ∀ b ∈ [c, lg], ∃ φ, H' b = some (.ext φ) := fun h1 h2 b hb => by
      rcases List.mem_cons.mp hb with z | z
      · rw [z]; exact h1.ext
      · rw [List.mem_singleton.mp z]; exact h2.ext
    refine ⟨_, rfl, bg, ep, B, rfl, hBe, ?_⟩
    refine for_items (kvs := B) (fun i σ H7 => Same H H7 ∧ DictE keyP P w K H7 bg ep B ∧ ∃ (C' : List (List Int × Int)) (L : List (PKey × Int)) (r6 r7 r8 r9 r10 : Option V), σ = [some (.ref a), some (.ref c), some (.ref bg), some (.int (0 + (k : Int))), some (.int (TM.fct (n - (k + 1)))), some (.ref lg), r6, r7, r8, r9, r10] ∧
        DictI keyR P w K H7 c C' ∧ DictI keyP P w K H7 lg L ∧ TI0 n W k B i C' L)
      ⟨S5.trans S6, hBe, C, [], _, _, _, _, _, rfl, hC.mono S6, hL0, TI0.start hCI⟩ (fun i σ H7 _ hP => hP.2.1) (fun i key num ka σ H7 t hkv hka ht hP => ?_) (fun σ H7 hP => ?_)
    · obtain ⟨S7, hBe7, C', L, r6', r7', r8', r9', r10', rfl, hC7, hL7, hT⟩ := hP
      obtain ⟨kx, ky, h71, h72, h73⟩ := hka
      obtain ⟨π, hπ, ekey⟩ := hBI.key _ (List.mem_of_getElem? hkv)
      have I := TM.pre_ok hπ
      have hk1 : key.1.length = k := by rw [show key = keyOf W π from ekey]; show (TM.srt π).length = k; rw [srt_len, I.len]
      have hk2 : key.2.length = k := by rw [show key = keyOf W π from ekey]; show (TM.srt (tkA W π)).length = k; rw [srt_len]; unfold tkA; rw [tk_len, I.len]
      have S8 : Same H7 (upd H7 t (.tup [.ref ka, .int num])) := same_new ht _
      have htt : upd H7 t (.tup [.ref ka, .int num]) t = some (.tup [.ref ka, .int num]) := upd_same
      generalize upd H7 t (.tup [.ref ka, .int num]) = H8 at S8 htt ⊢
      refine ⟨t, _, rfl, SqT.of htt, rfl, _, _, rfl, _, _, rfl, rfl, ?_⟩
      refine ⟨_, rfl, _, rfl, ka, _, 0, _, rfl, rfl, S8.tup h71, rfl, _, rfl, ka, _, 1, _, rfl, rfl, S8.tup h71, rfl, a, kx, ky, ws, W, n, key, rfl, (S7.trans S8).seq hA, Paired.mapP hW (fun _ _ h => h.mono (S7.trans S8)), ok, S8.tup h72, S8.tup h73, by omega, fun tl ls H9 S9 htl0 htl hls => ?_⟩
      have S79 := S8.trans S9
      have hll := Paired.len hls
      have htn6 : (turnsK n W key).length ≤ 6 := by
        unfold turnsK TM.freeP
        rw [List.length_map]
        have h1 := List.length_filter_le (fun p => !decide (p ∈ key.1)) (LM.rng n)
        rw [LM.rng_len] at h1
        omega
      have ex9 := exts (hC7.mono S79) (hL7.mono S79)
      refine ⟨tl, rfl, ⟨_, SqL.of htl⟩, ?_⟩
      refine for_list (xs := ls) (fun j σ HA => KX [c, lg] H9 HA ∧ ∃ (C' : List (List Int × Int)) (L : List (PKey × Int)) (r8 r9 r10 : Option V), σ = [some (.ref a), some (.ref c), some (.ref bg), some (.int (0 + (k : Int))), some (.int (TM.fct (n - (k + 1)))), some (.ref lg), some (.ref ka), some (.int num), r8, r9, r10] ∧
          DictI keyR P w K HA c C' ∧ DictI keyP P w K HA lg L ∧ TJ n W k B i key num j C' L)
        ⟨KX.refl ex9, C', L, _, _, _, rfl, hC7.mono S79, hL7.mono S79, hT key num⟩ (fun j σ HA _ hP => SqL.of (hP.1.lst htl)) (fun j v σ HA hv hP => ?_) (fun σ HA hP => ?_)
      · obtain ⟨XA, C', L, r8', r9', r10', rfl, hCA, hLA, hTJ⟩ := hP
        obtain ⟨pt, hpt, pa, rfl, hpa⟩ := Paired.get' hls hv
        have hj6 : j < 6 := by have := (List.getElem?_eq_some_iff.mp hpt).1; omega
        have hi7 : i ≤ 7776 := by
          have h1 := (List.getElem?_eq_some_iff.mp hkv).1
          have h2 : 6 ^ k ≤ 6 ^ 5 := Nat.pow_le_pow_right (by decide) (by omega)
          have h3 := hBI.len
          have h4 : (6 : Nat) ^ 5 = 7776 := by decide
          omega
        have hcl' : C'.length ≤ 1000000 := by have := hTJ.cl; omega
        have hll' : L.length ≤ 1000000 := by have := hTJ.ll; omega
        refine ⟨pa, _, rfl, XA.tup hpa, rfl, _, _, rfl, _, _, rfl, rfl, ?_⟩
        -- the count
        refine ⟨_, rfl, c, rfl, ⟨_, hCA⟩, _, rfl, _, rfl, small2, fun pk hpk => ?_⟩
        have SB : Same HA (upd HA pk (.tup [.int pt.1, .int pt.2])) := same_new hpk _
        have hpkB : SqT K (upd HA pk (.tup [.int pt.1, .int pt.2])) pk (([pt.1, pt.2] : List Int).map V.int) := SqT.of upd_same
        generalize upd HA pk (.tup [.int pt.1, .int pt.2]) = HB at SB hpkB ⊢
        refine ⟨pk, [pt.1, pt.2], 0, C', rfl, rfl, hCA.mono SB, hpkB, ?_⟩
        refine ⟨_, rfl, _, rfl, _, _, rfl, rfl, mulR (by omega), _, _, rfl, rfl, ?_⟩
        refine ⟨_, rfl, _, rfl, _, rfl, small2, fun pk2 hpk2 => ?_⟩
        have SC : Same HB (upd HB pk2 (.tup [.int pt.1, .int pt.2])) := same_new hpk2 _
        have hpkC : SqT K (upd HB pk2 (.tup [.int pt.1, .int pt.2])) pk2 (([pt.1, pt.2] : List Int).map V.int) := SqT.of upd_same
        generalize upd HB pk2 (.tup [.int pt.1, .int pt.2]) = HC at SC hpkC ⊢
        refine ⟨c, pk2, [pt.1, pt.2], _, C', rfl, rfl, rfl, hCA.mono (SB.trans SC), hpkC, hcl', fun HD hφD hCD => ?_⟩
        have SAC := SB.trans SC
        have exC := exts (hCA.mono SAC) (hLA.mono SAC)
        have XD : KX [c, lg] HA HD := (KX.of SAC XA.is).trans (KX.put exC List.mem_cons_self hφD)
        have hLD : DictI keyP P w K HD lg L := by
          obtain ⟨e2, hL⟩ := hLA.mono SAC
          obtain ⟨φ, φ', h1, rfl⟩ := hφD
          exact ⟨e2, hL.overX h1 (Ne.symm hcl)⟩
        clear hφD exC hpkC hpkB SB SC SAC hpk hpk2
        -- the state
        have X9D := XA.trans XD
        have h9k := X9D.tup ((S79).tup h71)
        refine ⟨_, rfl, ka, _, 0, _, rfl, rfl, h9k, rfl, _, rfl, kx, key.1, pt.1, rfl, X9D.tup (S79.tup h72), by omega, fun q1 HE SE hq1 => ?_⟩
        refine ⟨_, rfl, ka, _, 1, _, rfl, rfl, SE.tup h9k, rfl, _, rfl, ky, key.2, pt.2, rfl, SE.tup (X9D.tup (S79.tup h73)), by omega, fun q2 HF SF hq2 => ?_⟩
        refine ⟨small2, fun qs hqs => ?_⟩
        have SG : Same HD (upd HF qs (.tup [.ref q1, .ref q2])) := SE.trans (SF.trans (same_new hqs _))
        have hst : keyP.at' K (upd HF qs (.tup [.ref q1, .ref q2])) (nextK key pt) qs := ⟨q1, q2, SqT.of upd_same, (SF.trans (same_new hqs _)).tup hq1, (same_new hqs _).tup hq2⟩
        generalize upd HF qs (.tup [.ref q1, .ref q2]) = HG at SG hst ⊢
        have hLG := hLD.mono SG
        refine ⟨_, rfl, lg, rfl, ⟨_, hLG⟩, _, rfl, qs, nextK key pt, 0, L, rfl, rfl, hLG, hst, ?_⟩
        refine ⟨_, rfl, _, _, rfl, rfl, ?_⟩
        refine ⟨_, rfl, _, rfl, lg, qs, nextK key pt, _, L, rfl, rfl, rfl, hLG, hst, hll', fun HI hφI hLI => ?_⟩
        have hCG := hCD.mono SG
        have exG := exts hCG hLG
        have XI : KX [c, lg] HD HI := (KX.of SG XD.is).trans (KX.put exG (List.mem_cons_of_mem _ (List.mem_singleton.mpr rfl)) hφI)
        have hCIx : DictI keyR P w K HI c (addD C' [pt.1, pt.2] (num * TM.fct (n - (k + 1)))) := by
          obtain ⟨e2, hC⟩ := hCG
          obtain ⟨φ, φ', h1, rfl⟩ := hφI
          exact ⟨e2, hC.overX h1 hcl⟩
        refine ⟨X9D.trans XI, _, _, _, _, _, rfl, hCIx, hLI, hTJ.step hpt ?_⟩
        rw [show key = keyOf W π from ekey]
        exact key_next hπ (by rw [← show key = keyOf W π from ekey]; exact List.mem_of_getElem? hpt)
      · obtain ⟨XA, C', L, r8', r9', r10', rfl, hCA, hLA, hTJ⟩ := hP
        rw [hll] at hTJ
        refine ⟨XA.same (S7.trans S79) hfr, XA.dict (hBe7.mono S79) hbad, C', L, _, _, _, _, _, rfl, hCA, hLA, hTJ.done hkv htn6⟩
    · obtain ⟨S7, hBe7, C', L, r6', r7', r8', r9', r10', rfl, hC7, hL7, hT⟩ := hP
      obtain ⟨hCI', hBI'⟩ := TI0.finish hBI (by omega) hT
      exact ⟨_, rfl, S7, lg, C', L, _, _, _, _, _, _, _, _, rfl, hlH, hcl, hC7, hCI', hL7, hBI'⟩
  · obtain ⟨S5, bg, C, B, r3, r4, r5, r6, r7, r8, r9, r10, rfl, hb0, hcb, hC, hCI, hB, hBI⟩ := hP
    rw [hwn] at hCI
    exact ⟨_, rfl, q c C H5 S5 hC hCI⟩
theorem sc_shares_by_turns : FnScope ["counts", "person", "count", "orders"] ["counts", "person", "count"] (defScope (top 18)) := ⟨rfl, rfl, rfl, by decide +kernel, rfl, by decide +kernel, by decide +kernel⟩
set_option maxHeartbeats 4000000 in
theorem d_shares_by_turns {P : Program} {w : World} {K : PySem.W.Frag} {mg : Str → Option Value} {base : Heap} {x : Xs} (M : Md K mg x)
    (Gorders_of : Dn P w K mg base CX0 1 "orders_of" ["count"] (spOrdersOf))
    (Gfraction : Dn P w K mg base (CXE P w) 2 "fraction" ["top", "bottom"] (spFractionE x)) : Dn P w K mg base CX0 3 "shares_by_turns" ["counts", "person", "count"] (spShares P w K) := by
  have nd := (sc_shares_by_turns).nd
  refine M.f_shares_by_turns.ok sc_shares_by_turns (fun vs H Q E h => ?_) (fun _ _ _ _ _ _ us hl => match us, hl with | [_, _, _], _ => rfl) (fun f cdv A outer s H vs Q E hr h => ?_)
  · obtain ⟨d, C, W, n, p, rfl, hC, hCI, hn6, q⟩ := h
    rfl
  obtain ⟨d, C, W, n, p, rfl, hC, hCI, hn6, q⟩ := h
  refine ⟨_, (pss_cons (ps_set (i := 3) nd rfl (Or.inr rfl) (pe_fn Gorders_of hr (by decide) rfl pass0 (pa_cons (pv 2) pa_nil)))
      (pss_one (ps_ret (pe_callTy call_tuple_of rfl M.b_tuple Boot.«tuple» (pa_cons (pe_comp rfl (N := ["thing", "counts", "person", "orders"]) (caps := [none, some 0, some 1, some 3]) (CompOk.of (by kernel_rfl)) (gk_name rfl) (pi_range1 rfl M.b_range (pa_cons (pv 2) pa_nil)) (fun _ _ _ _ => (pg_name (i := 0) (show (["thing", "counts", "person", "orders"] : List Str).Nodup by decide +kernel) rfl (Or.inl rfl) (Or.inr rfl))) (fun _ _ _ _ => pts_nil) (fun _ _ _ _ => (pe_fn Gfraction hr (by decide) rfl passN (pa_cons (pe_xget (W := keyR) (P := P) (w := w) (K := K) rfl rfl rfl hr (pv 1) (pe_tup (pa_cons (pv 2) (pa_cons (pv 0) pa_nil))) pe_int) (pa_cons (pv 3) pa_nil))))) pa_nil))))), ?_⟩
  have hf := fct_le hn6
  refine ⟨_, rfl, n, rfl, hn6, ?_⟩
  refine ⟨_, rfl, _, rfl, by omega, by omega, ?_⟩
  refine comp_range1 (n := n) (fun i ys H1 => Same H H1 ∧ Paired (IsF K H1) ys ((shareR n W p).take i)) ⟨Same.refl _, by rw [List.take_zero]; exact .nil⟩ (fun i ys H1 hi hP => ?_) (fun ys H1 hP D hD => ?_)
  · obtain ⟨S1, hys⟩ := hP
    have hyl := Paired.len hys
    rw [List.length_take] at hyl
    refine ⟨_, rfl, d, rfl, ⟨_, hC.mono S1⟩, _, rfl, _, rfl, by show 2 ≤ sizeLine; decide, fun pk hpk => ?_⟩
    rw [Int.zero_add]
    have S2 : Same H1 (upd H1 pk (.tup [.int p, .int (i : Int)])) := same_new hpk _
    have hpk2 : SqT K (upd H1 pk (.tup [.int p, .int (i : Int)])) pk (([p, (i : Int)] : List Int).map V.int) := SqT.of upd_same
    generalize upd H1 pk (.tup [.int p, .int (i : Int)]) = H2 at S2 hpk2 ⊢
    refine ⟨pk, [p, (i : Int)], 0, C, rfl, rfl, hC.mono (S1.trans S2), hpk2, _, rfl, getD0 C [p, (i : Int)], TM.fct n, rfl, fun z => by omega, fun _ => ⟨size_up (m := 30) (by omega) (by decide), fun pf H3 S3 hpf => ⟨small1000 (by omega), S1.trans (S2.trans S3), ?_⟩⟩⟩
    rw [ind_pair C hCI.kn n W hCI.sum] at hpf
    rw [List.take_add_one, show (shareR n W p)[i]? = some (FQ.red (cnt42 n W (fun l => ind p i (l.getD 0 0) (l.getD 1 0)) n) (TM.fct n)) by unfold shareR; rw [List.getElem?_map, List.getElem?_range hi]; rfl]
    exact Paired.app (fracs_mono (S2.trans S3) hys) (.cons ⟨pf, rfl, SqT.of hpf⟩ .nil)
  · obtain ⟨S1, hys⟩ := hP
    rw [List.take_of_length_le (by rw [shareR_len]; exact Nat.le_refl _)] at hys
    have SD := same_new hD (.lst ys)
    exact ⟨D, ys, rfl, .inl ⟨SqL.of upd_same, fun qq hq => q qq ys _ (S1.trans (SD.trans (same_new hq _))) (S1.free (SD.free hq)) upd_same (fracs_mono (SD.trans (same_new hq _)) hys)⟩⟩
theorem sc_by_turns : FnScope ["wishes", "counts"] ["wishes"] (defScope (top 19)) := ⟨rfl, rfl, rfl, by decide +kernel, rfl, by decide +kernel, by decide +kernel⟩
set_option maxHeartbeats 4000000 in
theorem d_by_turns {P : Program} {w : World} {K : PySem.W.Frag} {mg : Str → Option Value} {base : Heap} {x : Xs} (M : Md K mg x)
    (Gcounts_of : Dn P w K mg base CX0 3 "counts_of" ["wishes"] (spCounts P w K))
    (Gshares_by_turns : Dn P w K mg base CX0 3 "shares_by_turns" ["counts", "person", "count"] (spShares P w K)) : Dn P w K mg base CX0 4 "by_turns" ["wishes"] (spByTurns K) := by
  have nd := (sc_by_turns).nd
  refine M.f_by_turns.ok sc_by_turns (fun vs H Q E h => ?_) (fun _ _ _ _ _ _ us hl => match us, hl with | [_], _ => rfl) (fun f cdv A outer s H vs Q E hr h => ?_)
  · obtain ⟨a, ws, W, n, rfl, hA, hW, ok, q⟩ := h
    rfl
  obtain ⟨a, ws, W, n, rfl, hA, hW, ok, q⟩ := h
  refine ⟨_, (pss_cons (ps_set (i := 1) nd rfl (Or.inr rfl) (pe_fn Gcounts_of hr (by decide) rfl pass0 (pa_cons (pv 0) pa_nil)))
      (pss_one (ps_ret (pe_comp rfl (N := ["person", "wishes", "counts"]) (caps := [none, some 0, some 1]) (CompOk.of (by kernel_rfl)) (gk_name rfl) (pi_range1 rfl M.b_range (pa_cons (pe_callB call_len_seq rfl M.b_len PySem.boot_len (pa_cons (pv 0) pa_nil)) pa_nil)) (fun _ _ _ _ => (pg_name (i := 0) (show (["person", "wishes", "counts"] : List Str).Nodup by decide +kernel) rfl (Or.inl rfl) (Or.inr rfl))) (fun _ _ _ _ => pts_nil) (fun _ _ _ _ => (pe_fn Gshares_by_turns hr (by decide) rfl pass0 (pa_cons (pv 2) (pa_cons (pv 0) (pa_cons (pe_callB (call_len_seqK (K := K) rfl) rfl M.b_len PySem.boot_len (pa_cons (pv 1) pa_nil)) pa_nil))))))))), ?_⟩
  have hwl := Paired.len hW
  have hn6 := ok.hi
  have hWn := ok.len
  have hwn : ws.length = n := by omega
  refine ⟨_, rfl, a, ws, W, n, rfl, hA, hW, ok, fun d C H1 S1 hC hCI => ?_⟩
  refine ⟨_, rfl, a, ws, rfl, .inl (S1.seq hA), _, rfl, by omega, by omega, ?_⟩
  refine comp_range1 (n := ws.length) (fun i ys H2 => Same H1 H2 ∧ Paired (RwG K H2) ys ((tabT n W).take i)) ⟨Same.refl _, by rw [List.take_zero]; exact .nil⟩ (fun i ys H2 hi hP => ?_) (fun ys H2 hP D hD => ?_)
  · obtain ⟨S2, hys⟩ := hP
    have hyl := Paired.len hys
    rw [List.length_take] at hyl
    refine ⟨_, rfl, _, rfl, _, rfl, a, ws, rfl, .inl ((S1.trans S2).seq hA), d, C, W, n, (i : Int), by show [V.ref d, V.int _, V.int _] = [V.ref d, V.int _, V.int _]; rw [hwn, Int.zero_add], hC.mono S2, hCI, hn6, fun qq gs H3 S3 hq0 hq hgs => ⟨small1000 (by omega), S2.trans S3, ?_⟩⟩
    rw [List.take_add_one, show (tabT n W)[i]? = some (shareR n W i) by unfold tabT; rw [List.getElem?_map, List.getElem?_range (by omega)]; rfl]
    exact Paired.app (Paired.mapP hys fun _ _ h => h.mono S3) (.cons ⟨qq, gs, rfl, SqT.of hq, hgs⟩ .nil)
  · obtain ⟨S2, hys⟩ := hP
    rw [List.take_of_length_le (by rw [tabT_len]; omega)] at hys
    exact q D ys _ (S1.trans (S2.trans (same_new hD _))) ((S1.trans S2).free hD) upd_same (Paired.mapP hys fun _ _ h => h.mono (same_new hD _))
theorem sc__law_cell_at : FnScope ["_law_script", "_law_k"] ["_law_script", "_law_k"] (defScope (top 21)) := ⟨rfl, rfl, rfl, by decide +kernel, rfl, by decide +kernel, by decide +kernel⟩
set_option maxHeartbeats 4000000 in
theorem d__law_cell_at {P : Program} {w : World} {K : PySem.W.Frag} {mg : Str → Option Value} {base : Heap} {x : Xs} (M : Md K mg x) : Dn P w K mg base CX0 1 "_law_cell_at" ["_law_script", "_law_k"] (spCell K) := by
  have nd := (sc__law_cell_at).nd
  refine M.f__law_cell_at.ok sc__law_cell_at (fun vs H Q E h => ?_) (fun _ _ _ _ _ _ us hl => match us, hl with | [_, _], _ => rfl) (fun f cdv A outer s H vs Q E hr h => ?_)
  · obtain ⟨a, ns, k, rfl, hS, h0, q⟩ := h
    rfl
  obtain ⟨a, ns, k, rfl, hS, h0, q⟩ := h
  refine ⟨_, (pss_cons (ps_if (pt_cmpR op_lt (pv 1) (pe_callB call_len_seq rfl M.b_len PySem.boot_len (pa_cons (pv 0) pa_nil)) (nomark _)) (pss_one (ps_ret (pe_ix ix_list (pv 0) (pv 1) (fun _ _ => rfl)))) pss_nil)
      (pss_one (ps_ret pe_int))), ?_⟩
  have hl : (ns.map V.int).length = ns.length := List.length_map _
  refine ⟨_, rfl, _, rfl, a, _, rfl, .inl hS, _, _, rfl, rfl, _, rfl, ?_⟩
  refine iteD2 (fun c => ?_) (fun c => ?_)
  · rw [hl] at c
    refine ⟨_, rfl, _, rfl, a, _, k, _, rfl, rfl, hS, atI_ok h0 (map_int_get (by omega)), ?_⟩
    have e : LM.cellAt ns k = ns.getD k.toNat 0 := by unfold LM.cellAt; rw [if_pos c]
    rw [← e]
    exact q
  · rw [hl] at c
    have e : LM.cellAt ns k = 0 := by unfold LM.cellAt; rw [if_neg c]
    rw [e] at q
    exact q
theorem sc__law_mixed : FnScope ["_law_cell", "_law_place", "_law_number"] ["_law_cell", "_law_place"] (defScope (top 22)) := ⟨rfl, rfl, rfl, by decide +kernel, rfl, by decide +kernel, by decide +kernel⟩
set_option maxHeartbeats 4000000 in
theorem d__law_mixed {P : Program} {w : World} {K : PySem.W.Frag} {mg : Str → Option Value} {base : Heap} {x : Xs} (M : Md K mg x) : Dn P w K mg base CX0 1 "_law_mixed" ["_law_cell", "_law_place"] (spMixN) := by
  have nd := (sc__law_mixed).nd
  refine M.f__law_mixed.ok sc__law_mixed (fun vs H Q E h => ?_) (fun _ _ _ _ _ _ us hl => match us, hl with | [_, _], _ => rfl) (fun f cdv A outer s H vs Q E hr h => ?_)
  · obtain ⟨c, p, rfl, q⟩ := h
    rfl
  obtain ⟨c, p, rfl, q⟩ := h
  refine ⟨_, (pss_cons (ps_set (i := 2) nd rfl (Or.inl rfl) (pe_op op_mod (pe_op op_add (pe_op op_add (pe_op op_mulB (pe_op op_mod (pv 0) pe_int) pe_int) (pe_op op_mulB pe_int (pv 1))) pe_int) pe_int))
      (pss_cons (ps_set (i := 2) nd rfl (Or.inl rfl) (pe_op op_mod (pe_op op_add (pe_op op_add (pe_op op_mulB (pv 2) (pv 2)) (pe_op op_mulB pe_int (pv 1))) pe_int) pe_int))
      (pss_one (ps_ret (pe_op op_mod (pe_op op_add (pe_op op_mulB (pv 2) (pv 2)) pe_int) pe_int))))), ?_⟩
  refine ⟨_, rfl, _, _, rfl, rfl, by show (0 : Int) < 2147483629; decide, _, _, rfl, rfl, mulR (by decide), _, rfl, _, _, rfl, rfl, mulL (by decide), _, _, rfl, rfl, _, _, rfl, rfl, _, _, rfl, rfl, by show (0 : Int) < 2147483629; decide, ?_⟩
  have b1 := LN.m1_bd c p
  have e1 : (c % 2147483629 * 16807 + 69621 * p + 11) % 2147483629 = LN.m1 c p := rfl
  dsimp only
  rw [e1]
  refine ⟨_, rfl, _, rfl, _, _, rfl, rfl, mulL (by omega), _, rfl, _, _, rfl, rfl, mulL (by decide), _, _, rfl, rfl, _, _, rfl, rfl, _, _, rfl, rfl, by show (0 : Int) < 2147483629; decide, ?_⟩
  have b2 := LN.m2_bd (LN.m1 c p) p
  have e2 : (LN.m1 c p * LN.m1 c p + 48271 * p + 7) % 2147483629 = LN.m2 (LN.m1 c p) p := rfl
  dsimp only
  rw [e2]
  exact ⟨_, rfl, _, rfl, _, _, rfl, rfl, mulL (by omega), _, _, rfl, rfl, _, _, rfl, rfl, by show (0 : Int) < 2147483587; decide, q⟩
theorem sc__law_divisor : FnScope ["_law_one", "_law_two"] ["_law_one", "_law_two"] (defScope (top 23)) := ⟨rfl, rfl, rfl, by decide +kernel, rfl, by decide +kernel, by decide +kernel⟩
set_option maxHeartbeats 4000000 in
theorem d__law_divisor {P : Program} {w : World} {K : PySem.W.Frag} {mg : Str → Option Value} {base : Heap} {x : Xs} (M : Md K mg x) : Dn P w K mg base CX0 1 "_law_divisor" ["_law_one", "_law_two"] (spDivisor) := by
  have nd := (sc__law_divisor).nd
  refine M.f__law_divisor.ok sc__law_divisor (fun vs H Q E h => ?_) (fun _ _ _ _ _ _ us hl => match us, hl with | [_, _], _ => rfl) (fun f cdv A outer s H vs Q E hr h => ?_)
  · obtain ⟨i, j, rfl, hj, q⟩ := h
    rfl
  obtain ⟨i, j, rfl, hj, q⟩ := h
  refine ⟨_, (pss_cons (ps_while PassesOwn.never (pt_cmpR op_ne (pv 1) pe_int (nomark _)) (pss_one (ps_par (i := 0) (j := 1) rfl nd rfl rfl (by decide) rfl rfl (pa_cons (pv 1) (pa_cons (pe_op op_mod (pv 0) (pv 1)) pa_nil)) rfl)))
      (pss_one (ps_ret (pe_callB call_abs rfl M.b_abs Boot.«abs» (pa_cons (pv 0) pa_nil))))), ?_⟩
  refine while_of (fun m σ H' => H' = H ∧ ∃ (a b : Int), σ = [some (.int a), some (.int b)] ∧ 0 ≤ b ∧ Int.gcd a b = Int.gcd i j ∧ m = b.toNat)
    ⟨_, rfl, _, _, rfl, hj, rfl, rfl⟩ (fun m σ H' hP => ?_) (fun σ H' Q1 Q2 hQ h => ?_)
  · obtain ⟨rfl, a, b, rfl, hb, hg, rfl⟩ := hP
    refine ⟨_, rfl, rfl, _, rfl, ?_⟩
    refine iteN2 (fun c => ?_) (fun c => ?_)
    · have hb0 : b ≠ 0 := fun z => c (by rw [z])
      refine ⟨_, rfl, _, rfl, _, rfl, a, b, rfl, rfl, by show (0 : Int) < b; omega, _, _, rfl, ?_⟩
      refine ⟨(a % b).toNat, ?_, rfl, b, a % b, rfl, Int.emod_nonneg _ hb0, ?_, rfl⟩
      · have := Int.emod_lt_of_pos a (show 0 < b by omega)
        have := Int.emod_nonneg a hb0
        omega
      · rw [FQ.gcd_turn, hg]
    · have hb0 : b = 0 := Veq c
      subst hb0
      refine ⟨_, rfl, a, rfl, ?_⟩
      have e : (if a < 0 then -a else a) = (Int.gcd i j : Int) := by rw [← hg]; simp; split <;> omega
      rw [e]
      exact q
  · obtain ⟨v, e, sc, k, ek, q⟩ := h
    exact ⟨v, e, sc, k, ek, hQ _ _ q⟩
theorem sc__law_lowest : FnScope ["_law_top", "_law_bottom", "_law_by"] ["_law_top", "_law_bottom"] (defScope (top 24)) := ⟨rfl, rfl, rfl, by decide +kernel, rfl, by decide +kernel, by decide +kernel⟩
set_option maxHeartbeats 4000000 in
theorem d__law_lowest {P : Program} {w : World} {K : PySem.W.Frag} {mg : Str → Option Value} {base : Heap} {x : Xs} (M : Md K mg x)
    (G_law_divisor : Dn P w K mg base CX0 1 "_law_divisor" ["_law_one", "_law_two"] (spDivisor)) : Dn P w K mg base CX0 2 "_law_lowest" ["_law_top", "_law_bottom"] (spLowest) := by
  have nd := (sc__law_lowest).nd
  refine M.f__law_lowest.ok sc__law_lowest (fun vs H Q E h => ?_) (fun _ _ _ _ _ _ us hl => match us, hl with | [_, _], _ => rfl) (fun f cdv A outer s H vs Q E hr h => ?_)
  · obtain ⟨t, b, rfl, hb, hz, q⟩ := h
    rfl
  obtain ⟨t, b, rfl, hb, hz, q⟩ := h
  refine ⟨_, (pss_cons (ps_set (i := 2) nd rfl (Or.inl rfl) (pe_fn G_law_divisor hr (by decide) rfl pass0 (pa_cons (pv 0) (pa_cons (pv 1) pa_nil))))
      (pss_one (ps_ret (pe_tup (pa_cons (pe_op op_divP (pv 0) (pv 2)) (pa_cons (pe_op op_divP (pv 1) (pv 2)) pa_nil)))))), ?_⟩
  refine ⟨_, rfl, _, rfl, t, b, rfl, Int.le_of_lt hb, ?_⟩
  have hs := (fraction_div (t := t) (b := b) (by omega) hz).2 (by omega)
  have hg : 0 < Int.gcd t b := Int.gcd_pos_of_ne_zero_right _ (by omega)
  refine ⟨_, rfl, _, rfl, t, _, rfl, rfl, ⟨by omega, hs.1.2⟩, _, rfl, _, rfl, b, _, rfl, rfl, ⟨by omega, hs.1.2⟩, by show 2 ≤ sizeLine; decide, fun p hp => q p _ (same_new hp _) ?_⟩
  rw [upd_same]
  show some (HO.tup [V.int (t / _), V.int (b / _)]) = _
  rw [← Int.fdiv_eq_ediv_of_nonneg t (by omega), ← Int.fdiv_eq_ediv_of_nonneg b (by omega), hs.2.1, hs.2.2]
  rfl
theorem sc__law_plus : FnScope ["_law_one", "_law_two"] ["_law_one", "_law_two"] (defScope (top 25)) := ⟨rfl, rfl, rfl, by decide +kernel, rfl, by decide +kernel, by decide +kernel⟩
set_option maxHeartbeats 4000000 in
theorem d__law_plus {P : Program} {w : World} {K : PySem.W.Frag} {mg : Str → Option Value} {base : Heap} {x : Xs} (M : Md K mg x)
    (G_law_lowest : Dn P w K mg base CX0 2 "_law_lowest" ["_law_top", "_law_bottom"] (spLowest)) : Dn P w K mg base CX0 3 "_law_plus" ["_law_one", "_law_two"] (sp2P fAdd K) := by
  have nd := (sc__law_plus).nd
  refine M.f__law_plus.ok sc__law_plus (fun vs H Q E h => ?_) (fun _ _ _ _ _ _ us hl => match us, hl with | [_, _], _ => rfl) (fun f cdv A outer s H vs Q E hr h => ?_)
  · obtain ⟨a, b, x, y, rfl, ha, hb, bx, b_y, px, py, q⟩ := h
    rfl
  obtain ⟨a, b, x, y, rfl, ha, hb, bx, b_y, px, py, q⟩ := h
  refine ⟨_, (pss_one (ps_ret (pe_fn G_law_lowest hr (by decide) rfl pass0 (pa_cons (pe_op op_add (pe_op op_mulB (pe_ix ix_tup (pv 0) pe_int (fun _ _ => rfl)) (pe_ix ix_tup (pv 1) pe_int (fun _ _ => rfl))) (pe_op op_mulB (pe_ix ix_tup (pv 1) pe_int (fun _ _ => rfl)) (pe_ix ix_tup (pv 0) pe_int (fun _ _ => rfl)))) (pa_cons (pe_op op_mulB (pe_ix ix_tup (pv 0) pe_int (fun _ _ => rfl)) (pe_ix ix_tup (pv 1) pe_int (fun _ _ => rfl))) pa_nil))))), ?_⟩
  obtain ⟨x1, x2, x0⟩ := bx
  obtain ⟨y1, y2, y0⟩ := b_y
  refine ⟨_, rfl, a, _, 0, _, rfl, rfl, ha, rfl, ?_⟩
  refine ⟨_, rfl, b, _, 1, _, rfl, rfl, hb, rfl, ?_⟩
  refine ⟨_, _, rfl, rfl, mul4 x1 y2, ?_⟩
  refine ⟨_, rfl, b, _, 0, _, rfl, rfl, hb, rfl, ?_⟩
  refine ⟨_, rfl, a, _, 1, _, rfl, rfl, ha, rfl, ?_⟩
  refine ⟨_, _, rfl, rfl, mul4 y1 x2, _, _, rfl, rfl, ?_⟩
  refine ⟨_, rfl, a, _, 1, _, rfl, rfl, ha, rfl, ?_⟩
  refine ⟨_, rfl, b, _, 1, _, rfl, rfl, hb, rfl, ?_⟩
  refine ⟨_, _, rfl, rfl, mul4 x2 y2, ?_⟩
  exact ⟨_, _, rfl, Int.mul_pos px py, bot4 x2 y2, q⟩
theorem sc__law_less : FnScope ["_law_one", "_law_two"] ["_law_one", "_law_two"] (defScope (top 26)) := ⟨rfl, rfl, rfl, by decide +kernel, rfl, by decide +kernel, by decide +kernel⟩
set_option maxHeartbeats 4000000 in
theorem d__law_less {P : Program} {w : World} {K : PySem.W.Frag} {mg : Str → Option Value} {base : Heap} {x : Xs} (M : Md K mg x) : Dn P w K mg base CX0 1 "_law_less" ["_law_one", "_law_two"] (spBefore K) := by
  have nd := (sc__law_less).nd
  refine M.f__law_less.ok sc__law_less (fun vs H Q E h => ?_) (fun _ _ _ _ _ _ us hl => match us, hl with | [_, _], _ => rfl) (fun f cdv A outer s H vs Q E hr h => ?_)
  · obtain ⟨a, b, x, y, rfl, ha, hb, bx, b_y, q⟩ := h
    rfl
  obtain ⟨a, b, x, y, rfl, ha, hb, bx, b_y, q⟩ := h
  refine ⟨_, (pss_one (ps_ret (pe_cmpR op_lt (pe_op op_mulB (pe_ix ix_tup (pv 0) pe_int (fun _ _ => rfl)) (pe_ix ix_tup (pv 1) pe_int (fun _ _ => rfl))) (pe_op op_mulB (pe_ix ix_tup (pv 1) pe_int (fun _ _ => rfl)) (pe_ix ix_tup (pv 0) pe_int (fun _ _ => rfl))) (nomark _)))), ?_⟩
  obtain ⟨x1, x2, x0⟩ := bx
  obtain ⟨y1, y2, y0⟩ := b_y
  refine ⟨_, rfl, a, _, 0, _, rfl, rfl, ha, rfl, ?_⟩
  refine ⟨_, rfl, b, _, 1, _, rfl, rfl, hb, rfl, ?_⟩
  refine ⟨_, _, rfl, rfl, mul4 x1 y2, ?_⟩
  refine ⟨_, rfl, b, _, 0, _, rfl, rfl, hb, rfl, ?_⟩
  refine ⟨_, rfl, a, _, 1, _, rfl, rfl, ha, rfl, ?_⟩
  exact ⟨_, _, rfl, rfl, mul4 y1 x2, _, _, rfl, rfl, q⟩
theorem sc__law_whole : FnScope ["_law_found"] ["_law_found"] (defScope (top 27)) := ⟨rfl, rfl, rfl, by decide +kernel, rfl, by decide +kernel, by decide +kernel⟩
set_option maxHeartbeats 4000000 in
theorem d__law_whole {P : Program} {w : World} {K : PySem.W.Frag} {mg : Str → Option Value} {base : Heap} {x : Xs} (M : Md K mg x) : Dn P w K mg base CX0 1 "_law_whole" ["_law_found"] (spWhole) := by
  have nd := (sc__law_whole).nd
  refine M.f__law_whole.ok sc__law_whole (fun vs H Q E h => ?_) (fun _ _ _ _ _ _ us hl => match us, hl with | [_], _ => rfl) (fun f cdv A outer s H vs Q E hr h => ?_)
  · obtain ⟨i, rfl, q⟩ := h
    rfl
  obtain ⟨i, rfl, q⟩ := h
  refine ⟨_, (pss_one (ps_ret (pe_and (pe_callB call_isT rfl M.b_isinstance Boot.«isinstance» (pa_cons (pv 0) (pa_cons (pe_ty rfl M.b_int Boot.«int») pa_nil))) (pe_one (pe_not (pe_callB call_isT rfl M.b_isinstance Boot.«isinstance» (pa_cons (pv 0) (pa_cons (pe_ty rfl M.b_bool Boot.«bool») pa_nil)))))))), ?_⟩
  refine ⟨_, rfl, .int i, "int", "int", rfl, by decide, rfl, _, rfl, ?_⟩
  refine iteT ⟨_, rfl, .int i, "bool", "int", rfl, by decide, rfl, _, rfl, q⟩
theorem sc__law_is_fraction : FnScope ["_law_found"] ["_law_found"] (defScope (top 28)) := ⟨rfl, rfl, rfl, by decide +kernel, rfl, by decide +kernel, by decide +kernel⟩
set_option maxHeartbeats 4000000 in
theorem d__law_is_fraction {P : Program} {w : World} {K : PySem.W.Frag} {mg : Str → Option Value} {base : Heap} {x : Xs} (M : Md K mg x)
    (G_law_whole : Dn P w K mg base CX0 1 "_law_whole" ["_law_found"] (spWhole))
    (G_law_divisor : Dn P w K mg base CX0 1 "_law_divisor" ["_law_one", "_law_two"] (spDivisor)) : Dn P w K mg base CX0 2 "_law_is_fraction" ["_law_found"] (spIsFr K) := by
  have nd := (sc__law_is_fraction).nd
  refine M.f__law_is_fraction.ok sc__law_is_fraction (fun vs H Q E h => ?_) (fun _ _ _ _ _ _ us hl => match us, hl with | [_], _ => rfl) (fun f cdv A outer s H vs Q E hr h => ?_)
  · obtain ⟨a, p, rfl, hs, hp, q⟩ := h
    rfl
  obtain ⟨a, p, rfl, hs, hp, q⟩ := h
  refine ⟨_, (pss_cons (ps_if (PW.pt (pw_or (pt_not (pt_val (pe_callB call_isT rfl M.b_isinstance Boot.«isinstance» (pa_cons (pv 0) (pa_cons (pe_ty rfl M.b_tuple Boot.«tuple») pa_nil))))) (pw_or (pt_cmpR op_ne (pe_callB call_len_seq rfl M.b_len PySem.boot_len (pa_cons (pv 0) pa_nil)) pe_int (nomark _)) (pw_or (pt_not (pt_val (pe_fn G_law_whole hr (by decide) rfl pass0 (pa_cons (pe_ix ix_tup (pv 0) pe_int (fun _ _ => rfl)) pa_nil)))) (pw_or1 (pt_not (pt_val (pe_fn G_law_whole hr (by decide) rfl pass0 (pa_cons (pe_ix ix_tup (pv 0) pe_int (fun _ _ => rfl)) pa_nil))))))))) (pss_one (ps_ret pe_bl)) pss_nil)
      (pss_one (ps_ret (pe_and (pe_cmpR op_gt (pe_ix ix_tup (pv 0) pe_int (fun _ _ => rfl)) pe_int (nomark _)) (pe_one (pe_cmpR op_eq (pe_fn G_law_divisor hr (by decide) rfl pass0 (pa_cons (pe_ix ix_tup (pv 0) pe_int (fun _ _ => rfl)) (pa_cons (pe_ix ix_tup (pv 0) pe_int (fun _ _ => rfl)) pa_nil))) pe_int (nomark _))))))), ?_⟩
  refine ⟨_, rfl, _, "tuple", "tuple", rfl, by decide, .inr ⟨rfl, _, hs⟩, _, rfl, iteF ?_⟩
  refine ⟨_, rfl, a, _, rfl, .inr hs, rfl, _, rfl, iteNS rfl ?_⟩
  refine ⟨_, rfl, a, _, 0, _, rfl, rfl, hs, rfl, p.1, rfl, _, rfl, iteF ?_⟩
  refine ⟨_, rfl, a, _, 1, _, rfl, rfl, hs, rfl, p.2, rfl, _, rfl, iteF ?_⟩
  have hpos := hp.pos
  refine ⟨_, rfl, a, _, 1, _, rfl, rfl, hs, rfl, _, _, rfl, rfl, _, rfl, iteDT hpos ?_⟩
  refine ⟨_, rfl, a, _, 0, _, rfl, rfl, hs, rfl, _, rfl, a, _, 1, _, rfl, rfl, hs, rfl, p.1, p.2, rfl, by omega, rfl, ?_⟩
  rw [hp.cop]
  exact q
theorem sc__law_order : FnScope ["_law_number", "_law_count", "_law_left", "_law_found", "_law_k"] ["_law_number", "_law_count"] (defScope (top 29)) := ⟨rfl, rfl, rfl, by decide +kernel, rfl, by decide +kernel, by decide +kernel⟩
set_option maxHeartbeats 4000000 in
theorem d__law_order {P : Program} {w : World} {K : PySem.W.Frag} {mg : Str → Option Value} {base : Heap} {x : Xs} (M : Md K mg x) : Dn P w K mg base CX0 1 "_law_order" ["_law_number", "_law_count"] (spOrderF) := by
  have nd := (sc__law_order).nd
  refine M.f__law_order.ok sc__law_order (fun vs H Q E h => ?_) (fun _ _ _ _ _ _ us hl => match us, hl with | [_, _], _ => rfl) (fun f cdv A outer s H vs Q E hr h => ?_)
  · obtain ⟨num, n, rfl, hn, q⟩ := h
    rfl
  obtain ⟨num, n, rfl, hn, q⟩ := h
  refine ⟨_, (pss_cons (ps_set (i := 2) nd rfl (Or.inl rfl) (pe_callTy (call_list_rng rfl) rfl M.b_list Boot.«list» (pa_cons (pe_callTy call_range rfl M.b_range PyProof.Rows.boot_range (pa_cons (pv 1) pa_nil)) pa_nil)))
      (pss_cons (ps_set (i := 3) nd rfl (Or.inl rfl) (pe_lst pa_nil))
      (pss_cons (ps_for PassesOwn.never rfl (pi_range1 rfl M.b_range (pa_cons (pv 1) pa_nil)) (pg_name (i := 4) nd rfl (Or.inl rfl)) (pss_cons (ps_expr (pe_bm PySem.F.plainAttrs_list PySem.F.slot_list_append PySem.F.type_list_append mt_append (pv 3) (pa_cons (pe_bm PySem.F.plainAttrs_list PySem.F.slot_list_pop PySem.F.type_list_pop mt_popAt (pv 2) (pa_cons (pe_op op_mod (pv 0) (pe_callB call_len_seq rfl M.b_len PySem.boot_len (pa_cons (pv 2) pa_nil))) pa_nil)) pa_nil)))
      (pss_one (ps_set (i := 0) nd rfl (Or.inl rfl) (pe_op op_divP (pv 0) pe_int)))))
      (pss_one (ps_ret (pe_callTy call_tuple_ofF rfl M.b_tuple Boot.«tuple» (pa_cons (pv 3) pa_nil))))))), ?_⟩
  refine ⟨_, rfl, (n : Int), rfl, fun lr hlr => ⟨lr, n, rfl, upd_same, by omega, fun l hl => ?_⟩⟩
  have e0 : (List.range n).map (fun (i : Nat) => V.int (i : Int)) = (LM.rng n).map V.int := by unfold LM.rng; rw [List.map_map]; rfl
  rw [e0]
  have small0 : (0 : Nat) ≤ sizeLine := by decide
  refine ⟨small0, fun f hf => ?_⟩
  have Sl : Same H (upd (upd H lr (.rng 0 (n : Int))) l (.lst ((LM.rng n).map V.int))) := (same_new hlr _).trans (same_new hl _)
  have hl1 : H l = none := (same_new hlr _).free hl
  have hll : upd (upd H lr (.rng 0 (n : Int))) l (.lst ((LM.rng n).map V.int)) l = some (.lst ((LM.rng n).map V.int)) := upd_same
  generalize upd (upd H lr (.rng 0 (n : Int))) l (.lst ((LM.rng n).map V.int)) = H1 at hf Sl hll ⊢
  have hlf : l ≠ f := fun z => by rw [z, hf] at hll; cases hll
  have hf0 : H f = none := Sl.free hf
  refine ⟨_, rfl, (n : Int), rfl, by omega, by omega, ?_⟩
  refine for_range (n := n) (fun k σ H' => Same H H' ∧ H' f = some (.lst ((LN.ordGo n num k).1.map V.int)) ∧ H' l = some (.lst ((LN.ordGo n num k).2.1.map V.int)) ∧ ∃ r, σ = [some (.int (LN.ordGo n num k).2.2), some (.int n), some (.ref l), some (.ref f), r])
    ⟨Sl.trans (same_new hf _), upd_same, by rw [upd_ne hlf]; exact hll, _, rfl⟩ (fun k σ H' hk hP => ?_) (fun σ H' hP => ?_)
  · obtain ⟨hS, hF, hL, r, rfl⟩ := hP
    obtain ⟨_, h1, h2⟩ := LN.ordGo_ok n num k (by omega)
    have eS : LN.ordGo n num (k + 1) = ((LN.ordGo n num k).1 ++ [(LN.ordGo n num k).2.1.getD ((LN.ordGo n num k).2.2 % (LN.ordGo n num k).2.1.length).toNat 0], (LN.ordGo n num k).2.1.eraseIdx ((LN.ordGo n num k).2.2 % (LN.ordGo n num k).2.1.length).toNat, (LN.ordGo n num k).2.2 / 6) := rfl
    rw [eS]
    generalize LN.ordGo n num k = P at *
    obtain ⟨fo, le, m⟩ := P
    dsimp only at h1 h2 hF hL ⊢
    have b0 := Int.emod_nonneg m (show (le.length : Int) ≠ 0 by omega)
    have b1 := Int.emod_lt_of_pos m (show (0 : Int) < (le.length : Int) by omega)
    have hml : (le.map V.int).length = le.length := List.length_map _
    refine ⟨_, rfl, .inl ⟨rfl, _, SqL.of hF⟩, _, rfl, .inl ⟨rfl, _, SqL.of hL⟩, _, rfl, _, rfl, l, _, rfl, .inl (SqL.of hL), m, _, rfl, rfl, by show (0 : Int) < _; rw [hml]; omega, ?_⟩
    dsimp only
    rw [hml]
    refine ⟨l, _, _, _, _, rfl, rfl, hL, by omega, by omega, by rw [hml]; exact seqIx_ok b0 b1, map_int_get (by omega), ?_⟩
    have hF2 : upd H' l (.lst ((le.map V.int).eraseIdx (m % le.length).toNat)) f = some (.lst (fo.map V.int)) := by rw [upd_ne (Ne.symm hlf)]; exact hF
    refine ⟨f, _, _, rfl, rfl, hF2, small1000 (by rw [List.length_map]; omega), ?_⟩
    refine ⟨_, rfl, _, _, rfl, rfl, c9 (by decide) (by decide), ?_⟩
    refine ⟨(hS.over hl1 _).over hf0 _, by rw [upd_same, List.map_append]; rfl, ?_, _, rfl⟩
    rw [upd_ne hlf, upd_same, map_erase]
  · obtain ⟨hS, hF, hL, r, rfl⟩ := hP
    exact ⟨_, rfl, f, _, rfl, SqL.of hF, fun p o hp hd => q p o _ (hS.trans (same_new hp _)) (hS.free hp) upd_same hd⟩
theorem sc__law_wishes : FnScope ["_law_script", "_law_at", "_law_count", "_law_found", "_law_person", "_law_cell"] ["_law_script", "_law_at", "_law_count"] (defScope (top 30)) := ⟨rfl, rfl, rfl, by decide +kernel, rfl, by decide +kernel, by decide +kernel⟩
set_option maxHeartbeats 4000000 in
theorem d__law_wishes {P : Program} {w : World} {K : PySem.W.Frag} {mg : Str → Option Value} {base : Heap} {x : Xs} (M : Md K mg x)
    (G_law_cell_at : Dn P w K mg base CX0 1 "_law_cell_at" ["_law_script", "_law_k"] (spCell K))
    (G_law_order : Dn P w K mg base CX0 1 "_law_order" ["_law_number", "_law_count"] (spOrderF))
    (G_law_mixed : Dn P w K mg base CX0 1 "_law_mixed" ["_law_cell", "_law_place"] (spMixN)) : Dn P w K mg base CX0 2 "_law_wishes" ["_law_script", "_law_at", "_law_count"] (spWishesF K) := by
  have nd := (sc__law_wishes).nd
  refine M.f__law_wishes.ok sc__law_wishes (fun vs H Q E h => ?_) (fun _ _ _ _ _ _ us hl => match us, hl with | [_, _, _], _ => rfl) (fun f cdv A outer s H vs Q E hr h => ?_)
  · obtain ⟨a, ns, at', n, rfl, hS, hat, hn, q⟩ := h
    rfl
  obtain ⟨a, ns, at', n, rfl, hS, hat, hn, q⟩ := h
  refine ⟨_, (pss_cons (ps_set (i := 3) nd rfl (Or.inl rfl) (pe_lst pa_nil))
      (pss_cons (ps_for PassesOwn.never rfl (pi_range1 rfl M.b_range (pa_cons (pv 2) pa_nil)) (pg_name (i := 4) nd rfl (Or.inl rfl)) (pss_cons (ps_set (i := 5) nd rfl (Or.inl rfl) (pe_fn G_law_cell_at hr (by decide) rfl pass0 (pa_cons (pv 0) (pa_cons (pe_op op_add (pv 1) (pv 4)) pa_nil))))
      (pss_one (ps_if (PW.pt (pw_and (pt_cmpR op_gt (pv 4) pe_int (nomark _)) (pw_and1 (pt_cmpR op_eq (pe_op op_mod (pv 5) pe_int) pe_int (nomark _))))) (pss_one (ps_expr (pe_bm PySem.F.plainAttrs_list PySem.F.slot_list_append PySem.F.type_list_append mt_append (pv 3) (pa_cons (pe_ix ix_list (pv 3) (pe_op op_mod (pe_op op_divP (pv 5) pe_int) (pv 4)) (fun _ _ => rfl)) pa_nil)))) (pss_one (ps_expr (pe_bm PySem.F.plainAttrs_list PySem.F.slot_list_append PySem.F.type_list_append mt_append (pv 3) (pa_cons (pe_fn G_law_order hr (by decide) rfl pass0 (pa_cons (pe_fn G_law_mixed hr (by decide) rfl pass0 (pa_cons (pv 5) (pa_cons (pv 4) pa_nil))) (pa_cons (pv 2) pa_nil))) pa_nil))))))))
      (pss_one (ps_ret (pv 3))))), ?_⟩
  have small0 : (0 : Nat) ≤ sizeLine := by decide
  refine ⟨small0, fun f hf => ?_⟩
  refine ⟨_, rfl, (n : Int), rfl, by omega, by omega, ?_⟩
  refine for_range (n := n) (fun k σ H' => Same H H' ∧ ∃ (ws : List V) (r4 r5 : Option V), σ = [some (.ref a), some (.int at'), some (.int n), some (.ref f), r4, r5] ∧ H' f = some (.lst ws) ∧ Paired (IsRF K H') ws (LN.wishGo ns at' n k))
    ⟨same_new hf _, [], _, _, rfl, upd_same, .nil⟩ (fun k σ H' hk hP => ?_) (fun σ H' hP => ?_)
  · obtain ⟨hSa, ws, r4, r5, rfl, hF, hW⟩ := hP
    have hwl := Paired.len hW
    rw [LN.wishGo_len] at hwl
    refine ⟨_, rfl, _, rfl, _, rfl, _, _, rfl, rfl, a, ns, _, rfl, hSa.seq hS, by omega, ?_⟩
    rw [Int.zero_add]
    have eS : LN.wishGo ns at' n (k + 1) = LN.wishGo ns at' n k ++ [if 0 < k ∧ LM.cellAt ns (at' + k) % 4 = 1 then (LN.wishGo ns at' n k).getD (LM.cellAt ns (at' + k) / 4 % k).toNat [] else LN.order (LN.mixed (LM.cellAt ns (at' + k)) k) n] := rfl
    rw [eS]
    generalize LM.cellAt ns (at' + k) = c
    have done1 : ∀ (v : V), IsRF K H' v (if 0 < k ∧ c % 4 = 1 then (LN.wishGo ns at' n k).getD (c / 4 % k).toNat [] else LN.order (LN.mixed c k) n) → Paired (IsRF K (upd H' f (.lst (ws ++ [v])))) (ws ++ [v]) (LN.wishGo ns at' n k ++ [if 0 < k ∧ c % 4 = 1 then (LN.wishGo ns at' n k).getD (c / 4 % k).toNat [] else LN.order (LN.mixed c k) n]) := fun v hv =>
      Paired.app (Paired.mapP hW fun _ _ h => h.over hF) (.cons (hv.over hF) .nil)
    have els : ¬ (0 < k ∧ c % 4 = 1) → ∀ p o H2, Same H' H2 → H2 p = some (.frz o (.tup ((LN.order (LN.mixed c k) n).map V.int))) → o.dict = none → Paired (IsRF K (upd H2 f (.lst (ws ++ [.ref p])))) (ws ++ [.ref p]) (LN.wishGo ns at' n k ++ [if 0 < k ∧ c % 4 = 1 then (LN.wishGo ns at' n k).getD (c / 4 % k).toNat [] else LN.order (LN.mixed c k) n]) := fun hno p o H2 S2 hp hd => by
      rw [if_neg hno]
      exact Paired.app (Paired.mapP hW fun _ _ h => (h.mono S2).over (S2 _ _ hF)) (.cons (IsRF.over ⟨p, o, rfl, hp, hd⟩ (S2 _ _ hF)) .nil)
    refine ⟨_, rfl, _, _, rfl, rfl, _, rfl, iteD2 (fun c1 => ?_) (fun c1 => ?_)⟩
    · refine ⟨_, rfl, _, _, rfl, rfl, by show (0 : Int) < 4; decide, rfl, _, rfl, iteD2 (fun c2 => ?_) (fun c2 => ?_)⟩
      · have hk0 : 0 < k := by omega
        have hc : 0 < k ∧ c % 4 = 1 := ⟨hk0, Veq c2⟩
        have b0 := Int.emod_nonneg (c / 4) (show (k : Int) ≠ 0 by omega)
        have b1 := Int.emod_lt_of_pos (c / 4) (show (0 : Int) < k by omega)
        have hl : (c / 4 % k).toNat < (LN.wishGo ns at' n k).length := by rw [LN.wishGo_len]; omega
        obtain ⟨v, hv, hvR⟩ := Paired.get hW (List.getElem?_eq_getElem hl)
        refine ⟨_, rfl, .inl ⟨rfl, _, SqL.of hF⟩, _, rfl, _, rfl, _, _, rfl, rfl, c9 (by decide) (by decide), _, rfl, _, _, rfl, rfl, by show (0 : Int) < k; omega, f, ws, _, v, rfl, rfl, SqL.of hF, atI_ok b0 hv, f, ws, v, rfl, rfl, hF, small1000 (by omega), ?_⟩
        refine ⟨hSa.over hf _, _, _, _, rfl, upd_same, done1 v ?_⟩
        rw [if_pos hc, List.getD_eq_getElem?_getD, List.getElem?_eq_getElem hl]
        exact hvR
      · refine ⟨_, rfl, .inl ⟨rfl, _, SqL.of hF⟩, _, rfl, _, rfl, c, (k : Int), rfl, _, rfl, _, n, rfl, by omega, fun p o H2 S2 hp0 hp hd => ⟨f, ws, _, rfl, rfl, S2 _ _ hF, small1000 (by omega), ?_⟩⟩
        exact ⟨(hSa.trans S2).over hf _, _, _, _, rfl, upd_same, els (fun z => c2 (by show V.int (c % 4) = V.int 1; rw [z.2])) p o H2 S2 hp hd⟩
    · refine ⟨_, rfl, .inl ⟨rfl, _, SqL.of hF⟩, _, rfl, _, rfl, c, (k : Int), rfl, _, rfl, _, n, rfl, by omega, fun p o H2 S2 hp0 hp hd => ⟨f, ws, _, rfl, rfl, S2 _ _ hF, small1000 (by omega), ?_⟩⟩
      exact ⟨(hSa.trans S2).over hf _, _, _, _, rfl, upd_same, els (fun z => c1 (by have := z.1; omega)) p o H2 S2 hp hd⟩
  · obtain ⟨hSa, ws, r4, r5, rfl, hF, hW⟩ := hP
    exact ⟨_, rfl, q f ws H' hSa hf hF hW⟩
theorem sc__law_prefixes : FnScope ["_law_wish", "_law_shares", "_law_found", "_law_upto", "_law_thing"] ["_law_wish", "_law_shares"] (defScope (top 31)) := ⟨rfl, rfl, rfl, by decide +kernel, rfl, by decide +kernel, by decide +kernel⟩
set_option maxHeartbeats 4000000 in
theorem d__law_prefixes {P : Program} {w : World} {K : PySem.W.Frag} {mg : Str → Option Value} {base : Heap} {x : Xs} (M : Md K mg x)
    (G_law_plus : Dn P w K mg base CX0 3 "_law_plus" ["_law_one", "_law_two"] (sp2P fAdd K)) : Dn P w K mg base CX0 4 "_law_prefixes" ["_law_wish", "_law_shares"] (spPfxL K) := by
  have nd := (sc__law_prefixes).nd
  refine M.f__law_prefixes.ok sc__law_prefixes (fun vs H Q E h => ?_) (fun _ _ _ _ _ _ us hl => match us, hl with | [_, _], _ => rfl) (fun f cdv A outer s H vs Q E hr h => ?_)
  · obtain ⟨a, b, ws, ss, row, T, rfl, hA, hB, hF, ⟨hT, hT2⟩, hrow, hws, hlw, q⟩ := h
    rfl
  obtain ⟨a, b, ws, ss, row, T, rfl, hA, hB, hF, ⟨hT, hT2⟩, hrow, hws, hlw, q⟩ := h
  refine ⟨_, (pss_cons (ps_set (i := 2) nd rfl (Or.inl rfl) (pe_lst pa_nil))
      (pss_cons (ps_set (i := 3) nd rfl (Or.inl rfl) (pe_tup (pa_cons pe_int (pa_cons pe_int pa_nil))))
      (pss_cons (ps_for PassesOwn.never rfl (pi_tup (pv 0)) (pg_name (i := 4) nd rfl (Or.inl rfl)) (pss_cons (ps_set (i := 3) nd rfl (Or.inl rfl) (pe_fn G_law_plus hr (by decide) rfl pass0 (pa_cons (pv 3) (pa_cons (pe_ix ix_tup (pv 1) (pv 4) (fun _ _ => rfl)) pa_nil))))
      (pss_one (ps_expr (pe_bm PySem.F.plainAttrs_list PySem.F.slot_list_append PySem.F.type_list_append mt_append (pv 2) (pa_cons (pv 3) pa_nil))))))
      (pss_one (ps_ret (pv 2)))))), ?_⟩
  have small0 : (0 : Nat) ≤ sizeLine := by decide
  have hT0 : T ≠ 0 := by omega
  have zT : T.natAbs < 2 ^ 100 := by omega
  refine ⟨small0, fun p hp => ?_⟩
  refine ⟨by show 2 ≤ sizeLine; decide, fun c0 hc0 => ?_⟩
  have S1 : Same H (upd (upd H p (.lst [])) c0 (.tup [.int 0, .int 1])) := (same_new hp _).trans (same_new hc0 _)
  have hpl : upd (upd H p (.lst [])) c0 (.tup [.int 0, .int 1]) p = some (.lst []) := same_new hc0 _ _ _ upd_same
  have hc : IsF K (upd (upd H p (.lst [])) c0 (.tup [.int 0, .int 1])) (.ref c0) (0, 1) := ⟨c0, rfl, SqT.of upd_same⟩
  generalize upd (upd H p (.lst [])) c0 (.tup [.int 0, .int 1]) = H1 at S1 hpl hc ⊢
  refine ⟨_, rfl, a, rfl, ⟨_, S1.tup hA⟩, ?_⟩
  refine for_tup (xs := ws.map V.int) (fun i σ H' => Same H H' ∧ ∃ (gs : List V) (sf : Addr) (r : Option V), σ = [some (.ref a), some (.ref b), some (.ref p), some (.ref sf), r] ∧ H' p = some (.lst gs) ∧
      Paired (IsF K H') gs ((List.range i).map fun k => FQ.red (accs row ws (k + 1)) T) ∧ IsF K H' (.ref sf) (FQ.red (accs row ws i) T))
    ⟨S1, [], c0, _, rfl, hpl, .nil, by rw [accs_zero, red_zero hT0]; exact hc⟩ (fun i σ H' _ hP => hP.1.tup hA) (fun i x σ H' hx hP => ?_) (fun σ H' hP => ?_)
  · obtain ⟨hS, gs, sf, r, rfl, hl, hg, hsf⟩ := hP
    rw [List.getElem?_map] at hx
    cases hw : ws[i]? with
    | none => rw [hw] at hx; cases hx
    | some wv =>
      rw [hw] at hx
      have hx' : V.int wv = x := Option.some.inj hx
      subst hx'
      have hb := hws wv (List.mem_of_getElem? hw)
      have hlt : i < ws.length := (List.getElem?_eq_some_iff.mp hw).1
      have hr : (row.map fun x => FQ.red x T)[wv.toNat]? = some (FQ.red (row.getD wv.toNat 0) T) := by
        have : wv.toNat < row.length := by omega
        simp [this]
      obtain ⟨sv, hsv, sa, rfl, hsa⟩ := Paired.get hF hr
      obtain ⟨sf', e', hsf⟩ := hsf
      cases e'
      have bd := accs_bd (ws := ws) hrow (Int.le_of_lt hT) i
      have hi6 : accs row ws i ≤ 63 * T := by
        have : (i : Int) * T ≤ 63 * T := Int.mul_le_mul_of_nonneg_right (by omega) (by omega)
        omega
      have bx : 0 ≤ row.getD wv.toNat 0 ∧ row.getD wv.toNat 0 ≤ T := by
        have h1 : wv.toNat < row.length := by omega
        have : row.getD wv.toNat 0 = row[wv.toNat] := by simp [h1]
        rw [this]; exact hrow _ (List.getElem_mem h1)
      refine ⟨_, rfl, _, rfl, _, rfl, b, ss, wv, _, rfl, rfl, hS.tup hB, atI_ok hb.1 hsv, ?_⟩
      refine ⟨sf, sa, FQ.red (accs row ws i) T, FQ.red (row.getD wv.toNat 0) T, rfl, hsf, hS.tup hsa, Sz_red hT0 (by omega) zT, Sz_red hT0 (by omega) zT, (FQ.red_low hT0).pos, (FQ.red_low hT0).pos, fun c H2 hS2 hc => ?_⟩
      rw [fAdd_red hT0, ← accs_succ hw] at hc
      have hl2 : H2 p = some (.lst gs) := hS2 _ _ hl
      have hgl := Paired.len hg
      rw [List.length_map, List.length_range] at hgl
      refine ⟨_, rfl, .inl ⟨rfl, _, SqL.of hl2⟩, _, rfl, p, gs, _, rfl, rfl, hl2, small1000 (by omega), ?_⟩
      have hcF : IsF K H2 (.ref c) (FQ.red (accs row ws (i + 1)) T) := ⟨c, rfl, SqT.of hc⟩
      refine ⟨(hS.trans hS2).over hp _, gs ++ [.ref c], c, _, rfl, upd_same, ?_, hcF.over hl2⟩
      rw [List.range_succ, List.map_append]
      exact Paired.app (Paired.mapP hg fun v z h => (h.mono hS2).over hl2) (.cons (hcF.over hl2) .nil)
  · obtain ⟨hS, gs, sf, r, rfl, hl, hg, hsf⟩ := hP
    rw [List.length_map] at hg
    exact ⟨_, rfl, q p gs _ hS hp hl hg⟩
theorem sc__law_no_less : FnScope ["_law_wish", "_law_shares", "_law_others", "_law_one", "_law_two"] ["_law_wish", "_law_shares", "_law_others"] (defScope (top 32)) := ⟨rfl, rfl, rfl, by decide +kernel, rfl, by decide +kernel, by decide +kernel⟩
set_option maxHeartbeats 4000000 in
theorem d__law_no_less {P : Program} {w : World} {K : PySem.W.Frag} {mg : Str → Option Value} {base : Heap} {x : Xs} (M : Md K mg x)
    (G_law_prefixes : Dn P w K mg base CX0 4 "_law_prefixes" ["_law_wish", "_law_shares"] (spPfxL K))
    (G_law_less : Dn P w K mg base CX0 1 "_law_less" ["_law_one", "_law_two"] (spBefore K)) : Dn P w K mg base CX0 5 "_law_no_less" ["_law_wish", "_law_shares", "_law_others"] (spNoLess K) := by
  have nd := (sc__law_no_less).nd
  refine M.f__law_no_less.ok sc__law_no_less (fun vs H Q E h => ?_) (fun _ _ _ _ _ _ us hl => match us, hl with | [_, _, _], _ => rfl) (fun f cdv A outer s H vs Q E hr h => ?_)
  · obtain ⟨w1, a, b, ws, ss, ts, row1, row2, T1, T2, rfl, hw, ha, hb, hf1, hf2, hT1, hT2, hr1, hr2, hb1, hb2, h63, q⟩ := h
    rfl
  obtain ⟨w1, a, b, ws, ss, ts, row1, row2, T1, T2, rfl, hw, ha, hb, hf1, hf2, hT1, hT2, hr1, hr2, hb1, hb2, h63, q⟩ := h
  refine ⟨_, (pss_cons (ps_for PassesOwn.never rfl (pi_zip rfl M.b_zip (pa_cons (pe_fn G_law_prefixes hr (by decide) rfl pass0 (pa_cons (pv 0) (pa_cons (pv 1) pa_nil))) (pa_cons (pe_fn G_law_prefixes hr (by decide) rfl pass0 (pa_cons (pv 0) (pa_cons (pv 2) pa_nil))) pa_nil))) (pg_tup rfl (pgs_cons (pg_name (i := 3) nd rfl (Or.inl rfl)) (pgs_cons (pg_name (i := 4) nd rfl (Or.inl rfl)) pgs_nil))) (pss_one (ps_if (pt_val (pe_fn G_law_less hr (by decide) rfl pass0 (pa_cons (pv 3) (pa_cons (pv 4) pa_nil)))) (pss_one (ps_ret pe_bl)) pss_nil)))
      (pss_one (ps_ret pe_bl))), ?_⟩
  refine ⟨_, rfl, _, rfl, w1, a, ws, ss, row1, T1, rfl, hw, ha, hf1, hT1, hr1, hb1, h63, fun p1 gs H1 S1 hp10 hp1 hgs => ?_⟩
  refine ⟨_, rfl, _, rfl, w1, b, ws, ts, row2, T2, rfl, S1.tup hw, S1.tup hb, fracs_mono S1 hf2, hT2, hr2, hb2, h63, fun p2 hs H2 S2 hp20 hp2 hhs => ?_⟩
  have hp12 := S2 _ _ hp1
  have hgs2 := fracs_mono S2 hgs
  have hgl := Paired.len hgs2
  have hhl := Paired.len hhs
  rw [List.length_map, List.length_range] at hgl hhl
  have zx := pfx_sz hT1 hr1 h63
  have zy := pfx_sz hT2 hr2 h63
  refine ⟨false, false, p1, p2, rfl, ⟨gs, SqL.of hp12⟩, ⟨hs, SqL.of hp2⟩, ?_⟩
  refine for_zip (xs := gs) (ys := hs) (fun i σ H' => Same H2 H' ∧ (∀ j, j < i → ¬ accs row1 ws (j + 1) * T2 < accs row2 ws (j + 1) * T1) ∧ ∃ r3 r4, σ = [some (.ref w1), some (.ref a), some (.ref b), r3, r4]) (by omega)
    ⟨Same.refl _, fun j hj => absurd hj (Nat.not_lt_zero _), _, _, rfl⟩ (fun i σ H' _ hP => ⟨SqL.of (hP.1 _ _ hp12), SqL.of (hP.1 _ _ hp2)⟩) (fun i x y σ H' t hx hy ht hP => ?_) (fun σ H' hP => ?_)
  · obtain ⟨S3, hno, r3, r4, rfl⟩ := hP
    have hi : i < ws.length := by have := (List.getElem?_eq_some_iff.mp hx).1; omega
    obtain ⟨f1, hf1', xa, rfl, hxa⟩ := Paired.get' hgs2 hx
    obtain ⟨f2, hf2', ya, rfl, hya⟩ := Paired.get' hhs hy
    rw [List.getElem?_map, List.getElem?_range hi] at hf1' hf2'
    have e1 : FQ.red (accs row1 ws (i + 1)) T1 = f1 := Option.some.inj hf1'
    have e2 : FQ.red (accs row2 ws (i + 1)) T2 = f2 := Option.some.inj hf2'
    have z1 := (zx f1 (List.mem_of_getElem? (i := i) (by rw [pfx_get hi, e1]))).1
    have z2 := (zy f2 (List.mem_of_getElem? (i := i) (by rw [pfx_get hi, e2]))).1
    have S4 := same_new ht (.tup [.ref xa, .ref ya])
    refine ⟨t, _, rfl, SqT.of upd_same, rfl, _, _, rfl, _, _, rfl, rfl, ?_⟩
    refine ⟨_, rfl, _, rfl, xa, ya, f1, f2, rfl, (S3.trans S4).tup hxa, (S3.trans S4).tup hya, z1, z2, _, rfl, ?_⟩
    show if lessF f1 f2 = true then _ else _
    have el : lessF f1 f2 = decide (accs row1 ws (i + 1) * T2 < accs row2 ws (i + 1) * T1) := by rw [← e1, ← e2]; exact lessF_red hT1.1 hT2.1
    rw [el]
    refine iteD2 (fun c => ?_) (fun c => ?_)
    · have ef : noLess ws row1 T1 row2 T2 = false := by
        unfold noLess
        rw [List.all_eq_false]
        exact ⟨i, List.mem_range.mpr hi, by simp [c]⟩
      rw [← ef]
      exact q _ (S1.trans (S2.trans (S3.trans S4)))
    · refine ⟨S3.trans S4, fun j hj => ?_, _, _, rfl⟩
      by_cases e : j = i
      · rw [e]; exact c
      · exact hno j (by omega)
  · obtain ⟨S3, hno, r3, r4, rfl⟩ := hP
    have et : noLess ws row1 T1 row2 T2 = true := by
      unfold noLess
      rw [List.all_eq_true]
      intro j hj
      have := hno j (by have := List.mem_range.mp hj; omega)
      simp [this]
    rw [← et]
    exact q _ (S1.trans (S2.trans S3))
theorem sc__law_is_table : FnScope ["_law_found", "_law_count", "_law_row", "_law_share", "_law_k", "_law_here", "_law_there", "_law_j"] ["_law_found", "_law_count"] (defScope (top 33)) := ⟨rfl, rfl, rfl, by decide +kernel, rfl, by decide +kernel, by decide +kernel⟩
set_option maxHeartbeats 4000000 in
theorem d__law_is_table {P : Program} {w : World} {K : PySem.W.Frag} {mg : Str → Option Value} {base : Heap} {x : Xs} (M : Md K mg x)
    (G_law_is_fraction : Dn P w K mg base CX0 2 "_law_is_fraction" ["_law_found"] (spIsFr K))
    (G_law_plus : Dn P w K mg base CX0 3 "_law_plus" ["_law_one", "_law_two"] (sp2P fAdd K)) : Dn P w K mg base CX0 4 "_law_is_table" ["_law_found", "_law_count"] (spIsTable K) := by
  have nd := (sc__law_is_table).nd
  refine M.f__law_is_table.ok sc__law_is_table (fun vs H Q E h => ?_) (fun _ _ _ _ _ _ us hl => match us, hl with | [_, _], _ => rfl) (fun f cdv A outer s H vs Q E hr h => ?_)
  · obtain ⟨a, us, Z, T, n, rfl, hA, hZ, ok, q⟩ := h
    rfl
  obtain ⟨a, us, Z, T, n, rfl, hA, hZ, ok, q⟩ := h
  refine ⟨_, (pss_cons (ps_if (PW.pt (pw_or (pt_not (pt_val (pe_callB call_isT rfl M.b_isinstance Boot.«isinstance» (pa_cons (pv 0) (pa_cons (pe_ty rfl M.b_list Boot.«list») pa_nil))))) (pw_or1 (pt_cmpR op_ne (pe_callB call_len_seq rfl M.b_len PySem.boot_len (pa_cons (pv 0) pa_nil)) (pv 1) (nomark _))))) (pss_one (ps_ret pe_bl)) pss_nil)
      (pss_cons (ps_for PassesOwn.never rfl (pi_list (pv 0)) (pg_name (i := 2) nd rfl (Or.inl rfl)) (pss_cons (ps_if (PW.pt (pw_or (pt_not (pt_val (pe_callB call_isT rfl M.b_isinstance Boot.«isinstance» (pa_cons (pv 2) (pa_cons (pe_ty rfl M.b_tuple Boot.«tuple») pa_nil))))) (pw_or1 (pt_cmpR op_ne (pe_callB call_len_seq rfl M.b_len PySem.boot_len (pa_cons (pv 2) pa_nil)) (pv 1) (nomark _))))) (pss_one (ps_ret pe_bl)) pss_nil)
      (pss_one (ps_for PassesOwn.never rfl (pi_tup (pv 2)) (pg_name (i := 3) nd rfl (Or.inl rfl)) (pss_one (ps_if (PW.pt (pw_or (pt_not (pt_val (pe_fn G_law_is_fraction hr (by decide) rfl pass0 (pa_cons (pv 3) pa_nil)))) (pw_or (pt_cmpR op_lt (pe_ix ix_tup (pv 3) pe_int (fun _ _ => rfl)) pe_int (nomark _)) (pw_or1 (pt_cmpR op_gt (pe_ix ix_tup (pv 3) pe_int (fun _ _ => rfl)) (pe_ix ix_tup (pv 3) pe_int (fun _ _ => rfl)) (nomark _)))))) (pss_one (ps_ret pe_bl)) pss_nil))))))
      (pss_cons (ps_for PassesOwn.never rfl (pi_range1 rfl M.b_range (pa_cons (pv 1) pa_nil)) (pg_name (i := 4) nd rfl (Or.inl rfl)) (pss_cons (ps_set (i := 5) nd rfl (Or.inl rfl) (pe_tup (pa_cons pe_int (pa_cons pe_int pa_nil))))
      (pss_cons (ps_set (i := 6) nd rfl (Or.inl rfl) (pe_tup (pa_cons pe_int (pa_cons pe_int pa_nil))))
      (pss_cons (ps_for PassesOwn.never rfl (pi_range1 rfl M.b_range (pa_cons (pv 1) pa_nil)) (pg_name (i := 7) nd rfl (Or.inl rfl)) (pss_cons (ps_set (i := 5) nd rfl (Or.inl rfl) (pe_fn G_law_plus hr (by decide) rfl pass0 (pa_cons (pv 5) (pa_cons (pe_ix ix_tup (pe_ix ix_list (pv 0) (pv 4) (fun _ _ => rfl)) (pv 7) (fun _ _ => rfl)) pa_nil))))
      (pss_one (ps_set (i := 6) nd rfl (Or.inl rfl) (pe_fn G_law_plus hr (by decide) rfl pass0 (pa_cons (pv 6) (pa_cons (pe_ix ix_tup (pe_ix ix_list (pv 0) (pv 7) (fun _ _ => rfl)) (pv 4) (fun _ _ => rfl)) pa_nil)))))))
      (pss_one (ps_if (PW.pt (pw_or (pt_cmpR (op_neD hr) (pv 5) (pe_tup (pa_cons pe_int (pa_cons pe_int pa_nil))) (nomark _)) (pw_or1 (pt_cmpR (op_neD hr) (pv 6) (pe_tup (pa_cons pe_int (pa_cons pe_int pa_nil))) (nomark _))))) (pss_one (ps_ret pe_bl)) pss_nil))))))
      (pss_one (ps_ret pe_bl))))), ?_⟩
  have hul := Paired.len hZ
  have hn1 := ok.lo
  have hn6 := ok.hi
  have hT := ok.t0
  have hT80 := ok.t1
  have hT0 : T ≠ 0 := by omega
  have reg := ok.reg
  have hZn := reg.len
  have zT : T.natAbs < 2 ^ 100 := by omega
  refine ⟨_, rfl, _, "list", "list", rfl, by decide, .inl ⟨rfl, _, hA⟩, _, rfl, iteF ?_⟩
  refine ⟨_, rfl, a, _, rfl, .inl hA, _, rfl, rfl, _, rfl, iteNS (by show V.int _ = V.int _; rw [hul, hZn]) ?_⟩
  refine ⟨_, rfl, a, rfl, ⟨_, hA⟩, ?_⟩
  refine for_list (xs := us) (fun i σ H' => H' = H ∧ ∃ r2 r3 r4 r5 r6 r7, σ = [some (.ref a), some (.int n), r2, r3, r4, r5, r6, r7]) ⟨rfl, _, _, _, _, _, _, rfl⟩ (fun i σ H' _ hP => by rw [hP.1]; exact hA) (fun i v σ H' hv hP => ?_) (fun σ H' hP => ?_)
  · obtain ⟨rfl, r2, r3, r4, r5, r6, r7, rfl⟩ := hP
    obtain ⟨m, hm, ra, gs, rfl, hra, hgs⟩ := Paired.get' hZ hv
    have hmZ := List.mem_of_getElem? hm
    have hml := reg.cols m hmZ
    have hgl := Paired.len hgs
    unfold fr at hgl
    rw [List.length_map] at hgl
    refine ⟨_, rfl, _, "tuple", "tuple", rfl, by decide, .inr ⟨rfl, _, hra⟩, _, rfl, iteF ?_⟩
    refine ⟨_, rfl, ra, _, rfl, .inr hra, _, rfl, rfl, _, rfl, iteNS (by show V.int _ = V.int _; rw [hgl, hml]) ?_⟩
    refine ⟨_, rfl, ra, rfl, ⟨_, hra⟩, ?_⟩
    refine for_tup (xs := gs) (fun j σ H2 => H2 = H' ∧ ∃ r3 r4 r5 r6 r7, σ = [some (.ref a), some (.int n), some (.ref ra), r3, r4, r5, r6, r7]) ⟨rfl, _, _, _, _, _, rfl⟩ (fun j σ H2 _ hP => by rw [hP.1]; exact hra) (fun j u σ H2 hu hP => ?_) (fun σ H2 hP => ?_)
    · obtain ⟨rfl, r3', r4', r5', r6', r7', rfl⟩ := hP
      obtain ⟨f, hf, fa, rfl, hfa⟩ := Paired.get' hgs hu
      obtain ⟨c, hc, rfl⟩ : ∃ c ∈ m, f = FQ.red c T := by
        unfold fr at hf
        obtain ⟨c, hc, e⟩ := List.mem_map.mp (List.mem_of_getElem? hf)
        exact ⟨c, hc, e.symm⟩
      have cb := reg_bd reg hmZ c hc
      refine ⟨_, rfl, fa, FQ.red c T, rfl, hfa, FQ.red_low hT0, _, rfl, iteF ?_⟩
      have g1 : ¬ (FQ.red c T).1 < 0 := fun z => by have := (FQ.red_neg_iff hT).mp z; omega
      have g2 : ¬ (FQ.red c T).2 < (FQ.red c T).1 := fun z => by have := (FQ.red_gt_iff hT).mp z; omega
      refine ⟨_, rfl, fa, _, 0, _, rfl, rfl, hfa, rfl, _, _, rfl, rfl, _, rfl, iteDF g1 ?_⟩
      refine ⟨_, rfl, fa, _, 0, _, rfl, rfl, hfa, rfl, _, rfl, fa, _, 1, _, rfl, rfl, hfa, rfl, _, _, rfl, rfl, _, rfl, iteDF g2 ?_⟩
      exact ⟨rfl, _, _, _, _, _, rfl⟩
    · obtain ⟨rfl, r3', r4', r5', r6', r7', rfl⟩ := hP
      exact ⟨rfl, _, _, _, _, _, _, rfl⟩
  obtain ⟨rfl, r2, r3, r4, r5, r6, r7, rfl⟩ := hP
  refine ⟨_, rfl, (n : Int), rfl, by omega, by omega, ?_⟩
  refine for_range (n := n) (fun k σ H1 => Same H' H1 ∧ ∃ r2 r3 r4 r5 r6 r7, σ = [some (.ref a), some (.int n), r2, r3, r4, r5, r6, r7]) ⟨Same.refl _, _, _, _, _, _, _, rfl⟩ (fun k σ H1 hk hP => ?_) (fun σ H1 hP => ?_)
  · obtain ⟨S1, r2', r3', r4', r5', r6', r7', rfl⟩ := hP
    refine ⟨by show 2 ≤ sizeLine; decide, fun p5 hp5 => ⟨by show 2 ≤ sizeLine; decide, fun p6 hp6 => ?_⟩⟩
    have S2 : Same H1 (upd (upd H1 p5 (.tup [.int 0, .int 1])) p6 (.tup [.int 0, .int 1])) := (same_new hp5 _).trans (same_new hp6 _)
    have f5 : IsF K (upd (upd H1 p5 (.tup [.int 0, .int 1])) p6 (.tup [.int 0, .int 1])) (.ref p5) (0, 1) := ⟨p5, rfl, SqT.of (same_new hp6 _ _ _ upd_same)⟩
    have f6 : IsF K (upd (upd H1 p5 (.tup [.int 0, .int 1])) p6 (.tup [.int 0, .int 1])) (.ref p6) (0, 1) := ⟨p6, rfl, SqT.of upd_same⟩
    generalize upd (upd H1 p5 (.tup [.int 0, .int 1])) p6 (.tup [.int 0, .int 1]) = H2 at S2 f5 f6 ⊢
    refine ⟨_, rfl, (n : Int), rfl, by omega, by omega, ?_⟩
    refine for_range (n := n) (fun j σ H3 => Same H2 H3 ∧ ∃ (v5 v6 : V) (r7 : Option V), σ = [some (.ref a), some (.int n), r2', r3', some (.int (0 + (k : Int))), some v5, some v6, r7] ∧ IsF K H3 v5 (FQ.red (HM.sm j (HM.ent Z k)) T) ∧ IsF K H3 v6 (FQ.red (HM.sm j fun i => HM.ent Z i k) T))
      ⟨Same.refl _, _, _, _, rfl, by rw [show HM.sm 0 (HM.ent Z k) = 0 from rfl, red_zero hT0]; exact f5, by rw [show HM.sm 0 (fun i => HM.ent Z i k) = 0 from rfl, red_zero hT0]; exact f6⟩ (fun j σ H3 hj hP => ?_) (fun σ H3 hP => ?_)
    · obtain ⟨S3, v5, v6, r7'', rfl, ⟨a5, rfl, h5⟩, ⟨a6, rfl, h6⟩⟩ := hP
      have S03 := S1.trans (S2.trans S3)
      have hkZ : k < Z.length := by omega
      have hjZ : j < Z.length := by omega
      obtain ⟨uk, huk, rk, gk, rfl, hrk, hgk⟩ := Paired.get hZ (List.getElem?_eq_getElem hkZ)
      obtain ⟨uj, huj, rj, gj, rfl, hrj, hgj⟩ := Paired.get hZ (List.getElem?_eq_getElem hjZ)
      have lk := reg.cols _ (List.getElem_mem hkZ)
      have lj := reg.cols _ (List.getElem_mem hjZ)
      have ek : (fr T Z[k])[j]? = some (FQ.red (HM.ent Z k j) T) := by
        unfold fr HM.ent
        rw [List.getElem?_map, List.getElem?_eq_getElem (by omega), HM.getD_lt hkZ, HM.getD_lt (by omega)]
        rfl
      have ej : (fr T Z[j])[k]? = some (FQ.red (HM.ent Z j k) T) := by
        unfold fr HM.ent
        rw [List.getElem?_map, List.getElem?_eq_getElem (by omega), HM.getD_lt hjZ, HM.getD_lt (by omega)]
        rfl
      obtain ⟨vk, hvk, ak, rfl, hak⟩ := Paired.get hgk ek
      obtain ⟨vj, hvj, aj, rfl, haj⟩ := Paired.get hgj ej
      have bk := reg_bd reg (List.getElem_mem hkZ) (HM.ent Z k j) (by unfold HM.ent; rw [HM.getD_lt hkZ, HM.getD_lt (by omega)]; exact List.getElem_mem _)
      have bj := reg_bd reg (List.getElem_mem hjZ) (HM.ent Z j k) (by unfold HM.ent; rw [HM.getD_lt hjZ, HM.getD_lt (by omega)]; exact List.getElem_mem _)
      have s5 := sm_part (fun i => reg.nn k i) (reg.row k hk) (Nat.le_of_lt hj)
      have s6 := sm_part (fun i => reg.nn i k) (reg.col k hk) (Nat.le_of_lt hj)
      refine ⟨_, rfl, _, rfl, _, rfl, a, _, _, _, rfl, rfl, S03.seq hA, by rw [Int.zero_add]; exact atI_nat huk, _, rfl, rk, _, _, _, rfl, rfl, S03.tup hrk, by rw [Int.zero_add]; exact atI_nat hvk, ?_⟩
      refine ⟨a5, ak, _, _, rfl, h5, S03.tup hak, Sz_red hT0 (by omega) zT, Sz_red hT0 (by omega) zT, (FQ.red_low hT0).pos, (FQ.red_low hT0).pos, fun c5 H4 S4 hc5 => ?_⟩
      rw [fAdd_red hT0] at hc5
      have S04 := S03.trans S4
      refine ⟨_, rfl, _, rfl, _, rfl, a, _, _, _, rfl, rfl, S04.seq hA, by rw [Int.zero_add]; exact atI_nat huj, _, rfl, rj, _, _, _, rfl, rfl, S04.tup hrj, by rw [Int.zero_add]; exact atI_nat hvj, ?_⟩
      refine ⟨a6, aj, _, _, rfl, S4.tup h6, S04.tup haj, Sz_red hT0 (by omega) zT, Sz_red hT0 (by omega) zT, (FQ.red_low hT0).pos, (FQ.red_low hT0).pos, fun c6 H5 S5 hc6 => ?_⟩
      rw [fAdd_red hT0] at hc6
      exact ⟨S3.trans (S4.trans S5), _, _, _, rfl, ⟨c5, rfl, SqT.of (S5 _ _ hc5)⟩, ⟨c6, rfl, SqT.of hc6⟩⟩
    · obtain ⟨S3, v5, v6, r7'', rfl, h5, h6⟩ := hP
      have one : FQ.red T T = (1, 1) := (FQ.red_one_iff hT).mpr rfl
      rw [reg.row k hk, one] at h5
      rw [reg.col k hk, one] at h6
      refine ⟨_, rfl, by show 2 ≤ sizeLine; decide, fun c7 hc7 => ?_⟩
      have S7 := same_new hc7 (.tup [.int 1, .int 1])
      have h7 : IsF K (upd H3 c7 (.tup [.int 1, .int 1])) (.ref c7) (1, 1) := ⟨c7, rfl, SqT.of upd_same⟩
      refine ⟨_, _, (h5.mono S7).rep, h7.rep, shaped_ok (okD_dF _) (by decide), shaped_ok (okD_dF _) (by decide), _, rfl, ?_⟩
      rw [eqv_self 1 _ (okD_dF _)]
      refine iteF ?_
      generalize upd H3 c7 (.tup [.int 1, .int 1]) = H7 at S7 h7 ⊢
      refine ⟨_, rfl, by show 2 ≤ sizeLine; decide, fun c8 hc8 => ?_⟩
      have S8 := same_new hc8 (.tup [.int 1, .int 1])
      have h8 : IsF K (upd H7 c8 (.tup [.int 1, .int 1])) (.ref c8) (1, 1) := ⟨c8, rfl, SqT.of upd_same⟩
      refine ⟨_, _, (h6.mono (S7.trans S8)).rep, h8.rep, shaped_ok (okD_dF _) (by decide), shaped_ok (okD_dF _) (by decide), _, rfl, ?_⟩
      rw [eqv_self 1 _ (okD_dF _)]
      exact iteF ⟨S1.trans (S2.trans (S3.trans (S7.trans S8))), _, _, _, _, _, _, rfl⟩
  · obtain ⟨S1, r2', r3', r4', r5', r6', r7', rfl⟩ := hP
    exact q _ S1
theorem sc_law : FnScope ["_law_script", "_law_first", "_law_count", "_law_person", "_law_wishes_here", "_law_true_row", "_law_table", "_law_cell", "_law_others", "_law_order_here", "_law_mine"] ["_law_script"] (defScope (top 34)) := ⟨rfl, rfl, rfl, by decide +kernel, rfl, by decide +kernel, by decide +kernel⟩
set_option maxHeartbeats 4000000 in
theorem d_law {P : Program} {w : World} {K : PySem.W.Frag} {mg : Str → Option Value} {base : Heap} {x : Xs} {fl : Addr} {fdl : FuncData} (Fl : Fun K "law" "law" (top 34) fl fdl) (M : Md K mg x)
    (G_law_cell_at : Dn P w K mg base CX0 1 "_law_cell_at" ["_law_script", "_law_k"] (spCell K))
    (G_law_wishes : Dn P w K mg base CX0 2 "_law_wishes" ["_law_script", "_law_at", "_law_count"] (spWishesF K))
    (G_law_order : Dn P w K mg base CX0 1 "_law_order" ["_law_number", "_law_count"] (spOrderF))
    (G_law_mixed : Dn P w K mg base CX0 1 "_law_mixed" ["_law_cell", "_law_place"] (spMixN))
    (Gby_turns : Dn P w K mg base CX0 4 "by_turns" ["wishes"] (spByTurns K))
    (G_law_is_table : Dn P w K mg base CX0 4 "_law_is_table" ["_law_found", "_law_count"] (spIsTable K))
    (G_law_no_less : Dn P w K mg base CX0 5 "_law_no_less" ["_law_wish", "_law_shares", "_law_others"] (spNoLess K))
    (Gdeal_by : Dn P w K mg base (CXE P w) 3 "deal_by" ["wishes", "order"] (spDealBy K x)) : FnOk P w K mg base CX0 8 fl fdl ["_law_script"] (spLaw K) := by
  have nd := (sc_law).nd
  refine Fl.ok sc_law (fun vs H Q E h => ?_) (fun cdv A outer s H vs Q E hr h => ?_)
  · obtain ⟨a, ns, rfl, hS, h63, q⟩ := h
    rfl
  obtain ⟨a, ns, rfl, hS, h63, q⟩ := h
  refine ⟨_, (pss_cons (ps_set (i := 1) nd rfl (Or.inl rfl) (pe_fn G_law_cell_at hr (by decide) rfl pass0 (pa_cons (pv 0) (pa_cons pe_int pa_nil))))
      (pss_cons (ps_set (i := 2) nd rfl (Or.inl rfl) (pe_op op_add pe_int (pe_op op_mod (pv 1) pe_int)))
      (pss_cons (ps_set (i := 3) nd rfl (Or.inl rfl) (pe_op op_mod (pe_op op_divP (pv 1) pe_int) (pv 2)))
      (pss_cons (ps_set (i := 4) nd rfl (Or.inl rfl) (pe_fn G_law_wishes hr (by decide) rfl pass0 (pa_cons (pv 0) (pa_cons pe_int (pa_cons (pv 2) pa_nil)))))
      (pss_cons (ps_set (i := 5) nd rfl (Or.inl rfl) (pe_ix ix_list (pv 4) (pv 3) (fun _ _ => rfl)))
      (pss_cons (ps_set (i := 6) nd rfl (Or.inl rfl) (pe_fn Gby_turns hr (by decide) rfl pass0 (pa_cons (pe_callTy call_list_of rfl M.b_list Boot.«list» (pa_cons (pv 4) pa_nil)) pa_nil)))
      (pss_cons (ps_if (pt_not (pt_val (pe_fn G_law_is_table hr (by decide) rfl pass0 (pa_cons (pv 6) (pa_cons (pv 2) pa_nil))))) (pss_one (ps_ret pe_bl)) pss_nil)
      (pss_cons (ps_for PassesOwn.never rfl (pi_list (pe_slice sl_list (pv 0) (po_some pe_int) (po_some pe_int))) (pg_name (i := 7) nd rfl (Or.inl rfl)) (pss_cons (ps_set (i := 8) nd rfl (Or.inl rfl) (pe_callTy call_list_of rfl M.b_list Boot.«list» (pa_cons (pv 4) pa_nil)))
      (pss_cons (ps_asg (pe_fn G_law_order hr (by decide) rfl pass0 (pa_cons (pe_fn G_law_mixed hr (by decide) rfl pass0 (pa_cons (pv 7) (pa_cons pe_int pa_nil))) (pa_cons (pv 2) pa_nil))) (pg_sub (pv 8) (pv 3) set_list))
      (pss_cons (ps_set (i := 9) nd rfl (Or.inl rfl) (pe_fn G_law_order hr (by decide) rfl pass0 (pa_cons (pe_fn G_law_mixed hr (by decide) rfl pass0 (pa_cons (pv 7) (pa_cons pe_int pa_nil))) (pa_cons (pv 2) pa_nil))))
      (pss_cons (ps_if (pt_not (pt_val (pe_fn G_law_no_less hr (by decide) rfl pass0 (pa_cons (pv 5) (pa_cons (pe_ix ix_list (pv 6) (pv 3) (fun _ _ => rfl)) (pa_cons (pe_ix ix_list (pe_fn Gby_turns hr (by decide) rfl pass0 (pa_cons (pv 8) pa_nil)) (pv 3) (fun _ _ => rfl)) pa_nil)))))) (pss_one (ps_ret pe_bl)) pss_nil)
      (pss_cons (ps_set (i := 10) nd rfl (Or.inl rfl) (pe_ix ix_tup (pe_fn Gdeal_by hr (by decide) rfl passN (pa_cons (pe_callTy call_list_of rfl M.b_list Boot.«list» (pa_cons (pv 4) pa_nil)) (pa_cons (pv 9) pa_nil))) (pv 3) (fun _ _ => rfl)))
      (pss_one (ps_if (pt_cmpR op_gt (pe_idxT (K := K) rfl (pv 5) (pv 10)) (pe_idxT (K := K) rfl (pv 5) (pe_ix ix_tup (pe_fn Gdeal_by hr (by decide) rfl passN (pa_cons (pv 8) (pa_cons (pv 9) pa_nil))) (pv 3) (fun _ _ => rfl))) (nomark _)) (pss_one (ps_ret pe_bl)) pss_nil))))))))
      (pss_one (ps_ret pe_bl)))))))))), ?_⟩
  refine ⟨_, rfl, a, ns, 0, rfl, hS, Int.le_refl 0, ?_⟩
  obtain ⟨n, hn, hn1, hn6⟩ : ∃ n : Nat, 1 + LM.cellAt ns 0 % 6 = (n : Int) ∧ 1 ≤ n ∧ n ≤ 6 := by
    have h0 := Int.emod_nonneg (LM.cellAt ns 0) (show (6 : Int) ≠ 0 by decide)
    have h1 := Int.emod_lt_of_pos (LM.cellAt ns 0) (show (0 : Int) < 6 by decide)
    exact ⟨(1 + LM.cellAt ns 0 % 6).toNat, by omega, by omega, by omega⟩
  refine ⟨_, rfl, _, _, rfl, rfl, by show (0 : Int) < 6; decide, _, _, rfl, rfl, ?_⟩
  dsimp only
  rw [hn]
  have hp0 := Int.emod_nonneg (LM.cellAt ns 0 / 6) (show (n : Int) ≠ 0 by omega)
  have hp1 := Int.emod_lt_of_pos (LM.cellAt ns 0 / 6) (show (0 : Int) < n by omega)
  refine ⟨_, rfl, _, _, rfl, rfl, c9 (by decide) (by decide), _, rfl, _, _, rfl, rfl, by show (0 : Int) < n; omega, ?_⟩
  dsimp only
  obtain ⟨p, hp⟩ : ∃ p : Nat, LM.cellAt ns 0 / 6 % (n : Int) = (p : Int) := ⟨(LM.cellAt ns 0 / 6 % (n : Int)).toNat, by omega⟩
  rw [hp]
  have hpn : p < n := by omega
  clear hp0 hp1
  refine ⟨_, rfl, _, rfl, a, ns, 1, n, rfl, hS, by decide, hn6, fun pW ws H1 S1 hW0 hWl hWF => ?_⟩
  have ok : Ws41 n (LN.wishes ns 1 n) := ⟨hn1, hn6, LN.wishes_len ns 1 n, fun w hw => LN.wishes_pm hw⟩
  generalize LN.wishes ns 1 n = W at hWF ok
  have hW : Paired (IsR K H1) ws W := Paired.mapP hWF fun _ _ h => h.isR
  have hwl := Paired.len hW
  have hWn := ok.len
  have hpW : p < W.length := by omega
  obtain ⟨wv, hwv, wa, wo, rfl, hwf, hwd⟩ := Paired.get hWF (List.getElem?_eq_getElem hpW)
  have hwa : SqT K H1 wa (W[p].map V.int) := SqT.frz hwf
  have hrowpm := ok.pm _ (List.getElem_mem hpW)
  have erow : W.getD p [] = W[p] := HM.getD_lt hpW
  generalize W[p] = row at hwa hwf hrowpm erow
  have hrl := hrowpm.len
  refine ⟨_, rfl, _, rfl, pW, _, _, _, rfl, rfl, SqL.of hWl, atI_nat hwv, ?_⟩
  refine ⟨_, rfl, pW, ws, rfl, .inl (SqL.of hWl), fun p1 hp1 => ?_⟩
  have S2 : Same H1 (upd H1 p1 (.lst ws)) := same_new hp1 _
  have h12 : upd H1 p1 (.lst ws) p1 = some (.lst ws) := upd_same
  generalize upd H1 p1 (.lst ws) = H2 at S2 h12 ⊢
  have hW2 := Paired.mapP hW fun _ _ (h : IsR K H1 _ _) => h.mono S2
  refine ⟨p1, ws, W, n, rfl, SqL.of h12, hW2, ok, fun pT us H3 S3 hT0 hTl hTr => ?_⟩
  rw [tabT_eq] at hTr
  have hTr := rows_of_grows hTr
  have tb := tabT_tb ok
  have hfc := fct_le hn6
  have hul := Paired.len hTr
  rw [tabI_len] at hul
  refine ⟨_, rfl, _, rfl, pT, us, _, _, n, rfl, SqL.of hTl, hTr, tb, fun H4 S4 => ⟨_, rfl, iteF ?_⟩⟩
  have S14 := S2.trans (S3.trans S4)
  have hW4 := Paired.mapP hW fun _ _ (h : IsR K H1 _ _) => h.mono S14
  have hWl4 := S14 _ _ hWl
  have hTl4 := S4 _ _ hTl
  have hTr4 := Paired.mapP hTr fun _ _ (h : RwFT K H3 _ _ _) => h.mono S4
  have hwa4 := S14.tup hwa
  have hwf4 := S14 _ _ hwf
  refine ⟨_, rfl, 8, rfl, 12, rfl, a, _, rfl, (S1.trans S14).seq hS, fun pc hpc => ?_⟩
  have S5 : Same H4 (upd H4 pc (.lst (cutV (ns.map V.int) (some 8) (some 12)))) := same_new hpc _
  have hpc5 : upd H4 pc (.lst (cutV (ns.map V.int) (some 8) (some 12))) pc = some (.lst (cutV (ns.map V.int) (some 8) (some 12))) := upd_same
  generalize upd H4 pc (.lst (cutV (ns.map V.int) (some 8) (some 12))) = H5 at S5 hpc5 ⊢
  refine ⟨pc, rfl, ⟨_, SqL.of hpc5⟩, ?_⟩
  refine for_list (xs := cutV (ns.map V.int) (some 8) (some 12)) (fun i σ H6 => Same H5 H6 ∧ ∃ (r7 r8 r9 r10 : Option V), σ = [some (.ref a), some (.int (LM.cellAt ns 0)), some (.int n), some (.int p), some (.ref pW), some (.ref wa), some (.ref pT), r7, r8, r9, r10])
    ⟨Same.refl _, _, _, _, _, rfl⟩ (fun i σ H6 _ hP => SqL.of (hP.1 _ _ hpc5)) (fun i v σ H6 hv hP => ?_) (fun σ H6 hP => ?_)
  · obtain ⟨S6, r7, r8, r9, r10, rfl⟩ := hP
    obtain ⟨c, rfl⟩ : ∃ c : Int, v = V.int c := by
      obtain ⟨c, _, e⟩ := List.mem_map.mp (List.mem_of_mem_drop (List.mem_of_mem_take (List.mem_of_getElem? hv)))
      exact ⟨c, e.symm⟩
    have S46 := S5.trans S6
    refine ⟨_, rfl, pW, ws, rfl, .inl (SqL.of (S46 _ _ hWl4)), fun po hpo => ?_⟩
    have hpo6 : H6 po = none := hpo
    have S7 : Same H6 (upd H6 po (.lst ws)) := same_new hpo _
    have hpo7 : upd H6 po (.lst ws) po = some (.lst ws) := upd_same
    generalize upd H6 po (.lst ws) = H7 at S7 hpo7 ⊢
    refine ⟨_, rfl, c, 60, rfl, _, rfl, _, n, rfl, by omega, fun px ox H8 S8 hpx0 hpx hox => ?_⟩
    have xpm := LN.order_pm (LN.mixed c 60) n
    generalize LN.order (LN.mixed c 60) n = xo at hpx xpm
    have hwsn : ws.length = n := by omega
    refine ⟨_, rfl, _, rfl, po, ws, _, p, rfl, rfl, S8 _ _ hpo7, by unfold ixN; rw [if_pos (by omega), if_pos (by omega)]; rfl, ?_⟩
    have S9 : Same H6 (upd H8 po (.lst (ws.set p (.ref px)))) := (S7.trans S8).over hpo6 _
    have hpo9 : upd H8 po (.lst (ws.set p (.ref px))) po = some (.lst (ws.set p (.ref px))) := upd_same
    have hpx9 : SqT K (upd H8 po (.lst (ws.set p (.ref px)))) px (xo.map V.int) := tup_over (SqT.frz hpx) (S8 _ _ hpo7)
    generalize upd H8 po (.lst (ws.set p (.ref px))) = H9 at S9 hpo9 hpx9 ⊢
    have S49 := S46.trans S9
    have hW9 : Paired (IsR K H9) ws W := Paired.mapP hW4 fun _ _ h => h.mono S49
    have hV9 : Paired (IsR K H9) (ws.set p (.ref px)) (W.set p xo) := Paired.setP hW9 ⟨px, rfl, hpx9⟩
    have okV : Ws41 n (W.set p xo) := ⟨hn1, hn6, by rw [List.length_set]; exact hWn, fun w hw => by
      rcases List.mem_or_eq_of_mem_set hw with z | z
      · exact ok.pm w z
      · rw [z]; exact xpm⟩
    have told : Told n p W (W.set p xo) row := ⟨ok, okV, hpn, erow, fun q hq => by rw [List.getD_eq_getElem?_getD, List.getD_eq_getElem?_getD, List.getElem?_set_ne (Ne.symm hq)]⟩
    generalize W.set p xo = Vs at hV9 okV told
    generalize ws.set p (.ref px) = vs at hpo9 hV9
    refine ⟨_, rfl, c, 61, rfl, _, rfl, _, n, rfl, by omega, fun pd od H10 S10 hpd0 hpd hod => ?_⟩
    have opm := LN.order_pm (LN.mixed c 61) n
    generalize LN.order (LN.mixed c 61) n = o at hpd opm
    have hol := opm.len
    have S410 := S49.trans S10
    obtain ⟨tv, htv, ta, gs, rfl, hta, hgs⟩ := Paired.get hTr4 (tabI_row (f := allC n W) hpn)
    refine ⟨_, rfl, _, rfl, _, rfl, pT, _, _, _, rfl, rfl, SqL.of (S410 _ _ hTl4), atI_nat htv, ?_⟩
    refine ⟨_, rfl, po, vs, Vs, n, rfl, SqL.of (S10 _ _ hpo9), Paired.mapP hV9 (fun _ _ h => h.mono S10), okV, fun pU us' H11 S11 hU0 hUl hUr => ?_⟩
    rw [tabT_eq] at hUr
    have hUr := rows_of_grows hUr
    obtain ⟨uv, huv, ua, hs, rfl, hua, hhs⟩ := Paired.get hUr (tabI_row (f := allC n Vs) hpn)
    have S411 := S410.trans S11
    have tbV := tabT_tb okV
    refine ⟨_, rfl, pU, _, _, _, rfl, rfl, SqL.of hUl, atI_nat huv, ?_⟩
    refine ⟨wa, ta, ua, row, gs, hs, _, _, TM.fct n, TM.fct n, rfl, S411.tup hwa4, S411.tup hta, hua, fracs_mono S411 hgs, hhs, ⟨hfc.1, by omega⟩, ⟨hfc.1, by omega⟩,
      reg_bd tb.reg (List.mem_of_getElem? (tabI_row (f := allC n W) hpn)), reg_bd tbV.reg (List.mem_of_getElem? (tabI_row (f := allC n Vs) hpn)),
      (fun t ht => by have := hrowpm.mem.mp ht; simp; omega), (fun t ht => by have := hrowpm.mem.mp ht; simp; omega), by omega, fun H12 S12 => ?_⟩
    rw [noLess_same hfc.1 fun i _ => told.acc (i + 1)]
    refine ⟨_, rfl, iteF ?_⟩
    have S412 := S411.trans S12
    -- the deals
    refine ⟨_, rfl, pW, ws, rfl, .inl (SqL.of (S412 _ _ hWl4)), fun pw hpw => ?_⟩
    have S13 : Same H12 (upd H12 pw (.lst ws)) := same_new hpw _
    have hpw13 : upd H12 pw (.lst ws) pw = some (.lst ws) := upd_same
    generalize upd H12 pw (.lst ws) = H13 at S13 hpw13 ⊢
    have S413 := S412.trans S13
    have S1013 := S11.trans (S12.trans S13)
    refine ⟨_, rfl, pw, .ref pd, ws, W, n, o, rfl, SqL.of hpw13, Paired.mapP hW4 (fun _ _ h => h.mono S413), ok, ⟨pd, rfl, .inr (SqT.frz (S1013 _ _ hpd))⟩, by omega, fun z => absurd opm z, fun _ q1 ds H14 S14' hq10 hq1 hds => ?_⟩
    have hdl := hds.len
    have hget : (ds.map V.int)[p]? = some (.int (ds.getD p 0)) := map_int_get (by omega)
    refine ⟨_, rfl, q1, _, _, _, rfl, rfl, SqT.of hq1, atI_nat hget, ?_⟩
    have S1014 := S1013.trans S14'
    have S414 := S413.trans S14'
    obtain ⟨es, hes⟩ : ∃ es, Deals n Vs o es := deals_ex okV opm
    have hidx := told.idx opm hds hes
    refine ⟨_, rfl, wa, wo, _, rfl, S414 _ _ hwf4, hwd, _, rfl, row, _, rfl, S414.tup hwa4, hidx.2.1, ?_⟩
    refine ⟨_, rfl, wa, wo, _, rfl, S414 _ _ hwf4, hwd, _, rfl, _, rfl, po, .ref pd, vs, Vs, n, o, rfl, SqL.of ((S10.trans S1014) _ _ hpo9), Paired.mapP hV9 (fun _ _ h => h.mono (S10.trans S1014)), okV, ⟨pd, rfl, .inr (SqT.frz (S1014 _ _ hpd))⟩, by omega, fun z => absurd opm z, fun _ q2 es' H15 S15 hq20 hq2 hes' => ?_⟩
    have ees := hes'.uniq opm hes
    subst ees
    have hel := hes'.len
    have hget2 : (es'.map V.int)[p]? = some (.int (es'.getD p 0)) := map_int_get (by omega)
    refine ⟨_, rfl, q2, _, _, _, rfl, rfl, SqT.of hq2, atI_nat hget2, row, _, rfl, (S414.trans S15).tup hwa4, hidx.2.2, _, _, rfl, rfl, _, rfl, iteDF (by omega) ?_⟩
    exact ⟨S6.trans (S9.trans (S10.trans (S1014.trans S15))), _, _, _, _, rfl⟩
  · exact q _
theorem all_mk {l : PySem.W.OpenLaw} {w : World} {K : PySem.W.Frag} {h : Heap} {mg : Str → Option Value} {fa : Addr} (X : K.In h) (G : h.Ns mainGlobals mg) (hfa : mg "law" = some (.ref fa))
    {f0 : Addr} {od0 an0 : Option Addr} {sl0 : Array (Option Value)} {oc0 kV0 dc0 pm0 cd0 ct0 : Value}
    {f1 : Addr} {od1 an1 : Option Addr} {sl1 : Array (Option Value)} {oc1 kV1 dc1 pm1 cd1 ct1 : Value}
    {f2 : Addr} {od2 an2 : Option Addr} {sl2 : Array (Option Value)} {oc2 kV2 dc2 pm2 cd2 ct2 : Value}
    {f3 : Addr} {od3 an3 : Option Addr} {sl3 : Array (Option Value)} {oc3 kV3 dc3 pm3 cd3 ct3 : Value}
    {f4 : Addr} {od4 an4 : Option Addr} {sl4 : Array (Option Value)} {oc4 kV4 dc4 pm4 cd4 ct4 : Value}
    {f5 : Addr} {od5 an5 : Option Addr} {sl5 : Array (Option Value)} {oc5 kV5 dc5 pm5 cd5 ct5 : Value}
    {f6 : Addr} {od6 an6 : Option Addr} {sl6 : Array (Option Value)} {oc6 kV6 dc6 pm6 cd6 ct6 : Value}
    {f7 : Addr} {od7 an7 : Option Addr} {sl7 : Array (Option Value)} {oc7 kV7 dc7 pm7 cd7 ct7 : Value}
    {f8 : Addr} {od8 an8 : Option Addr} {sl8 : Array (Option Value)} {oc8 kV8 dc8 pm8 cd8 ct8 : Value}
    {f9 : Addr} {od9 an9 : Option Addr} {sl9 : Array (Option Value)} {oc9 kV9 dc9 pm9 cd9 ct9 : Value}
    {f10 : Addr} {od10 an10 : Option Addr} {sl10 : Array (Option Value)} {oc10 kV10 dc10 pm10 cd10 ct10 : Value}
    {f11 : Addr} {od11 an11 : Option Addr} {sl11 : Array (Option Value)} {oc11 kV11 dc11 pm11 cd11 ct11 : Value}
    {f12 : Addr} {od12 an12 : Option Addr} {sl12 : Array (Option Value)} {oc12 kV12 dc12 pm12 cd12 ct12 : Value}
    {f13 : Addr} {od13 an13 : Option Addr} {sl13 : Array (Option Value)} {oc13 kV13 dc13 pm13 cd13 ct13 : Value}
    {f14 : Addr} {od14 an14 : Option Addr} {sl14 : Array (Option Value)} {oc14 kV14 dc14 pm14 cd14 ct14 : Value}
    {f15 : Addr} {od15 an15 : Option Addr} {sl15 : Array (Option Value)} {oc15 kV15 dc15 pm15 cd15 ct15 : Value}
    {f16 : Addr} {od16 an16 : Option Addr} {sl16 : Array (Option Value)} {oc16 kV16 dc16 pm16 cd16 ct16 : Value}
    {f17 : Addr} {od17 an17 : Option Addr} {sl17 : Array (Option Value)} {oc17 kV17 dc17 pm17 cd17 ct17 : Value}
    {f18 : Addr} {od18 an18 : Option Addr} {sl18 : Array (Option Value)} {oc18 kV18 dc18 pm18 cd18 ct18 : Value}
    {f19 : Addr} {od19 an19 : Option Addr} {sl19 : Array (Option Value)} {oc19 kV19 dc19 pm19 cd19 ct19 : Value}
    {f20 : Addr} {od20 an20 : Option Addr} {sl20 : Array (Option Value)} {oc20 kV20 dc20 pm20 cd20 ct20 : Value}
    {f21 : Addr} {od21 an21 : Option Addr} {sl21 : Array (Option Value)} {oc21 kV21 dc21 pm21 cd21 ct21 : Value}
    {f22 : Addr} {od22 an22 : Option Addr} {sl22 : Array (Option Value)} {oc22 kV22 dc22 pm22 cd22 ct22 : Value}
    {f23 : Addr} {od23 an23 : Option Addr} {sl23 : Array (Option Value)} {oc23 kV23 dc23 pm23 cd23 ct23 : Value}
    {f24 : Addr} {od24 an24 : Option Addr} {sl24 : Array (Option Value)} {oc24 kV24 dc24 pm24 cd24 ct24 : Value}
    {f25 : Addr} {od25 an25 : Option Addr} {sl25 : Array (Option Value)} {oc25 kV25 dc25 pm25 cd25 ct25 : Value}
    {f26 : Addr} {od26 an26 : Option Addr} {sl26 : Array (Option Value)} {oc26 kV26 dc26 pm26 cd26 ct26 : Value}
    {x_WishError : Addr}
    {x_NoFraction : Addr}
    {x_NoOrder : Addr}
    (xp : PySem.W.specialIn K (.builtin "object.__class__") "__get__" = some (some (.builtin "getset_descriptor.__get__"))) (xq : PySem.W.takesIn K (.builtin "object.__class__") = some true)
    (a0 : PySem.W.nsIn K mainGlobals "is_whole" = some (some (.ref f0))) (l0 : K.lookup f0 = some ⟨oc0, od0, .func (PySem.W.fnOf "is_whole" "is_whole" (defArgs (top 5)) (defBody (top 5)) (defScope (top 5)) .none kV0 dc0 pm0 an0 cd0 ct0), sl0⟩) (c0 : PySem.W.codeIn K cd0 "is_whole" = true) (k0 : PySem.W.keepIn K (.ref f0) = true)
    (a1 : PySem.W.nsIn K mainGlobals "common_divisor" = some (some (.ref f1))) (l1 : K.lookup f1 = some ⟨oc1, od1, .func (PySem.W.fnOf "common_divisor" "common_divisor" (defArgs (top 6)) (defBody (top 6)) (defScope (top 6)) .none kV1 dc1 pm1 an1 cd1 ct1), sl1⟩) (c1 : PySem.W.codeIn K cd1 "common_divisor" = true) (k1 : PySem.W.keepIn K (.ref f1) = true)
    (a2 : PySem.W.nsIn K mainGlobals "fraction" = some (some (.ref f2))) (l2 : K.lookup f2 = some ⟨oc2, od2, .func (PySem.W.fnOf "fraction" "fraction" (defArgs (top 7)) (defBody (top 7)) (defScope (top 7)) .none kV2 dc2 pm2 an2 cd2 ct2), sl2⟩) (c2 : PySem.W.codeIn K cd2 "fraction" = true) (k2 : PySem.W.keepIn K (.ref f2) = true)
    (a3 : PySem.W.nsIn K mainGlobals "is_listing" = some (some (.ref f3))) (l3 : K.lookup f3 = some ⟨oc3, od3, .func (PySem.W.fnOf "is_listing" "is_listing" (defArgs (top 9)) (defBody (top 9)) (defScope (top 9)) .none kV3 dc3 pm3 an3 cd3 ct3), sl3⟩) (c3 : PySem.W.codeIn K cd3 "is_listing" = true) (k3 : PySem.W.keepIn K (.ref f3) = true)
    (a4 : PySem.W.nsIn K mainGlobals "holds_each_once" = some (some (.ref f4))) (l4 : K.lookup f4 = some ⟨oc4, od4, .func (PySem.W.fnOf "holds_each_once" "holds_each_once" (defArgs (top 10)) (defBody (top 10)) (defScope (top 10)) .none kV4 dc4 pm4 an4 cd4 ct4), sl4⟩) (c4 : PySem.W.codeIn K cd4 "holds_each_once" = true) (k4 : PySem.W.keepIn K (.ref f4) = true)
    (a5 : PySem.W.nsIn K mainGlobals "best_free" = some (some (.ref f5))) (l5 : K.lookup f5 = some ⟨oc5, od5, .func (PySem.W.fnOf "best_free" "best_free" (defArgs (top 12)) (defBody (top 12)) (defScope (top 12)) .none kV5 dc5 pm5 an5 cd5 ct5), sl5⟩) (c5 : PySem.W.codeIn K cd5 "best_free" = true) (k5 : PySem.W.keepIn K (.ref f5) = true)
    (a6 : PySem.W.nsIn K mainGlobals "deal_by" = some (some (.ref f6))) (l6 : K.lookup f6 = some ⟨oc6, od6, .func (PySem.W.fnOf "deal_by" "deal_by" (defArgs (top 13)) (defBody (top 13)) (defScope (top 13)) .none kV6 dc6 pm6 an6 cd6 ct6), sl6⟩) (c6 : PySem.W.codeIn K cd6 "deal_by" = true) (k6 : PySem.W.keepIn K (.ref f6) = true)
    (a7 : PySem.W.nsIn K mainGlobals "with_one" = some (some (.ref f7))) (l7 : K.lookup f7 = some ⟨oc7, od7, .func (PySem.W.fnOf "with_one" "with_one" (defArgs (top 14)) (defBody (top 14)) (defScope (top 14)) .none kV7 dc7 pm7 an7 cd7 ct7), sl7⟩) (c7 : PySem.W.codeIn K cd7 "with_one" = true) (k7 : PySem.W.keepIn K (.ref f7) = true)
    (a8 : PySem.W.nsIn K mainGlobals "turns_from" = some (some (.ref f8))) (l8 : K.lookup f8 = some ⟨oc8, od8, .func (PySem.W.fnOf "turns_from" "turns_from" (defArgs (top 15)) (defBody (top 15)) (defScope (top 15)) .none kV8 dc8 pm8 an8 cd8 ct8), sl8⟩) (c8 : PySem.W.codeIn K cd8 "turns_from" = true) (k8 : PySem.W.keepIn K (.ref f8) = true)
    (a9 : PySem.W.nsIn K mainGlobals "orders_of" = some (some (.ref f9))) (l9 : K.lookup f9 = some ⟨oc9, od9, .func (PySem.W.fnOf "orders_of" "orders_of" (defArgs (top 16)) (defBody (top 16)) (defScope (top 16)) .none kV9 dc9 pm9 an9 cd9 ct9), sl9⟩) (c9 : PySem.W.codeIn K cd9 "orders_of" = true) (k9 : PySem.W.keepIn K (.ref f9) = true)
    (a10 : PySem.W.nsIn K mainGlobals "counts_of" = some (some (.ref f10))) (l10 : K.lookup f10 = some ⟨oc10, od10, .func (PySem.W.fnOf "counts_of" "counts_of" (defArgs (top 17)) (defBody (top 17)) (defScope (top 17)) .none kV10 dc10 pm10 an10 cd10 ct10), sl10⟩) (c10 : PySem.W.codeIn K cd10 "counts_of" = true) (k10 : PySem.W.keepIn K (.ref f10) = true)
    (a11 : PySem.W.nsIn K mainGlobals "shares_by_turns" = some (some (.ref f11))) (l11 : K.lookup f11 = some ⟨oc11, od11, .func (PySem.W.fnOf "shares_by_turns" "shares_by_turns" (defArgs (top 18)) (defBody (top 18)) (defScope (top 18)) .none kV11 dc11 pm11 an11 cd11 ct11), sl11⟩) (c11 : PySem.W.codeIn K cd11 "shares_by_turns" = true) (k11 : PySem.W.keepIn K (.ref f11) = true)
    (a12 : PySem.W.nsIn K mainGlobals "by_turns" = some (some (.ref f12))) (l12 : K.lookup f12 = some ⟨oc12, od12, .func (PySem.W.fnOf "by_turns" "by_turns" (defArgs (top 19)) (defBody (top 19)) (defScope (top 19)) .none kV12 dc12 pm12 an12 cd12 ct12), sl12⟩) (c12 : PySem.W.codeIn K cd12 "by_turns" = true) (k12 : PySem.W.keepIn K (.ref f12) = true)
    (a13 : PySem.W.nsIn K mainGlobals "_law_cell_at" = some (some (.ref f13))) (l13 : K.lookup f13 = some ⟨oc13, od13, .func (PySem.W.fnOf "_law_cell_at" "_law_cell_at" (defArgs (top 21)) (defBody (top 21)) (defScope (top 21)) .none kV13 dc13 pm13 an13 cd13 ct13), sl13⟩) (c13 : PySem.W.codeIn K cd13 "_law_cell_at" = true) (k13 : PySem.W.keepIn K (.ref f13) = true)
    (a14 : PySem.W.nsIn K mainGlobals "_law_mixed" = some (some (.ref f14))) (l14 : K.lookup f14 = some ⟨oc14, od14, .func (PySem.W.fnOf "_law_mixed" "_law_mixed" (defArgs (top 22)) (defBody (top 22)) (defScope (top 22)) .none kV14 dc14 pm14 an14 cd14 ct14), sl14⟩) (c14 : PySem.W.codeIn K cd14 "_law_mixed" = true) (k14 : PySem.W.keepIn K (.ref f14) = true)
    (a15 : PySem.W.nsIn K mainGlobals "_law_divisor" = some (some (.ref f15))) (l15 : K.lookup f15 = some ⟨oc15, od15, .func (PySem.W.fnOf "_law_divisor" "_law_divisor" (defArgs (top 23)) (defBody (top 23)) (defScope (top 23)) .none kV15 dc15 pm15 an15 cd15 ct15), sl15⟩) (c15 : PySem.W.codeIn K cd15 "_law_divisor" = true) (k15 : PySem.W.keepIn K (.ref f15) = true)
    (a16 : PySem.W.nsIn K mainGlobals "_law_lowest" = some (some (.ref f16))) (l16 : K.lookup f16 = some ⟨oc16, od16, .func (PySem.W.fnOf "_law_lowest" "_law_lowest" (defArgs (top 24)) (defBody (top 24)) (defScope (top 24)) .none kV16 dc16 pm16 an16 cd16 ct16), sl16⟩) (c16 : PySem.W.codeIn K cd16 "_law_lowest" = true) (k16 : PySem.W.keepIn K (.ref f16) = true)
    (a17 : PySem.W.nsIn K mainGlobals "_law_plus" = some (some (.ref f17))) (l17 : K.lookup f17 = some ⟨oc17, od17, .func (PySem.W.fnOf "_law_plus" "_law_plus" (defArgs (top 25)) (defBody (top 25)) (defScope (top 25)) .none kV17 dc17 pm17 an17 cd17 ct17), sl17⟩) (c17 : PySem.W.codeIn K cd17 "_law_plus" = true) (k17 : PySem.W.keepIn K (.ref f17) = true)
    (a18 : PySem.W.nsIn K mainGlobals "_law_less" = some (some (.ref f18))) (l18 : K.lookup f18 = some ⟨oc18, od18, .func (PySem.W.fnOf "_law_less" "_law_less" (defArgs (top 26)) (defBody (top 26)) (defScope (top 26)) .none kV18 dc18 pm18 an18 cd18 ct18), sl18⟩) (c18 : PySem.W.codeIn K cd18 "_law_less" = true) (k18 : PySem.W.keepIn K (.ref f18) = true)
    (a19 : PySem.W.nsIn K mainGlobals "_law_whole" = some (some (.ref f19))) (l19 : K.lookup f19 = some ⟨oc19, od19, .func (PySem.W.fnOf "_law_whole" "_law_whole" (defArgs (top 27)) (defBody (top 27)) (defScope (top 27)) .none kV19 dc19 pm19 an19 cd19 ct19), sl19⟩) (c19 : PySem.W.codeIn K cd19 "_law_whole" = true) (k19 : PySem.W.keepIn K (.ref f19) = true)
    (a20 : PySem.W.nsIn K mainGlobals "_law_is_fraction" = some (some (.ref f20))) (l20 : K.lookup f20 = some ⟨oc20, od20, .func (PySem.W.fnOf "_law_is_fraction" "_law_is_fraction" (defArgs (top 28)) (defBody (top 28)) (defScope (top 28)) .none kV20 dc20 pm20 an20 cd20 ct20), sl20⟩) (c20 : PySem.W.codeIn K cd20 "_law_is_fraction" = true) (k20 : PySem.W.keepIn K (.ref f20) = true)
    (a21 : PySem.W.nsIn K mainGlobals "_law_order" = some (some (.ref f21))) (l21 : K.lookup f21 = some ⟨oc21, od21, .func (PySem.W.fnOf "_law_order" "_law_order" (defArgs (top 29)) (defBody (top 29)) (defScope (top 29)) .none kV21 dc21 pm21 an21 cd21 ct21), sl21⟩) (c21 : PySem.W.codeIn K cd21 "_law_order" = true) (k21 : PySem.W.keepIn K (.ref f21) = true)
    (a22 : PySem.W.nsIn K mainGlobals "_law_wishes" = some (some (.ref f22))) (l22 : K.lookup f22 = some ⟨oc22, od22, .func (PySem.W.fnOf "_law_wishes" "_law_wishes" (defArgs (top 30)) (defBody (top 30)) (defScope (top 30)) .none kV22 dc22 pm22 an22 cd22 ct22), sl22⟩) (c22 : PySem.W.codeIn K cd22 "_law_wishes" = true) (k22 : PySem.W.keepIn K (.ref f22) = true)
    (a23 : PySem.W.nsIn K mainGlobals "_law_prefixes" = some (some (.ref f23))) (l23 : K.lookup f23 = some ⟨oc23, od23, .func (PySem.W.fnOf "_law_prefixes" "_law_prefixes" (defArgs (top 31)) (defBody (top 31)) (defScope (top 31)) .none kV23 dc23 pm23 an23 cd23 ct23), sl23⟩) (c23 : PySem.W.codeIn K cd23 "_law_prefixes" = true) (k23 : PySem.W.keepIn K (.ref f23) = true)
    (a24 : PySem.W.nsIn K mainGlobals "_law_no_less" = some (some (.ref f24))) (l24 : K.lookup f24 = some ⟨oc24, od24, .func (PySem.W.fnOf "_law_no_less" "_law_no_less" (defArgs (top 32)) (defBody (top 32)) (defScope (top 32)) .none kV24 dc24 pm24 an24 cd24 ct24), sl24⟩) (c24 : PySem.W.codeIn K cd24 "_law_no_less" = true) (k24 : PySem.W.keepIn K (.ref f24) = true)
    (a25 : PySem.W.nsIn K mainGlobals "_law_is_table" = some (some (.ref f25))) (l25 : K.lookup f25 = some ⟨oc25, od25, .func (PySem.W.fnOf "_law_is_table" "_law_is_table" (defArgs (top 33)) (defBody (top 33)) (defScope (top 33)) .none kV25 dc25 pm25 an25 cd25 ct25), sl25⟩) (c25 : PySem.W.codeIn K cd25 "_law_is_table" = true) (k25 : PySem.W.keepIn K (.ref f25) = true)
    (a26 : PySem.W.nsIn K mainGlobals "law" = some (some (.ref f26))) (l26 : K.lookup f26 = some ⟨oc26, od26, .func (PySem.W.fnOf "law" "law" (defArgs (top 34)) (defBody (top 34)) (defScope (top 34)) .none kV26 dc26 pm26 an26 cd26 ct26), sl26⟩) (c26 : PySem.W.codeIn K cd26 "law" = true) (k26 : PySem.W.keepIn K (.ref f26) = true)
    (z0 : PySem.W.nsIn K mainGlobals "isinstance" = some none)
    (z1 : PySem.W.nsIn K mainGlobals "int" = some none)
    (z2 : PySem.W.nsIn K mainGlobals "bool" = some none)
    (z3 : PySem.W.nsIn K mainGlobals "str" = some none)
    (z4 : PySem.W.nsIn K mainGlobals "list" = some none)
    (z5 : PySem.W.nsIn K mainGlobals "tuple" = some none)
    (z6 : PySem.W.nsIn K mainGlobals "abs" = some none)
    (z7 : PySem.W.nsIn K mainGlobals "len" = some none)
    (z8 : PySem.W.nsIn K mainGlobals "range" = some none)
    (z9 : PySem.W.nsIn K mainGlobals "sorted" = some none)
    (z10 : PySem.W.nsIn K mainGlobals "all" = some none)
    (z11 : PySem.W.nsIn K mainGlobals "zip" = some none)
    (z12 : PySem.W.nsIn K mainGlobals "dict" = some none)
    (xa_WishError : PySem.W.nsIn K mainGlobals "WishError" = some (some (.ref x_WishError))) (xe_WishError : PySem.W.excIn K x_WishError bmV "ValueError.__new__" = true)
    (xa_NoFraction : PySem.W.nsIn K mainGlobals "NoFraction" = some (some (.ref x_NoFraction))) (xe_NoFraction : PySem.W.excIn K x_NoFraction bmV "ValueError.__new__" = true)
    (xa_NoOrder : PySem.W.nsIn K mainGlobals "NoOrder" = some (some (.ref x_NoOrder))) (xe_NoOrder : PySem.W.excIn K x_NoOrder bmV "ValueError.__new__" = true)
    (xg_NoOrder : PySem.W.findIn K (.ref x_NoOrder) "__getattribute__" = some (some (.builtin "BaseException.__getattribute__")))
    (xn_NoOrder : PySem.W.findIn K (.ref x_NoOrder) "__getattr__" = some none)
    (xc_NoOrder : PySem.W.findIn K (.ref x_NoOrder) "__class__" = some (some (.builtin "object.__class__")))
    (xo_NoOrder : PySem.W.mroIn K x_NoOrder (.type "object") = some true)
    (xb_NoOrder : PySem.W.mroIn K x_NoOrder (.type "BaseException") = some true) (xs_NoOrder : PySem.W.mroIn K x_NoOrder (.ref x_WishError) = some true)
    : ∃ fd : FuncData, (∀ (s : Shared) (v : Value), BindsTo s fd ⟨[v], []⟩ [("_law_script", v)]) ∧ ∀ base : Heap, K.In base → base.Ns mainGlobals mg → FnOk l.prog w K mg base CX0 8 fa fd ["_law_script"] (spLaw K) := by
  have e := hfa.symm.trans (PySem.W.mg_of X G a26)
  cases e
  have M : Md K mg ⟨x_WishError, x_NoFraction, 0, 0, 0, x_NoOrder, 0, 0, 0, 0⟩ := ⟨⟨_, _, fun_mk (st := top 5) l0 c0 k0, PySem.W.mg_of X G a0⟩,
    ⟨_, _, fun_mk (st := top 6) l1 c1 k1, PySem.W.mg_of X G a1⟩,
    ⟨_, _, fun_mk (st := top 7) l2 c2 k2, PySem.W.mg_of X G a2⟩,
    ⟨_, _, fun_mk (st := top 9) l3 c3 k3, PySem.W.mg_of X G a3⟩,
    ⟨_, _, fun_mk (st := top 10) l4 c4 k4, PySem.W.mg_of X G a4⟩,
    ⟨_, _, fun_mk (st := top 12) l5 c5 k5, PySem.W.mg_of X G a5⟩,
    ⟨_, _, fun_mk (st := top 13) l6 c6 k6, PySem.W.mg_of X G a6⟩,
    ⟨_, _, fun_mk (st := top 14) l7 c7 k7, PySem.W.mg_of X G a7⟩,
    ⟨_, _, fun_mk (st := top 15) l8 c8 k8, PySem.W.mg_of X G a8⟩,
    ⟨_, _, fun_mk (st := top 16) l9 c9 k9, PySem.W.mg_of X G a9⟩,
    ⟨_, _, fun_mk (st := top 17) l10 c10 k10, PySem.W.mg_of X G a10⟩,
    ⟨_, _, fun_mk (st := top 18) l11 c11 k11, PySem.W.mg_of X G a11⟩,
    ⟨_, _, fun_mk (st := top 19) l12 c12 k12, PySem.W.mg_of X G a12⟩,
    ⟨_, _, fun_mk (st := top 21) l13 c13 k13, PySem.W.mg_of X G a13⟩,
    ⟨_, _, fun_mk (st := top 22) l14 c14 k14, PySem.W.mg_of X G a14⟩,
    ⟨_, _, fun_mk (st := top 23) l15 c15 k15, PySem.W.mg_of X G a15⟩,
    ⟨_, _, fun_mk (st := top 24) l16 c16 k16, PySem.W.mg_of X G a16⟩,
    ⟨_, _, fun_mk (st := top 25) l17 c17 k17, PySem.W.mg_of X G a17⟩,
    ⟨_, _, fun_mk (st := top 26) l18 c18 k18, PySem.W.mg_of X G a18⟩,
    ⟨_, _, fun_mk (st := top 27) l19 c19 k19, PySem.W.mg_of X G a19⟩,
    ⟨_, _, fun_mk (st := top 28) l20 c20 k20, PySem.W.mg_of X G a20⟩,
    ⟨_, _, fun_mk (st := top 29) l21 c21 k21, PySem.W.mg_of X G a21⟩,
    ⟨_, _, fun_mk (st := top 30) l22 c22 k22, PySem.W.mg_of X G a22⟩,
    ⟨_, _, fun_mk (st := top 31) l23 c23 k23, PySem.W.mg_of X G a23⟩,
    ⟨_, _, fun_mk (st := top 32) l24 c24 k24, PySem.W.mg_of X G a24⟩,
    ⟨_, _, fun_mk (st := top 33) l25 c25 k25, PySem.W.mg_of X G a25⟩,
    ⟨_, _, fun_mk (st := top 34) l26 c26 k26, PySem.W.mg_of X G a26⟩,
    PySem.W.mg_none_of X G z0,
    PySem.W.mg_none_of X G z1,
    PySem.W.mg_none_of X G z2,
    PySem.W.mg_none_of X G z3,
    PySem.W.mg_none_of X G z4,
    PySem.W.mg_none_of X G z5,
    PySem.W.mg_none_of X G z6,
    PySem.W.mg_none_of X G z7,
    PySem.W.mg_none_of X G z8,
    PySem.W.mg_none_of X G z9,
    PySem.W.mg_none_of X G z10,
    PySem.W.mg_none_of X G z11,
    PySem.W.mg_none_of X G z12,
    ⟨PySem.W.mg_of X G xa_WishError, xe_WishError⟩,
    ⟨PySem.W.mg_of X G xa_NoFraction, xe_NoFraction⟩,
    ⟨PySem.W.mg_of X G xa_NoOrder, xe_NoOrder⟩,
    ⟨xe_NoOrder, xg_NoOrder, xn_NoOrder, xc_NoOrder, xo_NoOrder, xp, xq, xb_NoOrder⟩,
    xs_NoOrder⟩
  refine ⟨PySem.W.fnOf "law" "law" (defArgs (top 34)) (defBody (top 34)) (defScope (top 34)) .none kV26 dc26 pm26 an26 cd26 ct26, fun s v => .of_eq rfl, fun base _ _ => ?_⟩
  have Gis_whole := d_is_whole (P := l.prog) (w := w) (base := base) M 
  have Gcommon_divisor := d_common_divisor (P := l.prog) (w := w) (base := base) M 
  have Gfraction := d_fraction (P := l.prog) (w := w) (base := base) M Gis_whole Gcommon_divisor
  have Gis_listing := d_is_listing (P := l.prog) (w := w) (base := base) M 
  have Gholds_each_once := d_holds_each_once (P := l.prog) (w := w) (base := base) M Gis_listing Gis_whole
  have Gbest_free := d_best_free (P := l.prog) (w := w) (base := base) M 
  have Gdeal_by := d_deal_by (P := l.prog) (w := w) (base := base) M Gholds_each_once Gbest_free
  have Gwith_one := d_with_one (P := l.prog) (w := w) (base := base) M 
  have Gturns_from := d_turns_from (P := l.prog) (w := w) (base := base) M Gbest_free
  have Gorders_of := d_orders_of (P := l.prog) (w := w) (base := base) M 
  have Gcounts_of := d_counts_of (P := l.prog) (w := w) (base := base) M Gorders_of Gturns_from Gwith_one
  have Gshares_by_turns := d_shares_by_turns (P := l.prog) (w := w) (base := base) M Gorders_of Gfraction
  have Gby_turns := d_by_turns (P := l.prog) (w := w) (base := base) M Gcounts_of Gshares_by_turns
  have G_law_cell_at := d__law_cell_at (P := l.prog) (w := w) (base := base) M 
  have G_law_mixed := d__law_mixed (P := l.prog) (w := w) (base := base) M 
  have G_law_divisor := d__law_divisor (P := l.prog) (w := w) (base := base) M 
  have G_law_lowest := d__law_lowest (P := l.prog) (w := w) (base := base) M G_law_divisor
  have G_law_plus := d__law_plus (P := l.prog) (w := w) (base := base) M G_law_lowest
  have G_law_less := d__law_less (P := l.prog) (w := w) (base := base) M 
  have G_law_whole := d__law_whole (P := l.prog) (w := w) (base := base) M 
  have G_law_is_fraction := d__law_is_fraction (P := l.prog) (w := w) (base := base) M G_law_whole G_law_divisor
  have G_law_order := d__law_order (P := l.prog) (w := w) (base := base) M 
  have G_law_wishes := d__law_wishes (P := l.prog) (w := w) (base := base) M G_law_cell_at G_law_order G_law_mixed
  have G_law_prefixes := d__law_prefixes (P := l.prog) (w := w) (base := base) M G_law_plus
  have G_law_no_less := d__law_no_less (P := l.prog) (w := w) (base := base) M G_law_prefixes G_law_less
  have G_law_is_table := d__law_is_table (P := l.prog) (w := w) (base := base) M G_law_is_fraction G_law_plus
  exact d_law (fun_mk (st := top 34) l26 c26 k26) M G_law_cell_at G_law_wishes G_law_order G_law_mixed Gby_turns G_law_is_table G_law_no_less Gdeal_by
theorem walk {l : PySem.W.OpenLaw} {q : Program} {loose : List Str} {XP : (Str → Option Value) → Heap → Prop} {YP : World → Heap → Prop} {d : DefRec} {K : Params → PySem.W.Frag} (hn : l.most = some 63) (hdf : d.params.defaults = [])
    (hY : ∀ (w : World) (h : Heap), YP w h → (K w.params).In h)
    (F : ∀ (w : World) (mg : Str → Option Value) (fa : Addr) (h : Heap), (K w.params).In h → h.Ns mainGlobals mg → mg d.name = some (.ref fa) →
      ∃ fd : FuncData, (∀ (s : Shared) (u : Value), BindsTo s fd ⟨[u], []⟩ [("_law_script", u)]) ∧ ∀ base : Heap, (K w.params).In base → base.Ns mainGlobals mg → FnOk l.prog w (K w.params) mg base CX0 8 fa fd ["_law_script"] (spLaw (K w.params))) :
    PySem.W.WalkO q loose XP YP l.row.toRowW d [] (fun f vs => PySem.call f vs) :=
  L2.walk_of (n := 63) (k := 8) (x := "_law_script") (CX := fun _ => CX0) (sp := fun w => spLaw (K w.params)) hn (by decide) hdf ⟨rfl, by decide, by decide⟩ hY F (fun _ _ a ns hl _ hS => ⟨a, ns, rfl, hS, hl, fun _ => rfl⟩) fun _ _ _ _ _ z => z
end Nk63
open PySem PySem.W PyProof.Rows
set_option maxRecDepth 100000 in
set_option maxHeartbeats 0 in
theorem PySem.Challenge.cw_wishlots_k63_whole_other_wishes_told_holds : PySem.Challenge.rw_wishlots_k63_whole_other_wishes_told.Holds := by
  w_on; o_law; k_head; (case hw => w_witness2)
  k_fill
  refine Nk63.walk (l := PySem.Challenge.rw_wishlots_k63_whole_other_wishes_told) rfl rfl (fun w h Y => PySem.W.kIn_of Y) ?F
  case F =>
    intro w mg fa h KX G hmg
    refine' Nk63.all_mk KX G hmg ?xp ?xq ?a0 ?l0 ?c0 ?k0 ?a1 ?l1 ?c1 ?k1 ?a2 ?l2 ?c2 ?k2 ?a3 ?l3 ?c3 ?k3 ?a4 ?l4 ?c4 ?k4 ?a5 ?l5 ?c5 ?k5 ?a6 ?l6 ?c6 ?k6 ?a7 ?l7 ?c7 ?k7 ?a8 ?l8 ?c8 ?k8 ?a9 ?l9 ?c9 ?k9 ?a10 ?l10 ?c10 ?k10 ?a11 ?l11 ?c11 ?k11 ?a12 ?l12 ?c12 ?k12 ?a13 ?l13 ?c13 ?k13 ?a14 ?l14 ?c14 ?k14 ?a15 ?l15 ?c15 ?k15 ?a16 ?l16 ?c16 ?k16 ?a17 ?l17 ?c17 ?k17 ?a18 ?l18 ?c18 ?k18 ?a19 ?l19 ?c19 ?k19 ?a20 ?l20 ?c20 ?k20 ?a21 ?l21 ?c21 ?k21 ?a22 ?l22 ?c22 ?k22 ?a23 ?l23 ?c23 ?k23 ?a24 ?l24 ?c24 ?k24 ?a25 ?l25 ?c25 ?k25 ?a26 ?l26 ?c26 ?k26 ?z0 ?z1 ?z2 ?z3 ?z4 ?z5 ?z6 ?z7 ?z8 ?z9 ?z10 ?z11 ?z12 ?xa_WishError ?xe_WishError ?xa_NoFraction ?xe_NoFraction ?xa_NoOrder ?xe_NoOrder ?xg_NoOrder ?xn_NoOrder ?xc_NoOrder ?xo_NoOrder ?xb_NoOrder ?xs_NoOrder
    (case xa_WishError => k_is)
    (case xa_NoFraction => k_is)
    (case xa_NoOrder => k_is)
    (case xp => k_is)
    (case xq => k_is)
    (case a0 => k_is)
    (case l0 => k_is)
    (case c0 => k_is)
    (case k0 => k_is)
    (case a1 => k_is)
    (case l1 => k_is)
    (case c1 => k_is)
    (case k1 => k_is)
    (case a2 => k_is)
    (case l2 => k_is)
    (case c2 => k_is)
    (case k2 => k_is)
    (case a3 => k_is)
    (case l3 => k_is)
    (case c3 => k_is)
    (case k3 => k_is)
    (case a4 => k_is)
    (case l4 => k_is)
    (case c4 => k_is)
    (case k4 => k_is)
    (case a5 => k_is)
    (case l5 => k_is)
    (case c5 => k_is)
    (case k5 => k_is)
    (case a6 => k_is)
    (case l6 => k_is)
    (case c6 => k_is)
    (case k6 => k_is)
    (case a7 => k_is)
    (case l7 => k_is)
    (case c7 => k_is)
    (case k7 => k_is)
    (case a8 => k_is)
    (case l8 => k_is)
    (case c8 => k_is)
    (case k8 => k_is)
    (case a9 => k_is)
    (case l9 => k_is)
    (case c9 => k_is)
    (case k9 => k_is)
    (case a10 => k_is)
    (case l10 => k_is)
    (case c10 => k_is)
    (case k10 => k_is)
    (case a11 => k_is)
    (case l11 => k_is)
    (case c11 => k_is)
    (case k11 => k_is)
    (case a12 => k_is)
    (case l12 => k_is)
    (case c12 => k_is)
    (case k12 => k_is)
    (case a13 => k_is)
    (case l13 => k_is)
    (case c13 => k_is)
    (case k13 => k_is)
    (case a14 => k_is)
    (case l14 => k_is)
    (case c14 => k_is)
    (case k14 => k_is)
    (case a15 => k_is)
    (case l15 => k_is)
    (case c15 => k_is)
    (case k15 => k_is)
    (case a16 => k_is)
    (case l16 => k_is)
    (case c16 => k_is)
    (case k16 => k_is)
    (case a17 => k_is)
    (case l17 => k_is)
    (case c17 => k_is)
    (case k17 => k_is)
    (case a18 => k_is)
    (case l18 => k_is)
    (case c18 => k_is)
    (case k18 => k_is)
    (case a19 => k_is)
    (case l19 => k_is)
    (case c19 => k_is)
    (case k19 => k_is)
    (case a20 => k_is)
    (case l20 => k_is)
    (case c20 => k_is)
    (case k20 => k_is)
    (case a21 => k_is)
    (case l21 => k_is)
    (case c21 => k_is)
    (case k21 => k_is)
    (case a22 => k_is)
    (case l22 => k_is)
    (case c22 => k_is)
    (case k22 => k_is)
    (case a23 => k_is)
    (case l23 => k_is)
    (case c23 => k_is)
    (case k23 => k_is)
    (case a24 => k_is)
    (case l24 => k_is)
    (case c24 => k_is)
    (case k24 => k_is)
    (case a25 => k_is)
    (case l25 => k_is)
    (case c25 => k_is)
    (case k25 => k_is)
    (case a26 => k_is)
    (case l26 => k_is)
    (case c26 => k_is)
    (case k26 => k_is)
    (case z0 => k_is)
    (case z1 => k_is)
    (case z2 => k_is)
    (case z3 => k_is)
    (case z4 => k_is)
    (case z5 => k_is)
    (case z6 => k_is)
    (case z7 => k_is)
    (case z8 => k_is)
    (case z9 => k_is)
    (case z10 => k_is)
    (case z11 => k_is)
    (case z12 => k_is)
    (case xe_WishError => k_exc)
    (case xe_NoFraction => k_exc)
    (case xe_NoOrder => k_exc)
    (case xg_NoOrder => k_is)
    (case xn_NoOrder => k_is)
    (case xc_NoOrder => k_is)
    (case xo_NoOrder => k_is)
    (case xb_NoOrder => k_is)
    (case xs_NoOrder => k_is)
#print axioms PySem.Challenge.cw_wishlots_k63_whole_other_wishes_told_holds
