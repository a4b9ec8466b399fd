import PyProof.Rows.All
import Wide.All
import OpenK.AllK
import Wide.FinOn
import Lean
import PyProof.EqAt
import PyProof.EqKinds
import PyProof.TupleCall
import PySem.Challenge.RW_wishlots_k64_whole_names_turned_about
set_option Elab.async false
set_option linter.all false
set_option maxRecDepth 100000
/-! THE HAND LAYER, for ints, bools, texts, own classes, LISTS and tuples (index, slices, in, append, pop ..), calls, loops. Paste it whole ahead of your own text; what your proof does not reach may be deleted. -/
namespace L2
open PySem PySem.Spec PyProof.Rows

/-- a key: an int or a str -/
abbrev Key := Sum Int Str
def keyIs : Key → Value → Bool
  | .inl k, v => Value.isInt k v
  | .inr x, v => Value.isStrOf x v
def keyH (w : World) : Key → Int
  | .inl k => hashInt k
  | .inr x => hashStr w x
theorem keyIs_shape : ∀ {k : Key} {v : Value}, keyIs k v = true → (∃ i t, k = Sum.inl i ∧ v = Value.int i t) ∨ (∃ x t, k = Sum.inr x ∧ v = Value.str x t)
  | .inl i, v, h => by
    obtain ⟨t, e⟩ := Value.isInt_shape (k := i) (v := v) h
    exact .inl ⟨i, t, rfl, e⟩
  | .inr x, v, h => by
    obtain ⟨t, e⟩ := Value.isStrOf_shape (x := x) (v := v) h
    exact .inr ⟨x, t, rfl, e⟩
theorem key_ll (a b : Int) : decide ((Sum.inl a : Key) = Sum.inl b) = (a == b) := by
  by_cases e : a = b
  · subst e; simp
  · have h : ¬ (Sum.inl a : Key) = Sum.inl b := fun q => e (Sum.inl.inj q)
    rw [decide_eq_false h]
    exact (beq_eq_false_iff_ne.mpr e).symm
theorem key_rr (a b : Str) : decide ((Sum.inr a : Key) = Sum.inr b) = decide (a = b) := by
  by_cases e : a = b
  · subst e; simp
  · have h : ¬ (Sum.inr a : Key) = Sum.inr b := fun q => e (Sum.inr.inj q)
    rw [decide_eq_false h, decide_eq_false e]
theorem key_lr (a : Int) (b : Str) : decide ((Sum.inl a : Key) = Sum.inr b) = false := decide_eq_false (fun q => nomatch q)
theorem key_rl (a : Str) (b : Int) : decide ((Sum.inr a : Key) = Sum.inl b) = false := decide_eq_false (fun q => nomatch q)

def mixKind (prog : Program) (w : World) : PySem.KeyKind prog w Key where
  is := keyIs
  hash := keyH w
  inj := fun v a b ha hb => by
    rcases keyIs_shape ha with ⟨i, t, rfl, rfl⟩ | ⟨x, t, rfl, rfl⟩
    · rcases keyIs_shape hb with ⟨j, u, rfl, e⟩ | ⟨y, u, rfl, e⟩
      · injection e with e1 _; rw [e1]
      · exact nomatch e
    · rcases keyIs_shape hb with ⟨j, u, rfl, e⟩ | ⟨y, u, rfl, e⟩
      · exact nomatch e
      · injection e with e1 _; rw [e1]
  byValue := fun k v h => by
    rcases keyIs_shape h with ⟨i, t, rfl, rfl⟩ | ⟨x, t, rfl, rfl⟩ <;> rfl
  pyHash := fun hv h => by
    rcases keyIs_shape hv with ⟨i, t, rfl, rfl⟩ | ⟨x, t, rfl, rfl⟩
    · exact wpAny_pyHash_int h
    · exact wpAny_pyHash_str h
  eqBool := fun hu hv h => by
    rcases keyIs_shape hu with ⟨i, t, rfl, rfl⟩ | ⟨x, t, rfl, rfl⟩
    · rcases keyIs_shape hv with ⟨j, u, rfl, rfl⟩ | ⟨y, u, rfl, rfl⟩
      · rw [key_ll] at h; exact wpAny_eqBool_int h
      · rw [key_lr] at h; exact SeqAt.EqAt.int_str i t y u _ _ _ _ h
    · rcases keyIs_shape hv with ⟨j, u, rfl, rfl⟩ | ⟨y, u, rfl, rfl⟩
      · rw [key_rl] at h; exact SeqAt.EqAt.str_int x t j u _ _ _ _ h
      · rw [key_rr] at h; exact wpAny_eqBool_str h
  «strs» := fun k x t v h => by
    rcases keyIs_shape h with ⟨i, u, rfl, e⟩ | ⟨y, u, rfl, e⟩
    · exact nomatch e
    · injection e with e1 _
      subst e1
      cases v <;> rfl

end L2

namespace L2
open PySem PySem.Spec PyProof.Rows

/-- a value, without the heap -/
inductive V where
  | non | bl (b : Bool) | int (i : Int) | str (x : Str) | byt (b : Array UInt8) | flt (b : UInt64) | ref (a : Addr) | ty (n : String)
  deriving DecidableEq

def RelV : V → Value → Prop
  | .non, u => u = Value.none
  | .bl b, u => u = Value.bool b
  | .int i, u => ∃ t, u = Value.int i t
  | .str x, u => ∃ t, u = Value.str x t
  | .byt b, u => ∃ t, u = Value.bytes b t
  | .flt b, u => ∃ t, u = Value.float b t
  | .ref a, u => u = Value.ref a
  | .ty n, u => u = Value.type n

abbrev Vals : List V → List Value → Prop := Paired RelV
theorem Vals.length {xs : List V} {us : List Value} (r : Vals xs us) : xs.length = us.length := Paired.length r
theorem Vals.get : ∀ {xs : List V} {us : List Value} {i : Nat} {x : V}, Vals xs us → xs[i]? = some x → ∃ u, us[i]? = some u ∧ RelV x u
  | _, _, _, _, .nil, e => by simp at e
  | _, _, 0, _, .cons r _, e => by simp at e; subst e; exact ⟨_, rfl, r⟩
  | _, _, i + 1, x, .cons _ t, e => by
    obtain ⟨u, h1, h2⟩ := Vals.get (i := i) (x := x) t (by simpa using e)
    exact ⟨u, by simpa using h1, h2⟩
theorem Vals.set {x : V} {u : Value} (r : RelV x u) : ∀ {xs : List V} {us : List Value} (i : Nat), Vals xs us → Vals (xs.set i x) (us.set i u)
  | _, _, _, .nil => .nil
  | _, _, 0, .cons _ t => .cons r t
  | _, _, i + 1, .cons q t => .cons q (Vals.set r i t)
theorem Vals.append : ∀ {xs ys : List V} {us ws : List Value}, Vals xs us → Vals ys ws → Vals (xs ++ ys) (us ++ ws)
  | _, _, _, _, .nil, s => s
  | _, _, _, _, .cons r t, s => .cons r (Vals.append t s)
theorem Vals.take : ∀ {xs : List V} {us : List Value} (n : Nat), Vals xs us → Vals (xs.take n) (us.take n)
  | _, _, 0, _ => .nil
  | _, _, _ + 1, .nil => .nil
  | _, _, n + 1, .cons r t => .cons r (Vals.take n t)
theorem Vals.drop : ∀ {xs : List V} {us : List Value} (n : Nat), Vals xs us → Vals (xs.drop n) (us.drop n)
  | _, _, 0, r => r
  | _, _, _ + 1, .nil => .nil
  | _, _, n + 1, .cons _ t => Vals.drop n t
def RelO : Option V → Option Value → Prop
  | some v, some u => RelV v u
  | none, none => True
  | _, _ => False
def KV {κ : Type} : List (κ × V) → List (κ × Value) → Prop := Paired fun (p : κ × V) (q : κ × Value) => p.1 = q.1 ∧ RelV p.2 q.2

/-- a key of a dict (00_mix): an int or a text -/
def kV : Key → V
  | .inl i => .int i
  | .inr x => .str x

/-- what stands at a tracked address -/
inductive HO where
  /-- a list -/
  | lst (xs : List V)
  /-- a tuple (never changes) -/
  | tup (xs : List V)
  /-- a dict whose keys are ints and texts; one whose keys are tuples of ints and texts (the empty one is both) -/
  | dK (kvs : List (Key × V)) | dT (kvs : List (List Key × V))
  /-- a set of ints: its members, its size -/
  | set (S : Int → Bool) (n : Nat)
  /-- an instance of the class at C, its dict at dx, its attributes -/
  | ins (C dx : Addr) (fs : List (Str × V))
  /-- the dict of the instance at x -/
  | own (x : Addr)
  /-- the dict of an exception -/
  | xd (fs : List (Str × V))
  /-- a bound method, f of x -/
  | met (f x : Addr)
  /-- a range object lo, lo + 1, .. below hi -/
  | rng (lo hi : Int)
  /-- a thing that is known to the object (the script; a dict while a loop walks it): read, never written while it is so -/
  | frz (o : Obj) (u : HO)
  /-- a code object's table -/
  | tbl (ps : Array Value)
  /-- any other thing, by what is true of its one object (a def of one's own: SetO a S n := HO.ext fun h => ..) -/
  | ext (φ : Heap → Prop)

abbrev Hp := Addr → Option HO
def upd (H : Hp) (a : Addr) (o : HO) : Hp := fun b => if b = a then some o else H b
theorem upd_same {H : Hp} {a : Addr} {o : HO} : upd H a o a = some o := by unfold upd; rw [if_pos rfl]
theorem upd_ne {H : Hp} {a b : Addr} {o : HO} (h : b ≠ a) : upd H a o b = H b := by unfold upd; rw [if_neg h]
/-- two objects of different content stand apart -/
theorem ne_of {H : Hp} {a b : Addr} {o u : HO} (h : H a = some o) (h' : H b = some u) (d : o ≠ u) : a ≠ b := by
  intro e; subst e; rw [h] at h'; exact d (Option.some.inj h')
theorem ne_of_none {H : Hp} {a b : Addr} {o : HO} (h : H a = some o) (h' : H b = none) : a ≠ b := by
  intro e; subst e; rw [h] at h'; cases h'

section
variable (P : Program) (w : World)
def ObjOk (H : Hp) (h : Heap) (a : Addr) : HO → Prop
  | .lst xs => xs.length ≤ sizeLine ∧ ∃ (its : List Value) (n : Nat), Vals xs its ∧ h.get? a = some { cls := .type "list", data := .seq its.toArray n }
  | .tup xs => xs.length ≤ sizeLine ∧ ∃ its : List Value, Vals xs its ∧ IsTup h a its.toArray
  | .dK kvs => kvs.length ≤ sizeLine ∧ (a == sysModules) = false ∧ ∃ vs, KV kvs vs ∧ h.DictOf (mixKind P w) a vs
  | .dT kvs => kvs.length ≤ sizeLine ∧ (a == sysModules) = false ∧ ∃ xs : List (List Key × Addr × Value),
      Paired (fun (p : List Key × V) (q : List Key × Addr × Value) => p.1 = q.1 ∧ H q.2.1 = some (.tup (p.1.map kV)) ∧ RelV p.2 q.2.2) kvs xs ∧
      ∃ o es ep, h.get? a = some o ∧ o.ExactDict ∧ o.data = .dict es ep ∧ es.toList = xs.map (entryOfKey (tupleKind (mixKind P w))) ∧ (xs.map (·.1)).Nodup
  | .set S n => h.SetOf (intKind P w) a S n
  | .ins C dx fs => H dx = some (.own a) ∧ fs.length ≤ 1000 ∧ dx ≠ a ∧ h.get? a = some (PySem.W.instObj C dx) ∧
      ∃ mA, h.Ns1 dx mA ∧ (∀ f, RelO (fs.lookup f) (mA f)) ∧ PySem.Within mA (fs.map (·.1))
  | .own _ => ∃ o, h.get? a = some o
  | .xd fs => ∃ mA, h.Ns1 a mA ∧ ∀ f, RelO (fs.lookup f) (mA f)
  | .rng lo hi => ∃ t u v, h.get? a = some { cls := .type "range", data := .fields #[.int lo t, .int hi u, .int 1 v] }
  | .frz o u => h.get? a = some o ∧ ObjOk H h a u
  | .tbl ps => h.get? a = some { cls := .none, data := .fields ps }
  | .met f x => h.get? a = some (PySem.W.methodObj (.ref f) (.ref x))
  | .ext φ => φ h ∧ (∃ o, h.get? a = some o) ∧ ∀ h1 h2 : Heap, φ h1 → (∀ o, h1.get? a = some o → h2.get? a = some o) → φ h2
/-- the abstract heap is held -/
def HOk (H : Hp) (h : Heap) : Prop := ∀ a o, H a = some o → ObjOk P w H h a o
end

section
variable {P : Program} {w : World} {H H' : Hp} {h h' : Heap} {a : Addr} {o : HO}
theorem ObjOk.lt (x : ObjOk P w H h a o) : a < h.objs.size := by
  cases o with
  | lst xs => obtain ⟨_, _, _, _, e⟩ := x; exact Heap.lt_size e
  | tup xs => obtain ⟨_, _, _, p⟩ := x; exact p.lt
  | dK kvs => obtain ⟨_, _, _, _, o, _, _, e, _⟩ := x; exact Heap.lt_size e
  | dT kvs => obtain ⟨_, _, _, _, o, _, _, e, _⟩ := x; exact Heap.lt_size e
  | set S n => obtain ⟨o, _, _, _, e, _⟩ := x; exact Heap.lt_size e
  | ins C dx fs => obtain ⟨_, _, _, e, _⟩ := x; exact Heap.lt_size e
  | own y => obtain ⟨_, e⟩ := x; exact Heap.lt_size e
  | xd fs => obtain ⟨_, ⟨_, _, _, e, _⟩, _⟩ := x; exact Heap.lt_size e
  | rng lo hi => obtain ⟨_, _, _, e⟩ := x; exact Heap.lt_size e
  | frz ob u => obtain ⟨e, _⟩ := x; exact Heap.lt_size e
  | tbl ps => exact Heap.lt_size (show h.get? a = some _ from x)
  | met f y => exact Heap.lt_size (show h.get? a = some _ from x)
  | ext φ => obtain ⟨_, ⟨_, e⟩, _⟩ := x; exact Heap.lt_size e
theorem Paired.mapP {α β : Type} {F G : α → β → Prop} : ∀ {l₁ : List α} {l₂ : List β}, Paired F l₁ l₂ → (∀ a b, F a b → G a b) → Paired G l₁ l₂
  | _, _, .nil, _ => .nil
  | _, _, .cons r t, f => .cons (f _ _ r) (Paired.mapP t f)
/-- what an object's description leans on: its own object, its own dict, the tuples -/
theorem ObjOk.stay (x : ObjOk P w H h a o) (k : ∀ b u, (b = a ∨ H b = some (.own a)) → h.get? b = some u → h'.get? b = some u)
    (ho : ∀ b, H b = some (.own a) → H' b = some (.own a)) (ht : ∀ b xs, H b = some (.tup xs) → H' b = some (.tup xs)) : ObjOk P w H' h' a o := by
  induction o with
  | lst xs => obtain ⟨z, its, n, r, e⟩ := x; exact ⟨z, its, n, r, k _ _ (.inl rfl) e⟩
  | tup xs => obtain ⟨z, its, r, ob, e, c⟩ := x; exact ⟨z, its, r, ob, k _ _ (.inl rfl) e, c⟩
  | dK kvs => obtain ⟨z, y, vs, r, ob, es, ep, e, c⟩ := x; exact ⟨z, y, vs, r, ob, es, ep, k _ _ (.inl rfl) e, c⟩
  | dT kvs =>
    obtain ⟨z, y, xs, r, ob, es, ep, e, c⟩ := x
    exact ⟨z, y, xs, Paired.mapP r fun p q z => ⟨z.1, ht _ _ z.2.1, z.2.2⟩, ob, es, ep, k _ _ (.inl rfl) e, c⟩
  | set S n => obtain ⟨ob, es, ep, t, e, c⟩ := x; exact ⟨ob, es, ep, t, k _ _ (.inl rfl) e, c⟩
  | ins C dx fs =>
    obtain ⟨d, z, ne, e, mA, ⟨od, es, ep, e2, c⟩, r⟩ := x
    exact ⟨ho _ d, z, ne, k _ _ (.inl rfl) e, mA, ⟨od, es, ep, k _ _ (.inr d) e2, c⟩, r⟩
  | own y => obtain ⟨ob, e⟩ := x; exact ⟨ob, k _ _ (.inl rfl) e⟩
  | xd fs => obtain ⟨mA, ⟨od, es, ep, e, c⟩, r⟩ := x; exact ⟨mA, ⟨od, es, ep, k _ _ (.inl rfl) e, c⟩, r⟩
  | rng lo hi => obtain ⟨t, u, v, e⟩ := x; exact ⟨t, u, v, k _ _ (.inl rfl) e⟩
  | frz ob u ih => obtain ⟨e, q⟩ := x; exact ⟨k _ _ (.inl rfl) e, ih q⟩
  | tbl ps =>
    have e : h.get? a = some { cls := .none, data := .fields ps } := x
    show h'.get? a = some { cls := .none, data := .fields ps }
    exact k a _ (.inl rfl) e
  | met f y =>
    have e : h.get? a = some (PySem.W.methodObj (.ref f) (.ref y)) := x
    show h'.get? a = some (PySem.W.methodObj (.ref f) (.ref y))
    exact k a _ (.inl rfl) e
  | ext φ => obtain ⟨p, ⟨o, e⟩, st⟩ := x; exact ⟨st _ _ p fun o q => k _ _ (.inl rfl) q, ⟨o, k _ _ (.inl rfl) e⟩, st⟩
theorem HOk.lt (x : HOk P w H h) (e : H a = some o) : a < h.objs.size := (x a o e).lt
theorem HOk.fresh (x : HOk P w H h) (e : h.objs.size ≤ a) : H a = none := by
  cases q : H a with
  | none => rfl
  | some u => exact absurd (Nat.lt_of_lt_of_le (x.lt q) e) (Nat.lt_irrefl _)
/-- every object of the heap is kept -/
theorem HOk.kept (x : HOk P w H h) (k : ∀ b u, h.get? b = some u → h'.get? b = some u) : HOk P w H h' := fun a o e =>
  (x a o e).stay (fun b u _ q => k b u q) (fun _ q => q) fun _ _ q => q
/-- a new object is laid and tracked -/
theorem HOk.laid (x : HOk P w H h) (k : ∀ b u, h.get? b = some u → h'.get? b = some u) (hp : h.objs.size ≤ a) (new : ObjOk P w (upd H a o) h' a o) : HOk P w (upd H a o) h' := fun b u e => by
  have hn := x.fresh hp
  by_cases hb : b = a
  · subst hb; rw [upd_same] at e; cases e; exact new
  · rw [upd_ne hb] at e
    exact (x b u e).stay (fun c v _ q => k c v q) (fun c q => by rw [upd_ne (ne_of_none q hn)]; exact q) fun c xs q => by rw [upd_ne (ne_of_none q hn)]; exact q
end

/-- what may be read as u: it is u, or a known u -/
def Rd (H : Hp) (a : Addr) (u : HO) : Prop := H a = some u ∨ ∃ o, H a = some (.frz o u)
theorem Rd.of {H : Hp} {a : Addr} {u : HO} (h : H a = some u) : Rd H a u := .inl h
theorem Rd.ok {P : Program} {w : World} {H : Hp} {h : Heap} {a : Addr} {u : HO} (r : Rd H a u) (x : HOk P w H h) : ObjOk P w H h a u := by
  rcases r with r | ⟨o, r⟩
  · exact x a u r
  · obtain ⟨_, q⟩ := x a _ r
    exact q
/-- what may be written -/
def Mut : Option HO → Prop
  | some (.lst _) => True
  | some (.dK _) => True
  | some (.dT _) => True
  | some (.set _ _) => True
  | some (.ins _ _ _) => True
  | some (.ext _) => True
  | _ => False
section
variable {P : Program} {w : World} {H : Hp} {h h' : Heap} {x e : Addr} {o' : HO}
/-- the object at e is changed: x itself, or the dict of the instance x -/
theorem HOk.write (ok : HOk P w H h) (mu : Mut (H x)) (he : e = x ∨ H e = some (.own x)) (k : ∀ b u, b ≠ e → h.get? b = some u → h'.get? b = some u) (heo : ∃ u, h'.get? e = some u)
    (new : ObjOk P w (upd H x o') h' x o') : HOk P w (upd H x o') h' := fun b u q => by
  have nown : ∀ c y, H c = some (.own y) → c ≠ x := fun c y r z => by subst z; rw [r] at mu; exact mu
  have ntup : ∀ c xs, H c = some (.tup xs) → c ≠ x := fun c xs r z => by subst z; rw [r] at mu; exact mu
  by_cases hb : b = x
  · subst hb; rw [upd_same] at q; cases q; exact new
  · rw [upd_ne hb] at q
    by_cases hbe : b = e
    · have q' : H b = some (.own x) := by
        rcases he with z | z
        · exact absurd (hbe.trans z) hb
        · rw [hbe]; exact z
      rw [q] at q'; cases q'
      obtain ⟨v, hv⟩ := heo
      exact ⟨v, by rw [hbe]; exact hv⟩
    · refine (ok b u q).stay (fun c v hc r => k c v ?_ r) (fun c r => by rw [upd_ne (nown c b r)]; exact r) fun c xs r => by rw [upd_ne (ntup c xs r)]; exact r
      rcases hc with rfl | hc
      · exact hbe
      · rintro rfl
        rcases he with z | z
        · exact nown c b hc z
        · rw [hc] at z; cases z; exact hb rfl
end

/-! ### kept unless tracked; of the frames at fs (the callers') the slots may change (an exception that passes writes there); of the records at ex (iterators) nothing is said -/
structure Un (fs ex : List Addr) (H H' : Hp) (h h' : Heap) : Prop where
  keep : ∀ b o, h.get? b = some o → H b = none → b ∉ fs → b ∉ ex → h'.get? b = some o
  slot : ∀ b o, h.get? b = some o → H b = none → b ∈ fs → b ∉ ex → ∃ sl, h'.get? b = some { o with slots := sl }
  free : ∀ b o, h.get? b = some o → H b = none → b ∉ ex → H' b = none
  there : ∀ b o, h.get? b = some o → b ∉ ex → ∃ o', h'.get? b = some o'
  tups : ∀ b xs, H b = some (.tup xs) → H' b = some (.tup xs)
  frzs : ∀ b o u, H b = some (.frz o u) → H' b = some (.frz o u)
  tbls : ∀ b ps, H b = some (.tbl ps) → ∃ more, H' b = some (.tbl (ps ++ more))
section
variable {fs fs' ex ex' : List Addr} {H H1 H2 : Hp} {h h1 h2 h' : Heap} {a x e : Addr} {o : HO}
theorem Un.any (u : Un fs ex H H1 h h1) {b : Addr} {ob : Obj} (q : h.get? b = some ob) (n : H b = none) (hx : b ∉ ex) : ∃ sl, h1.get? b = some { ob with slots := sl } := by
  by_cases hb : b ∈ fs
  · exact u.slot b ob q n hb hx
  · exact ⟨ob.slots, u.keep b ob q n hb hx⟩
theorem Un.trans (a : Un fs ex H H1 h h1) (b : Un fs ex H1 H2 h1 h2) : Un fs ex H H2 h h2 where
  keep := fun c ob q n hc hx => b.keep c ob (a.keep c ob q n hc hx) (a.free c ob q n hx) hc hx
  slot := fun c ob q n hc hx => by
    obtain ⟨sl, e1⟩ := a.slot c ob q n hc hx
    obtain ⟨sl', e2⟩ := b.slot c _ e1 (a.free c ob q n hx) hc hx
    exact ⟨sl', e2⟩
  free := fun c ob q n hx => by
    obtain ⟨o', e1⟩ := a.there c ob q hx
    exact b.free c o' e1 (a.free c ob q n hx) hx
  there := fun c ob q hx => by
    obtain ⟨o', e1⟩ := a.there c ob q hx
    exact b.there c o' e1 hx
  tups := fun c xs q => b.tups c xs (a.tups c xs q)
  frzs := fun c ob xs q => b.frzs c ob xs (a.frzs c ob xs q)
  tbls := fun c ps q => by
    obtain ⟨m1, e1⟩ := a.tbls c ps q
    obtain ⟨m2, e2⟩ := b.tbls c _ e1
    exact ⟨m1 ++ m2, by rw [e2, Array.append_assoc]⟩
theorem Un.kept (k : ∀ b u, h.get? b = some u → h'.get? b = some u) : Un fs ex H H h h' :=
  ⟨fun b ob q _ _ _ => k b ob q, fun b ob q _ _ _ => ⟨ob.slots, k b ob q⟩, fun _ _ _ n _ => n, fun b ob q _ => ⟨ob, k b ob q⟩, fun _ _ q => q, fun _ _ _ q => q, fun _ ps q => ⟨#[], by rw [q]; simp⟩⟩
theorem Un.refl : Un fs ex H H h h := Un.kept fun _ _ q => q
theorem Un.laid (k : ∀ b u, h.get? b = some u → h'.get? b = some u) (hp : h.objs.size ≤ a) (hn : H a = none) : Un fs ex H (upd H a o) h h' where
  keep := fun b u q _ _ _ => k b u q
  slot := fun b u q _ _ _ => ⟨u.slots, k b u q⟩
  free := fun b u q n _ => by rw [upd_ne (Nat.ne_of_lt (Nat.lt_of_lt_of_le (Heap.lt_size q) hp))]; exact n
  there := fun b u q _ => ⟨u, k b u q⟩
  tups := fun b xs q => by rw [upd_ne (ne_of_none q hn)]; exact q
  frzs := fun b u xs q => by rw [upd_ne (ne_of_none q hn)]; exact q
  tbls := fun b ps q => ⟨#[], by rw [upd_ne (ne_of_none q hn), q]; simp⟩
theorem Un.write (mu : Mut (H x)) (he : e = x ∨ H e = some (.own x)) (k : ∀ b u, b ≠ e → h.get? b = some u → h'.get? b = some u) (heo : ∃ u, h'.get? e = some u) : Un fs ex H (upd H x o) h h' := by
  have hx : ∀ b, H b = none → b ≠ x := fun b n z => by subst z; rw [n] at mu; exact mu
  have hb : ∀ b, H b = none → b ≠ e := fun b n z => by
    subst z
    rcases he with r | r
    · exact hx b n r
    · rw [n] at r; cases r
  have hm : ∀ b u, H b = some u → ¬ Mut (some u) → b ≠ x := fun b u q nm z => by subst z; rw [q] at mu; exact nm mu
  refine ⟨fun b u q n _ _ => k b u (hb b n) q, fun b u q n _ _ => ⟨u.slots, k b u (hb b n) q⟩, fun b u q n _ => by rw [upd_ne (hx b n)]; exact n, fun b u q _ => ?_,
    fun b xs q => by rw [upd_ne (hm b _ q fun z => z)]; exact q, fun b u xs q => by rw [upd_ne (hm b _ q fun z => z)]; exact q, fun b ps q => ⟨#[], by rw [upd_ne (hm b _ q fun z => z), q]; simp⟩⟩
  by_cases hbe : b = e
  · subst hbe; exact heo
  · exact ⟨u, k b u hbe q⟩
theorem Un.mono (u : Un fs ex H H1 h h1) (hs : ∀ b ∈ fs, b ∈ fs') (hx : ∀ b ∈ ex, b ∈ ex') : Un fs' ex' H H1 h h1 :=
  ⟨fun b ob q n hb he => u.keep b ob q n (fun z => hb (hs b z)) fun z => he (hx b z), fun _ _ q n _ he => u.any q n fun z => he (hx _ z), fun b ob q n he => u.free b ob q n fun z => he (hx b z), fun b ob q he => u.there b ob q fun z => he (hx b z), u.tups, u.frzs, u.tbls⟩
end

/-! ### the heap without what is tracked -/
def trk (h : Heap) (H : Hp) : List Addr := (List.range h.objs.size).filter fun a => (H a).isSome
def hidT (h : Heap) (H : Hp) : Heap := PySem.W.hideAll h (trk h H)
theorem hidT_size (h : Heap) (H : Hp) : (hidT h H).objs.size = h.objs.size := PySem.W.hideAll_size _ _
theorem hidT_get {h : Heap} {H : Hp} {b : Addr} {o : Obj} (e : h.get? b = some o) (n : H b = none) : (hidT h H).get? b = some o :=
  PySem.W.hideAll_get _ e fun hm => by
    have q : (H b).isSome = true := (List.mem_filter.mp hm).2
    rw [n] at q; simp at q
theorem of_hidT {h : Heap} {H : Hp} {b : Addr} {o : Obj} (e : (hidT h H).get? b = some o) : h.get? b = some o ∧ H b = none := by
  have e' : h.get? b = some o := PySem.W.of_hideAll (trk h H) e
  refine ⟨e', ?_⟩
  cases q : H b with
  | none => rfl
  | some x =>
    have hm : b ∈ trk h H := List.mem_filter.mpr ⟨List.mem_range.mpr (Heap.lt_size e'), by simp [q]⟩
    have z : (hidT h H).get? b = none := PySem.W.hideAll_none (trk h H) hm
    rw [z] at e; cases e

/-! ### OpenK's ledger, filled with every new object but one -/
def allNews (g h : Heap) (L : Addr) : List (Addr × Obj) := (List.range h.objs.size).filterMap fun a => if a = L ∨ (g.get? a).isSome = true then none else (h.get? a).map fun o => (a, o)
def rest (g h : Heap) (L d : Addr) : List (Addr × Obj) := (allNews g h L).filter fun p => decide (p.1 ≠ d)
end L2

namespace L2
open PySem PySem.Spec PyProof.Rows

/-- the module's facts, over the base: the heap at the law's entry without what is tracked there -/
structure Mod (K : PySem.W.Frag) (mg : Str → Option Value) (base : Heap) : Prop where
  kin : K.In base
  glob : base.Ns mainGlobals mg
  blt : ∃ mb, base.Ns builtinsNs mb ∧ ∀ x : Str, x ≠ "__name__" → mb x = bootBuiltins x
  nolimit : base.NoLimit

/-- the context: a def's body (or a comprehension's block) running. base: fixed through the whole law; s₀, H₀: the entry; outer: the frames whose slots others may change (a def's callers); stack: all frames that run;
   ex: iterators that were made ahead of the entry and are walked here (a comprehension's); fn: the names whose cells were made at the entry (a def: all; a comprehension's block: its own); calm: not within an except suite; pn: pins that every state bears; xe: what is wanted of an exception that leaves the code -/
structure Cx where
  prog : Program
  w : World
  K : PySem.W.Frag
  mg : Str → Option Value
  base : Heap
  A : Around
  N : List Str
  s₀ : Shared
  H₀ : Hp
  env : Env
  outer : List Env
  stack : List Env
  ex : List Addr
  fn : Str → Bool
  calm : Bool
  pn : List (Addr × Obj)
  xe : Value → Shared → Prop
/-- the callers' frames -/
def frs (l : List Env) : List Addr := l.filterMap (·.frame)
abbrev Cx.fs (X : Cx) : List Addr := frs X.outer

def Vis (sc : Scope) (x : Str) : Prop := sc.names.lookup x = some .local ∨ sc.names.lookup x = some .cell ∨ sc.names.lookup x = some .free
def Loc (sc : Scope) (x : Str) : Prop := sc.names.lookup x = some .local ∨ sc.names.lookup x = some .cell
def Look (env : Env) (h : Heap) (m : Str → Option Value) (x : Str) (u : Value) : Prop :=
  (env.kindOf x = some .local ∧ m x = some u) ∨ ((env.kindOf x = some .cell ∨ env.kindOf x = some .free) ∧ ∃ c, env.cells.lookup x = some c ∧ h.IsCell c (some u))

structure Cx.Ok (X : Cx) : Prop where
  mod : Mod X.K X.mg X.base
  kind : X.env.scope.kind = .function
  glob : X.env.globals = mainGlobals
  blt : X.env.builtins = builtinsNs
  above : X.s₀.heap.objs.size ≤ X.env.locals
  inj : ∀ x y c, X.env.cells.lookup x = some c → X.env.cells.lookup y = some c → x = y
  has : ∀ x, (X.env.kindOf x = some .cell ∨ X.env.kindOf x = some .free) → ∃ c, X.env.cells.lookup x = some c
  cab : ∀ x c, X.fn x = true → X.env.cells.lookup x = some c → X.s₀.heap.objs.size ≤ c
  hd : X.calm = true → X.A.handled = none
  frames : X.A.frames = some X.stack
  stk : X.stack = X.outer ∨ (X.stack = X.env :: X.outer ∧ X.env.frame = some X.env.locals)
  exf : ∀ b ∈ X.ex, b ≠ X.env.locals ∧ ∀ x c, X.env.cells.lookup x = some c → c ≠ b
  bs : ∀ b o, X.base.get? b = some o → X.s₀.heap.get? b = some o ∧ X.H₀ b = none
  bsz : X.base.objs.size ≤ X.s₀.heap.objs.size
  noex : ∀ b o, X.base.get? b = some o → b ∉ X.ex
  exfs : ∀ b ∈ X.ex, b ∉ X.fs
  funs : X.s₀.heap.FunFrames X.base X.outer
  frf : ∀ b ∈ X.fs, X.H₀ b = none

structure Inv (X : Cx) (pins : List (Addr × Obj)) (σ : List (Option V)) (H : Hp) (s : Shared) : Prop where
  ok : X.Ok
  os : s.os = X.s₀.os
  bare : AllBare s.gens
  base : Un X.fs X.ex X.H₀ H X.s₀.heap s.heap
  loc : ∃ m, s.heap.Ns X.env.locals m ∧ ∀ (i : Nat) (x : Str) (v : V), X.N[i]? = some x → σ[i]? = some (some v) → Vis X.env.scope x → ∃ u, RelV v u ∧ Look X.env s.heap m x u
  cell : ∀ x c, X.env.cells.lookup x = some c → ∃ v, s.heap.IsCell c v
  free : H X.env.locals = none
  freeC : ∀ x c, X.env.cells.lookup x = some c → H c = none
  pin : ∀ p ∈ X.pn ++ pins, s.heap.get? p.1 = some p.2 ∧ H p.1 = none ∧ p.1 ≠ X.env.locals ∧ p.1 ∉ X.fs ∧ ∀ v, p.2.data ≠ .cell v
  hok : HOk X.prog X.w H s.heap
  len : σ.length = X.N.length

section
variable {X : Cx} {pins : List (Addr × Obj)} {σ : List (Option V)} {H H' : Hp} {s : Shared} {h' : Heap}

theorem Cx.Ok.nofr (ok : X.Ok) {b : Addr} {o : Obj} (e : X.base.get? b = some o) : b ∉ X.fs := fun hb => by
  have := (ok.funs.mem hb).1
  rw [e] at this; cases this
theorem Inv.bs (I : Inv X pins σ H s) : ∀ b o, X.base.get? b = some o → s.heap.get? b = some o ∧ H b = none := fun b o e =>
  ⟨I.base.keep b o (I.ok.bs b o e).1 (I.ok.bs b o e).2 (I.ok.nofr e) (I.ok.noex b o e), I.base.free b o (I.ok.bs b o e).1 (I.ok.bs b o e).2 (I.ok.noex b o e)⟩
theorem Inv.bk (I : Inv X pins σ H s) : ∀ b o, X.base.get? b = some o → s.heap.get? b = some o := fun b o e => (I.bs b o e).1
theorem Inv.mod (I : Inv X pins σ H s) : Mod X.K X.mg X.base := I.ok.mod
theorem Inv.kIn (I : Inv X pins σ H s) : X.K.In s.heap := I.ok.mod.kin.keeps I.bk
theorem Inv.nolimit (I : Inv X pins σ H s) : s.heap.NoLimit := I.ok.mod.nolimit.keeps I.bk
/-- the frame over the base: for OpenK's rules (K.In X.base is I.mod.kin) -/
theorem Inv.fr (I : Inv X pins σ H s) : ∃ m, Fr X.base X.env.locals s.heap m :=
  let ⟨m, hn, _⟩ := I.loc
  ⟨m, hn, I.bk, Nat.le_trans I.ok.bsz I.ok.above⟩
theorem Inv.lt (I : Inv X pins σ H s) : X.env.locals < s.heap.objs.size := let ⟨_, hn, _⟩ := I.loc; hn.lt
theorem Inv.sz (I : Inv X pins σ H s) : X.s₀.heap.objs.size ≤ s.heap.objs.size := Nat.le_trans I.ok.above (Nat.le_of_lt I.lt)
theorem Inv.nofs (I : Inv X pins σ H s) {a : Addr} (h : s.heap.objs.size ≤ a) : a ∉ X.fs := fun hb => by
  obtain ⟨_, o, ho, _⟩ := I.ok.funs.mem hb
  exact absurd (Nat.lt_of_lt_of_le (Heap.lt_size ho) (Nat.le_trans I.sz h)) (Nat.lt_irrefl _)
theorem Inv.cne (I : Inv X pins σ H s) : ∀ x c, X.env.cells.lookup x = some c → c ≠ X.env.locals := fun x c e z => by
  obtain ⟨v, o, ho, hd⟩ := I.cell x c e
  obtain ⟨m, ⟨o', es, ep, ho', hd', _⟩, _⟩ := I.loc
  rw [z, ho'] at ho; cases ho; rw [hd'] at hd; cases hd
theorem Inv.funs (I : Inv X pins σ H s) : s.heap.FunFrames X.base X.outer := by
  have all : ∀ (l : List Env), (∀ b ∈ frs l, b ∈ X.fs) → X.s₀.heap.FunFrames X.base l → s.heap.FunFrames X.base l := by
    intro l
    induction l with
    | nil => intro _ _; trivial
    | cons env r ih =>
      intro hs hl
      obtain ⟨hk, ⟨L, o, hf, hn, ho, hd⟩, hr⟩ := hl
      have hL : L ∈ X.fs := hs L (by unfold frs; rw [List.filterMap_cons, hf]; exact List.mem_cons_self)
      obtain ⟨sl, e⟩ := I.base.slot L o ho (I.ok.frf L hL) hL fun z => I.ok.exfs L z hL
      exact ⟨hk, ⟨L, _, hf, hn, e, hd⟩, ih (fun b hb => hs b (by unfold frs; rw [List.filterMap_cons, hf]; exact List.mem_cons_of_mem _ hb)) hr⟩
  exact all X.outer (fun _ hb => hb) I.ok.funs

/-- the frames that run, for a call -/
theorem Inv.stack (I : Inv X pins σ H s) : s.heap.FunFrames X.base X.stack := by
  rcases I.ok.stk with e | ⟨e, hf⟩
  · rw [e]; exact I.funs
  · rw [e]
    obtain ⟨m, hn, _⟩ := I.loc
    refine .cons (by rw [I.ok.kind]; decide) hf hn ?_ I.funs
    exact Heap.get?_none_of_le (Nat.le_trans I.ok.bsz I.ok.above)
theorem Inv.stkSub (I : Inv X pins σ H s) : ∀ b ∈ frs X.stack, b ∈ X.env.locals :: X.fs := fun b hb => by
  rcases I.ok.stk with e | ⟨e, hf⟩
  · rw [e] at hb; exact List.mem_cons_of_mem _ hb
  · rw [e] at hb
    unfold frs at hb
    rw [List.filterMap_cons, hf] at hb
    exact hb
theorem Inv.stkFree (I : Inv X pins σ H s) : ∀ b ∈ frs X.stack, H b = none := fun b hb => by
  rcases List.mem_cons.mp (I.stkSub b hb) with e | hb
  · rw [e]; exact I.free
  · obtain ⟨_, o, ho, _⟩ := I.ok.funs.mem hb
    exact I.base.free b o ho (I.ok.frf b hb) fun z => I.ok.exfs b z hb

/-- THE STEP: the untracked objects but the frame and the records at ch are kept (the callers' frames up to slots), the frame's map is kept, the new abstract heap is held -/
theorem Inv.step {g' : Array GenState} {t' : Nat} {d' : Drawn} {ch : List Addr} (I : Inv X pins σ H s)
    (hch : ∀ b ∈ ch, (b ∈ X.ex ∨ X.s₀.heap.objs.size ≤ b) ∧ b ≠ X.env.locals ∧ (∀ x c, X.env.cells.lookup x = some c → c ≠ b) ∧ ∀ p ∈ X.pn ++ pins, p.1 ≠ b)
    (keep : ∀ b o, b ≠ X.env.locals → b ∉ X.fs → b ∉ ch → s.heap.get? b = some o → H b = none → h'.get? b = some o)
    (slot : ∀ b o, b ≠ X.env.locals → b ∈ X.fs → b ∉ ch → s.heap.get? b = some o → H b = none → ∃ sl, h'.get? b = some { o with slots := sl }) (free : ∀ b o, b ∉ ch → s.heap.get? b = some o → H b = none → H' b = none)
    (there : ∀ b o, b ∉ ch → s.heap.get? b = some o → ∃ o', h'.get? b = some o')
    (tups : ∀ b xs, H b = some (.tup xs) → H' b = some (.tup xs)) (frzs : ∀ b o u, H b = some (.frz o u) → H' b = some (.frz o u)) (tbls : ∀ b ps, H b = some (.tbl ps) → ∃ more, H' b = some (.tbl (ps ++ more)))
    (ns : ∀ m, s.heap.Ns X.env.locals m → h'.Ns X.env.locals m) (hok : HOk X.prog X.w H' h') (hg : AllBare g') :
    Inv X pins σ H' { s with heap := h', gens := g', drawn := d', toks := t' } := by
  have neL : ∀ b o, X.s₀.heap.get? b = some o → b ≠ X.env.locals := fun b o e => Nat.ne_of_lt (Nat.lt_of_lt_of_le (Heap.lt_size e) I.ok.above)
  have neC : ∀ b o, X.s₀.heap.get? b = some o → b ∉ X.ex → b ∉ ch := fun b o e hx hb => by
    rcases (hch b hb).1 with z | z
    · exact hx z
    · exact absurd (Nat.lt_of_lt_of_le (Heap.lt_size e) z) (Nat.lt_irrefl _)
  have cellK : ∀ x c, X.env.cells.lookup x = some c → ∀ v, s.heap.IsCell c v → h'.IsCell c v := fun x c e v ⟨o, ho, hd⟩ => by
    have nch : c ∉ ch := fun z => (hch c z).2.2.1 x c e rfl
    by_cases hc : c ∈ X.fs
    · obtain ⟨sl, q⟩ := slot c o (I.cne x c e) hc nch ho (I.freeC x c e)
      exact ⟨_, q, hd⟩
    · exact ⟨o, keep c o (I.cne x c e) hc nch ho (I.freeC x c e), hd⟩
  refine ⟨I.ok, I.os, hg, ⟨fun b o e n hb hx => ?_, fun b o e n hb hx => ?_, fun b o e n hx => ?_, fun b o e hx => ?_, fun b xs e => tups b xs (I.base.tups b xs e), fun b o xs e => frzs b o xs (I.base.frzs b o xs e), fun b ps e => ?_⟩, ?_, fun x c e => ?_, ?_, fun x c e => ?_, fun p hp => ?_, hok, I.len⟩
  · exact keep b o (neL b o e) hb (neC b o e hx) (I.base.keep b o e n hb hx) (I.base.free b o e n hx)
  · obtain ⟨sl, e1⟩ := I.base.slot b o e n hb hx
    obtain ⟨sl', e2⟩ := slot b _ (neL b o e) hb (neC b o e hx) e1 (I.base.free b o e n hx)
    exact ⟨sl', e2⟩
  · obtain ⟨o', e1⟩ := I.base.there b o e hx
    exact free b o' (neC b o e hx) e1 (I.base.free b o e n hx)
  · obtain ⟨o', e1⟩ := I.base.there b o e hx
    exact there b o' (neC b o e hx) e1
  · obtain ⟨m1, e1⟩ := I.base.tbls b ps e
    obtain ⟨m2, e2⟩ := tbls b _ e1
    exact ⟨m1 ++ m2, by rw [e2, Array.append_assoc]⟩
  · obtain ⟨m, hn, hl⟩ := I.loc
    refine ⟨m, ns m hn, fun i x v e1 e2 e3 => ?_⟩
    obtain ⟨u, r, l⟩ := hl i x v e1 e2 e3
    refine ⟨u, r, ?_⟩
    rcases l with l | ⟨k, c, e, z⟩
    · exact .inl l
    · exact .inr ⟨k, c, e, cellK x c e _ z⟩
  · obtain ⟨v, z⟩ := I.cell x c e
    exact ⟨v, cellK x c e v z⟩
  · obtain ⟨m, ⟨o, _, _, ho, _⟩, _⟩ := I.loc
    exact free _ o (fun z => (hch _ z).2.1 rfl) ho I.free
  · obtain ⟨v, o, ho, hd⟩ := I.cell x c e
    exact free c o (fun z => (hch c z).2.2.1 x c e rfl) ho (I.freeC x c e)
  · obtain ⟨e, n, ne, nf, d⟩ := I.pin p hp
    have nch : p.1 ∉ ch := fun z => (hch p.1 z).2.2.2 p hp rfl
    exact ⟨keep p.1 p.2 ne nf nch e n, free p.1 p.2 nch e n, ne, nf, d⟩
/-- .. where the frame's own object is kept too -/
theorem Inv.un {t' : Nat} (I : Inv X pins σ H s) (u : Un X.fs [] H H' s.heap h') (hok : HOk X.prog X.w H' h') : Inv X pins σ H' { s with heap := h', toks := t' } := by
  obtain ⟨m, ⟨o, es, ep, ho, r⟩, _⟩ := id I.loc
  obtain ⟨sl, hL⟩ := u.any ho I.free (by simp)
  exact I.step (g' := s.gens) (d' := s.drawn) (ch := []) (fun _ z => nomatch z) (fun b o _ hb _ e n => u.keep b o e n hb (by simp)) (fun b o _ hb _ e n => u.slot b o e n hb (by simp)) (fun b o _ e n => u.free b o e n (by simp)) (fun b o _ e => u.there b o e (by simp)) u.tups u.frzs u.tbls (fun m' hm => by
    obtain ⟨o', es', ep', ho', r'⟩ := hm
    rw [ho] at ho'; cases ho'
    exact ⟨_, es', ep', hL, r'⟩) hok I.bare
/-- behind a call (or a comprehension's block): the slots of this frame may have changed too, the records at ch may have turned -/
theorem Inv.call {g' : Array GenState} {t' : Nat} {d' : Drawn} {ch : List Addr} (I : Inv X pins σ H s) (u : Un (frs X.stack) ch H H' s.heap h') (hok : HOk X.prog X.w H' h') (hg : AllBare g')
    (hch : ∀ b ∈ ch, (b ∈ X.ex ∨ X.s₀.heap.objs.size ≤ b) ∧ b ≠ X.env.locals ∧ (∀ x c, X.env.cells.lookup x = some c → c ≠ b) ∧ ∀ p ∈ X.pn ++ pins, p.1 ≠ b) :
    Inv X pins σ H' { s with heap := h', gens := g', drawn := d', toks := t' } := by
  obtain ⟨m, ⟨o, es, ep, ho, r⟩, _⟩ := id I.loc
  obtain ⟨sl, hL⟩ := u.any ho I.free fun z => (hch _ z).2.1 rfl
  exact I.step (ch := ch) hch (fun b o hL hb hc e n => u.keep b o e n (fun z => (List.mem_cons.mp (I.stkSub b z)).elim hL hb) hc) (fun b o _ _ hc e n => u.any e n hc) (fun b o hc e n => u.free b o e n hc) (fun b o hc e => u.there b o e hc) u.tups u.frzs u.tbls (fun m' hm => by
    obtain ⟨o', es', ep', ho', r'⟩ := hm
    rw [ho] at ho'; cases ho'
    exact ⟨_, es', ep', hL, r'⟩) hok hg
/-- an untracked record of ours (an iterator) has turned -/
theorem Inv.turned {t' : Nat} {it : Addr} (I : Inv X pins σ H s) (k : ∀ b o, b ≠ it → s.heap.get? b = some o → h'.get? b = some o) (hn : H it = none) (hL : it ≠ X.env.locals)
    (h1 : it ∈ X.ex ∨ X.s₀.heap.objs.size ≤ it) (h2 : ∀ x c, X.env.cells.lookup x = some c → c ≠ it) (h3 : ∀ p ∈ X.pn ++ pins, p.1 ≠ it) : Inv X pins σ H { s with heap := h', toks := t' } := by
  have nit : ∀ b u, H b = some u → b ≠ it := fun b u e z => by rw [z, hn] at e; cases e
  refine I.step (g' := s.gens) (d' := s.drawn) (ch := [it]) (fun b hb => ?_) (fun b o _ _ hc e _ => k b o (fun z => hc (by simp [z])) e) (fun b o _ _ hc e _ => ⟨o.slots, k b o (fun z => hc (by simp [z])) e⟩) (fun _ _ _ _ n => n)
    (fun b o hc e => ⟨o, k b o (fun z => hc (by simp [z])) e⟩) (fun _ _ e => e) (fun _ _ _ e => e) (fun b ps e => ⟨#[], by rw [e]; simp⟩) (fun m hm => ?_) (fun b u e => ?_) I.bare
  · have e : b = it := by simpa using hb
    subst e
    exact ⟨h1, hL, h2, h3⟩
  · obtain ⟨o, es, ep, ho, r⟩ := hm
    exact ⟨o, es, ep, k _ o (Ne.symm hL) ho, r⟩
  · refine (I.hok b u e).stay (fun c v hc q => k c v ?_ q) (fun _ q => q) fun _ _ q => q
    rcases hc with z | z
    · rw [z]; exact nit b u e
    · exact nit c _ z
theorem Inv.tok (I : Inv X pins σ H s) (t : Nat) : Inv X pins σ H { s with toks := t } := I.un (h' := s.heap) (t' := t) Un.refl I.hok
/-- all objects kept -/
theorem Inv.kept {t' : Nat} (I : Inv X pins σ H s) (k : ∀ b u, s.heap.get? b = some u → h'.get? b = some u) : Inv X pins σ H { s with heap := h', toks := t' } := I.un (Un.kept k) (I.hok.kept k)
/-- a new object laid and tracked -/
theorem Inv.laid {a : Addr} {o : HO} {t' : Nat} (I : Inv X pins σ H s) (k : ∀ b u, s.heap.get? b = some u → h'.get? b = some u) (hp : s.heap.objs.size ≤ a) (new : ObjOk X.prog X.w (upd H a o) h' a o) :
    Inv X pins σ (upd H a o) { s with heap := h', toks := t' } := I.un (Un.laid k hp (I.hok.fresh hp)) (I.hok.laid k hp new)
/-- an object written -/
theorem Inv.write {x e : Addr} {o : HO} {t' : Nat} (I : Inv X pins σ H s) (mu : Mut (H x)) (he : e = x ∨ H e = some (.own x)) (k : ∀ b u, b ≠ e → s.heap.get? b = some u → h'.get? b = some u) (heo : ∃ u, h'.get? e = some u)
    (new : ObjOk X.prog X.w (upd H x o) h' x o) : Inv X pins σ (upd H x o) { s with heap := h', toks := t' } := I.un (Un.write mu he k heo) (I.hok.write mu he k heo new)
/-- forgetting slots, pins -/
theorem Inv.weak {σ' : List (Option V)} (I : Inv X pins σ H s) (hl : σ'.length = σ.length) (w : ∀ (i : Nat) v, σ'[i]? = some (some v) → σ[i]? = some (some v)) : Inv X pins σ' H s :=
  ⟨I.ok, I.os, I.bare, I.base, let ⟨m, hn, hl'⟩ := I.loc; ⟨m, hn, fun i x v e1 e2 e3 => hl' i x v e1 (w i v e2) e3⟩, I.cell, I.free, I.freeC, I.pin, I.hok, hl.trans I.len⟩
theorem Inv.pins_of {pins' : List (Addr × Obj)} (I : Inv X pins σ H s) (h : ∀ p ∈ pins', s.heap.get? p.1 = some p.2 ∧ H p.1 = none ∧ p.1 ≠ X.env.locals ∧ p.1 ∉ X.fs ∧ ∀ v, p.2.data ≠ .cell v) : Inv X pins' σ H s :=
  ⟨I.ok, I.os, I.bare, I.base, I.loc, I.cell, I.free, I.freeC, fun p hp => (List.mem_append.mp hp).elim (fun z => I.pin p (List.mem_append_left _ z)) (h p), I.hok, I.len⟩

theorem nodup_ix {N : List Str} (hN : N.Nodup) {i j : Nat} {x : Str} (a : N[i]? = some x) (b : N[j]? = some x) : i = j := by
  obtain ⟨h1, e1⟩ := List.getElem?_eq_some_iff.mp a
  obtain ⟨h2, e2⟩ := List.getElem?_eq_some_iff.mp b
  exact (List.getElem_inj hN).mp (e1.trans e2.symm)

/-- a name is stored; what changed -/
theorem store_ok2 {M : Model} {A : Around} {E : Value → Shared → Prop} {i : Nat} {x : Str} {v : V} {u : Value} {Q : Unit → Shared → Prop} (I : Inv X pins σ H s) (hN : X.N.Nodup) (hi : X.N[i]? = some x) (hx : Loc X.env.scope x) (r : RelV v u)
    (h : ∀ s', Inv X pins (σ.set i (some v)) H s' → (∃ a, Heap.SameBut a s.heap s'.heap ∧ (a = X.env.locals ∨ X.env.cells.lookup x = some a)) → Q () s') (hf : X.fn x = true ∨ X.env.scope.names.lookup x = some .local := by first | exact .inl rfl | exact .inr rfl | assumption) : wpAny M A (storeName X.env x u) Q E s := by
  obtain ⟨m, hn, hl⟩ := id I.loc
  have hcls : (X.env.scope.kind == .class || (X.env.scope.kind == .module && X.env.locals != X.env.globals)) = false := by rw [I.ok.kind]; rfl
  have hiσ : i < σ.length := by rw [I.len]; exact (List.getElem?_eq_some_iff.mp hi).1
  have cne := I.cne
  have tracked : ∀ {a : Addr} {h' : Heap}, (∃ o, s.heap.get? a = some o ∧ H a = none) → Heap.SameBut a s.heap h' → HOk X.prog X.w H h' := fun {a h'} ha hs b ob e => by
    obtain ⟨_, _, hfree⟩ := ha
    refine (I.hok b ob e).stay (fun c w' hc q => (hs.2 c ?_).trans q) (fun _ q => q) fun _ _ q => q
    rintro rfl
    rcases hc with rfl | hc
    · rw [hfree] at e; cases e
    · rw [hfree] at hc; cases hc
  rcases hx with hk | hk
  · refine wpAny_storeName_local hk hn (fun h' hn' hs => ?_) hcls
    obtain ⟨oL, _, _, hoL, _⟩ := id hn
    refine h _ ⟨I.ok, I.os, I.bare, ⟨fun b o e n hb hx => ?_, fun b o e n hb hx => ?_, I.base.free, fun b o e hx => ?_, I.base.tups, I.base.frzs, I.base.tbls⟩, ⟨_, hn', fun j y v' e1 e2 e3 => ?_⟩, fun y c e => ?_, I.free, I.freeC, fun p hp => ?_, tracked ⟨oL, hoL, I.free⟩ hs, by simpa using I.len⟩ ⟨_, hs, .inl rfl⟩
    · exact (hs.2 b (Nat.ne_of_lt (Nat.lt_of_lt_of_le (Heap.lt_size e) I.ok.above))).trans (I.base.keep b o e n hb hx)
    · obtain ⟨sl, e1⟩ := I.base.slot b o e n hb hx
      exact ⟨sl, (hs.2 b (Nat.ne_of_lt (Nat.lt_of_lt_of_le (Heap.lt_size e) I.ok.above))).trans e1⟩
    · obtain ⟨o', e1⟩ := I.base.there b o e hx
      exact ⟨o', (hs.2 b (Nat.ne_of_lt (Nat.lt_of_lt_of_le (Heap.lt_size e) I.ok.above))).trans e1⟩
    · by_cases hj : j = i
      · subst hj
        rw [hi] at e1; cases e1
        rw [List.getElem?_set_self hiσ] at e2
        cases e2
        exact ⟨u, r, .inl ⟨hk, by simp⟩⟩
      · rw [List.getElem?_set_ne (Ne.symm hj)] at e2
        obtain ⟨u', r', q⟩ := hl j y v' e1 e2 e3
        refine ⟨u', r', ?_⟩
        rcases q with ⟨k, e⟩ | ⟨k, c, e, z⟩
        · refine .inl ⟨k, ?_⟩
          have : y ≠ x := fun e => hj (nodup_ix hN e1 (e ▸ hi))
          simp [this, e]
        · exact .inr ⟨k, c, e, z.sameBut hs (cne y c e)⟩
    · obtain ⟨w', z⟩ := I.cell y c e
      exact ⟨w', z.sameBut hs (cne y c e)⟩
    · obtain ⟨e, n, ne, nf, d⟩ := I.pin p hp
      exact ⟨(hs.2 p.1 ne).trans e, n, ne, nf, d⟩
  · have hfn : X.fn x = true := by
      rcases hf with z | z
      · exact z
      · rw [z] at hk; cases hk
    obtain ⟨c, hc⟩ := I.ok.has x (.inl hk)
    obtain ⟨w', z⟩ := I.cell x c hc
    refine wpAny_storeName_cell I.ok.kind hk hc z (fun h' hc' hs => ?_)
    obtain ⟨oc, hoc, hocd⟩ := id z
    refine h { s with heap := h' } ⟨I.ok, I.os, I.bare, ⟨fun b o e n hb hx => ?_, fun b o e n hb hx => ?_, I.base.free, fun b o e hx => ?_, I.base.tups, I.base.frzs, I.base.tbls⟩, ⟨m, hn.sameBut hs (Ne.symm (cne x c hc)), fun j y v' e1 e2 e3 => ?_⟩, fun y c' e => ?_, I.free, I.freeC, fun p hp => ?_, tracked ⟨oc, hoc, I.freeC x c hc⟩ hs, by simpa using I.len⟩ ⟨c, hs, .inr hc⟩
    · exact (hs.2 b (Nat.ne_of_lt (Nat.lt_of_lt_of_le (Heap.lt_size e) (I.ok.cab x c hfn hc)))).trans (I.base.keep b o e n hb hx)
    · obtain ⟨sl, e1⟩ := I.base.slot b o e n hb hx
      exact ⟨sl, (hs.2 b (Nat.ne_of_lt (Nat.lt_of_lt_of_le (Heap.lt_size e) (I.ok.cab x c hfn hc)))).trans e1⟩
    · obtain ⟨o', e1⟩ := I.base.there b o e hx
      exact ⟨o', (hs.2 b (Nat.ne_of_lt (Nat.lt_of_lt_of_le (Heap.lt_size e) (I.ok.cab x c hfn hc)))).trans e1⟩
    · by_cases hj : j = i
      · subst hj
        rw [hi] at e1; cases e1
        rw [List.getElem?_set_self hiσ] at e2
        cases e2
        exact ⟨u, r, .inr ⟨.inl hk, c, hc, hc'⟩⟩
      · rw [List.getElem?_set_ne (Ne.symm hj)] at e2
        obtain ⟨u', r', q⟩ := hl j y v' e1 e2 e3
        refine ⟨u', r', ?_⟩
        rcases q with q | ⟨k, c', e, z'⟩
        · exact .inl q
        · refine .inr ⟨k, c', e, z'.sameBut hs ?_⟩
          rintro rfl
          exact hj (nodup_ix hN e1 (I.ok.inj _ _ _ e hc ▸ hi))
    · by_cases hcc : c' = c
      · subst hcc; exact ⟨_, hc'⟩
      · obtain ⟨w2, z2⟩ := I.cell y c' e
        exact ⟨w2, z2.sameBut hs hcc⟩
    · obtain ⟨e, n, ne, nf, d⟩ := I.pin p hp
      refine ⟨(hs.2 p.1 ?_).trans e, n, ne, nf, d⟩
      intro q
      rw [q, hoc] at e
      have q' : oc = p.2 := Option.some.inj e
      exact d w' (by rw [← q']; exact hocd)
theorem store_ok {M : Model} {A : Around} {E : Value → Shared → Prop} {i : Nat} {x : Str} {v : V} {u : Value} {Q : Unit → Shared → Prop} (I : Inv X pins σ H s) (hN : X.N.Nodup) (hi : X.N[i]? = some x) (hx : Loc X.env.scope x) (r : RelV v u)
    (h : ∀ s', Inv X pins (σ.set i (some v)) H s' → Q () s') (hf : X.fn x = true ∨ X.env.scope.names.lookup x = some .local := by first | exact .inl rfl | exact .inr rfl | assumption) : wpAny M A (storeName X.env x u) Q E s :=
  store_ok2 I hN hi hx r (fun s' I' _ => h s' I') hf
/-- behind a call or a block, the state as it is -/
theorem Inv.call' {s' : Shared} {ch : List Addr} (I : Inv X pins σ H s) (ho : s'.os = s.os) (u : Un (frs X.stack) ch H H' s.heap s'.heap) (hok : HOk X.prog X.w H' s'.heap) (hg : AllBare s'.gens)
    (hch : ∀ b ∈ ch, (b ∈ X.ex ∨ X.s₀.heap.objs.size ≤ b) ∧ b ≠ X.env.locals ∧ (∀ x c, X.env.cells.lookup x = some c → c ≠ b) ∧ ∀ p ∈ X.pn ++ pins, p.1 ≠ b) : Inv X pins σ H' s' := by
  obtain ⟨h', g', d', t', o'⟩ := s'
  have e : o' = s.os := ho
  subst e
  exact I.call (g' := g') (t' := t') (d' := d') u hok hg hch
end

/-! ### the judgements -/
/-- an exception: its class, its own dict's address (where it has one), the abstract heap behind it -/
abbrev XK := Value → Option Addr → Hp → Prop
abbrev St := List (Option V)
abbrev VK := V → Hp → Prop
/-- an expression's reading; a test's; an argument list's -/
abbrev TE := St → Hp → VK → Prop
abbrev TT := St → Hp → (Bool → Hp → Prop) → Prop
abbrev TA := St → Hp → (List V → Hp → Prop) → Prop
/-- what is wanted behind a statement -/
structure Ends where
  nx : St → Hp → Prop
  rt : VK
  bk : St → Hp → Prop := fun _ _ => False
  ct : St → Hp → Prop := fun _ _ => False
abbrev TS := Ends → St → Hp → Prop

def EP (X : Cx) (pins : List (Addr × Obj)) (σ : St) (Q : VK) (u : Value) (s' : Shared) : Prop := ∃ v H', Inv X pins σ H' s' ∧ RelV v u ∧ Q v H'
def TP (X : Cx) (pins : List (Addr × Obj)) (σ : St) (Q : Bool → Hp → Prop) (b : Bool) (s' : Shared) : Prop := ∃ H', Inv X pins σ H' s' ∧ Q b H'
def AP (X : Cx) (pins : List (Addr × Obj)) (σ : St) (Q : List V → Hp → Prop) (us : List Value) (s' : Shared) : Prop := ∃ vs H', Inv X pins σ H' s' ∧ Vals vs us ∧ Q vs H'
def SP (X : Cx) (pins : List (Addr × Obj)) (D : Ends) (f : Flow) (s' : Shared) : Prop :=
  match f with
  | .next => ∃ σ' H', Inv X pins σ' H' s' ∧ D.nx σ' H'
  | .brk => ∃ σ' H', Inv X pins σ' H' s' ∧ D.bk σ' H'
  | .cont => ∃ σ' H', Inv X pins σ' H' s' ∧ D.ct σ' H'
  | .ret u => ∃ v σ' H', Inv X pins σ' H' s' ∧ RelV v u ∧ D.rt v H'

def PE (X : Cx) (e : Expr) (t : TE) : Prop :=
  ∀ (pins : List (Addr × Obj)) (s : Shared) (σ : St) (H : Hp) (Q : VK), Inv X pins σ H s → t σ H Q → wpAny (model X.prog X.w) X.A (eval e X.env) (EP X pins σ Q) X.xe s
def PT (X : Cx) (e : Expr) (t : TT) : Prop :=
  ∀ (pins : List (Addr × Obj)) (s : Shared) (σ : St) (H : Hp) (Q : Bool → Hp → Prop), Inv X pins σ H s → t σ H Q → wpAny (model X.prog X.w) X.A (isTrue e X.env (eval e X.env)) (TP X pins σ Q) X.xe s
/-- a test whatever its 'whole' is (and, or) -/
def PW (X : Cx) (e : Expr) (t : TT) : Prop :=
  ∀ (whole : Sem Value) (pins : List (Addr × Obj)) (s : Shared) (σ : St) (H : Hp) (Q : Bool → Hp → Prop), Inv X pins σ H s → t σ H Q → wpAny (model X.prog X.w) X.A (isTrue e X.env whole) (TP X pins σ Q) X.xe s
theorem PW.pt {X : Cx} {e : Expr} {t : TT} (h : PW X e t) : PT X e t := h _
/-- an argument list (no star), from the left -/
def PA (X : Cx) (es : List Expr) (t : TA) : Prop :=
  ∀ (pos : Pos) (pins : List (Addr × Obj)) (s : Shared) (σ : St) (H : Hp) (Q : List V → Hp → Prop), Inv X pins σ H s → t σ H Q → wpAny (model X.prog X.w) X.A (spliced (backTo pos (starEach es X.env))) (AP X pins σ Q) X.xe s
def PS (X : Cx) (st : Stmt) (t : TS) : Prop :=
  ∀ (pins : List (Addr × Obj)) (s : Shared) (σ : St) (H : Hp) (D : Ends), Inv X pins σ H s → t D σ H → wpAny (model X.prog X.w) X.A (exec st X.env) (SP X pins D) X.xe s
def PSs (X : Cx) (st : List Stmt) (t : TS) : Prop :=
  ∀ (pins : List (Addr × Obj)) (s : Shared) (σ : St) (H : Hp) (D : Ends), Inv X pins σ H s → t D σ H → wpAny (model X.prog X.w) X.A (execs st X.env) (SP X pins D) X.xe s
/-- weaken the end -/
theorem thn {α : Type} {t : Sem α} {Q Q' : α → Shared → Prop} {M : Model} {A : Around} {E : Value → Shared → Prop} {s : Shared} (h : wpAny M A t Q E s) (hQ : ∀ a s, Q a s → Q' a s) : wpAny M A t Q' E s := wpAny_mono h hQ fun _ _ x => x
end L2

namespace L2
open PySem PySem.Spec PyProof.Rows
section
variable {X : Cx}

/-! ### names and constants -/
def tVar (i : Nat) : TE := fun σ H Q => ∃ v, σ[i]? = some (some v) ∧ Q v H
def tC (v : V) : TE := fun _ H Q => Q v H
theorem pe_var {i : Nat} {x : Str} {pos : Pos} (hN : X.N[i]? = some x) (hv : Vis X.env.scope x) (hd : (x == ("__debug__" : Str)) = false := by decide) (hcd : (x == ("__classdict__" : Str)) = false := by decide) : PE X (.Name x pos) (tVar i) := by
  intro pins s σ H Q I h
  obtain ⟨v, e, h⟩ := h
  obtain ⟨m, hn, hl⟩ := I.loc
  obtain ⟨u, r, l⟩ := hl i x v hN e hv
  have fin : EP X pins σ Q u s := ⟨v, H, I, r, h⟩
  rcases l with ⟨hk, hm⟩ | ⟨hk, c, hc, hcell⟩
  · exact wpAny_Name (wpAny_loadName_local I.ok.kind hk hn hm fin) hd
  · rcases hk with hk | hk
    · exact wpAny_Name (wpAny_loadName_cell I.ok.kind hk hc hcell fin) hd
    · exact wpAny_Name (wpAny_loadName_free I.ok.kind hk hc hcell fin hcd) hd
theorem pe_int {i j pos} : PE X (.Constant (.int i) j pos) (tC (.int i)) := fun _ _ _ H _ I h => wpAny_Constant_int ⟨.int i, H, I.tok _, ⟨_, rfl⟩, h⟩
theorem pe_bl {b j pos} : PE X (.Constant (.bool b) j pos) (tC (.bl b)) := fun _ _ _ H _ I h => Constant_bool ⟨.bl b, H, I, rfl, h⟩
theorem pe_non {j pos} : PE X (.Constant .none j pos) (tC .non) := fun _ _ _ H _ I h => Constant_none ⟨.non, H, I, rfl, h⟩
theorem pe_str {x j pos} : PE X (.Constant (.str x) j pos) (tC (.str x)) := fun _ _ _ H _ I h => Calls.Constant_str ⟨.str x, H, I.tok _, ⟨_, rfl⟩, h⟩

/-- a global name of the def -/
def Gl (X : Cx) (x : Str) : Prop := X.env.kindOf x = some .globalImplicit
theorem ld_glob {E : Value → Shared → Prop} {pins : List (Addr × Obj)} {s : Shared} {σ : St} {H : Hp} {x : Str} {u : Value} {pos : Pos} {Q : Value → Shared → Prop} (I : Inv X pins σ H s) (hg : Gl X x) (hm : X.mg x = some u) (h : Q u s)
    (hd : (x == ("__debug__" : Str)) = false := by decide) : wpAny (model X.prog X.w) X.A (eval (.Name x pos) X.env) Q E s :=
  Calls.Name_function_global I.ok.kind hg (Calls.loadGlobal_global (by rw [I.ok.glob]; exact I.mod.glob.keeps I.bk) hm h) hd
theorem ld_blt {E : Value → Shared → Prop} {pins : List (Addr × Obj)} {s : Shared} {σ : St} {H : Hp} {x : Str} {u : Value} {pos : Pos} {Q : Value → Shared → Prop} (I : Inv X pins σ H s) (hg : Gl X x) (hm : X.mg x = none) (hv : bootBuiltins x = some u) (h : Q u s)
    (hn : x ≠ "__name__" := by decide) (hd : (x == ("__debug__" : Str)) = false := by decide) : wpAny (model X.prog X.w) X.A (eval (.Name x pos) X.env) Q E s := by
  obtain ⟨mb, h1, h2⟩ := I.mod.blt
  exact Calls.Name_function_global I.ok.kind hg (Calls.loadGlobal_builtin (by rw [I.ok.glob]; exact I.mod.glob.keeps I.bk) hm (by rw [I.ok.blt]; exact h1.keeps I.bk) ((h2 x hn).trans hv) h) hd
theorem pe_bltn {x : Str} {v : V} {u : Value} {pos : Pos} (hg : Gl X x) (hm : X.mg x = none) (hv : bootBuiltins x = some u) (r : RelV v u) (hn : x ≠ "__name__" := by decide) (hd : (x == ("__debug__" : Str)) = false := by decide) : PE X (.Name x pos) (tC v) :=
  fun _ _ _ H _ I h => ld_blt I hg hm hv ⟨v, H, I, r, h⟩ hn hd

/-! ### arithmetic -/
/-- two ints -/
def t2I (ta tb : TE) (k : Int → Int → Hp → Prop) : St → Hp → Prop := fun σ H => ta σ H fun x H1 => tb σ H1 fun y H2 => ∃ i j, x = .int i ∧ y = .int j ∧ k i j H2
def tAdd (ta tb : TE) : TE := fun σ H Q => t2I ta tb (fun i j H2 => Q (.int (i + j)) H2) σ H
def tSub (ta tb : TE) : TE := fun σ H Q => t2I ta tb (fun i j H2 => Q (.int (i - j)) H2) σ H
/-- the left factor below 2^64 -/
def tMul (ta tb : TE) : TE := fun σ H Q => t2I ta tb (fun i j H2 => (-(2 ^ 64) < i ∧ i < 2 ^ 64) ∧ Q (.int (i * j)) H2) σ H
variable {a b : Expr} {ta tb : TE} {pos : Pos}
/-! ### comparisons -/
def PC (X : Cx) (op : CmpOp) (a b : Expr) (t : TE) : Prop :=
  ∀ (pins : List (Addr × Obj)) (s : Shared) (σ : St) (H : Hp) (Q : VK), Inv X pins σ H s → t σ H Q →
    wpAny (model X.prog X.w) X.A (eval a X.env) (fun v s₁ => wpAny (model X.prog X.w) X.A (eval b X.env) (fun u s₂ => wpAny (model X.prog X.w) X.A (compareOp op v u) (EP X pins σ Q) X.xe s₂) X.xe s₁) X.xe s
def tCmp (p : Int → Int → Bool) (ta tb : TE) : TE := fun σ H Q => t2I ta tb (fun i j H2 => Q (.bl (p i j)) H2) σ H
abbrev tLt : TE → TE → TE := tCmp fun i j => decide (i < j)
abbrev tLe : TE → TE → TE := tCmp fun i j => decide (i ≤ j)
abbrev tGt : TE → TE → TE := tCmp fun i j => decide (j < i)
abbrev tGe : TE → TE → TE := tCmp fun i j => decide (j ≤ i)
abbrev tEqI : TE → TE → TE := tCmp fun i j => decide (i = j)
abbrev tNeI : TE → TE → TE := tCmp fun i j => !decide (i = j)
/-- is None -/
def tIsN (ta : TE) : TE := fun σ H Q => ta σ H fun x H1 => Q (.bl (decide (x = .non))) H1
def tNotN (ta : TE) : TE := fun σ H Q => ta σ H fun x H1 => Q (.bl (!decide (x = .non))) H1
/-- a comparison as a value, as a test -/
def tB (t : TE) : TT := fun σ H Q => t σ H fun x H1 => ∃ c, x = .bl c ∧ Q c H1
/-- an expression whose value is a bool, as a test -/
theorem pt_val {e : Expr} {t : TE} (h : PE X e t) (he : ∀ whole, isTrue e X.env whole = (do let v ← whole; standAt e.pos; holding [v] (truthy v)) := by intro _; rfl) : PT X e (tB t) := by
  intro pins s σ H Q I hw
  refine isTrue_plain (thn (h pins s σ H _ I hw) fun v s1 ⟨x, H1, I1, r1, q1⟩ => ?_) (he _)
  obtain ⟨d, rfl, q⟩ := q1
  cases r1
  exact wpAny_truthy_bool ⟨H1, I1, q⟩

/-! ### and, or, not -/
variable {tA tB' : TT} {rest : List Expr}
def tAnd (t u : TT) : TT := fun σ H Q => t σ H fun c H1 => if c = true then u σ H1 Q else Q false H1
def tOr (t u : TT) : TT := fun σ H Q => t σ H fun c H1 => if c = true then Q true H1 else u σ H1 Q
def tNot (t : TT) : TT := fun σ H Q => t σ H fun c H1 => Q (!c) H1
theorem pw_and1 (ha : PT X a tA) : PW X (.BoolOp .And [a] pos) tA := by
  intro wh pins s σ H Q I h
  refine isTrue_and (thn (ha pins s σ H Q I h) fun c s1 e => ?_)
  cases c with
  | true => exact isTrue_and_nil e
  | false => exact e
theorem pw_or1 (ha : PT X a tA) : PW X (.BoolOp .Or [a] pos) tA := by
  intro wh pins s σ H Q I h
  refine isTrue_or (thn (ha pins s σ H Q I h) fun c s1 e => ?_)
  cases c with
  | false => exact isTrue_or_nil e
  | true => exact e
theorem pw_and (ha : PT X a tA) (hb : PW X (.BoolOp .And (b :: rest) pos) tB') : PW X (.BoolOp .And (a :: b :: rest) pos) (tAnd tA tB') := by
  intro wh pins s σ H Q I h
  refine isTrue_and (thn (ha pins s σ H _ I h) fun c s1 ⟨H1, I1, q1⟩ => ?_)
  cases c with
  | true => exact hb wh pins s1 σ H1 Q I1 q1
  | false => exact ⟨H1, I1, q1⟩
theorem pw_or (ha : PT X a tA) (hb : PW X (.BoolOp .Or (b :: rest) pos) tB') : PW X (.BoolOp .Or (a :: b :: rest) pos) (tOr tA tB') := by
  intro wh pins s σ H Q I h
  refine isTrue_or (thn (ha pins s σ H _ I h) fun c s1 ⟨H1, I1, q1⟩ => ?_)
  cases c with
  | true => exact ⟨H1, I1, q1⟩
  | false => exact hb wh pins s1 σ H1 Q I1 q1
theorem pt_not (ha : PT X a tA) : PT X (.UnaryOp .Not a pos) (tNot tA) := by
  intro pins s σ H Q I h
  exact isTrue_not (ha pins s σ H (fun c H1 => Q (!c) H1) I h)
/-- .. as values (bools) -/
def tAndV (ta tb : TE) : TE := fun σ H Q => ta σ H fun x H1 => ∃ c, x = .bl c ∧ if c = true then tb σ H1 Q else Q (.bl false) H1
def tOrV (ta tb : TE) : TE := fun σ H Q => ta σ H fun x H1 => ∃ c, x = .bl c ∧ if c = true then Q (.bl true) H1 else tb σ H1 Q
def tNotV (ta : TE) : TE := fun σ H Q => ta σ H fun x H1 => ∃ c, x = .bl c ∧ Q (.bl (!c)) H1
theorem pe_one {op} {t : TE} (h : PE X a t) : PE X (.BoolOp op [a] pos) t := fun pins s σ H Q I hw => BoolOp_one (h pins s σ H Q I hw)
theorem pe_and (ha : PE X a ta) (hb : PE X (.BoolOp .And (b :: rest) pos) tb) : PE X (.BoolOp .And (a :: b :: rest) pos) (tAndV ta tb) := by
  intro pins s σ H Q I h
  refine BoolOp_and (thn (ha pins s σ H _ I h) fun v s1 ⟨x, H1, I1, r1, q1⟩ => ?_)
  obtain ⟨c, rfl, q1⟩ := q1
  cases r1
  refine wpAny_truthy_bool ?_
  cases c with
  | true => exact hb pins s1 σ H1 Q I1 q1
  | false => exact ⟨.bl false, H1, I1, rfl, q1⟩
theorem pe_not (ha : PE X a ta) : PE X (.UnaryOp .Not a pos) (tNotV ta) := by
  intro pins s σ H Q I h
  refine UnaryOp_ (thn (ha pins s σ H _ I h) fun v s1 ⟨x, H1, I1, r1, q1⟩ => ?_)
  obtain ⟨c, rfl, q1⟩ := q1
  cases r1
  exact not_of (wpAny_truthy_bool ⟨.bl (!c), H1, I1, rfl, q1⟩)
/-- a if t else b -/
def tIf (t : TT) (ta tb : TE) : TE := fun σ H Q => t σ H fun c H1 => if c = true then ta σ H1 Q else tb σ H1 Q
end
end L2

namespace L2
open PySem PySem.Spec PyProof.Rows

/-! ### a list, a tuple that is read: tracked, frozen, or an object of the module -/
def SqL (K : PySem.W.Frag) (H : Hp) (a : Addr) (xs : List V) : Prop :=
  Rd H a (.lst xs) ∨
    ∃ (o : Obj) (its : Array Value) (n : Nat), K.lookup a = some o ∧ o.cls = .type "list" ∧ o.dict = none ∧ o.data = .seq its n ∧ its.size ≤ sizeLine ∧ Vals xs its.toList
def SqT (K : PySem.W.Frag) (H : Hp) (a : Addr) (xs : List V) : Prop :=
  Rd H a (.tup xs) ∨
    ∃ (o : Obj) (its : Array Value) (n : Nat), K.lookup a = some o ∧ o.cls = .type "tuple" ∧ o.data = .seq its n ∧ its.size ≤ sizeLine ∧ Vals xs its.toList
def absV : Value → Option V
  | .none => some .non
  | .bool b => some (.bl b)
  | .int i _ => some (.int i)
  | .str x _ => some (.str x)
  | .bytes b _ => some (.byt b)
  | .float b _ => some (.flt b)
  | .ref a => some (.ref a)
  | .type n => some (.ty n)
  | _ => none
theorem RelV.abs {x : V} {u : Value} (r : RelV x u) : absV u = some x := by
  cases x with
  | non => cases r; rfl
  | bl _ => cases r; rfl
  | int _ => obtain ⟨t, rfl⟩ := r; rfl
  | str _ => obtain ⟨t, rfl⟩ := r; rfl
  | byt _ => obtain ⟨t, rfl⟩ := r; rfl
  | flt _ => obtain ⟨t, rfl⟩ := r; rfl
  | ref _ => cases r; rfl
  | ty _ => cases r; rfl
theorem RelV.inj {x y : V} {u : Value} (r : RelV x u) (q : RelV y u) : x = y := Option.some.inj (r.abs.symm.trans q.abs)
theorem Vals.inj : ∀ {xs ys : List V} {us : List Value}, Vals xs us → Vals ys us → xs = ys
  | _, _, _, .nil, .nil => rfl
  | _, _, _, .cons r t, .cons r' t' => by rw [r.inj r', Vals.inj t t']
section
variable {X : Cx} {pins : List (Addr × Obj)} {σ : St} {H : Hp} {s : Shared} {a : Addr} {xs ys : List V}
theorem SqL.of {K : PySem.W.Frag} (h : H a = some (.lst xs)) : SqL K H a xs := .inl (.inl h)
theorem SqT.of {K : PySem.W.Frag} (h : H a = some (.tup xs)) : SqT K H a xs := .inl (.inl h)
theorem Inv.list (I : Inv X pins σ H s) (h : SqL X.K H a xs) : ∃ its : List Value, Vals xs its ∧ PlainL s.heap a its.toArray ∧ xs.length ≤ sizeLine := by
  rcases h with h | ⟨o, its, n, hk, hc, hd, hs, hz, r⟩
  · obtain ⟨z, its, n, r, e⟩ := h.ok I.hok
    exact ⟨its, r, ⟨_, n, e, rfl, rfl, rfl⟩, z⟩
  · refine ⟨its.toList, r, ⟨o, n, I.kIn a o hk, hc, hd, by simpa using hs⟩, ?_⟩
    have e := r.length
    simp only [Array.length_toList] at e
    omega
theorem Inv.tuple (I : Inv X pins σ H s) (h : SqT X.K H a xs) : ∃ its : List Value, Vals xs its ∧ IsTup s.heap a its.toArray ∧ xs.length ≤ sizeLine := by
  rcases h with h | ⟨o, its, n, hk, hc, hs, hz, r⟩
  · obtain ⟨z, its, r, p⟩ := h.ok I.hok
    exact ⟨its, r, p, z⟩
  · refine ⟨its.toList, r, ⟨o, I.kIn a o hk, hc, n, by simpa using hs⟩, ?_⟩
    have e := r.length
    simp only [Array.length_toList] at e
    omega
theorem Inv.list_inj (I : Inv X pins σ H s) (h : SqL X.K H a xs) (h' : SqL X.K H a ys) : xs = ys := by
  obtain ⟨its, r, ⟨o, n, e, _, _, d⟩, _⟩ := I.list h
  obtain ⟨its', r', ⟨o', n', e', _, _, d'⟩, _⟩ := I.list h'
  rw [e] at e'; cases e'
  rw [d] at d'
  injection d' with d1 _
  have : its = its' := by simpa using congrArg Array.toList d1
  subst this
  exact r.inj r'
theorem Inv.tuple_inj (I : Inv X pins σ H s) (h : SqT X.K H a xs) (h' : SqT X.K H a ys) : xs = ys := by
  obtain ⟨its, r, ⟨o, e, _, n, d⟩, _⟩ := I.tuple h
  obtain ⟨its', r', ⟨o', e', _, n', d'⟩, _⟩ := I.tuple h'
  rw [e] at e'; cases e'
  rw [d] at d'
  injection d' with d1 _
  have : its = its' := by simpa using congrArg Array.toList d1
  subst this
  exact r.inj r'
end

/-! ### another wish about exceptions -/
abbrev Cx.wish (X : Cx) (E : Value → Shared → Prop) : Cx := { X with xe := E }
/-- no exception leaves -/
abbrev Cx.nox (X : Cx) : Cx := X.wish fun _ _ => False
theorem Cx.Ok.wish {X : Cx} (ok : X.Ok) (E : Value → Shared → Prop) : (X.wish E).Ok :=
  ⟨ok.mod, ok.kind, ok.glob, ok.blt, ok.above, ok.inj, ok.has, ok.cab, ok.hd, ok.frames, ok.stk, ok.exf, ok.bs, ok.bsz, ok.noex, ok.exfs, ok.funs, ok.frf⟩
theorem Cx.Ok.unwish {X : Cx} {E : Value → Shared → Prop} (ok : (X.wish E).Ok) : X.Ok :=
  ⟨ok.mod, ok.kind, ok.glob, ok.blt, ok.above, ok.inj, ok.has, ok.cab, ok.hd, ok.frames, ok.stk, ok.exf, ok.bs, ok.bsz, ok.noex, ok.exfs, ok.funs, ok.frf⟩
section
variable {X : Cx} {pins : List (Addr × Obj)} {σ : St} {H : Hp} {s : Shared} {E : Value → Shared → Prop}
theorem Inv.wish (I : Inv X pins σ H s) (E : Value → Shared → Prop) : Inv (X.wish E) pins σ H s := ⟨I.ok.wish E, I.os, I.bare, I.base, I.loc, I.cell, I.free, I.freeC, I.pin, I.hok, I.len⟩
theorem Inv.unwish (I : Inv (X.wish E) pins σ H s) : Inv X pins σ H s := ⟨I.ok.unwish, I.os, I.bare, I.base, I.loc, I.cell, I.free, I.freeC, I.pin, I.hok, I.len⟩
theorem SP.unwish {D : Ends} {f : Flow} {s' : Shared} (h : SP (X.wish E) pins D f s') : SP X pins D f s' := by
  cases f with
  | next => obtain ⟨σ', H', I, q⟩ := h; exact ⟨σ', H', I.unwish, q⟩
  | brk => obtain ⟨σ', H', I, q⟩ := h; exact ⟨σ', H', I.unwish, q⟩
  | cont => obtain ⟨σ', H', I, q⟩ := h; exact ⟨σ', H', I.unwish, q⟩
  | ret u => obtain ⟨v, σ', H', I, r, q⟩ := h; exact ⟨v, σ', H', I.unwish, r, q⟩
theorem PE.nox {e : Expr} {t : TE} (h : PE X.nox e t) : PE X e t := fun pins s σ H Q I hw =>
  wpAny_mono (h pins s σ H Q (I.wish _) hw) (fun _ _ ⟨v, H', I', r, q⟩ => ⟨v, H', I'.unwish, r, q⟩) fun _ _ z => False.elim z
theorem PT.nox {e : Expr} {t : TT} (h : PT X.nox e t) : PT X e t := fun pins s σ H Q I hw =>
  wpAny_mono (h pins s σ H Q (I.wish _) hw) (fun _ _ ⟨H', I', q⟩ => ⟨H', I'.unwish, q⟩) fun _ _ z => False.elim z
theorem PSs.nox {st : List Stmt} {t : TS} (h : PSs X.nox st t) : PSs X st t := fun pins s σ H D I hw =>
  wpAny_mono (h pins s σ H D (I.wish _) hw) (fun _ _ q => q.unwish) fun _ _ z => False.elim z
end

/-! ### blocks and small statements -/
section
variable {X : Cx} {st : Stmt} {rest : List Stmt} {t u : TS} {e : Expr} {te : TE} {pos : Pos}
def tNext : TS := fun D σ H => D.nx σ H
def tSeq (t u : TS) : TS := fun D σ H => t { D with nx := u D } σ H
theorem pss_nil : PSs X [] tNext := fun _ _ σ H _ I h => wpAny_execs_nil ⟨σ, H, I, h⟩
theorem pss_cons (h1 : PS X st t) (h2 : PSs X rest u) : PSs X (st :: rest) (tSeq t u) := by
  intro pins s σ H D I h
  refine wpAny_execs_cons (thn (h1 pins s σ H { D with nx := u D } I h) fun f s1 q => ?_)
  cases f with
  | next =>
    obtain ⟨σ', H', I', q⟩ := q
    exact h2 pins s1 σ' H' D I' q
  | ret v => exact q
  | brk => exact q
  | cont => exact q
theorem pss_one (h1 : PS X st t) : PSs X [st] t := by
  intro pins s σ H D I h
  refine wpAny_execs_cons (thn (h1 pins s σ H D I h) fun f s1 q => ?_)
  cases f with
  | next => exact wpAny_execs_nil q
  | ret v => exact q
  | brk => exact q
  | cont => exact q
def tBreak : TS := fun D σ H => D.bk σ H
def tCont : TS := fun D σ H => D.ct σ H
/-- in a def's body nothing is shown -/
theorem Inv.quiet {pins : List (Addr × Obj)} {σ : St} {H : Hp} {s : Shared} (I : Inv X pins σ H s) : interactive X.env = false := by simp [interactive, I.ok.kind]
/-- an expression whose value is dropped -/
def tDrop (te : TE) : TS := fun D σ H => te σ H fun _ H1 => D.nx σ H1
theorem ps_expr (he : PE X e te) (hs : swapsWith e none pos.line X.env = pure false := by rfl) : PS X (.Expr e pos) (tDrop te) := by
  intro pins s σ H D I h
  exact wpAny_Expr_any (thn (he pins s σ H _ I h) fun v s1 ⟨x, H1, I1, r1, q1⟩ => ⟨σ, H1, I1, q1⟩) I.quiet hs
def tRet (te : TE) : TS := fun D σ H => te σ H D.rt
theorem ps_ret (he : PE X e te) : PS X (.Return (some e) pos) (tRet te) := by
  intro pins s σ H D I h
  exact wpAny_Return_some (thn (he pins s σ H _ I h) fun v s1 ⟨x, H1, I1, r1, q1⟩ => ⟨x, σ, H1, I1, r1, q1⟩)
def tRetN : TS := fun D _ H => D.rt .non H
def tIfS (c : TT) (t u : TS) : TS := fun D σ H => c σ H fun b H1 => if b = true then t D σ H1 else u D σ H1
theorem ps_if {c : Expr} {a b : List Stmt} {tc : TT} (hc : PT X c tc) (ha : PSs X a t) (hb : PSs X b u) : PS X (.If c a b pos) (tIfS tc t u) := by
  intro pins s σ H D I h
  refine wpAny_If (thn (hc pins s σ H _ I h) fun d s1 ⟨H1, I1, q1⟩ => ?_)
  cases d with
  | true => exact ha pins s1 σ H1 D I1 q1
  | false => exact hb pins s1 σ H1 D I1 q1
/-- code that the proof never comes to -/
def tNever : TS := fun _ _ _ => False
end

/-! ### targets -/
abbrev TG := V → St → Hp → (St → Hp → Prop) → Prop
abbrev TGs := List V → St → Hp → (St → Hp → Prop) → Prop
def PG (X : Cx) (target : Expr) (t : TG) : Prop :=
  ∀ (pins : List (Addr × Obj)) (s : Shared) (σ : St) (H : Hp) (v : V) (u : Value) (Q : St → Hp → Prop), Inv X pins σ H s → RelV v u → t v σ H Q →
    wpAny (model X.prog X.w) X.A (assign target X.env u) (fun _ s' => ∃ σ' H', Inv X pins σ' H' s' ∧ Q σ' H') X.xe s
/-- several targets, one after another -/
def PGs (X : Cx) (ts : List Expr) (t : TGs) : Prop :=
  ∀ (pins : List (Addr × Obj)) (s : Shared) (σ : St) (H : Hp) (vs : List V) (us : List Value) (Q : St → Hp → Prop), Inv X pins σ H s → Vals vs us → t vs σ H Q →
    wpAny (model X.prog X.w) X.A (assignInOrder ((assignEach ts X.env).map (·.2)) us) (fun _ s' => ∃ σ' H', Inv X pins σ' H' s' ∧ Q σ' H') X.xe s
/-- o[i] = v, by values -/
abbrev TSet := V → V → V → Hp → (Hp → Prop) → Prop
def PSet (X : Cx) (t : TSet) : Prop :=
  ∀ (pins : List (Addr × Obj)) (s : Shared) (σ : St) (H : Hp) (o i v : V) (ov iv u : Value) (Q : Hp → Prop), Inv X pins σ H s → RelV o ov → RelV i iv → RelV v u → t o i v H Q →
    wpAny (model X.prog X.w) X.A (setItem ov iv u) (fun _ s' => ∃ H', Inv X pins σ H' s' ∧ Q H') X.xe s
/-- a op= b, by values -/
abbrev TIp := V → V → Hp → VK → Prop
def PIp (X : Cx) (op : Operator) (t : TIp) : Prop :=
  ∀ (pins : List (Addr × Obj)) (s : Shared) (σ : St) (H : Hp) (x y : V) (v u : Value) (Q : VK), Inv X pins σ H s → RelV x v → RelV y u → t x y H Q →
    wpAny (model X.prog X.w) X.A (inplaceOp op v u) (EP X pins σ Q) X.xe s
section
variable {X : Cx} {pos : Pos}
def gName (i : Nat) : TG := fun v σ H Q => Q (σ.set i (some v)) H
theorem pg_name {i : Nat} {x : Str} (hN : X.N.Nodup) (hi : X.N[i]? = some x) (hx : Loc X.env.scope x) (hf : X.fn x = true ∨ X.env.scope.names.lookup x = some .local := by first | exact .inl rfl | exact .inr rfl | assumption) : PG X (.Name x pos) (gName i) := by
  intro pins s σ H v u Q I r h
  exact wpAny_assign_Name (store_ok I hN hi hx r (fun s' I' => ⟨_, H, I', h⟩) hf)
def gNil : TGs := fun vs σ H Q => vs = [] ∧ Q σ H
def gCons (t : TG) (u : TGs) : TGs := fun vs σ H Q => ∃ v r, vs = v :: r ∧ t v σ H fun σ' H' => u r σ' H' Q
theorem pgs_nil : PGs X [] gNil := by
  intro pins s σ H vs us Q I r h
  obtain ⟨e, h⟩ := h
  subst e
  cases r
  exact assignInOrder_nil ⟨σ, H, I, h⟩
theorem pgs_cons {e : Expr} {es : List Expr} {t : TG} {u : TGs} (h1 : PG X e t) (h2 : PGs X es u)
    (hs : (assignEach (e :: es) X.env).map (·.2) = assign e X.env :: (assignEach es X.env).map (·.2) := by rfl) : PGs X (e :: es) (gCons t u) := by
  intro pins s σ H vs us Q I r h
  obtain ⟨v, vr, e1, h⟩ := h
  subst e1
  cases r with
  | cons r rr =>
    rw [hs]
    refine assignInOrder_cons (thn (h1 pins s σ H _ _ _ I r h) fun _ s1 ⟨σ1, H1, I1, q1⟩ => ?_)
    exact h2 pins s1 σ1 H1 _ _ Q I1 rr q1
/-- (a, b, ..) = a tuple of that length -/
def gTup (K : PySem.W.Frag) (n : Nat) (t : TGs) : TG := fun v σ H Q => ∃ a xs, v = .ref a ∧ SqT K H a xs ∧ xs.length = n ∧ t xs σ H Q
theorem pg_tup {es : List Expr} {k : Nat} {t : TGs} {n : Nat} (hc : X.calm = true) (h : PGs X es t)
    (hn : (assignEach es X.env).length = n := by rfl) (hst : (assignEach es X.env).findIdx? (·.1) = none := by rfl) : PG X (.Tuple es k pos) (gTup X.K n t) := by
  intro pins s σ H v u Q I r hw
  obtain ⟨a, xs, e1, hq, hl, hw⟩ := hw
  subst e1
  cases r
  obtain ⟨its, rv, ht, hz⟩ := I.tuple hq
  refine assign_Tuple_tuple (I.ok.hd hc) ht (by simp [hn, ← hl, rv.length]) hst fun h' hx => ?_
  have I1 : Inv X pins σ H { s with heap := h' } := I.kept (t' := s.toks) fun b o e => hx b o (Nat.ne_of_lt (Heap.lt_size e)) e
  exact h pins _ σ H xs _ Q I1 (by simpa using rv) hw
/-- o[i] = .. -/
def gSub (to ti : TE) (t : TSet) : TG := fun v σ H Q => to σ H fun o H1 => ti σ H1 fun i H2 => t o i v H2 fun H3 => Q σ H3
theorem pg_sub {o i : Expr} {to ti : TE} {t : TSet} (ho : PE X o to) (hi : PE X i ti) (hs : PSet X t)
    (ha : ∀ v, assign (.Subscript o i pos) X.env v = (do
      let ov ← holding [v] (eval o X.env)
      let iv ← holding [v, ov] (eval i X.env)
      standAt pos
      holding [v, ov, iv] (setItem ov iv v)
      release [v, ov, iv] []) := by intro _; rfl) : PG X (.Subscript o i pos) (gSub to ti t) := by
  intro pins s σ H v u Q I r h
  rw [ha]
  refine wpAny_bind (wpAny_holding (thn (ho pins s σ H _ I h) fun ov s1 ⟨x, H1, I1, r1, q1⟩ => ?_))
  refine wpAny_bind (wpAny_holding (thn (hi pins s1 σ H1 _ I1 q1) fun iv s2 ⟨y, H2, I2, r2, q2⟩ => ?_))
  refine wpAny_bind (wpAny_standAt (wpAny_bind (wpAny_holding (thn (hs pins s2 σ H2 x y v ov iv u _ I2 r1 r2 r q2) fun _ s3 ⟨H3, I3, q3⟩ => ?_))))
  exact wpAny_release ⟨σ, H3, I3, q3⟩
/-- target = value -/
def tAsg (te : TE) (g : TG) : TS := fun D σ H => te σ H fun x H1 => g x σ H1 D.nx
theorem ps_asg {tg e : Expr} {te : TE} {g : TG} (he : PE X e te) (hg : PG X tg g) (hs : swapsWithSole [tg] e pos.line X.env = pure false := by rfl) (hw : swappedStores [tg] e X.env = pure none := by rfl)
    (h1 : (assignEach [tg] X.env).map (·.2) = [assign tg X.env] := by rfl) : PS X (.Assign [tg] e pos) (tAsg te g) := by
  intro pins s σ H D I h
  refine wpAny_Assign_stores (thn (he pins s σ H _ I h) fun v s1 ⟨x, H1, I1, r1, q1⟩ => ?_) hs hw
  rw [h1]
  exact thn (hg pins s1 σ H1 x v _ I1 r1 q1) fun _ s2 q => q
/-- name = value -/
theorem ps_set {i : Nat} {x : Str} {e : Expr} {te : TE} {pos' : Pos} (hN : X.N.Nodup) (hi : X.N[i]? = some x) (hx : Loc X.env.scope x) (he : PE X e te) (hs : swapsWith e (some (.Name x pos')) pos.line X.env = pure false := by rfl) (hf : X.fn x = true ∨ X.env.scope.names.lookup x = some .local := by first | exact .inl rfl | exact .inr rfl | assumption) :
    PS X (.Assign [.Name x pos'] e pos) (tAsg te (gName i)) := by
  intro pins s σ H D I h
  refine wpAny_Assign_Name (thn (he pins s σ H _ I h) fun v s1 ⟨y, H1, I1, r1, q1⟩ => ?_) hs
  exact store_ok I1 hN hi hx r1 (fun s2 I2 => ⟨_, H1, I2, q1⟩) hf
/-- a, b = x, y with plain local names: stored from the right; the pair itself is not tracked (the opening rows as in PyProof/Rows/TupAssign.lean:23) -/
def tPar (i j : Nat) (ta : TA) : TS := fun D σ H => ta σ H fun vs H1 => ∃ v w, vs = [v, w] ∧ D.nx ((σ.set i (some v)).set j (some w)) H1
/-- name op= e -/
def tAug (i : Nat) (te : TE) (ti : TIp) : TS := fun D σ H => ∃ x, σ[i]? = some (some x) ∧ te σ H fun y H1 => ti x y H1 fun z H2 => D.nx (σ.set i (some z)) H2
/-- o[i] op= e -/
def tAugS (to ti te : TE) (tget : V → V → Hp → VK → Prop) (tip : TIp) (tset : TSet) : TS := fun D σ H => to σ H fun o H1 => ti σ H1 fun i H2 => tget o i H2 fun x H3 => te σ H3 fun y H4 => tip x y H4 fun z H5 => tset o i z H5 fun H6 => D.nx σ H6
/-- o[i], by values -/
def PGet (X : Cx) (t : V → V → Hp → VK → Prop) : Prop :=
  ∀ (pins : List (Addr × Obj)) (s : Shared) (σ : St) (H : Hp) (o i : V) (ov iv : Value) (Q : VK), Inv X pins σ H s → RelV o ov → RelV i iv → t o i H Q →
    wpAny (model X.prog X.w) X.A (getItem ov iv) (EP X pins σ Q) X.xe s
/-- ints -/
def ipI (f : Int → Int → Int) : TIp := fun x y H Q => ∃ i j, x = .int i ∧ y = .int j ∧ Q (.int (f i j)) H
end

/-! ### while -/
section
variable {X : Cx} {pos : Pos}
/-- the invariant W with its measure -/
def tWhile (c : TT) (tb : TS) : TS := fun D σ H => ∃ W : Nat → St → Hp → Prop, (∃ m, W m σ H) ∧ ∀ m σ H, W m σ H →
  c σ H fun b H1 => if b = true then ∃ N : St → Hp → Prop, (∀ σ' H', N σ' H' → ∃ m', m' < m ∧ W m' σ' H') ∧ tb { D with nx := N, ct := N, bk := D.nx } σ H1 else D.nx σ H1
theorem ps_while {c : Expr} {body : List Stmt} {tc : TT} {tb : TS} (hp : PassesOwn (model X.prog X.w) X.A X.env X.xe) (hc : PT X c tc) (hb : PSs X body tb) : PS X (.While c body [] pos) (tWhile tc tb) := by
  intro pins s σ H D I h
  obtain ⟨W, ⟨m0, w0⟩, turn⟩ := h
  refine wpAny_While (codeAny_whileLoop (fun n s' => ∃ σ' H', Inv X pins σ' H' s' ∧ W n σ' H') ?_ m0 ⟨σ, H, I, w0⟩)
  rintro n s1 ⟨σ1, H1, I1, w1⟩
  refine wpAny_passesOwn hp (thn (hc pins s1 σ1 H1 _ I1 (turn n σ1 H1 w1)) fun b s2 ⟨H2, I2, q2⟩ => ?_)
  cases b with
  | true =>
    obtain ⟨N, hN, q2⟩ := q2
    rw [if_pos rfl]
    refine wpAny_passesOwn hp (thn (hb pins s2 σ1 H2 _ I2 q2) fun f s3 q3 => ?_)
    cases f with
    | next =>
      obtain ⟨σ3, H3, I3, n3⟩ := q3
      obtain ⟨m', hm, w3⟩ := hN σ3 H3 n3
      exact ⟨m', hm, σ3, H3, I3, w3⟩
    | cont =>
      obtain ⟨σ3, H3, I3, n3⟩ := q3
      obtain ⟨m', hm, w3⟩ := hN σ3 H3 n3
      exact ⟨m', hm, σ3, H3, I3, w3⟩
    | brk => exact q3
    | ret v => exact q3
  | false =>
    rw [if_neg Bool.false_ne_true]
    exact wpAny_execs_nil ⟨σ1, H2, I2, q2⟩
end

/-! ### what a loop or a comprehension walks -/
/-- at turn i: it yields x (the heap may grow), or it stops -/
structure It where
  go : Nat → Hp → Prop
  yld : Nat → Hp → V → Hp → Prop
  stop : Nat → Hp → Prop
/-- the iterator's own objects may turn: they are not the frame's, not pinned, younger than the entry (or a comprehension's own) -/
def FpOk (X : Cx) (pins : List (Addr × Obj)) (H : Hp) (b : Addr) : Prop :=
  H b = none ∧ b ≠ X.env.locals ∧ b ∉ X.fs ∧ (b ∈ X.ex ∨ X.s₀.heap.objs.size ≤ b) ∧ (∀ x c, X.env.cells.lookup x = some c → c ≠ b) ∧ ∀ p ∈ X.pn ++ pins, p.1 ≠ b
theorem Inv.fpOk {X : Cx} {pins : List (Addr × Obj)} {σ : St} {H H' : Hp} {s : Shared} {b : Addr} (I : Inv X pins σ H s) (hb : s.heap.objs.size ≤ b) (hn : H' b = none) : FpOk X pins H' b := by
  refine ⟨hn, Nat.ne_of_gt (Nat.lt_of_lt_of_le I.lt hb), I.nofs hb, .inr (Nat.le_trans I.sz hb), fun x c e z => ?_, fun p hp z => ?_⟩
  · obtain ⟨v, q⟩ := I.cell x c e
    exact absurd (Nat.lt_of_lt_of_le q.lt (by rw [z]; exact hb)) (Nat.lt_irrefl _)
  · exact absurd (Nat.lt_of_lt_of_le (Heap.lt_size (I.pin p hp).1) (by rw [z]; exact hb)) (Nat.lt_irrefl _)
structure Turn (P : Program) (w : World) (K : PySem.W.Frag) (tg : Expr) (J : It) (fp : List Addr) (it : Addr) (tn : Nat → Heap → Prop) : Prop where
  mem : it ∈ fp
  obj : ∀ i h, tn i h → ∀ b ∈ fp, ∃ o, h.get? b = some o ∧ ∀ v, o.data ≠ .cell v
  keep : ∀ i h h', tn i h → (∀ b ∈ fp, ∀ o, h.get? b = some o → h'.get? b = some o) → tn i h'
  item : ∀ (X : Cx), X.prog = P → X.w = w → X.K = K → X.calm = true → ∀ (i : Nat) (pins : List (Addr × Obj)) (s : Shared) (σ : St) (H : Hp) (E : Value → Shared → Prop), Inv X pins σ H s → (∀ b ∈ fp, FpOk X pins H b) → tn i s.heap → J.go i H →
    wpAny (model P w) X.A (pyNext (.ref it)) (fun r s1 => ∃ u, r = some u ∧
      wpAny (model P w) X.A (letOwnedTupleGo tg (.ref it) u) (fun _ s2 => ∃ x H', Inv X pins σ H' s2 ∧ RelV x u ∧ J.yld i H x H' ∧ tn (i + 1) s2.heap ∧ ∀ b ∈ fp, H' b = none) E s1) E s
  done : ∀ (X : Cx), X.prog = P → X.w = w → X.K = K → X.calm = true → ∀ (i : Nat) (pins : List (Addr × Obj)) (s : Shared) (σ : St) (H : Hp) (E : Value → Shared → Prop), Inv X pins σ H s → (∀ b ∈ fp, FpOk X pins H b) → tn i s.heap → J.stop i H →
    wpAny (model P w) X.A (pyNext (.ref it)) (fun r s1 => r = none ∧ Inv X pins σ H s1) E s
  self : ∀ (A : Around) (i : Nat) (s : Shared) (Q : Value → Shared → Prop) (E : Value → Shared → Prop), tn i s.heap → Q (.ref it) s → wpAny (model P w) A (pyIter (.ref it)) Q E s
abbrev TI := St → Hp → (It → Hp → Prop) → Prop
/-- an iterator has come -/
def PIE (X : Cx) (pins : List (Addr × Obj)) (σ : St) (tg : Expr) (R : It → Hp → Prop) (itv : Value) (s2 : Shared) : Prop :=
  ∃ (it : Addr) (fp : List Addr) (tn : Nat → Heap → Prop) (J : It) (H' : Hp), itv = .ref it ∧ Inv X pins σ H' s2 ∧ Turn X.prog X.w X.K tg J fp it tn ∧ tn 0 s2.heap ∧ (∀ b ∈ fp, FpOk X pins H' b) ∧ R J H'
def PI (X : Cx) (tg iter : Expr) (wi : TI) : Prop :=
  ∀ (pins : List (Addr × Obj)) (s : Shared) (σ : St) (H : Hp) (R : It → Hp → Prop), Inv X pins σ H s → wi σ H R →
    wpAny (model X.prog X.w) X.A (eval iter X.env) (fun v s1 => wpAny (model X.prog X.w) X.A (pyIter v) (PIE X pins σ tg R) X.xe s1) X.xe s

/-- the step ahead of the store is nothing for an iterator that keeps no tuple -/
theorem go_of {M : Model} {A : Around} {E : Value → Shared → Prop} {s : Shared} {tg : Expr} {it : Addr} {u : Value} {o : Obj} {n : String} {vs : Array Value} {Q : Unit → Shared → Prop} (ho : s.heap.get? it = some o) (hc : o.cls = .type n) (hd : o.data = .fields vs)
    (hn : ["enumerate", "zip", "dict_itemiterator", "dict_reverseitemiterator", "odict_iterator", "itertools.zip_longest", "itertools.pairwise"].contains n = false) (hQ : Q () s) : wpAny M A (letOwnedTupleGo tg (.ref it) u) Q E s := by
  unfold letOwnedTupleGo
  cases tg <;> first
    | exact wpAny_pure hQ
    | (cases u <;> first
        | exact wpAny_pure hQ
        | (refine wpAny_bind (wpAny_load ho ?_)
           rw [hc, hd]
           show wpAny M A (if (["enumerate", "zip", "dict_itemiterator", "dict_reverseitemiterator", "odict_iterator", "itertools.zip_longest", "itertools.pairwise"].contains n && vs[0]? == some (rawInt _)) = true then _ else _) Q E s
           rw [if_neg (by intro h; rw [hn, Bool.false_and] at h; cases h)]
           exact wpAny_pure hQ))

/-- the list at a, as it stands at each turn (a loop may append to it) -/
def Itl (K : PySem.W.Frag) (a : Addr) : It :=
  ⟨fun i H => ∃ xs x, SqL K H a xs ∧ xs[i]? = some x, fun i H x H' => H' = H ∧ ∀ xs, SqL K H a xs → xs[i]? = some x, fun i H => ∃ xs, SqL K H a xs ∧ xs.length ≤ i⟩
def Itt (K : PySem.W.Frag) (a : Addr) : It :=
  ⟨fun i H => ∃ xs x, SqT K H a xs ∧ xs[i]? = some x, fun i H x H' => H' = H ∧ ∀ xs, SqT K H a xs → xs[i]? = some x, fun i H => ∃ xs, SqT K H a xs ∧ xs.length ≤ i⟩
/-- lo, lo + 1, .. (n of them) -/
def Itr (lo : Int) (n : Nat) : It := ⟨fun i _ => i < n, fun i H x H' => H' = H ∧ x = .int (lo + i), fun i _ => n ≤ i⟩
theorem turn_list {P : Program} {w : World} {K : PySem.W.Frag} {tg : Expr} (a it : Addr) : Turn P w K tg (Itl K a) [it] it (fun i h => h.IsListIter it a i) where
  mem := by simp
  obj := fun i h st b hb => by
    have e : b = it := by simpa using hb
    subst e
    obtain ⟨o, e, c, d⟩ := st
    exact ⟨o, e, fun v z => by rw [d] at z; cases z⟩
  keep := fun i h h' st k => st.at fun o e => k it (by simp) o e
  item := by
    intro X hP hw hK hc i pins s σ H E I hf st hg
    subst hP hw hK
    obtain ⟨xs, x, hq, hx⟩ := hg
    obtain ⟨its, rv, p, hz⟩ := I.list hq
    obtain ⟨u, hu, ru⟩ := rv.get hx
    obtain ⟨f0, f1, f2, f3, f4, f5⟩ := hf it (by simp)
    refine wpAny_pyNext_list_item st p.isList (x := u) (by simpa using hu) fun h' st' sb => ?_
    have I1 : Inv X pins σ H { s with heap := h' } := I.turned (t' := s.toks) (fun b o hb e => (sb.2 b hb).trans e) f0 f1 f3 f4 f5
    obtain ⟨o, e, c, d⟩ := id st'
    exact ⟨u, rfl, go_of (s := { s with heap := h' }) e c d (by decide) ⟨x, H, I1, ru, ⟨rfl, fun ys hy => by rw [I.list_inj hy hq]; exact hx⟩, st', fun b hb => (hf b hb).1⟩⟩
  done := by
    intro X hP hw hK hc i pins s σ H E I hf st hg
    subst hP hw hK
    obtain ⟨xs, hq, hx⟩ := hg
    obtain ⟨its, rv, p, hz⟩ := I.list hq
    obtain ⟨f0, f1, f2, f3, f4, f5⟩ := hf it (by simp)
    have hl := rv.length
    exact wpAny_pyNext_list_end (I.ok.hd hc) st p.isList (by simp; omega) fun h' eb => ⟨rfl, I.turned (t' := s.toks) (fun b o hb e => eb b o hb e) f0 f1 f3 f4 f5⟩
  self := fun _ _ _ _ _ st h => wpAny_pyIter_listiter st h
theorem turn_tuple {P : Program} {w : World} {K : PySem.W.Frag} {tg : Expr} (a it : Addr) : Turn P w K tg (Itt K a) [it] it (fun i h => h.IsTupleIter it a i) where
  mem := by simp
  obj := fun i h st b hb => by
    have e : b = it := by simpa using hb
    subst e
    obtain ⟨o, e, c, d⟩ := st
    exact ⟨o, e, fun v z => by rw [d] at z; cases z⟩
  keep := fun i h h' st k => st.at fun o e => k it (by simp) o e
  item := by
    intro X hP hw hK hc i pins s σ H E I hf st hg
    subst hP hw hK
    obtain ⟨xs, x, hq, hx⟩ := hg
    obtain ⟨its, rv, p, hz⟩ := I.tuple hq
    obtain ⟨u, hu, ru⟩ := rv.get hx
    obtain ⟨f0, f1, f2, f3, f4, f5⟩ := hf it (by simp)
    refine wpAny_pyNext_tuple_item st (show s.heap.IsTuple a its.toArray from p) (x := u) (by simpa using hu) fun h' st' sb => ?_
    have I1 : Inv X pins σ H { s with heap := h' } := I.turned (t' := s.toks) (fun b o hb e => (sb.2 b hb).trans e) f0 f1 f3 f4 f5
    obtain ⟨o, e, c, d⟩ := id st'
    exact ⟨u, rfl, go_of (s := { s with heap := h' }) e c d (by decide) ⟨x, H, I1, ru, ⟨rfl, fun ys hy => by rw [I.tuple_inj hy hq]; exact hx⟩, st', fun b hb => (hf b hb).1⟩⟩
  done := by
    intro X hP hw hK hc i pins s σ H E I hf st hg
    subst hP hw hK
    obtain ⟨xs, hq, hx⟩ := hg
    obtain ⟨its, rv, p, hz⟩ := I.tuple hq
    obtain ⟨f0, f1, f2, f3, f4, f5⟩ := hf it (by simp)
    have hl := rv.length
    exact wpAny_pyNext_tuple_end (I.ok.hd hc) st (show s.heap.IsTuple a its.toArray from p) (by simp; omega) fun h' eb => ⟨rfl, I.turned (t' := s.toks) (fun b o hb e => eb b o hb e) f0 f1 f3 f4 f5⟩
  self := fun _ _ _ _ _ st h => wpAny_pyIter_tupleiter st h
theorem turn_range {P : Program} {w : World} {K : PySem.W.Frag} {tg : Expr} (it : Addr) (lo : Int) (n : Nat) : Turn P w K tg (Itr lo n) [it] it (fun i h => IsRangeIter h it (lo + (i : Nat) * 1) ((n : Int) - (i : Nat)) 1) where
  mem := by simp
  obj := fun i h st b hb => by
    have e : b = it := by simpa using hb
    subst e
    exact ⟨_, st, fun v z => by
      have z' : Data.fields _ = Data.cell v := z
      cases z'⟩
  keep := fun i h h' st k => k it (by simp) _ st
  item := by
    intro X hP hw hK hc i pins s σ H E I hf st hg
    subst hP hw hK
    obtain ⟨f0, f1, f2, f3, f4, f5⟩ := hf it (by simp)
    have W := Walks.range (prog := X.prog) (w := X.w) (I.ok.hd hc) it lo 1 n
    refine W.item i s _ _ hg st fun v h' tk hv st' kk => ?_
    obtain ⟨t, rfl⟩ := hv
    have I1 : Inv X pins σ H { s with heap := h', toks := tk } := I.turned (fun b o hb e => kk b o (by simpa using hb) e) f0 f1 f3 f4 f5
    refine ⟨_, rfl, go_of (s := { s with heap := h', toks := tk }) (n := "range_iterator") st' rfl rfl (by decide) ⟨.int (lo + i), H, I1, ⟨t, ?_⟩, ⟨rfl, rfl⟩, st', fun b hb => (hf b hb).1⟩⟩
    rw [Int.mul_one]
  done := by
    intro X hP hw hK hc i pins s σ H E I hf st hg
    subst hP hw hK
    obtain ⟨f0, f1, f2, f3, f4, f5⟩ := hf it (by simp)
    exact wpAny_pyNext_range_end (I.ok.hd hc) st (by have : n ≤ i := hg; omega) fun h' eb => ⟨rfl, I.turned (t' := s.toks) (fun b o hb e => eb b o hb e) f0 f1 f3 f4 f5⟩
  self := fun _ _ _ _ _ st h => wpAny_pyIter_rangeiter st h
end L2

namespace L2
open PySem PySem.Spec PyProof.Rows
section
variable {X : Cx} {tg : Expr}
def iList (K : PySem.W.Frag) (tl : TE) : TI := fun σ H R => tl σ H fun x H1 => ∃ a, x = .ref a ∧ (∃ xs, SqL K H1 a xs) ∧ R (Itl K a) H1
def iTup (K : PySem.W.Frag) (tl : TE) : TI := fun σ H R => tl σ H fun x H1 => ∃ a, x = .ref a ∧ (∃ xs, SqT K H1 a xs) ∧ R (Itt K a) H1
theorem pi_list {l : Expr} {tl : TE} (hl : PE X l tl) : PI X tg l (iList X.K tl) := by
  intro pins s σ H R I h
  refine thn (hl pins s σ H _ I h) fun v s1 ⟨x, H1, I1, r1, q1⟩ => ?_
  obtain ⟨a, e, ⟨xs, hq⟩, q⟩ := q1
  subst e
  cases r1
  obtain ⟨its, rv, p, hz⟩ := I1.list hq
  refine wpAny_pyIter_list p.isList ?_
  refine ⟨s1.heap.objs.size, [s1.heap.objs.size], _, _, H1, rfl, I1.kept (t' := s1.toks) fun b o e => Heap.get?_push_of_some _ e, turn_list a _, ⟨_, Heap.get?_push_size _ rfl, rfl, rfl⟩, fun b hb => ?_, q⟩
  have e : b = s1.heap.objs.size := by simpa using hb
  subst e
  exact I1.fpOk (Nat.le_refl _) (I1.hok.fresh (Nat.le_refl _))
theorem pi_tup {l : Expr} {tl : TE} (hl : PE X l tl) : PI X tg l (iTup X.K tl) := by
  intro pins s σ H R I h
  refine thn (hl pins s σ H _ I h) fun v s1 ⟨x, H1, I1, r1, q1⟩ => ?_
  obtain ⟨a, e, ⟨xs, hq⟩, q⟩ := q1
  subst e
  cases r1
  obtain ⟨its, rv, p, hz⟩ := I1.tuple hq
  refine wpAny_pyIter_tuple (show s1.heap.IsTuple a its.toArray from p) ?_
  refine ⟨s1.heap.objs.size, [s1.heap.objs.size], _, _, H1, rfl, I1.kept (t' := s1.toks) fun b o e => Heap.get?_push_of_some _ e, turn_tuple a _, ⟨_, Heap.get?_push_size _ rfl, rfl, rfl⟩, fun b hb => ?_, q⟩
  have e : b = s1.heap.objs.size := by simpa using hb
  subst e
  exact I1.fpOk (Nat.le_refl _) (I1.hok.fresh (Nat.le_refl _))
/-- a range object just made, walked -/
theorem range_it {pins : List (Addr × Obj)} {σ : St} {H : Hp} {s : Shared} {R : It → Hp → Prop} {E : Value → Shared → Prop} {lo hi : Int} {t u v : Tok} {tk : Nat} (I : Inv X pins σ H s) (h1 : -(2 ^ 62) ≤ lo) (h2 : lo < 2 ^ 62) (h3 : -(2 ^ 62) ≤ hi) (h4 : hi < 2 ^ 62)
    (q : R (Itr lo (hi - lo).toNat) H) : wpAny (model X.prog X.w) X.A (pyIter (.ref s.heap.objs.size)) (PIE X pins σ tg R) E { s with heap := s.heap.push { cls := .type "range", data := .fields #[.int lo t, .int hi u, .int 1 v] }, toks := tk } := by
  refine wpAny_pyIter_range (IsRange.new ..) (small_one h1 h2 h3 h4) ?_
  have I1 : Inv X pins σ H { s with heap := s.heap.push { cls := .type "range", data := .fields #[.int lo t, .int hi u, .int 1 v] }, toks := tk } := I.kept fun b o e => Heap.get?_push_of_some _ e
  refine ⟨(s.heap.push { cls := .type "range", data := .fields #[.int lo t, .int hi u, .int 1 v] }).objs.size, [(s.heap.push { cls := .type "range", data := .fields #[.int lo t, .int hi u, .int 1 v] }).objs.size], _, _, H, rfl,
    I1.kept (t' := tk) fun b o e => Heap.get?_push_of_some _ e, turn_range _ lo (hi - lo).toNat, ?_, fun b hb => ?_, q⟩
  · have e1 : lo + ((0 : Nat) : Int) * 1 = lo := by simp
    have e2 : (((hi - lo).toNat : Nat) : Int) - ((0 : Nat) : Int) = Builtin.Range.rangeSize lo hi 1 := by rw [rangeSize_one]; split <;> omega
    show IsRangeIter _ _ (lo + ((0 : Nat) : Int) * 1) ((((hi - lo).toNat : Nat) : Int) - ((0 : Nat) : Int)) 1
    rw [e1, e2]
    exact Heap.get?_push_size _ rfl
  · have e : b = (s.heap.push { cls := .type "range", data := .fields #[.int lo t, .int hi u, .int 1 v] }).objs.size := by simpa using hb
    subst e
    exact I1.fpOk (Nat.le_refl _) (I1.hok.fresh (Nat.le_refl _))
def iRng1 (ta : TA) : TI := fun σ H R => ta σ H fun vs H1 => ∃ j : Int, vs = [.int j] ∧ -(2 ^ 62) ≤ j ∧ j < 2 ^ 62 ∧ R (Itr 0 j.toNat) H1
def iRng2 (ta : TA) : TI := fun σ H R => ta σ H fun vs H1 => ∃ i j : Int, vs = [.int i, .int j] ∧ (-(2 ^ 62) ≤ i ∧ i < 2 ^ 62 ∧ -(2 ^ 62) ≤ j ∧ j < 2 ^ 62) ∧ R (Itr i (j - i).toNat) H1
theorem pi_range1 {a : Expr} {ta : TA} {p pos : Pos} (hg : Gl X "range") (hm : X.mg "range" = none) (ha : PA X [a] ta) (hs : starEach [a] X.env = [(false, eval a X.env)] := by rfl) : PI X tg (.Call (.Name "range" p) [a] [] pos) (iRng1 ta) := by
  intro pins s σ H R I h
  refine Call_ (ld_blt I hg hm boot_range (PyProof.Rows.callWith_type1 (thn (ha pos pins s σ H _ I h) fun us s1 ⟨vs, H1, I1, r1, q1⟩ => ?_) hs rfl))
  obtain ⟨j, e, q1, q2, q⟩ := q1
  subst e
  cases r1 with
  | cons r rr =>
    cases rr
    obtain ⟨t, rfl⟩ := r
    exact call_range_1 (range_it I1 (by omega) (by omega) q1 q2 (by simpa using q))
theorem pi_range2 {a b : Expr} {ta : TA} {p pos : Pos} (hg : Gl X "range") (hm : X.mg "range" = none) (ha : PA X [a, b] ta) (hs : starEach [a, b] X.env = [(false, eval a X.env), (false, eval b X.env)] := by rfl) (hs2 : starEach [b] X.env = [(false, eval b X.env)] := by rfl) :
    PI X tg (.Call (.Name "range" p) [a, b] [] pos) (iRng2 ta) := by
  intro pins s σ H R I h
  refine Call_ (ld_blt I hg hm boot_range (PyProof.Rows.callWith_type1 (thn (ha pos pins s σ H _ I h) fun us s1 ⟨vs, H1, I1, r1, q1⟩ => ?_) (by rw [hs, hs2]) (by rw [hs2]; rfl)))
  obtain ⟨i, j, e, ⟨q1, q2, q3, q4⟩, q⟩ := q1
  subst e
  cases r1 with
  | cons r rr =>
    cases rr with
    | cons r' rr =>
      cases rr
      obtain ⟨t, rfl⟩ := r
      obtain ⟨t', rfl⟩ := r'
      exact call_range_2 (range_it I1 q1 q2 q3 q4 q)

/-! ### for -/
/-- W: the invariant by the turn and a measure; N: what the body is to reach -/
def tFor (wi : TI) (g : TG) (tb : TS) : TS := fun D σ H => wi σ H fun J H1 => ∃ W : Nat → Nat → St → Hp → Prop, (∃ m, W 0 m σ H1) ∧ ∀ i m σ H, W i m σ H →
  (J.stop i H ∧ D.nx σ H) ∨ (J.go i H ∧ ∃ N : St → Hp → Prop, (∀ σ' H', N σ' H' → ∃ m', m' < m ∧ W (i + 1) m' σ' H') ∧ ∀ x H', J.yld i H x H' → g x σ H' fun σ2 H2 => tb { D with nx := N, ct := N, bk := D.nx } σ2 H2)
/-- the records at fp as they stand -/
def pinsAt (fp : List Addr) (h : Heap) : List (Addr × Obj) := fp.filterMap fun b => (h.get? b).map fun o => (b, o)
theorem mem_pinsAt {fp : List Addr} {h : Heap} {b : Addr} {o : Obj} (hb : b ∈ fp) (e : h.get? b = some o) : (b, o) ∈ pinsAt fp h := List.mem_filterMap.mpr ⟨b, hb, by rw [e]; rfl⟩
theorem of_pinsAt {fp : List Addr} {h : Heap} {p : Addr × Obj} (hp : p ∈ pinsAt fp h) : p.1 ∈ fp ∧ h.get? p.1 = some p.2 := by
  obtain ⟨b, hb, e⟩ := List.mem_filterMap.mp hp
  cases q : h.get? b with
  | none => rw [q] at e; cases e
  | some o =>
    rw [q] at e
    have e' : (b, o) = p := Option.some.inj e
    subst e'
    exact ⟨hb, q⟩
theorem Inv.pinned {pins : List (Addr × Obj)} {σ : St} {H : Hp} {s : Shared} {fp : List Addr} (I : Inv X pins σ H s) (hf : ∀ b ∈ fp, FpOk X pins H b) (ho : ∀ b ∈ fp, ∃ o, s.heap.get? b = some o ∧ ∀ v, o.data ≠ .cell v) : Inv X (pins ++ pinsAt fp s.heap) σ H s :=
  I.pins_of fun p hp => (List.mem_append.mp hp).elim (fun z => I.pin p (List.mem_append_right _ z)) fun z => by
    obtain ⟨hb, e⟩ := of_pinsAt z
    obtain ⟨f0, f1, f2, _⟩ := hf p.1 hb
    obtain ⟨o, e', d⟩ := ho p.1 hb
    rw [e] at e'; cases e'
    exact ⟨e, f0, f1, f2, d⟩
theorem Inv.unpinned {pins pl : List (Addr × Obj)} {σ : St} {H : Hp} {s : Shared} (I : Inv X (pins ++ pl) σ H s) : Inv X pins σ H s := I.pins_of fun p hp => I.pin p (List.mem_append_right _ (List.mem_append_left _ hp))
theorem ps_for {iter : Expr} {body : List Stmt} {wi : TI} {g : TG} {tb : TS} {pos : Pos} (hp : PassesOwn (model X.prog X.w) X.A X.env X.xe) (hc : X.calm = true) (hi : PI X tg iter wi) (hg : PG X tg g) (hb : PSs X body tb)
    (hs : ∀ x, foldedSetIterable iter X.env x = pure x := by intro _; rfl) : PS X (.For tg iter body [] pos) (tFor wi g tb) := by
  intro pins s σ H D I h
  refine wpAny_For (thn (hi pins s σ H _ I h) fun v s1 h1 => thn h1 fun itv s2 h2 => ?_) hs
  obtain ⟨it, fp, tn, J, H2, e, I2, T, st2, f2, W, ⟨m0, w0⟩, turn⟩ := h2
  subst e
  -- what stays true of the iterator's objects through the loop
  have stat : ∀ {H' : Hp}, (∀ b ∈ fp, H' b = none) → ∀ b ∈ fp, FpOk X pins H' b := fun hn b hb => ⟨hn b hb, (f2 b hb).2⟩
  refine codeAny_forLoop_any (fun n s' => ∃ i σ' H', Inv X pins σ' H' s' ∧ tn i s'.heap ∧ (∀ b ∈ fp, H' b = none) ∧ W i n σ' H') ?_ m0 ⟨0, σ, H2, I2, st2, fun b hb => (f2 b hb).1, w0⟩
  rintro n s3 ⟨i, σ3, H3, I3, st3, fr3, w3⟩
  rcases turn i n σ3 H3 w3 with ⟨stop, qn⟩ | ⟨go, N, hN, step⟩
  · refine wpAny_passesOwn hp (thn (T.done X rfl rfl rfl hc i pins s3 σ3 H3 X.xe I3 (stat fr3) st3 stop) fun r s4 ⟨hr, I4⟩ => ?_)
    subst hr
    exact wpAny_execs_nil ⟨σ3, H3, I4, qn⟩
  · refine wpAny_passesOwn hp (thn (T.item X rfl rfl rfl hc i pins s3 σ3 H3 X.xe I3 (stat fr3) st3 go) fun r s4 ⟨u, hr, h4⟩ => ?_)
    subst hr
    refine wpAny_passesOwn hp (thn h4 fun _ s5 ⟨x, H5, I5, r5, y5, st5, fr5⟩ => ?_)
    have I5' := I5.pinned (stat fr5) (T.obj _ _ st5)
    refine wpAny_passesOwn hp (thn (hg _ s5 σ3 H5 x u _ I5' r5 (step x H5 y5)) fun _ s6 ⟨σ6, H6, I6, q6⟩ => ?_)
    refine wpAny_passesOwn hp (thn (hb _ s6 σ6 H6 _ I6 q6) fun f s7 q7 => ?_)
    have again : ∀ {σ7 : St} {H7 : Hp}, Inv X (pins ++ pinsAt fp s5.heap) σ7 H7 s7 → N σ7 H7 → ∃ m, m < n ∧ ∃ i σ' H', Inv X pins σ' H' s7 ∧ tn i s7.heap ∧ (∀ b ∈ fp, H' b = none) ∧ W i m σ' H' := fun {σ7 H7} I7 n7 => by
      obtain ⟨m', hm, w7⟩ := hN σ7 H7 n7
      refine ⟨m', hm, i + 1, σ7, H7, I7.unpinned, T.keep _ _ _ st5 fun b hb o e => (I7.pin (b, o) (List.mem_append_right _ (List.mem_append_right _ (mem_pinsAt hb e)))).1, fun b hb => ?_, w7⟩
      obtain ⟨o, e, d⟩ := T.obj _ _ st5 b hb
      exact (I7.pin (b, o) (List.mem_append_right _ (List.mem_append_right _ (mem_pinsAt hb e)))).2.1
    cases f with
    | next => obtain ⟨σ7, H7, I7, n7⟩ := q7; exact again I7 n7
    | cont => obtain ⟨σ7, H7, I7, n7⟩ := q7; exact again I7 n7
    | brk => obtain ⟨σ7, H7, I7, q7⟩ := q7; exact ⟨σ7, H7, I7.unpinned, q7⟩
    | ret v => obtain ⟨x7, σ7, H7, I7, r7, q7⟩ := q7; exact ⟨x7, σ7, H7, I7.unpinned, r7, q7⟩
end

/-! ### the forms one uses -/
/-- over a list that the body leaves as it is -/
theorem for_list {K : PySem.W.Frag} {a : Addr} {xs : List V} {g : TG} {tb : TS} {D : Ends} {σ : St} {H : Hp} (Pv : Nat → St → Hp → Prop) (h0 : Pv 0 σ H) (hl : ∀ i σ H, i ≤ xs.length → Pv i σ H → SqL K H a xs)
    (hs : ∀ i x σ H, xs[i]? = some x → Pv i σ H → g x σ H fun σ2 H2 => tb { D with nx := Pv (i + 1), ct := Pv (i + 1), bk := D.nx } σ2 H2) (hd : ∀ σ H, Pv xs.length σ H → D.nx σ H) :
    ∃ W : Nat → Nat → St → Hp → Prop, (∃ m, W 0 m σ H) ∧ ∀ i m σ H, W i m σ H →
      ((Itl K a).stop i H ∧ D.nx σ H) ∨ ((Itl K a).go i H ∧ ∃ N : St → Hp → Prop, (∀ σ' H', N σ' H' → ∃ m', m' < m ∧ W (i + 1) m' σ' H') ∧ ∀ x H', (Itl K a).yld i H x H' → g x σ H' fun σ2 H2 => tb { D with nx := N, ct := N, bk := D.nx } σ2 H2) := by
  refine ⟨fun i m σ H => m = xs.length - i ∧ i ≤ xs.length ∧ Pv i σ H, ⟨xs.length, by simp, Nat.zero_le _, h0⟩, ?_⟩
  rintro i m σ H ⟨rfl, hi, p⟩
  have q := hl i σ H hi p
  by_cases hlt : i < xs.length
  · refine .inr ⟨⟨xs, xs[i], q, by simp [hlt]⟩, Pv (i + 1), fun σ' H' p' => ⟨xs.length - (i + 1), by omega, rfl, hlt, p'⟩, fun x H' y => ?_⟩
    obtain ⟨e, y⟩ := y
    subst e
    exact hs i x σ _ (y xs q) p
  · have e : i = xs.length := by omega
    subst e
    exact .inl ⟨⟨xs, q, Nat.le_refl _⟩, hd σ H p⟩
theorem for_range {lo : Int} {n : Nat} {g : TG} {tb : TS} {D : Ends} {σ : St} {H : Hp} (Pv : Nat → St → Hp → Prop) (h0 : Pv 0 σ H)
    (hs : ∀ i σ H, i < n → Pv i σ H → g (.int (lo + i)) σ H fun σ2 H2 => tb { D with nx := Pv (i + 1), ct := Pv (i + 1), bk := D.nx } σ2 H2) (hd : ∀ σ H, Pv n σ H → D.nx σ H) :
    ∃ W : Nat → Nat → St → Hp → Prop, (∃ m, W 0 m σ H) ∧ ∀ i m σ H, W i m σ H →
      ((Itr lo n).stop i H ∧ D.nx σ H) ∨ ((Itr lo n).go i H ∧ ∃ N : St → Hp → Prop, (∀ σ' H', N σ' H' → ∃ m', m' < m ∧ W (i + 1) m' σ' H') ∧ ∀ x H', (Itr lo n).yld i H x H' → g x σ H' fun σ2 H2 => tb { D with nx := N, ct := N, bk := D.nx } σ2 H2) := by
  refine ⟨fun i m σ H => m = n - i ∧ i ≤ n ∧ Pv i σ H, ⟨n, by simp, Nat.zero_le _, h0⟩, ?_⟩
  rintro i m σ H ⟨rfl, hi, p⟩
  by_cases hlt : i < n
  · refine .inr ⟨hlt, Pv (i + 1), fun σ' H' p' => ⟨n - (i + 1), by omega, rfl, hlt, p'⟩, fun x H' y => ?_⟩
    obtain ⟨e, y⟩ := y
    subst e y
    exact hs i σ _ hlt p
  · have e : i = n := by omega
    subst e
    exact .inl ⟨Nat.le_refl _, hd σ H p⟩
end L2

namespace L2
open PySem PySem.Spec PyProof.Rows

abbrev R2 := V → V → Hp → VK → Prop
/-- a two-place operation on values: f is binaryOp op, inplaceOp op or compareOp op -/
def OpR (X : Cx) (f : Value → Value → Sem Value) (r : R2) : Prop :=
  ∀ (pins : List (Addr × Obj)) (s : Shared) (σ : St) (H : Hp) (x y : V) (v u : Value) (Q : VK), Inv X pins σ H s → RelV x v → RelV y u → r x y H Q →
    wpAny (model X.prog X.w) X.A (f v u) (EP X pins σ Q) X.xe s
/-- a one-place operation -/
def UnR (X : Cx) (f : Value → Sem Value) (r : V → Hp → VK → Prop) : Prop :=
  ∀ (pins : List (Addr × Obj)) (s : Shared) (σ : St) (H : Hp) (x : V) (v : Value) (Q : VK), Inv X pins σ H s → RelV x v → r x H Q →
    wpAny (model X.prog X.w) X.A (f v) (EP X pins σ Q) X.xe s
/-- a call of a value that is known (a builtin, a type) with values -/
def CallR (X : Cx) (f : Value) (r : List V → Hp → VK → Prop) : Prop :=
  ∀ (pins : List (Addr × Obj)) (s : Shared) (σ : St) (H : Hp) (xs : List V) (us : List Value) (Q : VK), Inv X pins σ H s → Vals xs us → r xs H Q →
    wpAny (model X.prog X.w) X.A (call f us) (EP X pins σ Q) X.xe s
/-- a value's truth -/
def TruR (X : Cx) (r : V → Hp → (Bool → Hp → Prop) → Prop) : Prop :=
  ∀ (pins : List (Addr × Obj)) (s : Shared) (σ : St) (H : Hp) (x : V) (v : Value) (Q : Bool → Hp → Prop), Inv X pins σ H s → RelV x v → r x H Q →
    wpAny (model X.prog X.w) X.A (truthy v) (TP X pins σ Q) X.xe s

def tOp (r : R2) (ta tb : TE) : TE := fun σ H Q => ta σ H fun x H1 => tb σ H1 fun y H2 => r x y H2 Q
def tUn (r : V → Hp → VK → Prop) (ta : TE) : TE := fun σ H Q => ta σ H fun x H1 => r x H1 Q
/-- ints in, under C, and a value out -/
def rI (C : Int → Int → Prop) (g : Int → Int → V) : R2 := fun x y H Q => ∃ i j, x = .int i ∧ y = .int j ∧ C i j ∧ Q (g i j) H
def rI0 (g : Int → Int → V) : R2 := fun x y H Q => ∃ i j, x = .int i ∧ y = .int j ∧ Q (g i j) H
def rU (g : Int → V) : V → Hp → VK → Prop := fun x H Q => ∃ i, x = .int i ∧ Q (g i) H

section
variable {X : Cx} {a b c : Expr} {ta tb tc : TE} {pos : Pos}

theorem binT (ha : PE X a ta) (hb : PE X b tb) {pins : List (Addr × Obj)} {s : Shared} {σ : St} {H : Hp} {R : V → V → Hp → Prop} (I : Inv X pins σ H s)
    (h : ta σ H fun x H1 => tb σ H1 fun y H2 => R x y H2) {Q : Value → Shared → Prop} {f : Value → Value → Sem Value}
    (hf : ∀ v u s2 x y H2, Inv X pins σ H2 s2 → RelV x v → RelV y u → R x y H2 → wpAny (model X.prog X.w) X.A (f v u) Q X.xe s2) :
    wpAny (model X.prog X.w) X.A (eval a X.env) (fun v s₁ => wpAny (model X.prog X.w) X.A (eval b X.env) (fun u s₂ => wpAny (model X.prog X.w) X.A (f v u) Q X.xe s₂) X.xe s₁) X.xe s := by
  refine thn (ha pins s σ H _ I h) fun v s1 ⟨x, H1, I1, r1, q1⟩ => ?_
  refine thn (hb pins s1 σ H1 _ I1 q1) fun u s2 ⟨y, H2, I2, r2, q2⟩ => ?_
  exact hf v u s2 x y H2 I2 r1 r2 q2

theorem pe_op {op : Operator} {r : R2} (ho : OpR X (binaryOp op) r) (ha : PE X a ta) (hb : PE X b tb) : PE X (.BinOp a op b pos) (tOp r ta tb) := by
  intro pins s σ H Q I h
  exact wpAny_BinOp (binT ha hb I h fun v u s2 x y H2 I2 rx ry q => ho pins s2 σ H2 x y v u Q I2 rx ry q)
theorem pe_un {op : UnaryOp} {r : V → Hp → VK → Prop} (ho : UnR X (unaryOp op) r) (ha : PE X a ta) : PE X (.UnaryOp op a pos) (tUn r ta) := by
  intro pins s σ H Q I h
  exact UnaryOp_ (thn (ha pins s σ H _ I h) fun v s1 ⟨x, H1, I1, r1, q1⟩ => ho pins s1 σ H1 x v Q I1 r1 q1)
/-! ### ints -/
theorem opI {f : Value → Value → Sem Value} {C : Int → Int → Prop} {g : Int → Int → Int}
    (rule : ∀ (i j : Int) (t u : Tok) (s : Shared) (Q : Value → Shared → Prop) (E : Value → Shared → Prop), C i j → Q (.int (g i j) s.toks) { s with toks := s.toks + 1 } → wpAny (model X.prog X.w) X.A (f (.int i t) (.int j u)) Q E s) :
    OpR X f (rI C fun i j => .int (g i j)) := by
  intro pins s σ H x y v u Q I rx ry h
  obtain ⟨i, j, rfl, rfl, hc, q⟩ := h
  obtain ⟨t, rfl⟩ := rx
  obtain ⟨t', rfl⟩ := ry
  exact rule i j t t' s _ _ hc ⟨.int (g i j), H, I.tok _, ⟨_, rfl⟩, q⟩
theorem opI0 {f : Value → Value → Sem Value} {g : Int → Int → Int}
    (rule : ∀ (i j : Int) (t u : Tok) (s : Shared) (Q : Value → Shared → Prop) (E : Value → Shared → Prop), Q (.int (g i j) s.toks) { s with toks := s.toks + 1 } → wpAny (model X.prog X.w) X.A (f (.int i t) (.int j u)) Q E s) :
    OpR X f (rI0 fun i j => .int (g i j)) := by
  intro pins s σ H x y v u Q I rx ry h
  obtain ⟨i, j, rfl, rfl, q⟩ := h
  obtain ⟨t, rfl⟩ := rx
  obtain ⟨t', rfl⟩ := ry
  exact rule i j t t' s _ _ ⟨.int (g i j), H, I.tok _, ⟨_, rfl⟩, q⟩
theorem opB0 {f : Value → Value → Sem Value} {g : Int → Int → Bool}
    (rule : ∀ (i j : Int) (t u : Tok) (s : Shared) (Q : Value → Shared → Prop) (E : Value → Shared → Prop), Q (.bool (g i j)) s → wpAny (model X.prog X.w) X.A (f (.int i t) (.int j u)) Q E s) :
    OpR X f (rI0 fun i j => .bl (g i j)) := by
  intro pins s σ H x y v u Q I rx ry h
  obtain ⟨i, j, rfl, rfl, q⟩ := h
  obtain ⟨t, rfl⟩ := rx
  obtain ⟨t', rfl⟩ := ry
  exact rule i j t t' s _ _ ⟨.bl (g i j), H, I, rfl, q⟩

def CDiv (i j : Int) : Prop := 0 < j ∧ j < 1073741824
def CDivN (i j : Int) : Prop := j ≠ 0 ∧ j.natAbs < 1073741824
def CPow (i j : Int) : Prop := 0 ≤ j ∧ j ≤ 1000000 ∧ i.natAbs < 2 ^ 64
def CMul (i j : Int) : Prop := (-(2 ^ 64) < i ∧ i < 2 ^ 64) ∨ (-(2 ^ 64) < j ∧ j < 2 ^ 64)
theorem CMul.ok {i j : Int} (h : CMul i j) : IntMulOk i j := by
  rcases h with ⟨h1, h2⟩ | ⟨h1, h2⟩
  · exact .of_left (intBits_le_64 h1 h2)
  · exact .of_right (intBits_le_64 h1 h2)
theorem op_add : OpR X (binaryOp .Add) (rI0 fun i j => .int (i + j)) := opI0 fun _ _ _ _ _ _ _ q => add_int q
theorem op_sub : OpR X (binaryOp .Sub) (rI0 fun i j => .int (i - j)) := opI0 fun _ _ _ _ _ _ _ q => sub_int q
/-- % by a positive divisor of any size -/
theorem op_mod : OpR X (binaryOp .Mod) (rI (fun _ j => 0 < j) fun i j => .int (i % j)) := opI fun i j _ _ _ _ _ hc q => by
  have h1 : (0 : Int) < j := hc
  exact mod_int' (by omega) (by rw [Int.fmod_eq_emod_of_nonneg i (by omega)]; exact q)
theorem unI {f : Value → Sem Value} {g : Int → Int}
    (rule : ∀ (i : Int) (t : Tok) (s : Shared) (Q : Value → Shared → Prop) (E : Value → Shared → Prop), Q (.int (g i) s.toks) { s with toks := s.toks + 1 } → wpAny (model X.prog X.w) X.A (f (.int i t)) Q E s) :
    UnR X f (rU fun i => .int (g i)) := by
  intro pins s σ H x v Q I rx h
  obtain ⟨i, rfl, q⟩ := h
  obtain ⟨t, rfl⟩ := rx
  exact rule i t s _ _ ⟨.int (g i), H, I.tok _, ⟨_, rfl⟩, q⟩
theorem un_neg : UnR X (unaryOp .USub) (rU fun i => .int (-i)) := unI fun _ _ _ _ _ q => neg_int q
/-! ### bools among ints: n += (a < b) -/
end

/-! ### comparisons -/
/-- the scalars that == tells apart as data does -/
def scal : V → V → Bool
  | .non, .non => true | .non, .int _ => true | .int _, .non => true | .non, .bl _ => true | .bl _, .non => true | .non, .str _ => true | .str _, .non => true
  | .int _, .int _ => true | .bl _, .bl _ => true | .str _, .str _ => true | .byt _, .byt _ => true
  | .int _, .str _ => true | .str _, .int _ => true | .bl _, .str _ => true | .str _, .bl _ => true
  | _, _ => false
def rEq : R2 := fun x y H Q => scal x y = true ∧ Q (.bl (decide (x = y))) H
def rNe : R2 := fun x y H Q => scal x y = true ∧ Q (.bl (!decide (x = y))) H

theorem dec_int {i j : Int} : decide (V.int i = V.int j) = (i == j) := by
  rw [Bool.eq_iff_iff]
  simp
theorem dec_bl {i j : Bool} : decide (V.bl i = V.bl j) = (i == j) := by
  rw [Bool.eq_iff_iff]
  simp
theorem dec_str {i j : Str} : decide (V.str i = V.str j) = (i == j) := by
  rw [Bool.eq_iff_iff]
  simp
theorem dec_byt {i j : Array UInt8} : decide (V.byt i = V.byt j) = (i.toList == j.toList) := by
  rw [Bool.eq_iff_iff]
  cases i
  cases j
  simp

section
variable {X : Cx} {a b c : Expr} {ta tb tc : TE} {pos : Pos}
theorem fin_bl {pins : List (Addr × Obj)} {σ : St} {H : Hp} {s : Shared} {Q : VK} {k k' : Bool} (I : Inv X pins σ H s) (q : Q (.bl k) H) (e : k = k') : EP X pins σ Q (.bool k') s := by
  subst e
  exact ⟨.bl k, H, I, rfl, q⟩
theorem op_eq : OpR X (compareOp .Eq) rEq := by
  intro pins s σ H x y v u Q I rx ry h
  obtain ⟨hs, q⟩ := h
  cases x with
  | non =>
    cases rx
    cases y with
    | non => cases ry; exact PySem.EqNone.eq_none_none (fin_bl I q (by simp))
    | bl j => cases ry; exact PySem.EqNone.eq_none_bool (fin_bl I q (by simp))
    | int j => obtain ⟨t', rfl⟩ := ry; exact PySem.EqNone.eq_none_int (fin_bl I q (by simp))
    | str j => obtain ⟨t', rfl⟩ := ry; exact PySem.EqNone.eq_none_str (fin_bl I q (by simp))
    | _ => exact absurd (show false = true from hs) Bool.false_ne_true
  | bl i =>
    cases rx
    cases y with
    | non => cases ry; exact PySem.EqNone.eq_bool_none (fin_bl I q (by simp))
    | bl j => cases ry; exact eq_bool (fin_bl I q dec_bl)
    | str j => obtain ⟨t', rfl⟩ := ry; exact PySem.EqMixed.eq_bool_str (fin_bl I q (by simp))
    | _ => exact absurd (show false = true from hs) Bool.false_ne_true
  | int i =>
    obtain ⟨t, rfl⟩ := rx
    cases y with
    | non => cases ry; exact PySem.EqNone.eq_int_none (fin_bl I q (by simp))
    | int j => obtain ⟨t', rfl⟩ := ry; exact eq_int (fin_bl I q dec_int)
    | str j => obtain ⟨t', rfl⟩ := ry; exact PySem.EqMixed.eq_int_str (fin_bl I q (by simp))
    | _ => exact absurd (show false = true from hs) Bool.false_ne_true
  | str i =>
    obtain ⟨t, rfl⟩ := rx
    cases y with
    | non => cases ry; exact PySem.EqNone.eq_str_none (fin_bl I q (by simp))
    | bl j => cases ry; exact PySem.EqMixed.eq_str_bool (fin_bl I q (by simp))
    | int j => obtain ⟨t', rfl⟩ := ry; exact PySem.EqMixed.eq_str_int (fin_bl I q (by simp))
    | str j => obtain ⟨t', rfl⟩ := ry; exact eq_str (fin_bl I q dec_str)
    | _ => exact absurd (show false = true from hs) Bool.false_ne_true
  | byt i =>
    obtain ⟨t, rfl⟩ := rx
    cases y with
    | byt j => obtain ⟨t', rfl⟩ := ry; exact PySem.W.eq_bytes (fin_bl I q dec_byt)
    | _ => exact absurd (show false = true from hs) Bool.false_ne_true
  | _ => cases y <;> exact absurd (show false = true from hs) Bool.false_ne_true
theorem op_ne : OpR X (compareOp .NotEq) rNe := by
  intro pins s σ H x y v u Q I rx ry h
  obtain ⟨hs, q⟩ := h
  cases x with
  | non =>
    cases rx
    cases y with
    | non => cases ry; exact PySem.EqNone.ne_none_none (fin_bl I q (by simp))
    | bl j => cases ry; exact PySem.EqNone.ne_none_bool (fin_bl I q (by simp))
    | int j => obtain ⟨t', rfl⟩ := ry; exact PySem.EqNone.ne_none_int (fin_bl I q (by simp))
    | str j => obtain ⟨t', rfl⟩ := ry; exact PySem.EqNone.ne_none_str (fin_bl I q (by simp))
    | _ => exact absurd (show false = true from hs) Bool.false_ne_true
  | bl i =>
    cases rx
    cases y with
    | non => cases ry; exact PySem.EqNone.ne_bool_none (fin_bl I q (by simp))
    | bl j => cases ry; exact ne_bool (fin_bl I q (congrArg not dec_bl))
    | str j => obtain ⟨t', rfl⟩ := ry; exact PySem.EqMixed.ne_bool_str (fin_bl I q (by simp))
    | _ => exact absurd (show false = true from hs) Bool.false_ne_true
  | int i =>
    obtain ⟨t, rfl⟩ := rx
    cases y with
    | non => cases ry; exact PySem.EqNone.ne_int_none (fin_bl I q (by simp))
    | int j => obtain ⟨t', rfl⟩ := ry; exact ne_int (fin_bl I q (congrArg not dec_int))
    | str j => obtain ⟨t', rfl⟩ := ry; exact PySem.EqMixed.ne_int_str (fin_bl I q (by simp))
    | _ => exact absurd (show false = true from hs) Bool.false_ne_true
  | str i =>
    obtain ⟨t, rfl⟩ := rx
    cases y with
    | non => cases ry; exact PySem.EqNone.ne_str_none (fin_bl I q (by simp))
    | bl j => cases ry; exact PySem.EqMixed.ne_str_bool (fin_bl I q (by simp))
    | int j => obtain ⟨t', rfl⟩ := ry; exact PySem.EqMixed.ne_str_int (fin_bl I q (by simp))
    | str j => obtain ⟨t', rfl⟩ := ry; exact ne_str (fin_bl I q (congrArg not dec_str))
    | _ => exact absurd (show false = true from hs) Bool.false_ne_true
  | byt i =>
    obtain ⟨t, rfl⟩ := rx
    cases y with
    | byt j => obtain ⟨t', rfl⟩ := ry; exact PySem.W.ne_bytes (fin_bl I q (congrArg not dec_byt))
    | _ => exact absurd (show false = true from hs) Bool.false_ne_true
  | _ => cases y <;> exact absurd (show false = true from hs) Bool.false_ne_true

theorem op_lt : OpR X (compareOp .Lt) (rI0 fun i j => .bl (decide (i < j))) := opB0 fun _ _ _ _ _ _ _ q => lt_int q
theorem op_gt : OpR X (compareOp .Gt) (rI0 fun i j => .bl (decide (j < i))) := opB0 fun _ _ _ _ _ _ _ q => gt_int q
/-- is, is not of two objects that are tracked lists or instances -/
def isObj : HO → Bool
  | .lst _ => true
  | .ins _ _ _ => true
  | _ => false
/-- two rules for one operation: by cases -/
theorem OpR.or {f : Value → Value → Sem Value} {r r' : R2} (h : OpR X f r) (h' : OpR X f r') : OpR X f (fun x y H Q => r x y H Q ∨ r' x y H Q) := by
  intro pins s σ H x y v u Q I rx ry q
  rcases q with q | q
  · exact h pins s σ H x y v u Q I rx ry q
  · exact h' pins s σ H x y v u Q I rx ry q

theorem nomark (b : Expr) {op : CmpOp} (h : op ≠ .In := by decide) (h2 : op ≠ .NotIn := by decide) : behindInMarks op b = false := by
  have e1 : (op == CmpOp.In) = false := by cases op <;> first | rfl | exact absurd rfl h
  have e2 : (op == CmpOp.NotIn) = false := by cases op <;> first | rfl | exact absurd rfl h2
  cases b <;> simp [behindInMarks, e1, e2]
/-- a comparison as a value; hm: nomark b, or (for in, not in) by with_unfolding_all rfl -/
theorem pe_cmpR {op : CmpOp} {r : R2} (ho : OpR X (compareOp op) r) (ha : PE X a ta) (hb : PE X b tb) (hm : behindInMarks op b = false) : PE X (.Compare a [op] [b] pos) (tOp r ta tb) := by
  intro pins s σ H Q I h
  exact wpAny_Compare1 (binT ha hb I h fun v u s2 x y H2 I2 rx ry q => ho pins s2 σ H2 x y v u Q I2 rx ry q) hm
/-- a reading of a value as a test -/
def tTest (t : TE) : TT := fun σ H Q => t σ H fun x H' => ∃ k, x = .bl k ∧ Q k H'
theorem pt_cmpR {op : CmpOp} {r : R2} (ho : OpR X (compareOp op) r) (ha : PE X a ta) (hb : PE X b tb) (hm : behindInMarks op b = false) : PT X (.Compare a [op] [b] pos) (tTest (tOp r ta tb)) := by
  intro pins s σ H Q I h
  refine wpAny_isTrue_Compare1 (thn (ha pins s σ H _ I h) fun v s1 ⟨x, H1, I1, r1, q1⟩ => thn (hb pins s1 σ H1 _ I1 q1) fun u s2 ⟨y, H2, I2, r2, q2⟩ =>
    thn (ho pins s2 σ H2 x y v u _ I2 r1 r2 q2) fun c s3 ⟨z, H3, I3, r3, k, e, q3⟩ => ?_) hm
  subst e
  cases r3
  exact wpAny_truthy_bool ⟨H3, I3, q3⟩
/-- a op1 b op2 c -/
def tChain (r r' : R2) (ta tb tc : TE) : TE := fun σ H Q => ta σ H fun x H1 => tb σ H1 fun y H2 => r x y H2 fun z H3 => ∃ k, z = .bl k ∧
  (if k = true then tc σ H3 fun w' H4 => r' y w' H4 Q else Q (.bl false) H3)
/-! ### truth -/
/-- a value's truth by the abstract heap -/
def TruV (K : PySem.W.Frag) (x : V) (H : Hp) (k : Bool) : Prop :=
  match x with
  | .non => k = false
  | .bl b => k = b
  | .int i => k = (i != 0)
  | .str y => y.length ≤ sizeLine ∧ k = ((y.length : Int) != 0)
  | .byt y => y.size ≤ sizeLine ∧ k = ((y.size : Int) != 0)
  | .ref p => (∃ xs, SqL K H p xs ∧ k = !xs.isEmpty) ∨ (∃ xs, SqT K H p xs ∧ k = !xs.isEmpty) ∨ ∃ kvs, H p = some (.dK kvs) ∧ k = !kvs.isEmpty
  | _ => False
theorem line63 : (sizeLine : Nat) < 2 ^ 63 := by rw [sizeLine_eq]; decide
/-! ### strs and bytes -/
def PlainIxT (b : Expr) : Prop := ∀ o i, subscripted b false o i = operate [o, i] (getItem o i)
/-! ### scalar builtins, by CallR -/
theorem vals1 {x : V} {us : List Value} (r : Vals [x] us) : ∃ u, us = [u] ∧ RelV x u := by
  cases r with
  | cons r1 r2 => cases r2; exact ⟨_, rfl, r1⟩
theorem vals2 {x y : V} {us : List Value} (r : Vals [x, y] us) : ∃ u w', us = [u, w'] ∧ RelV x u ∧ RelV y w' := by
  cases r with
  | cons r1 r2 =>
    cases r2 with
    | cons r3 r4 => cases r4; exact ⟨_, _, rfl, r1, r3⟩
theorem call_abs : CallR X (.builtin "abs") (fun xs H Q => ∃ i, xs = [.int i] ∧ Q (.int (if i < 0 then -i else i)) H) := by
  intro pins s σ H xs us Q I r h
  obtain ⟨i, rfl, q⟩ := h
  obtain ⟨u, rfl, t, rfl⟩ := vals1 r
  exact call_abs_int fun u tk => ⟨.int (if i < 0 then -i else i), H, I.tok _, ⟨_, rfl⟩, q⟩
/-- len of a str, a bytes, a list, a tuple -/
def LenV (K : PySem.W.Frag) (x : V) (H : Hp) (n : Nat) : Prop :=
  match x with
  | .str y => y.length ≤ sizeLine ∧ n = y.length
  | .byt y => y.size ≤ sizeLine ∧ n = y.size
  | .ref p => (∃ xs, SqL K H p xs ∧ n = xs.length) ∨ ∃ xs, SqT K H p xs ∧ n = xs.length
  | _ => False
end
end L2

namespace L2
open PySem PySem.Spec PyProof.Rows

/-! ### an instance, its attributes a map -/
structure ObjM (h : Heap) (x dx C : Addr) (mA : Str → Option Value) : Prop where
  obj : h.get? x = some (PySem.W.instObj C dx)
  ns : h.Ns1 dx mA
  ne : dx ≠ x

section
variable {prog : Program} {w : World} {A : Around} {E : Value → Shared → Prop} {s : Shared} {K : PySem.W.Frag} {x dx C f : Addr} {mA : Str → Option Value} {name : Str} {v : Value}

end

/-! ### the attributes as a list of pairs -/
def putF (f : Str) (v : V) : List (Str × V) → List (Str × V)
  | [] => [(f, v)]
  | (g, x) :: r => if g = f then (g, v) :: r else (g, x) :: putF f v r
section
variable {P : Program} {w : World} {H H' : Hp} {h h' : Heap} {a C dx : Addr} {fs fs' : List (Str × V)}
end

/-! ### what of the text a class must have -/
structure Cls (K : PySem.W.Frag) (C : Addr) : Prop where
  pg : PySem.W.plainGet K C Str.empty = true
  hd : PySem.W.hasDictIn K C = true
  po : PySem.W.plainOver K C = true
  sa : PySem.W.findIn K (.ref C) "__setattr__" = some (some (.builtin "object.__setattr__"))
theorem Cls.get {K : PySem.W.Frag} {C : Addr} (c : Cls K C) (f : Str) : PySem.W.plainGet K C f = true := c.pg
/-- no class of it has the name -/
def NoAttr (K : PySem.W.Frag) (C : Addr) (f : Str) : Prop := PySem.W.findIn K (.ref C) f = some none
/-- a constant of the class -/
structure Con (K : PySem.W.Frag) (C : Addr) (f : Str) (v : V) (u : Value) : Prop where
  at_ : PySem.W.findIn K (.ref C) f = some (some u)
  rel : RelV v u
  get : PySem.W.specialIn K u "__get__" = some none
  cp : PySem.W.copiedNames.contains f = false
/-- a method: a plain def of the class or of one above it -/
structure Meth (K : PySem.W.Frag) (C : Addr) (m : Str) (f : Addr) : Prop where
  at_ : PySem.W.findIn K (.ref C) m = some (some (.ref f))
  fn : PySem.W.isFn K (.ref f) = true
  kp : PySem.W.keepIn K (.ref f) = true

section
variable {X : Cx} {pins : List (Addr × Obj)} {σ : St} {H : Hp} {s : Shared} {a C dx : Addr} {fs : List (Str × V)} {f : Str} {v : V} {A : Around} {E : Value → Shared → Prop}

/-- a new instance, tracked, without attributes -/
theorem Inv.made (I : Inv X pins σ H s) : Inv X pins σ (upd (upd H s.heap.objs.size (.own (s.heap.objs.size + 1))) (s.heap.objs.size + 1) (.ins C s.heap.objs.size []))
    { s with heap := (s.heap.push PySem.W.emptyDict).push (PySem.W.instObj C s.heap.objs.size) } := by
  have e1 : (s.heap.push PySem.W.emptyDict).get? s.heap.objs.size = some PySem.W.emptyDict := Heap.get?_push_size s.heap rfl
  have e2 : ((s.heap.push PySem.W.emptyDict).push (PySem.W.instObj C s.heap.objs.size)).get? (s.heap.objs.size + 1) = some (PySem.W.instObj C s.heap.objs.size) := by
    have := Heap.get?_push_size (s.heap.push PySem.W.emptyDict) (o := PySem.W.instObj C s.heap.objs.size) rfl
    rwa [Heap.size_push] at this
  have e3 : (s.heap.push PySem.W.emptyDict).Ns s.heap.objs.size (fun _ => none) := ⟨PySem.W.emptyDict, #[], _, e1, rfl, (fun e he => absurd he (by simp)), fun _ => rfl⟩
  have I1 := I.laid (a := s.heap.objs.size) (o := .own (s.heap.objs.size + 1)) (h' := s.heap.push PySem.W.emptyDict) (t' := s.toks) (fun b u q => Heap.get?_push_of_some _ q) (Nat.le_refl _) ⟨_, e1⟩
  refine I1.laid (a := s.heap.objs.size + 1) (o := .ins C s.heap.objs.size []) (t' := s.toks) (fun b u q => Heap.get?_push_of_some _ q) (Nat.le_of_eq (Heap.size_push _ _)) ?_
  have ne : s.heap.objs.size ≠ s.heap.objs.size + 1 := Nat.ne_of_lt (Nat.lt_succ_self _)
  refine ⟨by rw [upd_ne ne, upd_same], Nat.zero_le _, ne, e2, fun _ => none, (Heap.Ns1.of_empty e3).at fun o q => Heap.get?_push_of_some _ q, fun _ => True.intro, fun y hy => absurd rfl hy⟩

end

/-! ### readings and rules -/
/-- e.f, an attribute of the instance -/
def tFld (K : PySem.W.Frag) (ta : TE) (f : Str) : TE := fun σ H Q => ta σ H fun x H1 => ∃ a C dx fs v, x = .ref a ∧ H1 a = some (.ins C dx fs) ∧ Cls K C ∧ NoAttr K C f ∧ fs.lookup f = some v ∧ Q v H1
/-- e.f, a constant of the class -/
def tCon (K : PySem.W.Frag) (ta : TE) (f : Str) : TE := fun σ H Q => ta σ H fun x H1 => ∃ a C dx fs v u, x = .ref a ∧ H1 a = some (.ins C dx fs) ∧ Cls K C ∧ Con K C f v u ∧ fs.lookup f = none ∧ Q v H1
/-- e.f = value -/
def sFld (K : PySem.W.Frag) (ta tv : TE) (f : Str) : TS := fun D σ H => tv σ H fun y H1 => ta σ H1 fun x H2 => ∃ a C dx fs, x = .ref a ∧ H2 a = some (.ins C dx fs) ∧ Cls K C ∧ NoAttr K C f ∧ fs.length < 1000 ∧
  D.nx σ (upd H2 a (.ins C dx (putF f y fs)))
/-- an augmented operator on two values -/
def InOp (X : Cx) (op : Operator) (rd : V → V → Hp → VK → Prop) : Prop :=
  ∀ (pins : List (Addr × Obj)) (s : Shared) (σ : St) (H : Hp) (x y : V) (u v : Value) (Q : VK), Inv X pins σ H s → RelV x u → RelV y v → rd x y H Q → wpAny (model X.prog X.w) X.A (inplaceOp op u v) (EP X pins σ Q) X.xe s
/-- e.f op= value -/
def sFldAug (K : PySem.W.Frag) (ta tv : TE) (rd : V → V → Hp → VK → Prop) (f : Str) : TS := fun D σ H => ta σ H fun x H1 => ∃ a C dx fs v, x = .ref a ∧ H1 a = some (.ins C dx fs) ∧ Cls K C ∧ NoAttr K C f ∧ fs.lookup f = some v ∧
  tv σ H1 fun y H2 => rd v y H2 fun z H3 => ∃ dx' fs', H3 a = some (.ins C dx' fs') ∧ fs'.length < 1000 ∧ D.nx σ (upd H3 a (.ins C dx' (putF f z fs')))

section
variable {X : Cx} {o e value : Expr} {f : Str} {pos pos' tpos : Pos} {ta tv : TE}
def rAdd : V → V → Hp → VK → Prop := fun x y H Q => ∃ i j, x = .int i ∧ y = .int j ∧ Q (.int (i + j)) H
def rSub : V → V → Hp → VK → Prop := fun x y H Q => ∃ i j, x = .int i ∧ y = .int j ∧ Q (.int (i - j)) H
end

/-! ### isinstance -/
section
variable {X : Cx} {pins : List (Addr × Obj)} {σ : St} {H : Hp} {s : Shared} {A : Around} {E : Value → Shared → Prop} {Q : Value → Shared → Prop} {c : Value} {b : Bool}
/-- the type of a value, as the fragment's deciders take it; for an instance its class -/
inductive TyOf (K : PySem.W.Frag) (H : Hp) : V → Value → Prop where
  | non : TyOf K H .non (.type "NoneType")
  | bl (x : Bool) : TyOf K H (.bl x) (.type "bool")
  | int (i : Int) : TyOf K H (.int i) (.type "int")
  | str (x : Str) : TyOf K H (.str x) (.type "str")
  | flt (x : UInt64) : TyOf K H (.flt x) (.type "float")
  | lst {a : Addr} {xs : List V} (e : H a = some (.lst xs)) : TyOf K H (.ref a) (.type "list")
  | frz {a : Addr} {o : Obj} {xs : List V} (e : H a = some (.frz o (.lst xs))) : TyOf K H (.ref a) (.type "list")
  | tup {a : Addr} {xs : List V} (e : H a = some (.tup xs)) : TyOf K H (.ref a) (.type "tuple")
  | dK {a : Addr} {kvs : List (Key × V)} (e : H a = some (.dK kvs)) : TyOf K H (.ref a) (.type "dict")
  | dT {a : Addr} {kvs : List (List Key × V)} (e : H a = some (.dT kvs)) : TyOf K H (.ref a) (.type "dict")
  | ins {a C dx : Addr} {fs : List (Str × V)} (e : H a = some (.ins C dx fs)) (cl : Cls K C) (ha : PySem.W.findIn K (.ref C) "__class__" = some (some (.builtin "object.__class__")))
      (hn : PySem.W.specialIn K (.builtin "object.__class__") "__get__" = some (some (.builtin "getset_descriptor.__get__"))) (htk : PySem.W.takesIn K (.builtin "object.__class__") = some true)
      (hm : PySem.W.mroIn K C (.type "object") = some true) : TyOf K H (.ref a) (.ref C)
end
end L2

namespace L2
open PySem PySem.Spec PyProof.Rows

/-! ### room -/
structure Room (k : Nat) (A : Around) : Prop where
  hd : A.handled = none
  dp : A.depth + 3 * k + 5 < recursionLimit
  un : A.units + 16 * k + 200 < cLine
theorem Room.mono {j k : Nat} {A : Around} (r : Room k A) (h : j ≤ k) : Room j A := ⟨r.hd, by have := r.dp; omega, by have := r.un; omega⟩
theorem Room.deeper {k : Nat} {A : Around} (r : Room (k + 1) A) (env : Env) : Room k (A.deeper env) :=
  ⟨r.hd, by have := r.dp; show A.depth + 1 + 3 * k + 5 < _; omega, by have := r.un; show A.units + 3 + 16 * k + 200 < _; omega⟩
theorem Room.in1 {k : Nat} {A : Around} (r : Room (k + 1) A) : Room k A.in1 :=
  ⟨r.hd, by have := r.dp; show A.depth + 3 * k + 5 < _; omega, by have := r.un; show A.units + 1 + 16 * k + 200 < _; omega⟩
theorem Room.depth {k : Nat} {A : Around} (r : Room k A) : A.depth < recursionLimit := by have := r.dp; omega
theorem Room.units {k : Nat} {A : Around} (r : Room k A) : A.units + 64 < cLine := by have := r.un; omega
/-! ### argument lists and displays -/
def tNil : TA := fun _ H Q => Q [] H
def tCons (ta : TE) (tr : TA) : TA := fun σ H Q => ta σ H fun x H1 => tr σ H1 fun xs H2 => Q (x :: xs) H2
section
variable {X : Cx} {e : Expr} {es : List Expr} {te : TE} {t : TA} {pos : Pos}
theorem pa_nil : PA X [] tNil := fun _ _ _ _ H Q I h => Calls.spliced_nil ⟨[], H, I, .nil, h⟩
theorem pa_cons (ha : PE X e te) (hr : PA X es t) (hs : starEach (e :: es) X.env = (false, eval e X.env) :: starEach es X.env := by rfl) : PA X (e :: es) (tCons te t) := by
  intro pos pins s σ H Q I h
  rw [hs]
  show wpAny _ _ (spliced ((false, eval e X.env) :: backTo pos (starEach es X.env))) _ _ s
  refine Calls.spliced_cons (thn (ha pins s σ H _ I h) fun u s1 ⟨x, H1, I1, r1, q1⟩ => ?_)
  exact thn (hr pos pins s1 σ H1 _ I1 q1) fun us s2 ⟨xs, H2, I2, r2, q2⟩ => ⟨x :: xs, H2, I2, .cons r1 r2, q2⟩

/-- a tuple, a list of written items -/
def tTup (t : TA) : TE := fun σ H Q => t σ H fun xs H1 => xs.length ≤ sizeLine ∧ ∀ p, H1 p = none → Q (.ref p) (upd H1 p (.tup xs))
def tLst (t : TA) : TE := fun σ H Q => t σ H fun xs H1 => xs.length ≤ sizeLine ∧ ∀ p, H1 p = none → Q (.ref p) (upd H1 p (.lst xs))
theorem pe_tup {x1} (h : PA X es t) : PE X (.Tuple es x1 pos) (tTup t) := by
  intro pins s σ H Q I hq
  refine wpAny_Tuple_spliced (thn (h pos pins s σ H _ I hq) fun us s1 ⟨xs, H1, I1, r, z, q⟩ => ⟨by rw [← r.length]; exact z, ?_⟩)
  have hf : H1 s1.heap.objs.size = none := I1.hok.fresh (Nat.le_refl _)
  refine ⟨.ref s1.heap.objs.size, upd H1 s1.heap.objs.size (.tup xs), I1.laid (t' := s1.toks) (fun b u e => Heap.get?_push_of_some _ e) (Nat.le_refl _) ?_, rfl, q _ hf⟩
  exact ⟨z, us, r, ⟨_, Heap.get?_push_size _ rfl, rfl, _, rfl⟩⟩
theorem pe_lst (h : PA X es t) : PE X (.List es pos) (tLst t) := by
  intro pins s σ H Q I hq
  refine wpAny_List_spliced (thn (h pos pins s σ H _ I hq) fun us s1 ⟨xs, H1, I1, r, z, q⟩ => ⟨by rw [← r.length]; exact z, ?_⟩)
  have hf : H1 s1.heap.objs.size = none := I1.hok.fresh (Nat.le_refl _)
  refine ⟨.ref s1.heap.objs.size, upd H1 s1.heap.objs.size (.lst xs), I1.laid (t' := s1.toks) (fun b u e => Heap.get?_push_of_some _ e) (Nat.le_refl _) ?_, rfl, q _ hf⟩
  exact ⟨z, us, 0, r, Heap.get?_push_size _ rfl⟩
end

/-! ### what a def promises -/
/-- a def's promise: the bound arguments in the parameters' order, the heap, the wanted end, the wanted exception -/
abbrev Sp := List V → Hp → VK → XK → Prop
/-- how an exception lies behind a call (file 08 gives it): the callers' frames, abstract heap and state ahead of the call, the wish, the exception, the state -/
abbrev CXT := List Env → Hp → Shared → XK → Value → Shared → Prop

/-- the state at a call -/
structure Env0 (P : Program) (w : World) (K : PySem.W.Frag) (mg : Str → Option Value) (base : Heap) (A : Around) (outer : List Env) (s : Shared) (H : Hp) : Prop where
  frames : A.frames = some outer
  mod : Mod K mg base
  bs : ∀ b o, base.get? b = some o → s.heap.get? b = some o ∧ H b = none
  bsz : base.objs.size ≤ s.heap.objs.size
  funs : s.heap.FunFrames base outer
  frf : ∀ b ∈ frs outer, H b = none
  hok : HOk P w H s.heap
  bare : AllBare s.gens
/-- a call's end -/
def CE (outer : List Env) (P : Program) (w : World) (H : Hp) (s : Shared) (Q : VK) (u : Value) (s' : Shared) : Prop :=
  ∃ v H', s'.os = s.os ∧ AllBare s'.gens ∧ Un (frs outer) [] H H' s.heap s'.heap ∧ HOk P w H' s'.heap ∧ RelV v u ∧ Q v H'
def CR (CX : CXT) (outer : List Env) (P : Program) (w : World) (H : Hp) (s : Shared) (Q : VK) (E : XK) (r : Result) (s' : Shared) : Prop :=
  match r with
  | .ok (.ret u) => CE outer P w H s Q u s'
  | .ok _ => False
  | .error e => CX outer H s E e s'
structure FnOk (P : Program) (w : World) (K : PySem.W.Frag) (mg : Str → Option Value) (base : Heap) (CX : CXT) (k : Nat) (f : Addr) (fd : FuncData) (ps : List Str) (sp : Sp) : Prop where
  len : ∀ vs H Q E, sp vs H Q E → vs.length = ps.length
  run : ∀ (A : Around) (outer : List Env) (s : Shared) (H : Hp) (args : Args) (us : List Value) (vs : List V) (Q : VK) (E : XK), Room k A → Env0 P w K mg base A outer s H → BindsTo s fd args (ps.zip us) → Vals vs us → sp vs H Q E →
    codeAny (model P w) A (.call (.ref f) args) (CR CX outer P w H s Q E) s
theorem FnOk.mono {P : Program} {w : World} {K : PySem.W.Frag} {mg : Str → Option Value} {base : Heap} {CX : CXT} {j k : Nat} {f : Addr} {fd : FuncData} {ps : List Str} {sp : Sp} (F : FnOk P w K mg base CX j f fd ps sp) (h : j ≤ k) :
    FnOk P w K mg base CX k f fd ps sp := ⟨F.len, fun A outer s H args us vs Q E hr => F.run A outer s H args us vs Q E (hr.mono h)⟩
/-- a weaker promise -/
theorem FnOk.imp {P : Program} {w : World} {K : PySem.W.Frag} {mg : Str → Option Value} {base : Heap} {CX : CXT} {k : Nat} {f : Addr} {fd : FuncData} {ps : List Str} {sp sp' : Sp} (F : FnOk P w K mg base CX k f fd ps sp)
    (h : ∀ vs H Q E, sp' vs H Q E → sp vs H Q E) : FnOk P w K mg base CX k f fd ps sp' :=
  ⟨fun vs H Q E q => F.len vs H Q E (h _ _ _ _ q), fun A outer s H args us vs Q E hr he hb hv hs => F.run A outer s H args us vs Q E hr he hb hv (h _ _ _ _ hs)⟩

theorem Env0.in1 {P : Program} {w : World} {K : PySem.W.Frag} {mg : Str → Option Value} {base : Heap} {A : Around} {outer : List Env} {s : Shared} {H : Hp} (e : Env0 P w K mg base A outer s H) :
    Env0 P w K mg base A.in1 outer s H := ⟨e.frames, e.mod, e.bs, e.bsz, e.funs, e.frf, e.hok, e.bare⟩

section
variable {X : Cx} {pins : List (Addr × Obj)} {σ : St} {H : Hp} {s s' : Shared}
/-- from a body: what a callee wants -/
theorem Inv.env0 (I : Inv X pins σ H s) : Env0 X.prog X.w X.K X.mg X.base X.A X.stack s H :=
  ⟨I.ok.frames, I.ok.mod, I.bs, Nat.le_trans I.ok.bsz I.sz, I.stack, I.stkFree, I.hok, I.bare⟩
/-- behind a call -/
theorem Inv.after {Q : VK} {u : Value} (I : Inv X pins σ H s) (h : CE X.stack X.prog X.w H s Q u s') : EP X pins σ Q u s' := by
  obtain ⟨v, H', os, bare, un, hok, r, q⟩ := h
  obtain ⟨hh, g, d, t, os'⟩ := s'
  obtain rfl : os' = s.os := os
  exact ⟨v, H', I.call (h' := hh) (g' := g) (d' := d) (t' := t) (ch := []) un hok bare (fun b z => absurd z (by simp)), r, q⟩
end

/-! ### calls -/
/-- f(..): the written arguments, then the defaults dvs; E: what is wanted of an exception -/
def tCall (sp : Sp) (dvs : List V) (E : XK) (t : TA) : TE := fun σ H Q => t σ H fun vs H1 => sp (vs ++ dvs) H1 Q E
/-- o.m(..) of an instance of the class at C -/
def tMeth (C : Addr) (m : Str) (sp : Sp) (dvs : List V) (E : XK) (ta : TE) (t : TA) : TE := fun σ H Q => ta σ H fun x H1 => ∃ a dx fs, x = .ref a ∧ H1 a = some (.ins C dx fs) ∧ fs.lookup m = none ∧
  t σ H1 fun vs H2 => sp (x :: (vs ++ dvs)) H2 Q E
/-- C(..): a new instance and its dict, then __init__ -/
def tMake (C : Addr) (sp : Sp) (dvs : List V) (E : XK) (t : TA) : TE := fun σ H Q => t σ H fun vs H1 => ∀ x dx, H1 x = none → H1 dx = none → dx ≠ x →
  sp (.ref x :: (vs ++ dvs)) (upd (upd H1 dx (.own x)) x (.ins C dx [])) (fun v H2 => v = .non ∧ Q (.ref x) H2) E

/-- how the parameters are bound: us the positional arguments, kw the keywords' values by name, ds the defaults that fill up -/
def Binds (K : PySem.W.Frag) (fd : FuncData) (ps : List Str) (ds : List Value) : Prop :=
  ∀ (s : Shared) (us : List Value), K.In s.heap → (us ++ ds).length = ps.length → BindsTo s fd ⟨us, []⟩ (ps.zip (us ++ ds))
/-- every parameter is given -/
theorem Binds.all {K : PySem.W.Frag} {fd : FuncData} {ps : List Str} (h : ∀ us : List Value, us.length = ps.length → bindArgs fd ⟨us, []⟩ = pure (ps.zip us)) : Binds K fd ps [] := fun s us _ hl => by
  rw [List.append_nil] at hl ⊢
  exact .of_eq (h us hl)

/-- an exception of a callee reaches what this body wants of exceptions -/
def Passes (CX : CXT) (X : Cx) (E : XK) : Prop := ∀ (pins : List (Addr × Obj)) (σ : St) (H : Hp) (s : Shared) (e : Value) (s' : Shared), Inv X pins σ H s → CX X.stack H s E e s' → X.xe e s'

section
variable {X : Cx} {CX : CXT} {k : Nat} {f C : Addr} {fd : FuncData} {ps : List Str} {sp : Sp} {dvs : List V} {ds : List Value} {E : XK} {x m : Str} {p pos apos : Pos} {e o : Expr} {es : List Expr} {ta : TE} {t : TA}

/-- the callee runs -/
theorem run_fn {pins : List (Addr × Obj)} {σ : St} {H : Hp} {s : Shared} {Q : VK} {us : List Value} {vs : List V} (F : FnOk X.prog X.w X.K X.mg X.base CX k f fd ps sp) (hr : Room k X.A) (hb : Binds X.K fd ps ds) (hd : Vals dvs ds) (hx : Passes CX X E)
    (I : Inv X pins σ H s) (r : Vals vs us) (h : sp (vs ++ dvs) H Q E) : wpAny (model X.prog X.w) X.A (call (.ref f) us) (EP X pins σ Q) X.xe s := by
  have r2 : Vals (vs ++ dvs) (us ++ ds) := r.append hd
  have hl : (us ++ ds).length = ps.length := by rw [← r2.length]; exact F.len _ _ _ _ h
  refine wpAny_call (codeAny_mono (F.run X.A X.stack s H ⟨us, []⟩ (us ++ ds) (vs ++ dvs) Q E hr I.env0 (hb s us I.kIn hl) r2 h) fun r s' hq => ?_)
  cases r with
  | error e => exact hx pins σ H s e s' I hq
  | ok fl =>
    cases fl with
    | ret u => exact I.after hq
    | next => exact False.elim hq
    | brk => exact False.elim hq
    | cont => exact False.elim hq

theorem pe_call (F : FnOk X.prog X.w X.K X.mg X.base CX k f fd ps sp) (hr : Room k X.A) (hg : Gl X x) (hm : X.mg x = some (.ref f)) (hk : PySem.W.keepIn X.K (.ref f) = true) (hb : Binds X.K fd ps ds) (hd : Vals dvs ds) (hx : Passes CX X E)
    (ha : PA X (e :: es) t) (hdb : (x == ("__debug__" : Str)) = false := by decide) (he : starEach (e :: es) X.env = (false, eval e X.env) :: starEach es X.env := by rfl) (hpl : (backTo pos (starEach es X.env)).any (·.1) = false := by rfl) :
    PE X (.Call (.Name x p) (e :: es) [] pos) (tCall sp dvs E t) := by
  intro pins s σ H Q I h
  refine wpAny_Call_Name_kw (ld_glob I hg hm ?_ hdb)
  refine PySem.W.callWith_K (h₀ := X.base) I.ok.mod.kin hk (thn (ha pos pins s σ H _ I h) fun us s1 ⟨vs, H1, I1, r, q⟩ => ⟨I1.kIn, ?_⟩) he hpl
  exact run_fn F hr hb hd hx I1 r q
/-- what a class must have to be made -/
structure Mk (K : PySem.W.Frag) (C f : Addr) : Prop where
  makes : PySem.W.makesIn K C = true
  init : PySem.W.findIn K (.ref C) "__init__" = some (some (.ref f))
  fn : PySem.W.isFn K (.ref f) = true
  kp : PySem.W.keepIn K (.ref C) = true

end

/-! ### keywords -/
/-- the values of the keywords, from the left -/
def PK (X : Cx) (kws : List Keyword) (t : TA) : Prop :=
  ∀ (pos : Pos) (pins : List (Addr × Obj)) (s : Shared) (σ : St) (H : Hp) (Q : List V → Hp → Prop), Inv X pins σ H s → t σ H Q → wpAny (model X.prog X.w) X.A (evalAll ((backToKw pos (keywordEach kws X.env)).map (·.2))) (AP X pins σ Q) X.xe s
section
variable {X : Cx} {CX : CXT} {k : Nat} {f C : Addr} {fd : FuncData} {ps ks : List Str} {sp : Sp} {E : XK} {x m : Str} {p pos apos kpos : Pos} {e o : Expr} {es : List Expr} {kws : List Keyword} {te ta : TE} {t tk : TA} {nm : Option Str}
/-- how a call with keywords binds: g puts the positional values us and the keywords' values ws (names ks) in the parameters' order, defaults among them -/
structure KBinds (K : PySem.W.Frag) (fd : FuncData) (ps ks : List Str) (g : List Value → List Value → List Value) (gV : List V → List V → List V) : Prop where
  to : ∀ (s : Shared) (us ws : List Value), K.In s.heap → (g us ws).length = ps.length → BindsTo s fd ⟨us, ks.zip ws⟩ (ps.zip (g us ws))
  rel : ∀ {vs : List V} {us : List Value} {zs : List V} {ws : List Value}, Vals vs us → Vals zs ws → Vals (gV vs zs) (g us ws)
def tCallK (sp : Sp) (gV : List V → List V → List V) (E : XK) (t tk : TA) : TE := fun σ H Q => t σ H fun vs H1 => tk σ H1 fun zs H2 => sp (gV vs zs) H2 Q E
variable {g : List Value → List Value → List Value} {gV : List V → List V → List V}
end

/-! ### a def's body keeps its promise -/
/-- names: the parameters first -/
structure FnScope (N P : List Str) (sc : Scope) : Prop where
  kind : sc.kind = .function
  co : sc.isCoroutine = false
  gen : sc.isGenerator = false
  nd : N.Nodup
  pre : N.take P.length = P
  par : ∀ x ∈ P, sc.names.lookup x = some .local ∨ sc.names.lookup x = some .cell
  nofree : ∀ y ∈ sc.names, y.2 ≠ .free

theorem bindL_out {kindOf : Str → Option NameKind} {x : Str} : ∀ {binds : List (Str × Value)} {m : Str → Option Value}, (∀ v, (x, v) ∉ binds) → bindL kindOf binds m x = m x
  | [], _, _ => rfl
  | (n, v) :: r, m, h => by
    unfold bindL
    rw [bindL_out fun w hw => h w (List.mem_cons_of_mem _ hw)]
    split
    · have : x ≠ n := by rintro rfl; exact h v List.mem_cons_self
      simp [this]
    · rfl
theorem bindC_out {kindOf : Str → Option NameKind} {x : Str} : ∀ {binds : List (Str × Value)} {m : Str → Option Value}, (∀ v, (x, v) ∉ binds) → bindC kindOf binds m x = m x
  | [], _, _ => rfl
  | (n, v) :: r, m, h => by
    unfold bindC
    rw [bindC_out fun w hw => h w (List.mem_cons_of_mem _ hw)]
    split
    · rfl
    · have : x ≠ n := by rintro rfl; exact h v List.mem_cons_self
      simp [this]
theorem bindL_get {kindOf : Str → Option NameKind} {x : Str} {v : Value} : ∀ {P : List Str} {vs : List Value} {i : Nat} {m : Str → Option Value}, P.Nodup → P[i]? = some x → vs[i]? = some v → kindOf x = some .local →
    bindL kindOf (P.zip vs) m x = some v
  | [], _, _, _, _, h, _, _ => by simp at h
  | _ :: _, [], _, _, _, _, h, _ => by simp at h
  | p :: P, w :: vs, 0, m, nd, h1, h2, hk => by
    simp at h1 h2; subst h1; subst h2
    show bindL kindOf ((p, w) :: P.zip vs) m p = _
    unfold bindL
    rw [bindL_out fun v hv => (List.nodup_cons.mp nd).1 (List.of_mem_zip hv).1, if_pos hk]
    simp
  | p :: P, w :: vs, i + 1, m, nd, h1, h2, hk => by
    show bindL kindOf ((p, w) :: P.zip vs) m x = _
    unfold bindL
    exact bindL_get (i := i) (List.nodup_cons.mp nd).2 (by simpa using h1) (by simpa using h2) hk
theorem bindC_get {kindOf : Str → Option NameKind} {x : Str} {v : Value} : ∀ {P : List Str} {vs : List Value} {i : Nat} {m : Str → Option Value}, P.Nodup → P[i]? = some x → vs[i]? = some v → kindOf x ≠ some .local →
    bindC kindOf (P.zip vs) m x = some v
  | [], _, _, _, _, h, _, _ => by simp at h
  | _ :: _, [], _, _, _, _, h, _ => by simp at h
  | p :: P, w :: vs, 0, m, nd, h1, h2, hk => by
    simp at h1 h2; subst h1; subst h2
    show bindC kindOf ((p, w) :: P.zip vs) m p = _
    unfold bindC
    rw [bindC_out fun v hv => (List.nodup_cons.mp nd).1 (List.of_mem_zip hv).1, if_neg hk]
    simp
  | p :: P, w :: vs, i + 1, m, nd, h1, h2, hk => by
    show bindC kindOf ((p, w) :: P.zip vs) m x = _
    unfold bindC
    exact bindC_get (i := i) (List.nodup_cons.mp nd).2 (by simpa using h1) (by simpa using h2) hk

/-- the names' values at the entry -/
def start (N : List Str) (vs : List V) : St := vs.map some ++ List.replicate (N.length - vs.length) none

/-- the context of a def's body, at its entry; an exception leaves the frame, then lies as CX says -/
def cxOf (CX : CXT) (P : Program) (w : World) (K : PySem.W.Frag) (mg : Str → Option Value) (base : Heap) (N : List Str) (qual : Str) (scope : Scope) (f : Addr) (cd : Value) (A : Around) (outer : List Env) (s : Shared) (H : Hp) (E : XK) : Cx where
  prog := P
  w := w
  K := K
  mg := mg
  base := base
  A := A.deeper (envOfC qual scope s.heap.objs.size f cd)
  N := N
  s₀ := s
  H₀ := H
  env := envOfC qual scope s.heap.objs.size f cd
  outer := outer
  stack := envOfC qual scope s.heap.objs.size f cd :: outer
  ex := []
  calm := true
  fn := fun _ => true
  pn := []
  xe := fun e s' => wpAny (model P w) (A.deeper (envOfC qual scope s.heap.objs.size f cd)) (leaving (envOfC qual scope s.heap.objs.size f cd) e) (fun _ s'' => CX outer H s E e s'') (fun e' s'' => CX outer H s E e' s'') s'

theorem cell_has {sc : Scope} {n : Nat} {x : Str} (h : sc.names.lookup x = some .cell) : ∃ c, (cellsFrom n sc.names []).lookup x = some c := by
  have q := PySem.W.cellsFrom_some sc.names n [] (.inl h)
  exact Option.isSome_iff_exists.mp q

theorem inv_start {CX : CXT} {P : Program} {w : World} {K : PySem.W.Frag} {mg : Str → Option Value} {base : Heap} {N ps : List Str} {qual : Str} {scope : Scope} {f : Addr} {cd : Value} {A : Around} {outer : List Env} {s s1 : Shared} {H : Hp} {E : XK} {us : List Value} {vs : List V}
    (S : FnScope N ps scope) (hd : A.handled = none) (e0 : Env0 P w K mg base A outer s H) (hl : vs.length = ps.length) (r : Vals vs us)
    (x : InCallC s s.heap.objs.size (bindL (envOfC qual scope s.heap.objs.size f cd).kindOf (ps.zip us) fun _ => none) (cellsFrom (s.heap.objs.size + 1) scope.names []) (bindC (envOfC qual scope s.heap.objs.size f cd).kindOf (ps.zip us) fun _ => none) s1) :
    Inv (cxOf CX P w K mg base N qual scope f cd A outer s H E) [] (start N vs) H s1 := by
  have hpl : ps.length ≤ N.length := by have := congrArg List.length S.pre; rw [List.length_take] at this; omega
  obtain ⟨h1, tk, rfl, hk⟩ := x.done
  have noA : ∀ b : Addr, b ∉ (cxOf CX P w K mg base N qual scope f cd A outer s H E).ex := fun b z => absurd (show b ∈ ([] : List Addr) from z) (by simp)
  refine ⟨⟨e0.mod, S.kind, rfl, rfl, Nat.le_refl _, fun y z c h1 h2 => ?_, fun y hy => ?_, fun y c _ h => ?_, fun _ => hd, Around.frames_deeper e0.frames, .inr ⟨rfl, rfl⟩, fun b z => absurd z (noA b), e0.bs, e0.bsz, fun b _ _ => noA b, fun b z => absurd z (noA b), e0.funs, e0.frf⟩,
    rfl, e0.bare, Un.kept hk, ⟨_, x.toInCall.ns, fun i y v h1 h2 h3 => ?_⟩, fun y c h => ⟨_, x.cell y c h⟩, e0.hok.fresh (Nat.le_refl _), fun y c h => ?_, fun p hp => absurd (show p ∈ ([] : List (Addr × Obj)) from hp) (by simp), e0.hok.kept hk, ?_⟩
  · exact name_of_addr x.apart (PySem.mem_of_lookup h1) (PySem.mem_of_lookup h2)
  · have hy : scope.names.lookup y = some .cell ∨ scope.names.lookup y = some .free := hy
    rcases hy with hy | hy
    · exact cell_has hy
    · exact absurd rfl (S.nofree _ (PySem.mem_of_lookup hy))
  · exact Nat.le_of_lt (x.above y c (PySem.mem_of_lookup h))
  · have hi : i < vs.length := by
      unfold start at h2
      by_cases hi : i < vs.length
      · exact hi
      · rw [List.getElem?_append_right (by simpa using hi)] at h2
        rw [List.getElem?_replicate] at h2
        split at h2 <;> cases h2
    have ha : vs[i]? = some v := by
      unfold start at h2
      rw [List.getElem?_append_left (by simpa using hi), List.getElem?_map] at h2
      cases e : vs[i]? with
      | none => rw [e] at h2; cases h2
      | some a => rw [e] at h2; cases h2; rfl
    obtain ⟨u, hu, rv⟩ := r.get ha
    have hp : ps[i]? = some y := by
      rw [← S.pre, List.getElem?_take_of_lt (by omega)]; exact h1
    have ndP : ps.Nodup := by rw [← S.pre]; exact S.nd.sublist (List.take_sublist _ _)
    refine ⟨u, rv, ?_⟩
    rcases S.par y (List.mem_of_getElem? hp) with k | k
    · exact .inl ⟨k, bindL_get ndP hp hu k⟩
    · obtain ⟨c, e⟩ := cell_has (n := s.heap.objs.size + 1) k
      refine .inr ⟨.inl k, c, e, ?_⟩
      have q := x.cell y c e
      rw [bindC_get ndP hp hu (by show scope.names.lookup y ≠ _; rw [k]; decide)] at q
      exact q
  · exact e0.hok.fresh (Nat.le_of_lt (x.above y c (PySem.mem_of_lookup h)))
  · unfold start
    show _ = N.length
    rw [List.length_append, List.length_map, List.length_replicate]
    omega

/-- THE RULE: a def (or a method) of the text, by its body. The body's reading t is chosen for each entry; it is run at the parameters' values -/
theorem fn_of {CX : CXT} {P : Program} {w : World} {K : PySem.W.Frag} {mg : Str → Option Value} {base : Heap} {k : Nat} {f : Addr} {name qual : Str} {params : Arguments} {body : List Stmt} {scope : Scope} {dV kV doc pm cdv ct oc : Value} {an od : Option Addr}
    {osl : Array (Option Value)} {N ps : List Str} {sp : Sp} (lk : K.lookup f = some ⟨oc, od, .func (PySem.W.fnOf name qual params body scope dV kV doc pm an cdv ct), osl⟩) (hcd : PySem.W.codeIn K cdv qual = true) (S : FnScope N ps scope)
    (len : ∀ vs H Q E, sp vs H Q E → vs.length = ps.length)
    (hbody : ∀ (A : Around) (outer : List Env) (s : Shared) (H : Hp) (vs : List V) (Q : VK) (E : XK), Room k (A.deeper (envOfC qual scope s.heap.objs.size f cdv)) → sp vs H Q E →
      ∃ t, PSs (cxOf CX P w K mg base N qual scope f cdv A outer s H E) body t ∧ t { nx := fun _ H' => Q .non H', rt := Q } (start N vs) H) :
    FnOk P w K mg base CX (k + 1) f (PySem.W.fnOf name qual params body scope dV kV doc pm an cdv ct) ps sp := by
  refine ⟨len, fun A outer s H args us vs Q E hr e0 hb r hsp => ?_⟩
  have hl := len _ _ _ _ hsp
  have KX : K.In s.heap := e0.mod.kin.keeps fun b o e => (e0.bs b o e).1
  have lim : s.heap.NoLimit := e0.mod.nolimit.keeps fun b o e => (e0.bs b o e).1
  have hkind : ∀ y ∈ ps.zip us, scope.names.lookup y.1 = some .local ∨ (scope.names.lookup y.1 = some .cell ∧ ((cellsFrom (s.heap.objs.size + 1) scope.names []).lookup y.1).isSome = true) := fun ⟨n, v⟩ hy => by
    rcases S.par n (List.of_mem_zip hy).1 with q | q
    · exact .inl q
    · exact .inr ⟨q, PySem.W.cellsFrom_some _ _ _ (.inl q)⟩
  refine codeAny_call_function hr.depth (KX _ _ lk) rfl S.co S.gen rfl (PySem.W.codeRec_of KX hcd) (hb _ _ _ _ ?_)
  refine wpAny_newFunctionEnv_cells S.kind hkind fun env he s1 x => ?_
  subst he
  refine ⟨lim.keeps x.toInCall.keep, codeAny_func ?_⟩
  obtain ⟨t, ht, hq⟩ := hbody A outer s H vs Q E (hr.deeper _) hsp
  have I : Inv (cxOf CX P w K mg base N qual scope f cdv A outer s H E) [] (start N vs) H s1 := inv_start S hr.hd e0 hl r x
  refine wpAny_mono (ht [] s1 (start N vs) H _ I hq) (fun fl s' hs => ?_) fun e s' hs => hs
  have fin : ∀ {σ' : St} {H' : Hp} {v : V} {u : Value}, Inv (cxOf CX P w K mg base N qual scope f cdv A outer s H E) [] σ' H' s' → RelV v u → Q v H' → CE outer P w H s Q u s' :=
    fun {σ' H' v u} J rv q => ⟨v, H', J.os, J.bare, J.base, J.hok, rv, q⟩
  cases fl with
  | ret u =>
    obtain ⟨v, σ', H', J, rv, q⟩ := hs
    exact fin J rv q
  | next =>
    obtain ⟨σ', H', J, q⟩ := hs
    exact fin (v := V.non) (u := Value.none) J rfl q
  | brk =>
    obtain ⟨_, _, _, q⟩ := hs
    exact False.elim q
  | cont =>
    obtain ⟨_, _, _, q⟩ := hs
    exact False.elim q
end L2

namespace L2
open PySem PySem.Spec PyProof.Rows
section
variable {X : Cx} {x : Str} {p pos : Pos} {e : Expr} {es : List Expr} {t : TA} {id T : String} {r : List V → Hp → VK → Prop}

def tCB (r : List V → Hp → VK → Prop) (t : TA) : TE := fun σ H Q => t σ H fun vs H1 => r vs H1 Q
/-- f(e, ..), f a built-in function -/
theorem pe_callB (hc : CallR X (.builtin id) r) (hg : Gl X x) (hm : X.mg x = none) (hv : bootBuiltins x = some (.builtin id)) (ha : PA X (e :: es) t) (hn : x ≠ "__name__" := by decide) (hdb : (x == ("__debug__" : Str)) = false := by decide)
    (he : starEach (e :: es) X.env = (false, eval e X.env) :: starEach es X.env := by rfl) (hpl : (backTo pos (starEach es X.env)).any (·.1) = false := by rfl) : PE X (.Call (.Name x p) (e :: es) [] pos) (tCB r t) := by
  intro pins s σ H Q I h
  refine wpAny_Call_Name_kw (ld_blt I hg hm hv ?_ hn hdb)
  exact PyProof.Rows.callWith_builtin1 (thn (ha pos pins s σ H _ I h) fun us s1 ⟨vs, H1, I1, r1, q1⟩ => hc pins s1 σ H1 vs us Q I1 r1 q1) he hpl
/-- T(e, ..), T a built-in type -/
theorem pe_callTy (hc : CallR X (.type T) r) (hg : Gl X x) (hm : X.mg x = none) (hv : bootBuiltins x = some (.type T)) (ha : PA X (e :: es) t) (hn : x ≠ "__name__" := by decide) (hdb : (x == ("__debug__" : Str)) = false := by decide)
    (he : starEach (e :: es) X.env = (false, eval e X.env) :: starEach es X.env := by rfl) (hpl : (backTo pos (starEach es X.env)).any (·.1) = false := by rfl) : PE X (.Call (.Name x p) (e :: es) [] pos) (tCB r t) := by
  intro pins s σ H Q I h
  refine wpAny_Call_Name_kw (ld_blt I hg hm hv ?_ hn hdb)
  exact PyProof.Rows.callWith_type1 (thn (ha pos pins s σ H _ I h) fun us s1 ⟨vs, H1, I1, r1, q1⟩ => hc pins s1 σ H1 vs us Q I1 r1 q1) he hpl
end
end L2

namespace HT
open PySem PyProof.Rows

/-- t < u of tuples of ints -/
def lexLt : List Int → List Int → Bool
  | [], [] => false
  | [], _ :: _ => true
  | _ :: _, [] => false
  | x :: xs, y :: ys => if x = y then lexLt xs ys else decide (x < y)
section
open PySem.SeqAt
open PySem.AutoSeq1 (wpAny_loadPart')
open PySem.MeetsSeq PySem.MeetsSeq2 PySem.MeetsSeq3

end

section
variable {prog : Program} {w : World} {A : Around} {E : Value → Shared → Prop} {s : Shared}

/-- t + u, t not empty -/
theorem cat_tup {t b : Addr} {vs ws : List Value} {Q : Value → Shared → Prop} (ht : IsTup s.heap t vs.toArray) (hb : IsTup s.heap b ws.toArray) (hv : vs ≠ [])
    (h1 : ws = [] → Q (.ref t) s) (h2 : ws ≠ [] → Q (.ref s.heap.objs.size) { s with heap := s.heap.push { cls := .type "tuple", data := .seq (vs ++ ws).toArray } })
    (hsz : vs.length + ws.length ≤ sizeLine) : wpAny (model prog w) A (binaryOp .Add (.ref t) (.ref b)) Q E s := by
  obtain ⟨⟨cls, dd, data, sl⟩, ho, hc, n, hd⟩ := id ht
  obtain ⟨⟨cls2, dd2, data2, sl2⟩, ho2, hc2, n2, hd2⟩ := id hb
  simp only at hc hd hc2 hd2
  subst hc hd hc2 hd2
  have e : vs.toArray ++ ws.toArray = (vs ++ ws).toArray := by simp
  by_cases hw : ws = []
  · exact concat_meets ⟨_, ho, rfl⟩ ⟨_, ho2, rfl⟩ noFill_tuple_add seq_tuple_add PySem.F.slot_tuple_add PySem.F.entry_tuple_add (PySem.F.args_tuple_add_2 _ _)
      (tuple_addW1 t b vs.toArray ws.toArray n n2 dd dd2 sl sl2 (by simpa using hv) (by simp [hw])) ⟨ho, ho2, h1 hw⟩
  · refine concat_meets ⟨_, ho, rfl⟩ ⟨_, ho2, rfl⟩ noFill_tuple_add seq_tuple_add PySem.F.slot_tuple_add PySem.F.entry_tuple_add (PySem.F.args_tuple_add_2 _ _)
      (tuple_addW2 t b vs.toArray ws.toArray n n2 dd dd2 sl sl2 (by simpa using hv) (by simpa using hw) (by rw [List.size_toArray, List.size_toArray]; exact hsz)) ⟨ho, ho2, ?_⟩
    rw [e]
    exact h2 hw

/-! ### t[a:b], not the whole -/
/-- a slice's bound as a place among n (d where it is left out) -/
def sIx (n d : Nat) : Option Int → Nat
  | none => d
  | some v => if v < 0 then (v + (n : Int)).toNat else min v.toNat n
end
end HT

namespace L2
open PySem PySem.Spec PyProof.Rows

/-! ### the parts of a slice -/
abbrev TO := St → Hp → (Option Int → Hp → Prop) → Prop
/-- a slice's part (left out, or an int) -/
def PO (X : Cx) (e : Option Expr) (t : TO) : Prop :=
  ∀ (pins : List (Addr × Obj)) (s : Shared) (σ : St) (H : Hp) (Q : Option Int → Hp → Prop), Inv X pins σ H s → t σ H Q →
    wpAny (model X.prog X.w) X.A (evalPart e X.env) (fun u s' => ∃ o H', Inv X pins σ H' s' ∧ IsPart u o ∧ Q o H') X.xe s
def tNoPart : TO := fun _ H Q => Q none H
def tPart (t : TE) : TO := fun σ H Q => t σ H fun x H1 => ∃ i, x = .int i ∧ Q (some i) H1

section
variable {X : Cx} {e : Expr} {te : TE} {lo hi : Option Expr} {tl th : TO} {pos p2 : Pos}

/-- what a slice of a value is, by values: the slice object stands at sl -/
def SlR (X : Cx) (r : V → Option Int → Option Int → Hp → VK → Prop) : Prop :=
  ∀ (pins : List (Addr × Obj)) (s : Shared) (σ : St) (H : Hp) (x : V) (v vl vu : Value) (lo hi : Option Int) (sl : Addr) (Q : VK), Inv X pins σ H s → RelV x v → s.heap.IsSliceOf sl vl vu .none → IsPart vl lo → IsPart vu hi → r x lo hi H Q →
    ∃ T id, typeLookup (.type T) "__getitem__" = pure (some (.builtin id)) ∧ s.TypeIs v T ∧ wpAny (model X.prog X.w) X.A (getItem v (.ref sl)) (EP X pins σ Q) X.xe s
theorem SlR.or {r r' : V → Option Int → Option Int → Hp → VK → Prop} (h : SlR X r) (h' : SlR X r') : SlR X (fun x lo hi H Q => r x lo hi H Q ∨ r' x lo hi H Q) := by
  intro pins s σ H x v vl vu lo hi sl Q I rx hs pl pu q
  rcases q with q | q
  · exact h pins s σ H x v vl vu lo hi sl Q I rx hs pl pu q
  · exact h' pins s σ H x v vl vu lo hi sl Q I rx hs pl pu q
def tSl (r : V → Option Int → Option Int → Hp → VK → Prop) (te : TE) (tl th : TO) : TE := fun σ H Q => te σ H fun x H1 => tl σ H1 fun l H2 => th σ H2 fun u H3 => r x l u H3 Q
/-- the items of xs[lo:hi] -/
def cutV (xs : List V) (lo hi : Option Int) : List V := (xs.drop (HT.sIx xs.length 0 lo)).take (HT.sIx xs.length xs.length hi - HT.sIx xs.length 0 lo)
/-- t[lo:hi], not the whole of it (the whole would be t itself) -/
def rSlT (K : PySem.W.Frag) : V → Option Int → Option Int → Hp → VK → Prop := fun x lo hi H Q => ∃ a xs, x = .ref a ∧ SqT K H a xs ∧
  ¬ (HT.sIx xs.length 0 lo = 0 ∧ HT.sIx xs.length xs.length hi = xs.length) ∧ ∀ p, H p = none → Q (.ref p) (upd H p (.tup (cutV xs lo hi)))
/-! ### t < u, t + u -/
def rLtT (K : PySem.W.Frag) : R2 := fun x y H Q => ∃ a b ns ms, x = .ref a ∧ y = .ref b ∧ SqT K H a (ns.map V.int) ∧ SqT K H b (ms.map V.int) ∧ Q (.bl (HT.lexLt ns ms)) H
/-- t + u, t not empty: u empty gives t itself -/
def rCatT (K : PySem.W.Frag) : R2 := fun x y H Q => ∃ a b xs ys, x = .ref a ∧ y = .ref b ∧ SqT K H a xs ∧ SqT K H b ys ∧ xs ≠ [] ∧ xs.length + ys.length ≤ sizeLine ∧
  (ys = [] → Q (.ref a) H) ∧ (ys ≠ [] → ∀ p, H p = none → Q (.ref p) (upd H p (.tup (xs ++ ys))))
theorem Vals.nil_iff {xs : List V} {us : List Value} (r : Vals xs us) : us = [] ↔ xs = [] := by
  cases r with
  | nil => simp
  | cons _ _ => simp
theorem op_catT : OpR X (binaryOp .Add) (rCatT X.K) := by
  intro pins s σ H x y v u Q I rx ry h
  obtain ⟨a, b, xs, ys, rfl, rfl, ha, hb, hx, hz, q1, q2⟩ := h
  cases rx
  cases ry
  obtain ⟨its, r1, p1, _⟩ := I.tuple ha
  obtain ⟨its2, r2, p2, _⟩ := I.tuple hb
  refine HT.cat_tup p1 p2 (fun z => hx (r1.nil_iff.mp z)) (fun z => ⟨.ref a, H, I, rfl, q1 (r2.nil_iff.mp z)⟩) (fun z => ?_) (by rw [← r1.length, ← r2.length]; exact hz)
  refine ⟨.ref s.heap.objs.size, _, I.laid (t' := s.toks) (o := .tup (xs ++ ys)) (fun b ob q => Heap.get?_push_of_some _ q) (Nat.le_refl _) ?_, rfl, q2 (fun w => z (r2.nil_iff.mpr w)) _ (I.hok.fresh (Nat.le_refl _))⟩
  exact ⟨by rw [List.length_append]; exact hz, _, r1.append r2, IsTup.new _ _⟩
end
end L2

namespace L2
open PySem PySem.Spec PyProof.Rows

/-! ### places -/
/-- the place that an index of any sign means -/
def ixN (n : Nat) (i : Int) : Option Nat := if 0 ≤ i then (if i < n then some i.toNat else none) else if -(n : Int) ≤ i then some (i + n).toNat else none
def atI {α : Type} (xs : List α) (i : Int) : Option α := (ixN xs.length i).bind fun j => xs[j]?
theorem ixN_seq {n : Nat} {i : Int} {j : Nat} (h : ixN n i = some j) : seqIndex? i n = some j ∧ j < n ∧ -(n : Int) ≤ i ∧ i < n := by
  unfold ixN at h
  by_cases h0 : 0 ≤ i
  · rw [if_pos h0] at h
    by_cases h1 : i < n
    · rw [if_pos h1] at h
      have e : i.toNat = j := Option.some.inj h
      exact ⟨by rw [seqIndex_of h0 h1, e], by omega, by omega, h1⟩
    · rw [if_neg h1] at h; cases h
  · rw [if_neg h0] at h
    by_cases h1 : -(n : Int) ≤ i
    · rw [if_pos h1] at h
      have e : (i + n).toNat = j := Option.some.inj h
      exact ⟨by rw [seqIndex_neg (by omega) h1, e], by omega, h1, by omega⟩
    · rw [if_neg h1] at h; cases h
theorem atI_get {α : Type} {xs : List α} {i : Int} {v : α} (h : atI xs i = some v) : ∃ j, seqIndex? i xs.length = some j ∧ xs[j]? = some v ∧ j < xs.length ∧ -(xs.length : Int) ≤ i ∧ i < xs.length := by
  unfold atI at h
  cases e : ixN xs.length i with
  | none => rw [e] at h; cases h
  | some j =>
    rw [e] at h
    obtain ⟨h1, h2, h3, h4⟩ := ixN_seq e
    exact ⟨j, h1, h, h2, h3, h4⟩
theorem atI_nat {α : Type} {xs : List α} {j : Nat} {v : α} (h : xs[j]? = some v) : atI xs (j : Int) = some v := by
  have hj : j < xs.length := (List.getElem?_eq_some_iff.mp h).1
  have e : ixN xs.length (j : Int) = some j := by
    unfold ixN
    rw [if_pos (by omega), if_pos (by omega)]; simp
  unfold atI; rw [e]; exact h
/-! ### what may be subscripted -/
/-- what stands as an index of a plain subscript -/
def PlainIx (b : Expr) : Prop := ∀ o i, subscripted b false o i = operate [o, i] (getItem o i)
/-- a subscript by values -/
def IxR (X : Cx) (r : R2) : Prop :=
  ∀ (value slice : Expr) (pins : List (Addr × Obj)) (s : Shared) (σ : St) (H : Hp) (x y : V) (v u : Value) (Q : VK), Inv X pins σ H s → RelV x v → RelV y u → r x y H Q →
    subscripted slice false v u = operate [v, u] (getItem v u) → wpAny (model X.prog X.w) X.A (subscriptTail value slice v u) (EP X pins σ Q) X.xe s
/-- a call of a builtin's method by values: the receiver, the arguments -/
def MtR (X : Cx) (id : String) (r : V → List V → Hp → VK → Prop) : Prop :=
  ∀ (pins : List (Addr × Obj)) (s : Shared) (σ : St) (H : Hp) (x : V) (xs : List V) (v : Value) (us : List Value) (Q : VK), Inv X pins σ H s → RelV x v → Vals xs us → r x xs H Q →
    wpAny (model X.prog X.w) X.A (call (.builtin id) (v :: us)) (EP X pins σ Q) X.xe s
section
variable {X : Cx} {a b : Expr} {ta tb : TE} {pos : Pos}
theorem IxR.or {r r' : R2} (h : IxR X r) (h' : IxR X r') : IxR X (fun x y H Q => r x y H Q ∨ r' x y H Q) := by
  intro value slice pins s σ H x y v u Q I rx ry q hs
  rcases q with q | q
  · exact h value slice pins s σ H x y v u Q I rx ry q hs
  · exact h' value slice pins s σ H x y v u Q I rx ry q hs
theorem MtR.or {id : String} {r r' : V → List V → Hp → VK → Prop} (h : MtR X id r) (h' : MtR X id r') : MtR X id (fun x xs H Q => r x xs H Q ∨ r' x xs H Q) := by
  intro pins s σ H x xs v us Q I rx rs q
  rcases q with q | q
  · exact h pins s σ H x xs v us Q I rx rs q
  · exact h' pins s σ H x xs v us Q I rx rs q
/-- a[b] -/
theorem pe_ix {r : R2} (hr : IxR X r) (ha : PE X a ta) (hb : PE X b tb) (hs : PlainIx b) : PE X (.Subscript a b pos) (tOp r ta tb) := by
  intro pins s σ H Q I h
  exact Subscript_ (binT ha hb I h fun v u s2 x y H2 I2 rx ry q => hr a b pins s2 σ H2 x y v u Q I2 rx ry q (hs _ _))

def rIxL (K : PySem.W.Frag) : R2 := fun x y H Q => ∃ p xs i v, x = .ref p ∧ y = .int i ∧ SqL K H p xs ∧ atI xs i = some v ∧ Q v H
def rIxT (K : PySem.W.Frag) : R2 := fun x y H Q => ∃ p xs i v, x = .ref p ∧ y = .int i ∧ SqT K H p xs ∧ atI xs i = some v ∧ Q v H
def rIxS : R2 := fun x y H Q => ∃ z i c, x = .str z ∧ y = .int i ∧ z.length ≤ sizeLine ∧ atI z.cps.toList i = some c ∧ Q (.str ⟨#[c]⟩) H
theorem ix_list : IxR X (rIxL X.K) := by
  intro value slice pins s σ H x y v u Q I rx ry h hs
  obtain ⟨p, xs, i, z, rfl, rfl, hq, he, q⟩ := h
  cases rx
  obtain ⟨t, rfl⟩ := ry
  obtain ⟨its, r, pl, hz⟩ := I.list hq
  obtain ⟨j, h1, h2, h3, h4, h5⟩ := atI_get he
  obtain ⟨w, ew, rw'⟩ := r.get h2
  have hl := r.length
  have hn := line63
  have fin : EP X pins σ Q w s := ⟨z, H, I, rw', q⟩
  by_cases h0 : 0 ≤ i
  · have hj : i.toNat = j := by
      rw [seqIndex_of h0 h5] at h1
      exact Option.some.inj h1
    exact item_listR pl.isList h0 (by omega) (by rw [hj]; simpa using ew) fin hs
  · have hj : (i + (its.toArray.size : Int)).toNat = j := by
      rw [seqIndex_neg (by omega) h4] at h1
      rw [List.size_toArray, ← hl]
      exact Option.some.inj h1
    exact subscriptTail_builtinR (x := w) pl.isList.typeIs slot_list_getitem.lookup
      (wpAny_getItem_list_neg (Q := fun r s' => r = w ∧ EP X pins σ Q r s') pl.isList (by omega) (by rw [List.size_toArray] <;> omega) (by omega) (by rw [hj]; simpa using ew) ⟨rfl, fin⟩) hs
theorem ix_tup : IxR X (rIxT X.K) := by
  intro value slice pins s σ H x y v u Q I rx ry h hs
  obtain ⟨p, xs, i, z, rfl, rfl, hq, he, q⟩ := h
  cases rx
  obtain ⟨t, rfl⟩ := ry
  obtain ⟨its, r, pl, hz⟩ := I.tuple hq
  obtain ⟨j, h1, h2, h3, h4, h5⟩ := atI_get he
  obtain ⟨w, ew, rw'⟩ := r.get h2
  have hl := r.length
  have hn := line63
  have fin : EP X pins σ Q w s := ⟨z, H, I, rw', q⟩
  exact subscriptTail_builtinR (x := w) pl.typeIs slot_tuple_getitem.lookup
    (getItem_tuple (j := j) (Q := fun r s' => r = w ∧ EP X pins σ Q r s') pl (by omega) (by omega) (by rw [List.size_toArray, ← hl]; exact h1) (by simpa using ew) ⟨rfl, fin⟩) hs
/-- list, tuple or str -/
def rIx (K : PySem.W.Frag) : R2 := fun x y H Q => rIxL K x y H Q ∨ rIxT K x y H Q ∨ rIxS x y H Q
/-! ### xs[i] = v, any sign -/
/-- the list's object behind a store -/
theorem mapSeq_set (its : List Value) (n j : Nat) (u : Value) : Obj.mapSeq (·.setIfInBounds j u) { cls := .type "list", data := .seq its.toArray n } = { cls := .type "list", data := .seq (its.set j u).toArray n } := by
  simp [Obj.mapSeq]
theorem Inv.lst {pins : List (Addr × Obj)} {σ : St} {H : Hp} {s : Shared} {p : Addr} {xs : List V} (I : Inv X pins σ H s) (h : H p = some (.lst xs)) :
    ∃ (its : List Value) (n : Nat), Vals xs its ∧ s.heap.get? p = some { cls := .type "list", data := .seq its.toArray n } ∧ xs.length ≤ sizeLine := by
  obtain ⟨z, its, n, r, e⟩ := I.hok p _ h
  exact ⟨its, n, r, e, z⟩
/-- the list at p is written by an update of its object -/
theorem Inv.lstUpd {pins : List (Addr × Obj)} {σ : St} {H : Hp} {s : Shared} {p : Addr} {xs ys : List V} {its its' : List Value} {n n' : Nat} {f : Obj → Obj} (I : Inv X pins σ H s) (h : H p = some (.lst xs))
    (ho : s.heap.get? p = some { cls := .type "list", data := .seq its.toArray n }) (hf : f { cls := .type "list", data := .seq its.toArray n } = { cls := .type "list", data := .seq its'.toArray n' }) (r : Vals ys its') (hz : ys.length ≤ sizeLine) (t : Nat) :
    Inv X pins σ (upd H p (.lst ys)) { s with heap := s.heap.update p f, toks := t } := by
  have e : (s.heap.update p f).get? p = some { cls := .type "list", data := .seq its'.toArray n' } := by
    rw [Heap.get?_update_self f ho (by rw [hf] <;> rfl), hf]
  refine I.write (x := p) (e := p) (by rw [h]; trivial) (.inl rfl) (fun b u hb q => (Heap.get?_update_other _ _ (Ne.symm hb)).trans q) ⟨_, e⟩ ?_
  exact ⟨hz, its', n', r, e⟩
def rSetL : V → V → V → Hp → (Hp → Prop) → Prop := fun o i v H Q => ∃ p xs k j, o = .ref p ∧ i = .int k ∧ H p = some (.lst xs) ∧ ixN xs.length k = some j ∧ Q (upd H p (.lst (xs.set j v)))
theorem set_list : PSet X rSetL := by
  intro pins s σ H o i v ov iv u Q I ro ri rv h
  obtain ⟨p, xs, k, j, rfl, rfl, hp, hj, q⟩ := h
  cases ro
  obtain ⟨t, rfl⟩ := ri
  obtain ⟨its, n, r, ho, hz⟩ := I.lst hp
  obtain ⟨h1, h2, h3, h4⟩ := ixN_seq hj
  have hl := r.length
  have hn := line63
  have I' : Inv X pins σ (upd H p (.lst (xs.set j v))) { s with heap := s.heap.update p (Obj.mapSeq (·.setIfInBounds j u)) } :=
    I.lstUpd hp ho (mapSeq_set its n j u) (r.set rv j) (by rw [List.length_set]; exact hz) s.toks
  by_cases h0 : 0 ≤ k
  · have hk : k.toNat = j := by
      rw [seqIndex_of h0 h4] at h1
      exact Option.some.inj h1
    exact PySem.W.ki_setAt ho h0 (by omega) (by rw [List.size_toArray, ← hl]; exact h4) (by rw [hk]; exact ⟨_, I', q⟩)
  · have hk : (k + (its.toArray.size : Int)).toNat = j := by
      rw [seqIndex_neg (by omega) h3] at h1
      rw [List.size_toArray, ← hl]
      exact Option.some.inj h1
    exact PySem.W.ki_setBack ho (by omega) (by rw [List.size_toArray, ← hl]; exact h3) (by omega) (by rw [hk]; exact ⟨_, I', q⟩)

/-! ### slices -/
/-- xs[lo:hi] of a list: a new list -/
def rSlL (K : PySem.W.Frag) : V → Option Int → Option Int → Hp → VK → Prop := fun x lo hi H Q => ∃ a xs, x = .ref a ∧ SqL K H a xs ∧ ∀ p, H p = none → Q (.ref p) (upd H p (.lst (cutV xs lo hi)))
/-! ### in, not in: flat items -/
def flatV : V → Bool
  | .non => true
  | .bl _ => true
  | .int _ => true
  | .str _ => true
  | _ => false
/-- == of flat values -/
def eqV : V → V → Bool
  | .non, .non => true
  | .bl a, .bl b => a == b
  | .bl a, .int b => (if a then 1 else 0) == b
  | .int a, .bl b => a == (if b then 1 else 0)
  | .int a, .int b => a == b
  | .str a, .str b => a == b
  | _, _ => false
theorem eqAt_V {A : Around} {s : Shared} {y x : V} {u v : Value} (ry : RelV y u) (rx : RelV x v) (fy : flatV y = true) (fx : flatV x = true) : SeqAt.EqAt A s u v (eqV y x) := by
  cases y with
  | non =>
    cases ry
    cases x with
    | non => cases rx; exact SeqAt.EqAt.same _
    | bl b => cases rx; exact SeqAt.EqAt.none_bool b
    | int b => obtain ⟨t, rfl⟩ := rx; exact SeqAt.EqAt.none_int b t
    | str b => obtain ⟨t, rfl⟩ := rx; exact SeqAt.EqAt.none_str b t
    | _ => exact absurd (show false = true from fx) Bool.false_ne_true
  | bl a =>
    cases ry
    cases x with
    | non => cases rx; exact SeqAt.EqAt.bool_none a
    | bl b => cases rx; exact SeqAt.EqAt.bool_bool a b
    | int b => obtain ⟨t, rfl⟩ := rx; exact SeqAt.EqAt.bool_int a b t
    | str b => obtain ⟨t, rfl⟩ := rx; exact SeqAt.EqAt.bool_str a b t
    | _ => exact absurd (show false = true from fx) Bool.false_ne_true
  | int a =>
    obtain ⟨t', rfl⟩ := ry
    cases x with
    | non => cases rx; exact SeqAt.EqAt.int_none a t'
    | bl b => cases rx; exact SeqAt.EqAt.int_bool a t' b
    | int b => obtain ⟨t, rfl⟩ := rx; exact SeqAt.EqAt.int_int a t' b t
    | str b => obtain ⟨t, rfl⟩ := rx; exact SeqAt.EqAt.int_str a t' b t
    | _ => exact absurd (show false = true from fx) Bool.false_ne_true
  | str a =>
    obtain ⟨t', rfl⟩ := ry
    cases x with
    | non => cases rx; exact SeqAt.EqAt.str_none a t'
    | bl b => cases rx; exact SeqAt.EqAt.str_bool a t' b
    | int b => obtain ⟨t, rfl⟩ := rx; exact SeqAt.EqAt.str_int a t' b t
    | str b => obtain ⟨t, rfl⟩ := rx; exact SeqAt.EqAt.str_str a t' b t
    | _ => exact absurd (show false = true from fx) Bool.false_ne_true
  | _ => exact absurd (show false = true from fy) Bool.false_ne_true
/-- the items' answers, read off the values (a value's own answer does not lean on its token) -/
def eqU (x : V) (u : Value) : Bool := match u with
  | .none => eqV .non x
  | .bool b => eqV (.bl b) x
  | .int i _ => eqV (.int i) x
  | .str z _ => eqV (.str z) x
  | _ => false
theorem eqU_of {x y : V} {u : Value} (r : RelV y u) (f : flatV y = true) : eqU x u = eqV y x := by
  cases y with
  | non => cases r; rfl
  | bl b => cases r; rfl
  | int i => obtain ⟨t, rfl⟩ := r; rfl
  | str z => obtain ⟨t, rfl⟩ := r; rfl
  | _ => exact absurd (show false = true from f) Bool.false_ne_true
theorem any_eqU {x : V} : ∀ {xs : List V} {us : List Value}, Vals xs us → xs.all flatV = true → us.any (eqU x) = xs.any fun y => eqV y x
  | _, _, .nil, _ => rfl
  | y :: xs, u :: us, .cons r t, f => by
    rw [List.all_cons, Bool.and_eq_true] at f
    rw [List.any_cons, List.any_cons, eqU_of r f.1, any_eqU t f.2]
theorem mem_eqAt {A : Around} {s : Shared} {x : V} {v : Value} (rx : RelV x v) (fx : flatV x = true) : ∀ {xs : List V} {us : List Value}, Vals xs us → xs.all flatV = true → ∀ u ∈ us, SeqAt.EqAt A s u v (eqU x u)
  | _, _, .nil, _ => fun u hu => by cases hu
  | y :: xs, u :: us, .cons r t, f => fun u' hu => by
    rw [List.all_cons, Bool.and_eq_true] at f
    rcases List.mem_cons.mp hu with rfl | hu
    · rw [eqU_of r f.1]; exact eqAt_V r rx f.1 fx
    · exact mem_eqAt rx fx t f.2 u' hu
def inV (x : V) (xs : List V) : Bool := xs.any fun y => eqV y x
/-- x in a list or tuple of flat items -/
def rIn (K : PySem.W.Frag) (neg : Bool) : R2 := fun x y H Q => ∃ p xs, y = .ref p ∧ (SqL K H p xs ∨ SqT K H p xs) ∧ flatV x = true ∧ xs.all flatV = true ∧ Q (.bl (if neg then !inV x xs else inV x xs)) H
theorem op_notIn_seq : OpR X (compareOp .NotIn) (rIn X.K true) := by
  intro pins s σ H x y v u Q I rx ry h
  obtain ⟨p, xs, rfl, hq, fx, fs, q⟩ := h
  cases ry
  rcases hq with hq | hq
  · obtain ⟨its, r, pl, hz⟩ := I.list hq
    refine SeqAt.notIn_listAt (eqU x) pl.isList (fun w hw => mem_eqAt rx fx r fs w (by simpa using hw)) ⟨.bl _, H, I, rfl, ?_⟩
    rw [show its.toArray.any (eqU x) = its.any (eqU x) by simp, any_eqU r fs]
    exact q
  · obtain ⟨its, r, pl, hz⟩ := I.tuple hq
    refine SeqAt.notIn_tupleAt (eqU x) pl (fun w hw => mem_eqAt rx fx r fs w (by simpa using hw)) ⟨.bl _, H, I, rfl, ?_⟩
    rw [show its.toArray.any (eqU x) = its.any (eqU x) by simp, any_eqU r fs]
    exact q
/-! ### len, list(x), tuple(x) of any list or tuple that is read -/
theorem call_len_seq : CallR X (.builtin "len") (fun xs H Q => ∃ p ys, xs = [.ref p] ∧ (SqL X.K H p ys ∨ SqT X.K H p ys) ∧ Q (.int ys.length) H) := by
  intro pins s σ H xs us Q I r h
  obtain ⟨p, ys, rfl, hq, q⟩ := h
  obtain ⟨u, rfl, rx⟩ := vals1 r
  cases rx
  have hn := line63
  rcases hq with hq | hq
  · obtain ⟨its, r', pl, hz⟩ := I.list hq
    have hlen := r'.length
    exact Calls.call_len_list pl.isList (by simp only [List.size_toArray] <;> omega) ⟨.int ys.length, H, I.tok _, ⟨s.toks + 1, by rw [List.size_toArray, hlen]⟩, q⟩
  · obtain ⟨its, r', pl, hz⟩ := I.tuple hq
    have hlen := r'.length
    exact len_tuple pl (by simp only [List.size_toArray] <;> omega) ⟨.int ys.length, H, I.tok _, ⟨s.toks + 1, by rw [List.size_toArray, hlen]⟩, q⟩
theorem CallR.or {f : Value} {r r' : List V → Hp → VK → Prop} (h : CallR X f r) (h' : CallR X f r') : CallR X f (fun xs H Q => r xs H Q ∨ r' xs H Q) := by
  intro pins s σ H xs us Q I rs q
  rcases q with q | q
  · exact h pins s σ H xs us Q I rs q
  · exact h' pins s σ H xs us Q I rs q
theorem call_list_of : CallR X (.type "list") (fun xs H Q => ∃ p ys, xs = [.ref p] ∧ (SqL X.K H p ys ∨ SqT X.K H p ys) ∧ ∀ l, H l = none → Q (.ref l) (upd H l (.lst ys))) := by
  intro pins s σ H xs us Q I r h
  obtain ⟨p, ys, rfl, hq, q⟩ := h
  obtain ⟨u, rfl, rx⟩ := vals1 r
  cases rx
  have fin : ∀ (its : List Value), Vals ys its → ys.length ≤ sizeLine → ∀ (h' : Heap) (c' : Nat), (∀ b o', s.heap.get? b = some o' → h'.get? b = some o') →
      h'.get? s.heap.objs.size = some { cls := .type "list", dict := none, data := .seq its.toArray c', slots := #[] } → EP X pins σ Q (.ref s.heap.objs.size) { s with heap := h' } := fun its r' hz h' c' kp e =>
    ⟨.ref s.heap.objs.size, _, I.laid (t' := s.toks) kp (Nat.le_refl _) (show ObjOk X.prog X.w _ h' _ (.lst ys) from ⟨hz, its, c', r', e⟩), rfl, q _ (I.hok.fresh (Nat.le_refl _))⟩
  rcases hq with hq | hq
  · obtain ⟨its, r', pl, hz⟩ := I.list hq
    have hlen := r'.length
    obtain ⟨o, ho, hc, n, hd⟩ := pl.isList
    exact call_list_seq p (.inl rfl) ho hc hd (fun h' c' kp e => fin its r' hz h' c' kp e) (by simp only [List.size_toArray] <;> omega)
  · obtain ⟨its, r', pl, hz⟩ := I.tuple hq
    have hlen := r'.length
    obtain ⟨o, ho, hc, n, hd⟩ := pl
    exact call_list_seq p (.inr rfl) ho hc hd (fun h' c' kp e => fin its r' hz h' c' kp e) (by simp only [List.size_toArray] <;> omega)
theorem call_tuple_of : CallR X (.type "tuple") (fun xs H Q => ∃ p ys, xs = [.ref p] ∧ ((SqL X.K H p ys ∧ ∀ l, H l = none → Q (.ref l) (upd H l (.tup ys))) ∨ (SqT X.K H p ys ∧ Q (.ref p) H))) := by
  intro pins s σ H xs us Q I r h
  obtain ⟨p, ys, rfl, h⟩ := h
  obtain ⟨u, rfl, rx⟩ := vals1 r
  cases rx
  rcases h with ⟨hq, q⟩ | ⟨hq, q⟩
  · obtain ⟨its, r', pl, hz⟩ := I.list hq
    have hlen := r'.length
    refine call_tuple_list pl.isList (fun h' kp => ?_) (by simp only [List.size_toArray] <;> omega)
    have I1 : Inv X pins σ H { s with heap := h' } := I.kept (t' := s.toks) kp
    have I2 : Inv X pins σ (upd H h'.objs.size (.tup ys)) { s with heap := h'.push { cls := .type "tuple", data := .seq its.toArray } } :=
      I1.laid (t' := s.toks) (fun b o e => Heap.get?_push_of_some _ e) (Nat.le_refl _) (show ObjOk X.prog X.w _ _ _ (.tup ys) from ⟨hz, its, r', IsTup.new _ _⟩)
    exact ⟨.ref h'.objs.size, _, I2, rfl, q _ (I1.hok.fresh (Nat.le_refl _))⟩
  · obtain ⟨its, r', pl, hz⟩ := I.tuple hq
    exact call_tuple_same pl ⟨.ref p, H, I, rfl, q⟩

/-! ### the call of a builtin's method: o.m(..) -/
/-- the value is of that builtin type -/
def tyV (K : PySem.W.Frag) (T : String) (x : V) (H : Hp) : Prop := match x with
  | .str _ => T = "str"
  | .int _ => T = "int"
  | .ref p => (T = "list" ∧ ∃ xs, SqL K H p xs) ∨ (T = "tuple" ∧ ∃ o, K.lookup p = some o ∧ o.cls = .type "tuple" ∧ o.dict = none) ∨
      (T = "dict" ∧ ((∃ kvs, H p = some (.dK kvs)) ∨ ∃ kvs, H p = some (.dT kvs))) ∨ (T = "set" ∧ ∃ S n, H p = some (.set S n))
  | _ => False
theorem tyV_is {pins : List (Addr × Obj)} {σ : St} {H : Hp} {s : Shared} {T : String} {x : V} {v : Value} (I : Inv X pins σ H s) (r : RelV x v) (ty : tyV X.K T x H) :
    s.TypeIs v T ∧ ∀ a, v = .ref a → ∃ ob, s.heap.get? a = some ob ∧ ob.dict = none := by
  cases x with
  | str z =>
    obtain ⟨t, rfl⟩ := r
    cases (show T = "str" from ty)
    exact ⟨typeIs_str s z t, fun _ e => nomatch e⟩
  | int i =>
    obtain ⟨t, rfl⟩ := r
    cases (show T = "int" from ty)
    exact ⟨typeIs_int s i t, fun _ e => nomatch e⟩
  | ref p =>
    cases r
    rcases ty with ⟨rfl, xs, hq⟩ | ⟨rfl, o, hk, hc, hd⟩ | ⟨rfl, hk⟩ | ⟨rfl, S, n, hk⟩
    · obtain ⟨its, _, pl, _⟩ := I.list hq
      refine ⟨pl.isList.typeIs, fun a e => ?_⟩
      cases e
      obtain ⟨o, n, e, c, hd, _⟩ := pl
      exact ⟨o, e, hd⟩
    · refine ⟨⟨o, I.kIn p o hk, hc⟩, fun a e => ?_⟩
      cases e
      exact ⟨o, I.kIn _ o hk, hd⟩
    · have z : ∃ o, s.heap.get? p = some o ∧ o.ExactDict := by
        rcases hk with ⟨kvs, hk⟩ | ⟨kvs, hk⟩
        · obtain ⟨_, _, _, _, o, _, _, e, ex, _⟩ := I.hok p _ hk
          exact ⟨o, e, ex⟩
        · obtain ⟨_, _, _, _, o, _, _, e, ex, _⟩ := I.hok p _ hk
          exact ⟨o, e, ex⟩
      obtain ⟨o, e, ex⟩ := z
      refine ⟨⟨o, e, ex.1⟩, fun a e2 => ?_⟩
      cases e2
      exact ⟨o, e, ex.2.1⟩
    · obtain ⟨o, _, _, _, e, ex, _⟩ := I.hok p _ hk
      refine ⟨⟨o, e, ex.1⟩, fun a e2 => ?_⟩
      cases e2
      exact ⟨o, e, ex.2.1⟩
  | _ => exact False.elim ty
def tBM0 (K : PySem.W.Frag) (T : String) (r : V → List V → Hp → VK → Prop) (to : TE) : TE := fun σ H Q => to σ H fun x H1 => tyV K T x H1 ∧ r x [] H1 Q
def tBM (K : PySem.W.Frag) (T : String) (r : V → List V → Hp → VK → Prop) (to : TE) (t : TA) : TE := fun σ H Q => to σ H fun x H1 => tyV K T x H1 ∧ t σ H1 fun xs H2 => r x xs H2 Q
variable {o e : Expr} {es : List Expr} {to : TE} {t : TA} {name : Str} {apos cpos : Pos} {T id : String} {r : V → List V → Hp → VK → Prop}
theorem pe_bm (pa : PlainAttrs T) (slot : Slot T name id) (hty : typeOf (.builtin id) = pure (.type "method_descriptor")) (hm : MtR X id r) (ho : PE X o to) (ha : PA X (e :: es) t)
    (hbase : attributeBase o name X.env (eval o X.env) = eval o X.env := by rfl)
    (hfew : ((backTo cpos (starEach (e :: es) X.env)).all (fun x => !x.1) && (backToKw cpos (keywordEach [] X.env)).all (fun x => x.1.isSome)
      && decide ((e :: es).length + ([] : List Keyword).length + (if ([] : List Keyword).isEmpty then 0 else 1) < 30)) = true := by rfl)
    (hline : (apos.endLine == cpos.line) = true := by rfl) (hs : starEach (e :: es) X.env = (false, eval e X.env) :: starEach es X.env := by rfl) (hplain : (backTo cpos (starEach es X.env)).any (·.1) = false := by rfl) :
    PE X (.Call (.Attribute o name apos) (e :: es) [] cpos) (tBM X.K T r to t) := by
  intro pins s σ H Q I h
  refine wpAny_Call_method_late hbase hfew hline rfl (thn (ho pins s σ H _ I h) fun v s1 ⟨x, H1, I1, r1, ty, q1⟩ => ?_)
  obtain ⟨h1, h2⟩ := tyV_is I1 r1 ty
  refine ⟨T, id, pa, slot, hty, h1, h2, ?_⟩
  have hA := ha cpos pins s1 σ H1 _ I1 q1
  rw [hs] at hA ⊢
  refine Calls.callWith_builtin (by show (false || (backTo cpos (starEach es X.env)).any (·.1)) = false; rw [hplain] <;> rfl) (Calls.evalArgs_plain ?_)
  exact thn hA fun us s2 ⟨vs, H2, I2, r2, q2⟩ => hm pins s2 σ H2 x vs v us Q I2 r1 r2 q2
/- xs.append(e), list.index on a module's tuple .. are MtR facts of 06m -/
end
end L2

namespace L2
open PySem PySem.Spec PyProof.Rows

def MtM (X : Cx) (id : String) (r : V → List V → Hp → VK → Prop) : Prop :=
  ∀ (pins : List (Addr × Obj)) (s : Shared) (σ : St) (H : Hp) (x : V) (xs : List V) (v : Value) (us : List Value) (Q : VK), Inv X pins σ H s → RelV x v → Vals xs us → r x xs H Q →
    wpAny (model X.prog X.w) X.A (call (.builtin id) (v :: us)) (EP X pins σ Q) X.xe s

/-! ### lists of values -/
theorem Vals.one : ∀ {x : V} {us : List Value}, Vals [x] us → ∃ u, us = [u] ∧ RelV x u
  | _, _, .cons r .nil => ⟨_, rfl, r⟩
theorem Vals.two : ∀ {x y : V} {us : List Value}, Vals [x, y] us → ∃ u v, us = [u, v] ∧ RelV x u ∧ RelV y v
  | _, _, _, .cons r (.cons q .nil) => ⟨_, _, rfl, r, q⟩
theorem Vals.zero : ∀ {us : List Value}, Vals [] us → us = []
  | _, .nil => rfl
theorem Vals.dropLast {xs : List V} {us : List Value} (h : Vals xs us) : Vals xs.dropLast us.dropLast := by
  induction h with
  | nil => exact .nil
  | cons r t ih =>
    cases t with
    | nil => exact .nil
    | cons q t' => exact .cons r ih
theorem Vals.eraseIdx : ∀ {xs : List V} {us : List Value} (i : Nat), Vals xs us → Vals (xs.eraseIdx i) (us.eraseIdx i)
  | _, _, _, .nil => .nil
  | _, _, 0, .cons _ t => t
  | _, _, i + 1, .cons r t => .cons r (Vals.eraseIdx i t)
theorem Vals.reverse {xs : List V} {us : List Value} (h : Vals xs us) : Vals xs.reverse us.reverse := by
  induction h with
  | nil => exact .nil
  | cons r t ih => rw [List.reverse_cons, List.reverse_cons]; exact Vals.append ih (.cons r .nil)
theorem Vals.rep {xs : List V} {us : List Value} (h : Vals xs us) : ∀ k : Nat, Vals (List.replicate k xs).flatten (List.replicate k us).flatten
  | 0 => .nil
  | k + 1 => by
    rw [List.replicate_succ, List.replicate_succ, List.flatten_cons, List.flatten_cons]
    exact Vals.append h (Vals.rep h k)
theorem len_erase {α : Type} : ∀ (l : List α) (i : Nat), (l.eraseIdx i).length ≤ l.length
  | [], _ => Nat.le_refl _
  | _ :: _, 0 => Nat.le_succ _
  | _ :: r, i + 1 => Nat.succ_le_succ (len_erase r i)
section
variable {X : Cx} {pins : List (Addr × Obj)} {σ : St} {H : Hp} {s : Shared} {l b : Addr} {xs ys zs : List V}

/-! ### the two steps: a tracked list is rewritten, a new list is laid -/
theorem Inv.lset {its its' : List Value} {n : Nat} {f : Array Value → Array Value} {t' : Nat} (I : Inv X pins σ H s) (hH : H l = some (.lst xs))
    (e : s.heap.get? l = some { cls := .type "list", data := .seq its.toArray n }) (hf : f its.toArray = its'.toArray) (hv : Vals ys its') (hz : ys.length ≤ sizeLine) :
    Inv X pins σ (upd H l (.lst ys)) { s with heap := s.heap.update l (Obj.mapSeq f), toks := t' } := by
  have q := PySem.IsL.update e f
  rw [hf] at q
  refine I.write (x := l) (e := l) (by rw [hH]; exact trivial) (.inl rfl) (fun b' u hb hu => (Heap.get?_update_other s.heap (Obj.mapSeq f) (Ne.symm hb)).trans hu) ⟨_, q⟩ ?_
  exact ⟨hz, its', _, hv, q⟩
theorem Inv.fresh (I : Inv X pins σ H s) : H s.heap.objs.size = none := I.hok.fresh (Nat.le_refl _)
theorem Inv.lstM (I : Inv X pins σ H s) (hH : H l = some (.lst xs)) : xs.length ≤ sizeLine ∧ ∃ (its : List Value) (n : Nat), Vals xs its ∧ xs.length = its.length ∧ s.heap.get? l = some { cls := .type "list", data := .seq its.toArray n } := by
  obtain ⟨z, its, n, r, e⟩ := I.hok l _ hH
  exact ⟨z, its, n, r, r.length, e⟩

end

section
variable {X : Cx}

/-! ### methods -/
def rAppend : V → List V → Hp → VK → Prop := fun x vs H Q => ∃ l xs y, x = .ref l ∧ vs = [y] ∧ H l = some (.lst xs) ∧ xs.length < sizeLine ∧ Q .non (upd H l (.lst (xs ++ [y])))
theorem mt_append : MtM X "list.append" rAppend := by
  intro pins s σ H x vs v us Q I rx rv h
  obtain ⟨l, xs, y, rfl, rfl, hH, hz, q⟩ := h
  cases rx
  obtain ⟨u, rfl, ru⟩ := rv.one
  obtain ⟨z, its, n, r, hl, e⟩ := I.lstM hH
  refine call_meets F.slot_list_append ⟨_, e, rfl⟩ F.entry_list_append (F.args_list_append_2 _ _) (PySem.list_append l its.toArray n u (by rw [List.size_toArray]; omega)) ⟨e, ?_⟩
  refine ⟨.non, _, I.lset (its' := its ++ [u]) hH e (by simp) (r.append (.cons ru .nil)) ?_, rfl, q⟩
  rw [List.length_append, List.length_singleton]
  omega

def rExtend : V → List V → Hp → VK → Prop := fun x vs H Q => ∃ l b xs zs, x = .ref l ∧ vs = [.ref b] ∧ H l = some (.lst xs) ∧ H b = some (.lst zs) ∧ xs.length + zs.length ≤ sizeLine ∧ Q .non (upd H l (.lst (xs ++ zs)))
def rPop : V → List V → Hp → VK → Prop := fun x vs H Q => ∃ l xs y, x = .ref l ∧ vs = [] ∧ H l = some (.lst xs) ∧ xs[xs.length - 1]? = some y ∧ Q y (upd H l (.lst xs.dropLast))
def rPopAt : V → List V → Hp → VK → Prop := fun x vs H Q => ∃ l xs i k y, x = .ref l ∧ vs = [.int i] ∧ H l = some (.lst xs) ∧ -(2 ^ 63) ≤ i ∧ i < 2 ^ 63 ∧ seqIndex? i xs.length = some k ∧ xs[k]? = some y ∧ Q y (upd H l (.lst (xs.eraseIdx k)))
theorem mt_popAt : MtM X "list.pop" rPopAt := by
  intro pins s σ H x vs v us Q I rx rv h
  obtain ⟨l, xs, i, k, y, rfl, rfl, hH, h1, h2, hk, hy, q⟩ := h
  cases rx
  obtain ⟨u, rfl, ru⟩ := rv.one
  obtain ⟨t, rfl⟩ := ru
  obtain ⟨z, its, n, r, hl, e⟩ := I.lstM hH
  obtain ⟨w, hw, rw'⟩ := r.get hy
  refine call_meets F.slot_list_pop ⟨_, e, rfl⟩ F.entry_list_pop (F.args_list_pop_2 _ _)
    (MeetsSeq.list_pop_at l its.toArray n i t k w (fitsIndex_both h1 h2) (by rw [List.size_toArray, ← hl]; exact hk) (by rw [← Array.getElem?_toList]; exact hw) (by rw [List.size_toArray]; omega)) ⟨e, ?_⟩
  refine ⟨y, _, I.lset (its' := its.eraseIdx k) hH e ?_ (r.eraseIdx k) ?_, rw', q⟩
  · show its.toArray.eraseIdxIfInBounds k = (its.eraseIdx k).toArray
    rw [List.eraseIdxIfInBounds_toArray]
  · have := len_erase xs k
    omega

def rReverse : V → List V → Hp → VK → Prop := fun x vs H Q => ∃ l xs, x = .ref l ∧ vs = [] ∧ H l = some (.lst xs) ∧ Q .non (upd H l (.lst xs.reverse))
def rClear : V → List V → Hp → VK → Prop := fun x vs H Q => ∃ l xs, x = .ref l ∧ vs = [] ∧ H l = some (.lst xs) ∧ Q .non (upd H l (.lst []))
/-! ### list + list, list += list, list * int -/
def rCat : R2 := fun x y H Q => ∃ l b xs zs, x = .ref l ∧ y = .ref b ∧ H l = some (.lst xs) ∧ H b = some (.lst zs) ∧ xs.length + zs.length ≤ sizeLine ∧ ∀ p, H p = none → Q (.ref p) (upd H p (.lst (xs ++ zs)))
/-- a list times an int (a negative one is nothing) -/
def rRep : R2 := fun x y H Q => ∃ l k xs, x = .ref l ∧ y = .int k ∧ H l = some (.lst xs) ∧ -(2 ^ 63) ≤ k ∧ k < 2 ^ 63 ∧ xs.length * k.toNat ≤ sizeLine ∧
  ∀ p, H p = none → Q (.ref p) (upd H p (.lst (List.replicate k.toNat xs).flatten))
/-! ### del xs[i] -/
end

/-! ### xs[a:b] = ys -/
section
variable {prog : Program} {w : World} {A : Around} {E : Value → Shared → Prop} {s : Shared}
end

section
variable {X : Cx}
end
end L2

namespace Att
open PySem PySem.W PySem.Calls PyProof.Rows

/-! ### the script -/
theorem ints_of_wellAll {P : Params} {h : Heap} : ∀ (ns : List Int) (vs : List Value), WellAll P h vs (ns.map WData.int) → IntsAre vs ns := by
  intro ns
  induction ns with
  | nil =>
    intro vs w
    rw [List.map_nil] at w
    cases w
    exact .nil
  | cons n ns ih =>
    intro vs w
    rw [List.map_cons] at w
    cases w with
    | cons a b =>
      cases a
      exact .cons _ _ (ih _ b)

theorem script_of {l : OpenLaw} {n : Nat} (hn : l.most = some n) {P : Params} {h : Heap} {args : List WData} {vals : List Value}
    (hpre : l.row.toRowW.claim.pre args = true) (hwl : WellAll P h vals args) :
    ∃ a vs ns, vals = [Value.ref a] ∧ args = [WData.list (ns.map WData.int)] ∧ h.get? a = some { cls := .type "list", data := .seq vs.toArray } ∧ IntsAre vs ns ∧ ns.length ≤ n := by
  have hsh : WShape.hasAll [] args [.list .int] = true := (pre_splitW hpre).1
  have hc : l.pre.holds [] { args := args } = true := (pre_splitW hpre).2
  obtain ⟨d, r, rfl, h1, h2⟩ := hasAllW_cons hsh
  obtain rfl := hasAllW_nil h2
  obtain ⟨xs, rfl, h3⟩ := hasW_list h1
  obtain ⟨ns, rfl⟩ := items_int h3
  have hlen : ns.length ≤ n := by
    unfold OpenLaw.pre at hc
    have h4 : (WTm.not (.lt (.lit (.int (n : Int))) (.len (.arg 0)))).holds [] { args := [.list (ns.map .int)] } = true := by
      have h4 := (holds_andW hc).1
      rw [hn] at h4
      exact h4
    have h5 := condW_of h4 (w_not (w_lt w_lit (w_len_list (w_arg rfl))))
    rw [List.length_map] at h5
    refine Nat.le_of_not_lt fun q => ?_
    have q' : (n : Int) < ((ns.length : Nat) : Int) := by omega
    first
      | (rw [decide_eq_true q'] at h5; exact absurd h5 (by decide))
      | (simp at h5; omega)
  cases hwl with
  | cons w1 w2 =>
    cases w2
    cases w1 with
    | list ho hall => exact ⟨_, _, ns, rfl, rfl, ho, ints_of_wellAll ns _ hall, hlen⟩

theorem post_true (l : OpenLaw) (args : List WData) : l.row.toRowW.claim.post args (.bool true) args = true :=
  postW_of (r := l.row.toRowW) (X := (true == true))
    (show WShape.has [] (.bool true) .bool = true by first | rfl | decide | simp [WShape.has, WShape.arms, WShape.armsAll])
    (show (WTm.eq .res (.lit (.bool true))).value [] { args := args, res := some (.bool true), after := args } = some (.bool (true == true)) from w_eq_bool (w_res rfl) w_lit) rfl

/-! ### the attachment: holds_open's last premise (the goal 'hc' behind k_head) from a wpAny of the law's body -/
/-- the same from a codeAny of the CALL (for a layer whose function contracts speak of calls) -/
theorem attach_call {l : OpenLaw} {n : Nat} {q : Program} {loose : List Str} {XP : (Str → Option Value) → Heap → Prop} {YP : World → Heap → Prop} {d : DefRec}
    (hn : l.most = some n) (hdf : d.params.defaults = [])
    (call : ∀ (w : World) (s₀ s₁ : Shared) (mg mb : Str → Option Value) (fa : Addr) (o : Obj) (pm cd doc : Value) (a : Addr) (vs : List Value) (ns : List Int),
      Ground q loose [] XP w s₀ mg mb s₁.heap → YP w s₁.heap →
      s₁.heap.get? fa = some o → o.data = .func (docDef d.name d.params d.body d.scope pm cd doc) → s₁.heap.CodeRec cd d.name → mg d.name = some (.ref fa) →
      s₁.heap.get? a = some { cls := .type "list", data := .seq vs.toArray } → IntsAre vs ns → ns.length ≤ n → s₁.gens = #[] →
      codeAny (model l.prog w) callerA (.call (.ref fa) ⟨[.ref a], []⟩) (fun r s' => r = .ok (.ret (.bool true)) ∧ OldK s₁.heap s'.heap ∧ s'.os = s₁.os ∧ AllBare s'.gens) s₁) :
    WalkO q loose XP YP l.row.toRowW d [] (fun f vs => PySem.call f vs) := by
  intro w s₀ s₁ mg mb G Y fa o pm cd doc dV kV ho hd hcd hD hmg hg args vals as hpre hlay hrd hwl hlo
  obtain rfl : dV = .none := Dflts.none hD hdf
  obtain rfl : kV = .none := Dflts.noKw hD
  obtain ⟨a, vs, ns, rfl, rfl, hobj, hints, hlen⟩ := script_of hn hpre hwl
  refine enter_call (codeAny_mono (call w s₀ s₁ mg mb fa o pm cd doc a vs ns G Y ho (fd_plain hd) hcd hmg hobj hints hlen hg) fun r s' hq => ?_)
  obtain ⟨rfl, h2, h3, h4⟩ := hq
  exact ⟨.inl ⟨.bool true, .bool true, [], rfl, fun _ => rfl, .bool true, post_true l _, fun _ => ⟨List.Pairwise.nil, fun _ hm => (nomatch hm)⟩⟩, h2, h3, h4⟩

/-! ### rules over ANY heap (no ledger) from facts about the written part K: the library's own take a ledger (News) for what they write -/
section
variable {prog : Program} {w : World} {A : Around} {E : Value → Shared → Prop} {s : Shared} {K : Frag}

/-! the whole heap as the ledger: makes every rule that writes through a ledger a rule over any heap -/
def noObjs (h : Heap) : Heap := { h with objs := #[] }
def ledger (h : Heap) (L d : Addr) : List (Addr × Obj) := (List.range h.objs.size).filterMap fun a => if a = L ∨ a = d then none else (h.get? a).map fun o => (a, o)
end
end Att

namespace L2
open PySem PySem.Spec PyProof.Rows

theorem vals_ints : ∀ {vs : List Value} {ns : List Int}, IntsAre vs ns → Vals (ns.map V.int) vs
  | _, _, .nil => .nil
  | _, _, .cons n t h => .cons ⟨t, rfl⟩ (vals_ints h)

/-- nothing is tracked but the script, known to the object (or it is an object of the module) -/
def Only (H : Hp) : Prop := ∀ b, H b = none ∨ ∃ o xs, H b = some (.frz o (.lst xs))

/-- THE HEAD: the law's promise, at the heap behind the top. F, the promise of the law's def, may use that base is part of the heap (so K.In base, base.Ns mainGlobals mg stand in Mod) -/
theorem law_call {P : Program} {w : World} {K : PySem.W.Frag} {mg mb : Str → Option Value} {CX : CXT} {k : Nat} {fa a : Addr} {fd : FuncData} {x : Str} {sp : Sp} {s₁ : Shared} {vs : List Value} {ns : List Int}
    (KX : K.In s₁.heap) (hns : s₁.heap.Ns mainGlobals mg) (hb : s₁.heap.Ns builtinsNs mb) (hbb : ∀ x : Str, x ≠ "__name__" → mb x = bootBuiltins x) (hlim : s₁.heap.NoLimit) (hg : s₁.gens = #[])
    (ha : s₁.heap.get? a = some { cls := .type "list", data := .seq vs.toArray }) (hi : IntsAre vs ns) (hl : ns.length ≤ sizeLine) (hr : Room k callerA)
    (F : ∀ base : Heap, K.In base → base.Ns mainGlobals mg → FnOk P w K mg base CX k fa fd [x] sp) (hbind : ∀ (s : Shared) (u : Value), BindsTo s fd ⟨[u], []⟩ [(x, u)])
    (hsp : ∀ H : Hp, Only H → SqL K H a (ns.map V.int) → sp [.ref a] H (fun v _ => v = .bl true) fun _ _ _ => False)
    (hCX : ∀ H e s', CX [] H s₁ (fun _ _ _ => False) e s' → False) :
    codeAny (model P w) callerA (.call (.ref fa) ⟨[.ref a], []⟩) (fun r s' => r = .ok (.ret (.bool true)) ∧ OldK s₁.heap s'.heap ∧ s'.os = s₁.os ∧ AllBare s'.gens) s₁ := by
  have rv := vals_ints hi
  have lenV := hi.length
  -- from an abstract heap in which nothing but the script may be tracked
  have core : ∀ H : Hp, Only H → SqL K H a (ns.map V.int) → HOk P w H s₁.heap → (∀ b, H b ≠ none → b = a) → (H a ≠ none → K.lookup a = none) →
      codeAny (model P w) callerA (.call (.ref fa) ⟨[.ref a], []⟩) (fun r s' => r = .ok (.ret (.bool true)) ∧ OldK s₁.heap s'.heap ∧ s'.os = s₁.os ∧ AllBare s'.gens) s₁ := by
    intro H hO hS hok hA hK
    have base_of : ∀ {b : Addr} {o : Obj}, s₁.heap.get? b = some o → H b = none → (hidT s₁.heap H).get? b = some o := fun e n => hidT_get e n
    have noA : ∀ {b : Addr} {o : Obj} {es : Array DictEntry} {ep : Nat}, s₁.heap.get? b = some o → o.data = .dict es ep → H b = none := fun {b o es ep} e d => by
      cases q : H b with
      | none => rfl
      | some u =>
        have e' : b = a := hA b (by rw [q]; simp)
        subst e'
        rw [ha] at e; cases e
        have d' : Data.seq vs.toArray _ = Data.dict es ep := d
        cases d'
    have nsK : ∀ {b : Addr} {m : Str → Option Value}, s₁.heap.Ns b m → (hidT s₁.heap H).Ns b m := fun {b m} ⟨o, es, ep, e, d, r⟩ => ⟨o, es, ep, base_of e (noA e d), d, r⟩
    have hKb : K.In (hidT s₁.heap H) := fun b o e => base_of (KX b o e) (by
      cases q : H b with
      | none => rfl
      | some u =>
        have e' : b = a := hA b (by rw [q]; simp)
        subst e'
        rw [hK (by rw [q]; simp)] at e; cases e)
    have hM : Mod K mg (hidT s₁.heap H) := ⟨hKb, nsK hns, ⟨mb, nsK hb, hbb⟩, let ⟨mc, h1, h2⟩ := hlim; ⟨mc, nsK h1, h2⟩⟩
    have e0 : Env0 P w K mg (hidT s₁.heap H) callerA [] s₁ H := ⟨rfl, hM, fun b o e => of_hidT e, Nat.le_of_eq (hidT_size _ _), trivial, fun b hb => absurd (show b ∈ ([] : List Addr) from hb) (by simp), hok, .of_eq hg⟩
    refine codeAny_mono ((F _ hKb (nsK hns)).run callerA [] s₁ H ⟨[.ref a], []⟩ [.ref a] [.ref a] _ _ hr e0 (hbind s₁ (.ref a)) (.cons rfl .nil) (hsp H hO hS)) fun r s' h => ?_
    cases r with
    | error e => exact (hCX H e s' h).elim
    | ok fl =>
      cases fl with
      | next => exact False.elim h
      | brk => exact False.elim h
      | cont => exact False.elim h
      | ret u =>
        obtain ⟨v, H', os, bare, un, hok', r', q⟩ := h
        have q' : v = .bl true := q
        subst q'
        obtain rfl : u = Value.bool true := r'
        refine ⟨rfl, OldK.of_keep fun b o e => ?_, os, bare⟩
        cases q : H b with
        | none => exact un.keep b o e q (by intro z; exact absurd (show b ∈ ([] : List Addr) from z) (by simp)) (by simp)
        | some u =>
          rcases hO b with z | ⟨ob, xs, z⟩
          · rw [q] at z; cases z
          · have z2 := un.frzs b ob _ z
            obtain ⟨e1, _⟩ := hok b _ z
            obtain ⟨e2, _⟩ := hok' b _ z2
            rw [e] at e1; cases e1
            exact e2
  cases hk : K.lookup a with
  | some o =>
    -- the script is one of the module's own objects
    have e := KX a o hk
    rw [ha] at e
    cases e
    refine core (fun _ => none) (fun _ => .inl rfl) (.inr ⟨_, vs.toArray, _, hk, rfl, rfl, rfl, by rw [List.size_toArray, lenV]; exact hl, by simpa using rv⟩) (fun b u z => by have z' : (none : Option HO) = some u := z; cases z') (fun b z => absurd rfl z) fun z => absurd rfl z
  | none =>
    refine core (fun b => if b = a then some (.frz { cls := .type "list", data := .seq vs.toArray } (.lst (ns.map V.int))) else none) (fun b => ?_) (.inl (.inr ⟨{ cls := .type "list", data := .seq vs.toArray }, if_pos rfl⟩)) (fun b u z => ?_) (fun b z => ?_) fun _ => hk
    · by_cases hb : b = a
      · exact .inr ⟨_, _, if_pos hb⟩
      · exact .inl (if_neg hb)
    · by_cases hb : b = a
      · have z' := (if_pos hb).symm.trans z
        cases z'
        subst hb
        exact ⟨ha, by rw [List.length_map]; exact hl, vs, _, rv, ha⟩
      · have z' := (if_neg hb).symm.trans z
        cases z'
    · by_cases hb : b = a
      · exact hb
      · exact absurd (if_neg hb) z
end L2

namespace L2
open PySem PySem.Spec PyProof.Rows

abbrev KOf {K : PySem.W.Frag} {h : Heap} (_ : K.In h) : PySem.W.Frag := K

/-- the goal that k_head leaves (case hc), from the law's promise. F gives the function object fd (K's own) once, then the promise over every base -/
theorem walk_of {l : PySem.W.OpenLaw} {n k : Nat} {q : Program} {loose : List Str} {XP : (Str → Option Value) → Heap → Prop} {YP : World → Heap → Prop} {d : DefRec} {K : Params → PySem.W.Frag} {CX : World → CXT} {sp : World → Sp} {x : Str}
    (hn : l.most = some n) (hn2 : n ≤ sizeLine) (hdf : d.params.defaults = []) (hr : Room k callerA)
    (hY : ∀ (w : World) (h : Heap), YP w h → (K w.params).In h)
    (F : ∀ (w : World) (mg : Str → Option Value) (fa : Addr) (h : Heap), (K w.params).In h → h.Ns mainGlobals mg → mg d.name = some (.ref fa) →
      ∃ fd : FuncData, (∀ (s : Shared) (u : Value), BindsTo s fd ⟨[u], []⟩ [(x, u)]) ∧
        ∀ base : Heap, (K w.params).In base → base.Ns mainGlobals mg → FnOk l.prog w (K w.params) mg base (CX w) k fa fd [x] (sp w))
    (hsp : ∀ (w : World) (H : Hp) (a : Addr) (ns : List Int), ns.length ≤ n → Only H → SqL (K w.params) H a (ns.map V.int) → sp w [.ref a] H (fun v _ => v = .bl true) fun _ _ _ => False)
    (hCX : ∀ (w : World) (H : Hp) (s : Shared) (e : Value) (s' : Shared), CX w [] H s (fun _ _ _ => False) e s' → False) :
    PySem.W.WalkO q loose XP YP l.row.toRowW d [] (fun f vs => PySem.call f vs) := by
  refine Att.attach_call hn hdf fun w s₀ s₁ mg mb fa o pm cd doc a vs ns G Y ho hd hcd hmg hobj hints hlen hg => ?_
  have KX := hY w _ Y
  obtain ⟨fd, hb, hF⟩ := F w mg fa _ KX G.T.g hmg
  exact law_call KX G.T.g G.T.b G.T.builtins G.T.nolimit hg hobj hints (Nat.le_trans hlen hn2) hr hF hb (fun H hO hS => hsp w H a ns hlen hO hS) fun H e s' => hCX w H s₁ e s'
end L2

/- THE LAST THEOREM (shape; LID, My.* are yours):
   My.Adr: a structure of the addresses that your layer names (classes, functions); My.Txt K t: a structure (Prop) of the equations over K;
   My.txt_mk : {K} {implicit addresses ..} (e1 : nsIn K mainGlobals "law" = some (some (.ref f))) (e2 : K.lookup f = some ⟨oc, od, .func (fnOf "law" "law" params body scope dV kV doc pm an cdv ct), sl⟩) (e3 : codeIn K cdv "law" = true) .. : ∃ t, My.Txt K t

set_option maxRecDepth 100000 in
set_option maxHeartbeats 0 in
theorem PySem.Challenge.cw_LID_holds : PySem.Challenge.rw_LID.Holds := by
  w_on; o_law; k_head; (case hw => w_witness2)
  k_fill
  refine L2.walk_of (l := PySem.Challenge.rw_LID) (n := 63) (k := 40) (x := "script") (CX := fun w => ..) (sp := fun _ => My.sp_law) rfl (by decide) rfl ⟨rfl, by decide, by decide⟩ (fun w h Y => PySem.W.kIn_of Y) ?F ?S ?C
  case F =>
    intro w mg fa h KX G hmg
    have T : ∃ t, My.Txt (L2.KOf KX) t := by
      dsimp only [L2.KOf]                          -- K must stand as «<heap const> w.params» for k_is
      refine' My.txt_mk ?e1 ?e2 ?e3 ..
      (case e1 => PySem.W.k_is)                    -- in the order: a name -> its address -> its object -> its parts
      (case e2 => PySem.W.k_is)
      ..
    obtain ⟨t, T⟩ := T
    have e0 := hmg.symm.trans (PySem.W.mg_of KX G T.law)
    cases e0                                       -- fa is the law's own address
    exact ⟨_, fun s u => .of_eq rfl, fun base kb nb => My.law_fn T kb nb⟩     -- if «.of_eq rfl» comes too early: refine' ⟨_, ?b, fun base kb nb => My.law_fn T kb nb⟩; exact fun s u => .of_eq rfl
  case S => exact fun w H a ns hl hO hS => ..
  case C => exact ..
(the tactic k_is has no namespace: write k_is) -/

/-! SHORT WORDS over the layer: a def of the text, its body, what a loop and a test want. -/
namespace L2
open PySem PySem.Spec PyProof.Rows

/-! ### the text by places -/
/-- the j-th statement of a class's body -/
def inClass (s : Stmt) (j : Nat) : Stmt := match s with
  | .ClassDef _ _ _ body _ _ _ _ _ _ _ => body.getD j (.Pass ⟨0, 0, 0, 0⟩)
  | _ => .Pass ⟨0, 0, 0, 0⟩
def defArgs (s : Stmt) : Arguments := match s with
  | .FunctionDef _ a _ _ _ _ _ _ _ _ => a
  | _ => { posonlyargs := [], args := [], vararg := none, kwonlyargs := [], kw_defaults := [], kwarg := none, defaults := [] }
def defBody (s : Stmt) : List Stmt := match s with
  | .FunctionDef _ _ b _ _ _ _ _ _ _ => b
  | _ => []
def defScope (s : Stmt) : Scope := match s with
  | .FunctionDef _ _ _ _ _ _ sc _ _ _ => sc
  | _ => { kind := .function, names := [], isGenerator := false, isCoroutine := false }

/-! ### no exception leaves a def -/
abbrev CX0 : CXT := fun _ _ _ _ _ _ => False
abbrev E0 : XK := fun _ _ _ => False
theorem pass0 {X : Cx} : Passes CX0 X E0 := fun _ _ _ _ _ _ _ h => h.elim

/-! ### a def (or method) of the text as it stands behind the top -/
structure Fun (K : PySem.W.Frag) (x qual : Str) (st : Stmt) (f : Addr) (fd : FuncData) : Prop where
  ex : ∃ (oc : Value) (od : Option Addr) (kV doc pm : Value) (an : Option Addr) (cdv ct : Value) (osl : Array (Option Value)),
    fd = PySem.W.fnOf x qual (defArgs st) (defBody st) (defScope st) .none kV doc pm an cdv ct ∧ K.lookup f = some ⟨oc, od, .func fd, osl⟩ ∧ PySem.W.codeIn K cdv qual = true
  kp : PySem.W.keepIn K (.ref f) = true
section
variable {P : Program} {w : World} {K : PySem.W.Frag} {mg : Str → Option Value} {base : Heap}
/-- THE RULE for a def: its body as a term of rules, and the reading of that term -/
theorem Fun.ok {x qual : Str} {st : Stmt} {f : Addr} {fd : FuncData} {N ps : List Str} {k : Nat} {sp : Sp} (F : Fun K x qual st f fd) (S : FnScope N ps (defScope st)) (len : ∀ vs H Q E, sp vs H Q E → vs.length = ps.length)
    (hbody : ∀ (cdv : Value) (A : Around) (outer : List Env) (s : Shared) (H : Hp) (vs : List V) (Q : VK) (E : XK), Room k (A.deeper (envOfC qual (defScope st) s.heap.objs.size f cdv)) → sp vs H Q E →
      ∃ t, PSs (cxOf CX0 P w K mg base N qual (defScope st) f cdv A outer s H E).nox (defBody st) t ∧ t { nx := fun _ H' => Q .non H', rt := Q } (start N vs) H) : FnOk P w K mg base CX0 (k + 1) f fd ps sp := by
  obtain ⟨oc, od, kV, doc, pm, an, cdv, ct, osl, rfl, lk, hcd⟩ := F.ex
  refine fn_of lk hcd S len fun A outer s H vs Q E hr hsp => ?_
  obtain ⟨t, h, q⟩ := hbody cdv A outer s H vs Q E hr hsp
  exact ⟨t, h.nox, q⟩
/-- how its arguments bind (no defaults): h is «fun _ _ _ _ _ _ us hl => match us, hl with | [_, _], _ => rfl», one _ a parameter -/
theorem Fun.binds {x qual : Str} {st : Stmt} {f : Addr} {fd : FuncData} {ps : List Str} (F : Fun K x qual st f fd)
    (h : ∀ (kV doc pm : Value) (an : Option Addr) (cdv ct : Value) (us : List Value), us.length = ps.length → bindArgs (PySem.W.fnOf x qual (defArgs st) (defBody st) (defScope st) .none kV doc pm an cdv ct) ⟨us, []⟩ = pure (ps.zip us)) : Binds K fd ps [] := by
  obtain ⟨oc, od, kV, doc, pm, an, cdv, ct, osl, rfl, lk, hcd⟩ := F.ex
  exact .all (h kV doc pm an cdv ct)
theorem fun_mk {x qual : Str} {st : Stmt} {f : Addr} {oc : Value} {od an : Option Addr} {osl : Array (Option Value)} {kV doc pm cdv ct : Value} (l : K.lookup f = some ⟨oc, od, .func (PySem.W.fnOf x qual (defArgs st) (defBody st) (defScope st) .none kV doc pm an cdv ct), osl⟩)
    (c : PySem.W.codeIn K cdv qual = true) (k : PySem.W.keepIn K (.ref f) = true) : Fun K x qual st f (PySem.W.fnOf x qual (defArgs st) (defBody st) (defScope st) .none kV doc pm an cdv ct) := ⟨⟨oc, od, kV, doc, pm, an, cdv, ct, osl, rfl, l, c⟩, k⟩
end
theorem small1000 {n : Nat} (h : n ≤ 1000) : n < sizeLine := Nat.lt_of_le_of_lt h (by decide)

/-! ### expressions in short: the name that stands in the i-th slot -/
section
variable {X : Cx}
theorem pv (i : Nat) {x : Str} {pos : Pos} (hN : X.N[i]? = some x := by rfl) (hv : Vis X.env.scope x := by first | exact Or.inl rfl | exact Or.inr (Or.inl rfl) | exact Or.inr (Or.inr rfl)) (hd : (x == ("__debug__" : Str)) = false := by decide)
    (hcd : (x == ("__classdict__" : Str)) = false := by decide) : PE X (.Name x pos) (tVar i) := pe_var hN hv hd hcd
end

/-! ### tests -/
theorem iteF {A B : Prop} (h : B) : if false = true then A else B := by
  rw [if_neg Bool.false_ne_true]
  exact h
theorem iteT {A B : Prop} (h : A) : if true = true then A else B := by
  rw [if_pos rfl]
  exact h
theorem ite2 {c A B : Prop} [Decidable c] (h1 : c → A) (h2 : ¬ c → B) : if c then A else B := by
  by_cases h : c
  · rw [if_pos h]
    exact h1 h
  · rw [if_neg h]
    exact h2 h
/-! ### heaps -/
/-- all that was tracked is as it was -/
def Same (H H' : Hp) : Prop := ∀ b o, H b = some o → H' b = some o
theorem Same.refl (H : Hp) : Same H H := fun _ _ h => h
theorem Same.trans {H H1 H2 : Hp} (a : Same H H1) (b : Same H1 H2) : Same H H2 := fun c o h => b c o (a c o h)
theorem Same.free {H H' : Hp} (e : Same H H') {l : Addr} (h : H' l = Option.none) : H l = Option.none := by
  cases q : H l with
  | none => rfl
  | some o =>
    rw [e l o q] at h
    cases h
theorem Same.seq {K : PySem.W.Frag} {H H' : Hp} {a : Addr} {xs : List V} (e : Same H H') (h : SqL K H a xs) : SqL K H' a xs := by
  rcases h with (h | ⟨o, h⟩) | h
  · exact .inl (.inl (e _ _ h))
  · exact .inl (.inr ⟨o, e _ _ h⟩)
  · exact .inr h

end L2

namespace L2
open PySem PySem.Spec PyProof.Rows

/-! ### list comprehensions of one clause: the block's context -/
/-- the closure's cells, as they are laid: those of the block's free names -/
def clOf (scope : Scope) (env : Env) : List (Str × Addr) :=
  (scope.names.filterMap fun x => if x.2 == NameKind.free then (env.cells.lookup x.1).map fun c => (x.1, c) else none).reverse
theorem clos_go {env : Env} (f : Str × NameKind → List (Str × Addr) → Sem (ForInStep (List (Str × Addr))))
    (hf : ∀ n k r, f (n, k) r = (if (k == NameKind.free) = true then (do let c ← cellOf env n; pure (.yield ((n, c) :: r))) else pure (.yield r))) :
    ∀ (ns : List (Str × NameKind)) (cs : List (Str × Addr)), (∀ x ∈ ns, x.2 = .free → ∃ c, env.cells.lookup x.1 = some c) →
      forIn ns cs f = pure ((ns.filterMap fun x => if x.2 == NameKind.free then (env.cells.lookup x.1).map fun c => (x.1, c) else none).reverse ++ cs)
  | [], cs, _ => by rw [List.forIn_nil]; rfl
  | (n, k) :: r, cs, h => by
    rw [List.forIn_cons, hf]
    have hr : ∀ x ∈ r, x.2 = .free → ∃ c, env.cells.lookup x.1 = some c := fun x hx => h x (List.mem_cons_of_mem _ hx)
    by_cases hk : k = .free
    · subst hk
      obtain ⟨c, hc⟩ := h (n, .free) List.mem_cons_self rfl
      have e1 : cellOf env n = pure c := by unfold cellOf; rw [hc]
      rw [if_pos (by rfl), e1, pure_bind, pure_bind]
      show forIn r ((n, c) :: cs) f = _
      rw [clos_go f hf r _ hr, List.filterMap_cons]
      simp [hc]
    · have hb : (k == NameKind.free) = false := by simpa using hk
      rw [if_neg (by rw [hb]; decide), pure_bind]
      show forIn r cs f = _
      rw [clos_go f hf r _ hr, List.filterMap_cons]
      simp [hb]
theorem clos_ok {scope : Scope} {env : Env} (h : ∀ x ∈ scope.names, x.2 = .free → ∃ c, env.cells.lookup x.1 = some c) : closureFor scope env = pure (clOf scope env) := by
  simp only [closureFor]
  rw [clos_go (env := env) _ (fun n k r => by cases hk : k == NameKind.free <;> simp [hk]) scope.names [] h]
  rw [List.append_nil]
  rfl
theorem lookup_clOf_go {env : Env} {x : Str} : ∀ {l : List (Str × Addr)} {c : Addr}, (∀ p ∈ l, env.cells.lookup p.1 = some p.2) → l.lookup x = some c → env.cells.lookup x = some c
  | [], _, _, e => by simp at e
  | (n, d) :: r, c, h, e => by
    rw [List.lookup_cons] at e
    cases hb : x == n with
    | true =>
      rw [hb] at e
      have e' : d = c := Option.some.inj e
      have hx : x = n := by simpa using hb
      subst hx e'
      exact h _ List.mem_cons_self
    | false =>
      rw [hb] at e
      exact lookup_clOf_go (fun p hp => h p (List.mem_cons_of_mem _ hp)) e
theorem mem_clOf {scope : Scope} {env : Env} {p : Str × Addr} (h : p ∈ clOf scope env) : env.cells.lookup p.1 = some p.2 := by
  unfold clOf at h
  rw [List.mem_reverse, List.mem_filterMap] at h
  obtain ⟨x, _, e⟩ := h
  split at e
  · cases q : env.cells.lookup x.1 with
    | none => rw [q] at e; cases e
    | some c =>
      rw [q] at e
      have e' : (x.1, c) = p := Option.some.inj e
      subst e'
      exact q
  · cases e
theorem mem_clOf_free {scope : Scope} {env : Env} {x : Str} {c : Addr} (h : (x, c) ∈ clOf scope env) : (x, NameKind.free) ∈ scope.names := by
  unfold clOf at h
  rw [List.mem_reverse, List.mem_filterMap] at h
  obtain ⟨⟨y, k⟩, hy, e⟩ := h
  split at e
  · rename_i hk
    have hk' : k = .free := by simpa using hk
    cases q : env.cells.lookup y with
    | none => simp [q] at e
    | some d =>
      simp [q] at e
      rw [← e.1, ← hk']
      exact hy
  · cases e
theorem lookup_clOf {scope : Scope} {env : Env} {x : Str} {c : Addr} (e : (clOf scope env).lookup x = some c) : env.cells.lookup x = some c :=
  lookup_clOf_go (fun _ hp => mem_clOf hp) e
theorem lookup_of_mem_fst {x : Str} : ∀ {l : List (Str × Addr)}, (∃ c, (x, c) ∈ l) → ∃ c, l.lookup x = some c
  | [], ⟨_, h⟩ => by cases h
  | (n, d) :: r, ⟨c, h⟩ => by
    rw [List.lookup_cons]
    cases hb : x == n with
    | true => exact ⟨d, rfl⟩
    | false =>
      rcases List.mem_cons.mp h with q | q
      · injection q with q1 _
        rw [q1] at hb
        simp at hb
      · exact lookup_of_mem_fst ⟨c, q⟩
theorem clOf_has {scope : Scope} {env : Env} {x : Str} {c : Addr} (hm : (x, NameKind.free) ∈ scope.names) (e : env.cells.lookup x = some c) : (clOf scope env).lookup x = some c := by
  have hmem : (x, c) ∈ clOf scope env := by
    unfold clOf
    rw [List.mem_reverse, List.mem_filterMap]
    exact ⟨(x, .free), hm, by simp [e]⟩
  obtain ⟨d, hd⟩ := lookup_of_mem_fst ⟨c, hmem⟩
  have := lookup_clOf hd
  rw [e] at this
  cases this
  exact hd

/-- the block's slots: none is one of its own names, some i the i-th of the def's -/
def capS (caps : List (Option Nat)) (σ : St) : St := caps.map fun o => o.bind fun i => (σ[i]?).bind id
/-- what is asked of the two scopes and of the names -/
structure CompOk (scope sc : Scope) (NX N : List Str) (caps : List (Option Nat)) : Prop where
  kind : scope.kind = .function
  nd : N.Nodup
  own : ∀ y ∈ scope.names, y.2 = .cell → scope.names.lookup y.1 = some .cell
  loc : ∀ y ∈ scope.names, y.2 = .local → scope.names.lookup y.1 = some .local
  free : ∀ y ∈ scope.names, y.2 = .free → scope.names.lookup y.1 = some .free ∧ (sc.names.lookup y.1 = some .cell ∨ sc.names.lookup y.1 = some .free)
  len : caps.length = N.length
  cap : ∀ p ∈ (caps.zip N), ∀ i, p.1 = some i → NX[i]? = some p.2 ∧ scope.names.lookup p.2 = some .free
def compOkB (scope sc : Scope) (NX N : List Str) (caps : List (Option Nat)) : Bool :=
  (scope.kind == .function) && decide N.Nodup && scope.names.all (fun y => y.2 != .cell || scope.names.lookup y.1 == some .cell) && scope.names.all (fun y => y.2 != .local || scope.names.lookup y.1 == some .local) &&
  scope.names.all (fun y => y.2 != .free || (scope.names.lookup y.1 == some .free && (sc.names.lookup y.1 == some .cell || sc.names.lookup y.1 == some .free))) && (caps.length == N.length) &&
  (caps.zip N).all (fun p => match p.1 with | none => true | some i => NX[i]? == some p.2 && scope.names.lookup p.2 == some .free)
theorem CompOk.of {scope sc : Scope} {NX N : List Str} {caps : List (Option Nat)} (h : compOkB scope sc NX N caps = true) : CompOk scope sc NX N caps := by
  unfold compOkB at h
  simp only [Bool.and_eq_true] at h
  obtain ⟨⟨⟨⟨⟨⟨h1, h2⟩, h3⟩, h4⟩, h5⟩, h6⟩, h7⟩ := h
  refine ⟨by simpa using h1, of_decide_eq_true h2, fun y hy hc => ?_, fun y hy hl => ?_, fun y hy hf => ?_, by simpa using h6, fun p hp i hi => ?_⟩
  · have := List.all_eq_true.mp h3 y hy
    rw [hc] at this
    simpa using this
  · have := List.all_eq_true.mp h4 y hy
    rw [hl] at this
    simpa using this
  · have := List.all_eq_true.mp h5 y hy
    rw [hf] at this
    simpa using this
  · have := List.all_eq_true.mp h7 p hp
    rw [hi] at this
    simpa using this
/-! ### the block's cells: its own, then the closure's -/
def csOf (scope : Scope) (C : Addr) (env : Env) : List (Str × Addr) := cellsFrom (C + 1) scope.names (clOf scope env)
theorem cells_lk : ∀ (names : List (Str × NameKind)) (n : Nat) (acc : List (Str × Addr)) {x : Str} {c : Addr}, (cellsFrom n names acc).lookup x = some c → (n ≤ c ∧ (x, NameKind.cell) ∈ names) ∨ acc.lookup x = some c
  | [], _, _, _, _, h => .inr h
  | (y, k) :: r, n, acc, x, c, h => by
    unfold cellsFrom at h
    split at h
    · rename_i hk
      have hk' : k = .cell := by simpa using hk
      rcases cells_lk r (n + 1) _ h with ⟨h1, h2⟩ | h2
      · exact .inl ⟨by omega, List.mem_cons_of_mem _ h2⟩
      · rw [List.lookup_cons] at h2
        cases hb : x == y with
        | true =>
          rw [hb] at h2
          have e : n = c := Option.some.inj h2
          have ex : x = y := by simpa using hb
          exact .inl ⟨by omega, by rw [ex, hk']; exact List.mem_cons_self⟩
        | false => rw [hb] at h2; exact .inr h2
    · rcases cells_lk r n acc h with ⟨h1, h2⟩ | h2
      · exact .inl ⟨h1, List.mem_cons_of_mem _ h2⟩
      · exact .inr h2
theorem cells_skip : ∀ (names : List (Str × NameKind)) (n : Nat) (acc : List (Str × Addr)) {x : Str}, (x, NameKind.cell) ∉ names → (cellsFrom n names acc).lookup x = acc.lookup x
  | [], _, _, _, _ => rfl
  | (y, k) :: r, n, acc, x, h => by
    unfold cellsFrom
    have hr : (x, NameKind.cell) ∉ r := fun z => h (List.mem_cons_of_mem _ z)
    split
    · rename_i hk
      have hk' : k = .cell := by simpa using hk
      rw [cells_skip r _ _ hr, List.lookup_cons]
      have hb : (x == y) = false := by
        cases hb : x == y with
        | false => rfl
        | true =>
          have ex : x = y := by simpa using hb
          exact absurd (by rw [ex, hk']; exact List.mem_cons_self) h
      rw [hb]
    · exact cells_skip r n acc hr
theorem cells_has : ∀ (names : List (Str × NameKind)) (n : Nat) (acc : List (Str × Addr)) {x : Str}, ((x, NameKind.cell) ∈ names ∨ ∃ c, acc.lookup x = some c) → ∃ c, (cellsFrom n names acc).lookup x = some c
  | [], _, _, _, h => by
    rcases h with h | h
    · cases h
    · exact h
  | (y, k) :: r, n, acc, x, h => by
    unfold cellsFrom
    split
    · rename_i hk
      refine cells_has r _ _ ?_
      by_cases hb : x = y
      · subst hb; exact .inr ⟨n, by simp [List.lookup_cons]⟩
      · rcases h with h | ⟨c, h⟩
        · rcases List.mem_cons.mp h with z | z
          · injection z with z1 _; exact absurd z1 hb
          · exact .inl z
        · exact .inr ⟨c, by rw [List.lookup_cons, show (x == y) = false by simpa using hb]; exact h⟩
    · rename_i hk
      refine cells_has r _ _ ?_
      rcases h with h | h
      · rcases List.mem_cons.mp h with z | z
        · injection z with _ z2
          rw [← z2] at hk
          exact absurd rfl hk
        · exact .inl z
      · exact .inr h
theorem cells_inj : ∀ (names : List (Str × NameKind)) (n : Nat) (acc : List (Str × Addr)), (∀ x y c, acc.lookup x = some c → acc.lookup y = some c → x = y) → (∀ x c, acc.lookup x = some c → c < n) →
    ∀ x y c, (cellsFrom n names acc).lookup x = some c → (cellsFrom n names acc).lookup y = some c → x = y
  | [], _, _, hi, _ => hi
  | (w, k) :: r, n, acc, hi, hb => by
    unfold cellsFrom
    split
    · refine cells_inj r (n + 1) _ (fun x y c h1 h2 => ?_) (fun x c h => ?_)
      · rw [List.lookup_cons] at h1 h2
        cases e1 : x == w <;> cases e2 : y == w <;> rw [e1] at h1 <;> rw [e2] at h2
        · exact hi x y c h1 h2
        · cases h2; exact absurd (hb x _ h1) (Nat.lt_irrefl _)
        · cases h1; exact absurd (hb y _ h2) (Nat.lt_irrefl _)
        · have a1 : x = w := by simpa using e1
          have a2 : y = w := by simpa using e2
          rw [a1, a2]
      · rw [List.lookup_cons] at h
        cases e1 : x == w <;> rw [e1] at h
        · exact Nat.lt_succ_of_lt (hb x c h)
        · cases h; exact Nat.lt_succ_self _
    · exact cells_inj r n acc hi hb
theorem cells_new : ∀ (names : List (Str × NameKind)) (h : Heap) (acc : List (Str × Addr)) {x : Str} {c : Addr}, (x, c) ∈ cellsFrom h.objs.size names acc → (x, c) ∈ acc ∨ (h.objs.size ≤ c ∧ (pushCells h names).IsCell c none)
  | [], _, _, _, _, hm => .inl hm
  | (y, k) :: r, h, acc, x, c, hm => by
    unfold cellsFrom at hm
    unfold pushCells
    split at hm
    · rename_i hk
      rw [if_pos hk]
      have hm' : (x, c) ∈ cellsFrom (h.push { cls := .type "cell", data := .cell none }).objs.size r ((y, h.objs.size) :: acc) := by rw [Heap.size_push]; exact hm
      rcases cells_new r _ _ hm' with z | ⟨z1, z2⟩
      · rcases List.mem_cons.mp z with z | z
        · injection z with _ z2
          subst z2
          refine .inr ⟨Nat.le_refl _, _, pushCells_keeps r _ _ _ (Heap.get?_push_size _ rfl), rfl⟩
        · exact .inl z
      · rw [Heap.size_push] at z1
        exact .inr ⟨by omega, z2⟩
    · rename_i hk
      rw [if_neg hk]
      exact cells_new r h acc hm
theorem newEnv_comp {M : Model} {A : Around} {E : Value → Shared → Prop} {s : Shared} {scope : Scope} {globals : Addr} {cl : List (Str × Addr)} {qual : Str} {env : Env} {Q : Env → Shared → Prop} (hcl : ∀ x c, (x, c) ∈ cl → c < s.heap.objs.size)
    (h : ∀ h' : Heap, h'.Ns s.heap.objs.size (fun _ => none) → (∀ b o, s.heap.get? b = some o → h'.get? b = some o) → (∀ x c, (cellsFrom (s.heap.objs.size + 1) scope.names cl).lookup x = some c → s.heap.objs.size + 1 ≤ c → h'.IsCell c none) →
      Q { scope := scope, locals := s.heap.objs.size, globals := globals, cells := cellsFrom (s.heap.objs.size + 1) scope.names cl, qual := qual, func := none, code := env.code, frame := env.frame, builtins := env.builtins } { s with heap := h' }) :
    wpAny M A (newFunctionEnv scope globals cl [] qual none .none (some env)) Q E s := by
  simp only [newFunctionEnv, Option.isSome_some, if_true]
  refine wpAny_bind (wpAny_alloc ?_)
  refine wpAny_bind (wpAny_layCells _ (fun name kind cells => by cases hkc : kind == NameKind.cell <;> simp [hkc]) _ _ _ _ ?_)
  rw [show ({ s with heap := s.heap.push { cls := .type "dict", data := .dict #[] } } : Shared).heap.objs.size = s.heap.objs.size + 1 from Heap.size_push ..]
  refine wpAny_bind ?_
  rw [List.forIn_nil]
  refine wpAny_pure (wpAny_pure (h _ ?_ (fun b o e => pushCells_keeps _ _ _ _ (Heap.get?_push_of_some _ e)) fun x c e hc => ?_))
  · refine ⟨_, #[], 0, pushCells_keeps _ _ _ _ (Heap.get?_push_size _ rfl), rfl, ?_, fun x => rfl⟩
    first | exact fun e he => by simp at he | simp
  · have hm := PySem.mem_of_lookup e
    have hm' : (x, c) ∈ cellsFrom (s.heap.push { cls := .type "dict", data := .dict #[] }).objs.size scope.names cl := by rw [Heap.size_push]; exact hm
    rcases cells_new _ _ _ hm' with z | z
    · exact absurd (Nat.lt_of_lt_of_le (hcl x c z) (Nat.le_of_succ_le hc)) (Nat.lt_irrefl _)
    · exact z.2
def compCx (X : Cx) (scope : Scope) (N : List Str) (C : Addr) (s₀ : Shared) (H₀ : Hp) (ex : List Addr) : Cx where
  prog := X.prog
  w := X.w
  K := X.K
  mg := X.mg
  base := X.base
  A := X.A
  N := N
  s₀ := s₀
  H₀ := H₀
  env := compEnvC scope (csOf scope C X.env) C X.env
  outer := X.stack
  stack := X.stack
  ex := ex
  fn := fun x => scope.names.lookup x == some .cell
  calm := X.calm
  pn := []
  xe := fun _ _ => False

/-- a name of the block that is a cell or free there is one of its free names, or a cell of its own -/
theorem relabel_free {scope : Scope} {env : Env} {x : Str} {k : NameKind} (hk : k = .cell ∨ k = .free) (h : (relabel scope env).names.lookup x = some k) : (x, NameKind.free) ∈ scope.names ∨ (x, NameKind.cell) ∈ scope.names := by
  have hm : (x, k) ∈ (relabel scope env).names := PySem.mem_of_lookup h
  unfold relabel at hm
  rw [List.mem_map] at hm
  obtain ⟨⟨n, k'⟩, hn, e⟩ := hm
  dsimp only at e
  by_cases hc : (k' == NameKind.free && env.scope.kind == .function && env.kindOf n == some .cell) = true
  · rw [if_pos hc] at e
    injection e with e1 e2
    have : k' = .free := by
      rw [Bool.and_eq_true, Bool.and_eq_true] at hc
      simpa using hc.1.1
    subst this e1
    exact .inl hn
  · rw [if_neg hc] at e
    injection e with e1 e2
    subst e1 e2
    rcases hk with hk | hk
    · subst hk; exact .inr hn
    · subst hk; exact .inl hn

theorem lookup_relabel_free {env : Env} : ∀ {names : List (Str × NameKind)} {x : Str}, names.lookup x = some .free →
    (names.map fun (n, k) => if (k == NameKind.free && env.scope.kind == .function && env.kindOf n == some .cell) then (n, NameKind.cell) else (n, k)).lookup x = some .cell ∨
    (names.map fun (n, k) => if (k == NameKind.free && env.scope.kind == .function && env.kindOf n == some .cell) then (n, NameKind.cell) else (n, k)).lookup x = some .free
  | [], _, h => by simp at h
  | (n, k) :: r, x, h => by
    have ih := @lookup_relabel_free env r x
    rw [List.map_cons]
    dsimp only
    cases hx : x == n with
    | true =>
      simp only [List.lookup_cons, hx] at h
      cases h
      by_cases hc : (NameKind.free == NameKind.free && env.scope.kind == .function && env.kindOf n == some .cell) = true
      · rw [if_pos hc]; left; simp [List.lookup_cons, hx]
      · rw [if_neg hc]; right; simp [List.lookup_cons, hx]
    | false =>
      simp only [List.lookup_cons, hx] at h
      by_cases hc : (k == NameKind.free && env.scope.kind == .function && env.kindOf n == some .cell) = true
      · rw [if_pos hc]; simp only [List.lookup_cons, hx]; exact ih h
      · rw [if_neg hc]; simp only [List.lookup_cons, hx]; exact ih h

section
variable {X : Cx} {pins : List (Addr × Obj)} {σ : St} {H : Hp} {s : Shared} {scope : Scope} {N : List Str} {caps : List (Option Nat)} {fp : List Addr}
/-- the block's start: the list at the heap's end, the block's names behind it -/
theorem comp_start {h1 : Heap} {tk : Nat} (I : Inv X pins σ H s) (O : CompOk scope X.env.scope X.N N caps) (f2 : ∀ b ∈ fp, FpOk X pins H b) (hob : ∀ b ∈ fp, b < s.heap.objs.size)
    (hns : h1.Ns (s.heap.objs.size + 1) (fun _ => none)) (hD : h1.get? s.heap.objs.size = some { cls := .type "list", data := .seq #[] }) (old : ∀ b o, s.heap.get? b = some o → h1.get? b = some o)
    (hnew : ∀ x c, (csOf scope (s.heap.objs.size + 1) X.env).lookup x = some c → s.heap.objs.size + 1 + 1 ≤ c → h1.IsCell c none) :
    Inv (compCx X scope N (s.heap.objs.size + 1) s H fp) [(s.heap.objs.size, { cls := .type "list", data := .seq #[] })] (capS caps σ) H { s with heap := h1, toks := tk } := by
  have sub : ∀ b ∈ frs X.stack, b < s.heap.objs.size := fun b hb => by
    obtain ⟨_, o, ho, _⟩ := I.stack.mem hb
    exact Heap.lt_size ho
  have cellLt : ∀ x c, X.env.cells.lookup x = some c → c < s.heap.objs.size := fun x c e => by
    obtain ⟨v, o, ho, _⟩ := I.cell x c e
    exact Heap.lt_size ho
  have cl : ∀ x c, (csOf scope (s.heap.objs.size + 1) X.env).lookup x = some c → (s.heap.objs.size + 1 + 1 ≤ c ∧ (x, NameKind.cell) ∈ scope.names) ∨ X.env.cells.lookup x = some c := fun x c e => by
    rcases cells_lk _ _ _ e with z | z
    · exact .inl z
    · exact .inr (lookup_clOf z)
  have freeHas : ∀ x, (x, NameKind.free) ∈ scope.names → ∃ c, X.env.cells.lookup x = some c := fun x hm => by
    rcases (O.free _ hm rfl).2 with q | q
    · exact I.ok.has x (.inl q)
    · exact I.ok.has x (.inr q)
  have notOwn : ∀ x, (x, NameKind.free) ∈ scope.names → (x, NameKind.cell) ∉ scope.names := fun x hm hc => by
    have h1 := (O.free _ hm rfl).1
    have h2 := O.own _ hc rfl
    dsimp only at h1 h2
    rw [h1] at h2
    cases h2
  refine ⟨⟨I.ok.mod, O.kind, I.ok.glob, I.ok.blt, Nat.le_succ _, fun x y c h1 h2 => ?_, fun x hx => ?_, fun x c hf e => ?_, I.ok.hd, I.ok.frames, .inl rfl, fun b hb => ⟨Nat.ne_of_lt (Nat.lt_succ_of_lt (hob b hb)), fun x c e => ?_⟩, I.bs, ?_, fun b o e hb => ?_, fun b hb hfs => ?_, I.stack, I.stkFree⟩,
    rfl, I.bare, Un.kept old, ⟨_, hns, fun i x v e1 e2 e3 => ?_⟩, fun x c e => ?_, I.hok.fresh (Nat.le_succ _), fun x c e => ?_, fun p hp => ?_, I.hok.kept old, ?_⟩
  · exact cells_inj scope.names _ (clOf scope X.env) (fun x y c a b => I.ok.inj x y c (lookup_clOf a) (lookup_clOf b)) (fun x c a => Nat.lt_succ_of_lt (Nat.lt_succ_of_lt (cellLt x c (lookup_clOf a)))) x y c h1 h2
  · have hm : (x, NameKind.free) ∈ scope.names ∨ (x, NameKind.cell) ∈ scope.names := by
      rcases hx with hx | hx
      · exact relabel_free (.inl rfl) hx
      · exact relabel_free (.inr rfl) hx
    rcases hm with hm | hm
    · obtain ⟨c, hc⟩ := freeHas x hm
      exact cells_has _ _ _ (.inr ⟨c, clOf_has hm hc⟩)
    · exact cells_has _ _ _ (.inl hm)
  · have hf' : scope.names.lookup x = some .cell := by simpa [compCx] using hf
    rcases cl x c e with z | z
    · exact Nat.le_of_lt (Nat.lt_of_lt_of_le (Nat.lt_succ_of_lt (Nat.lt_succ_self _)) z.1)
    · exfalso
      have hm := PySem.mem_of_lookup hf'
      rcases cells_lk _ _ _ e with w | w
      · exact absurd (Nat.lt_of_lt_of_le (cellLt x c z) (Nat.le_trans (Nat.le_succ_of_le (Nat.le_succ _)) w.1)) (Nat.lt_irrefl _)
      · have hmem := mem_clOf_free (PySem.mem_of_lookup w)
        exact notOwn x hmem hm
  · rcases cl x c e with z | z
    · exact fun w => absurd (Nat.lt_of_lt_of_le (hob b hb) (Nat.le_trans (Nat.le_succ_of_le (Nat.le_succ _)) (w ▸ z.1))) (Nat.lt_irrefl _)
    · exact (f2 b hb).2.2.2.2.1 x c z
  · exact Nat.le_trans I.ok.bsz I.sz
  · rcases (f2 b hb).2.2.2.1 with z | z
    · exact I.ok.noex b o e z
    · exact absurd (Nat.lt_of_lt_of_le (Heap.lt_size (I.ok.bs b o e).1) z) (Nat.lt_irrefl _)
  · rcases List.mem_cons.mp (I.stkSub b hfs) with z | z
    · exact (f2 b hb).2.1 z
    · exact (f2 b hb).2.2.1 z
  · -- a captured name
    have hi : i < caps.length := by
      have := (List.getElem?_eq_some_iff.mp e2).1
      unfold capS at this
      rwa [List.length_map] at this
    have hcap : ∃ j, caps[i]? = some (some j) ∧ σ[j]? = some (some v) := by
      unfold capS at e2
      rw [List.getElem?_map] at e2
      cases q : caps[i]? with
      | none => rw [q] at e2; cases e2
      | some o =>
        rw [q] at e2
        have e2' : (o.bind fun i => (σ[i]?).bind id) = some v := Option.some.inj e2
        cases o with
        | none => cases e2'
        | some j =>
          refine ⟨j, rfl, ?_⟩
          cases q2 : σ[j]? with
          | none => rw [Option.bind_some, q2] at e2'; cases e2'
          | some o2 =>
            rw [Option.bind_some, q2] at e2'
            cases o2 with
            | none => cases e2'
            | some v2 => cases e2'; rfl
    obtain ⟨j, hj, hv⟩ := hcap
    have hN : N[i]? = some x := e1
    have hz : (some j, x) ∈ caps.zip N := by
      have : (caps.zip N)[i]? = some (some j, x) := by
        rw [List.getElem?_zip_eq_some]
        exact ⟨hj, hN⟩
      exact List.mem_of_getElem? this
    obtain ⟨hX, hf⟩ := O.cap _ hz j rfl
    have hm : (x, NameKind.free) ∈ scope.names := PySem.mem_of_lookup hf
    have hvis : Vis X.env.scope x := by
      rcases (O.free _ hm rfl).2 with q | q
      · exact .inr (.inl q)
      · exact .inr (.inr q)
    obtain ⟨m, hn, hl⟩ := I.loc
    obtain ⟨u, r, l⟩ := hl j x v hX hv hvis
    refine ⟨u, r, ?_⟩
    rcases l with ⟨k, _⟩ | ⟨_, c, e, ⟨o, ho, hd⟩⟩
    · exfalso
      rcases (O.free _ hm rfl).2 with q | q
      · have : X.env.scope.names.lookup x = some .local := k
        rw [q] at this; cases this
      · have : X.env.scope.names.lookup x = some .local := k
        rw [q] at this; cases this
    · have hk2 : (compCx X scope N (s.heap.objs.size + 1) s H fp).env.kindOf x = some .cell ∨ (compCx X scope N (s.heap.objs.size + 1) s H fp).env.kindOf x = some .free := lookup_relabel_free hf
      exact .inr ⟨hk2, c, (cells_skip _ _ _ (notOwn x hm)).trans (clOf_has hm e), ⟨o, old c o ho, hd⟩⟩
  · rcases cl x c e with z | z
    · exact ⟨none, hnew x c e z.1⟩
    · obtain ⟨v, o, ho, hd⟩ := I.cell x c z
      exact ⟨v, o, old c o ho, hd⟩
  · rcases cl x c e with z | z
    · exact I.hok.fresh (Nat.le_trans (Nat.le_succ_of_le (Nat.le_succ _)) z.1)
    · exact I.freeC x c z
  · have e : p = (s.heap.objs.size, { cls := .type "list", data := .seq #[] }) := by simpa [compCx] using hp
    subst e
    refine ⟨hD, I.hok.fresh (Nat.le_refl _), Nat.ne_of_lt (Nat.lt_succ_self _), fun hb => absurd (sub _ hb) (Nat.lt_irrefl _), fun v z => by cases z⟩
  · show (capS caps σ).length = N.length
    unfold capS
    rw [List.length_map]
    exact O.len
end
end L2

namespace L2
open PySem PySem.Spec PyProof.Rows
/-- the tests of a clause -/
def PTs (X : Cx) (ifs : List Expr) (t : TT) : Prop :=
  ∀ (pins : List (Addr × Obj)) (s : Shared) (σ : St) (H : Hp) (Q : Bool → Hp → Prop), Inv X pins σ H s → t σ H Q →
    wpAny (model X.prog X.w) X.A (forIn ifs true fun c r => if r = true then do let ok ← isTrue c X.env (eval c X.env); pure (ForInStep.yield ok) else pure (ForInStep.yield r)) (TP X pins σ Q) X.xe s
def tTrue : TT := fun _ H Q => Q true H
theorem pts_nil {X : Cx} : PTs X [] tTrue := fun _ _ _ H _ I h => wpAny_tests_nil ⟨H, I, h⟩
theorem pts_one {X : Cx} {c : Expr} {t : TT} (h : PT X c t) : PTs X [c] t := fun pins s σ H Q I hw => wpAny_tests_one (h pins s σ H Q I hw)

section
variable {prog : Program} {w : World} {A : Around} {R : Result → Shared → Prop} {s : Shared}
theorem comp_loop {elt target iter : Expr} {ifs : List Expr} {scope : Scope} {pos : Pos} {it acc : Value} {env : Env} (I : Nat → Shared → Prop)
    (turn : ∀ n s, I n s → wpAny (model prog w) A (pyNext it) (fun r s₁ => match r with
      | none => R (.ok .next) s₁
      | some v => wpAny (model prog w) A (letOwnedTupleGo target it v) (fun _ s₀ => wpAny (model prog w) A (assign target env v) (fun _ s₂ =>
          wpAny (model prog w) A (forIn ifs true fun c r => if r = true then do let ok ← isTrue c env (eval c env); pure (ForInStep.yield ok) else pure (ForInStep.yield r)) (fun ok s₃ =>
            if ok = true then wpAny (model prog w) A (eval elt env) (fun x s₄ =>
              wpAny (model prog w) A (call (.builtin "list.append") [acc, x]) (fun _ s₅ => ∃ m, m < n ∧ I m s₅) (fun _ _ => False) s₄) (fun _ _ => False) s₃
            else ∃ m, m < n ∧ I m s₃) (fun _ _ => False) s₂) (fun _ _ => False) s₀) (fun _ _ => False) s₁) (fun _ _ => False) s)
    (n : Nat) (h : I n s) : codeAny (model prog w) A (.compLoop (.ListComp elt [⟨target, iter, ifs, 0⟩] scope pos) 0 it acc env) R s := by
  refine codeAny_loop rfl I (fun n s hI => ?_) n h
  show wpAny _ A ((compTurn (.ListComp elt [⟨target, iter, ifs, 0⟩] scope pos) 0 it acc env).onRaise (fun x => do noteFrame x env; theTreesLotGoes x)) _ _ s
  refine wpAny_noted (wpAny_noRaise ?_)
  rw [compTurn_list]
  refine wpAny_bind (wpAny_standAt (wpAny_bind (thn (turn n s hI) fun r s₁ h₁ => ?_)))
  cases r with
  | none => exact wpAny_pure h₁
  | some v =>
    refine wpAny_bind (thn h₁ fun _ s₀ h₀ => ?_)
    refine wpAny_bind (thn h₀ fun _ s₂ h₂ => wpAny_bind (thn h₂ fun ok s₃ h₃ => ?_))
    cases ok with
    | false => exact wpAny_pure ⟨rfl, h₃⟩
    | true => exact wpAny_bind (wpAny_bind (thn h₃ fun x s₄ h₄ => wpAny_bind (thn h₄ fun _ s₅ h₅ => wpAny_pure (wpAny_pure ⟨rfl, h₅⟩))))
end

/-- the captured slots are as they were -/
def Keep (caps : List (Option Nat)) (σ σ' : St) : Prop := ∀ (j : Nat) (v : V), (capS caps σ)[j]? = some (some v) → σ'[j]? = some (some v)
def GK (caps : List (Option Nat)) (g : TG) : Prop := ∀ σ σ1 x H (Q : St → Hp → Prop), Keep caps σ σ1 → g x σ1 H Q → g x σ1 H fun σ2 H2 => Keep caps σ σ2 ∧ Q σ2 H2
def GKs (caps : List (Option Nat)) (g : TGs) : Prop := ∀ σ σ1 xs H (Q : St → Hp → Prop), Keep caps σ σ1 → g xs σ1 H Q → g xs σ1 H fun σ2 H2 => Keep caps σ σ2 ∧ Q σ2 H2
theorem Keep.set {caps : List (Option Nat)} {σ σ' : St} {i : Nat} {x : Option V} (k : Keep caps σ σ') (h : caps[i]? = some none) : Keep caps σ (σ'.set i x) := fun j v e => by
  by_cases hj : i = j
  · subst hj
    unfold capS at e
    rw [List.getElem?_map, h] at e
    cases e
  · rw [List.getElem?_set_ne hj]
    exact k j v e
theorem gk_name {caps : List (Option Nat)} {i : Nat} (h : caps[i]? = some none) : GK caps (gName i) := fun _ _ _ _ _ k q => ⟨k.set h, q⟩
theorem gks_nil {caps : List (Option Nat)} : GKs caps gNil := fun _ _ _ _ _ k q => ⟨q.1, k, q.2⟩
theorem gks_cons {caps : List (Option Nat)} {t : TG} {u : TGs} (mono : ∀ x σ H (Q Q' : St → Hp → Prop), (∀ σ H, Q σ H → Q' σ H) → t x σ H Q → t x σ H Q') (h1 : GK caps t) (h2 : GKs caps u) : GKs caps (gCons t u) := fun σ σ1 xs H Q k q => by
  obtain ⟨v, r, e, q⟩ := q
  refine ⟨v, r, e, ?_⟩
  exact mono _ _ _ _ _ (fun σ2 H2 ⟨k2, q2⟩ => h2 σ σ2 r H2 Q k2 q2) (h1 σ σ1 v H _ k q)
theorem gName_mono {i : Nat} : ∀ x σ H (Q Q' : St → Hp → Prop), (∀ σ H, Q σ H → Q' σ H) → gName i x σ H Q → gName i x σ H Q' := fun _ _ _ _ _ h q => h _ _ q
theorem gk_tup {K : PySem.W.Frag} {caps : List (Option Nat)} {n : Nat} {t : TGs} (h : GKs caps t) : GK caps (gTup K n t) := fun σ σ1 x H Q k q => by
  obtain ⟨a, xs, e, hq, hl, q⟩ := q
  exact ⟨a, xs, e, hq, hl, h σ σ1 xs H Q k q⟩
def lstO (its : List Value) (n : Nat) : Obj := { cls := .type "list", data := .seq its.toArray n }
/-- what a comprehension wants of its source, its test, its element: W is the word between two turns (the turn, a measure, the items so far, the heap) -/
def tCompK (caps : List (Option Nat)) (g : TG) (tt : TT) (te : TE) (σ : St) (QQ : List V → Hp → Prop) (J : It) (H1 : Hp) : Prop :=
  ∃ W : Nat → Nat → List V → Hp → Prop, (∃ m, W 0 m [] H1) ∧ ∀ i m ys H, W i m ys H →
    (J.stop i H ∧ QQ ys H) ∨ (J.go i H ∧ ∃ N : List V → Hp → Prop, (∀ ys' H', N ys' H' → ∃ m', m' < m ∧ W (i + 1) m' ys' H') ∧
      ∀ x H', J.yld i H x H' → g x (capS caps σ) H' fun σ2 H2 => tt σ2 H2 fun b H3 => if b = true then te σ2 H3 fun y H4 => ys.length < sizeLine ∧ N (ys ++ [y]) H4 else N ys H3)
def tComp (caps : List (Option Nat)) (wi : TI) (g : TG) (tt : TT) (te : TE) : TE := fun σ H Q =>
  wi σ H (tCompK caps g tt te σ fun ys H' => ∀ D, H' D = none → Q (.ref D) (upd H' D (.lst ys)))

section
variable {X : Cx} {pins : List (Addr × Obj)} {σ : St} {scope : Scope} {N : List Str} {caps : List (Option Nat)} {fp : List Addr}
/-- behind the block: its list is tracked -/
theorem comp_end {H H' : Hp} {s s' : Shared} {σ' : St} {its : List Value} {n : Nat} {ys : List V} (I : Inv X pins σ H s) (f2 : ∀ b ∈ fp, FpOk X pins H b)
    (J : Inv (compCx X scope N (s.heap.objs.size + 1) s H fp) [(s.heap.objs.size, lstO its n)] σ' H' s') (hv : Vals ys its) (hz : ys.length ≤ sizeLine) :
    Inv X pins σ (upd H' s.heap.objs.size (.lst ys)) s' ∧ H' s.heap.objs.size = none ∧ H' (s.heap.objs.size + 1) = none := by
  have hpin := J.pin (s.heap.objs.size, lstO its n) (List.mem_append_right _ (List.mem_singleton.mpr rfl))
  obtain ⟨hD, hDn, hDC, _, _⟩ := hpin
  have hD0 : H s.heap.objs.size = none := I.hok.fresh (Nat.le_refl _)
  have ltD : ∀ b o, s.heap.get? b = some o → b ≠ s.heap.objs.size := fun b o e => Nat.ne_of_lt (Heap.lt_size e)
  refine ⟨I.call' (ch := fp) J.os ⟨J.base.keep, J.base.slot, fun b o e n' hx => ?_, J.base.there, fun b xs e => ?_, fun b o u e => ?_, fun b ps e => ?_⟩ (fun a o e => ?_) J.bare (fun b hb => ?_), hDn, J.free⟩
  · rw [upd_ne (ltD b o e)]; exact J.base.free b o e n' hx
  · rw [upd_ne (ne_of_none e hD0)]; exact J.base.tups b xs e
  · rw [upd_ne (ne_of_none e hD0)]; exact J.base.frzs b o u e
  · rw [upd_ne (ne_of_none e hD0)]; exact J.base.tbls b ps e
  · by_cases ha : a = s.heap.objs.size
    · subst ha
      rw [upd_same] at e
      cases e
      exact ⟨hz, its, n, hv, hD⟩
    · rw [upd_ne ha] at e
      exact (J.hok a o e).stay (fun b u _ q => q) (fun b q => by rw [upd_ne (ne_of_none q hDn)]; exact q) fun b xs q => by rw [upd_ne (ne_of_none q hDn)]; exact q
  · obtain ⟨_, h1, _, h3, h4, h5⟩ := f2 b hb
    exact ⟨h3, h1, h4, h5⟩

theorem comp_block {elt tg iter : Expr} {ifs : List Expr} {pos : Pos} {g : TG} {tt : TT} {te : TE} {QQ : List V → Hp → Prop} {R : Value → Addr → Result → Shared → Prop} {itv : Value} {s2 : Shared} (hc : X.calm = true) (O : CompOk scope X.env.scope X.N N caps) (gk : GK caps g)
    (hg : ∀ C s H fp, PG (compCx X scope N C s H fp) tg g) (ht : ∀ C s H fp, PTs (compCx X scope N C s H fp) ifs tt) (he : ∀ C s H fp, PE (compCx X scope N C s H fp) elt te)
    (h2 : PIE X pins σ tg (tCompK caps g tt te σ QQ) itv s2)
    (fin : ∀ (D C : Addr) (s' : Shared) (H' : Hp) (ys : List V) (m : Str → Option Value), Inv X pins σ (upd H' D (.lst ys)) s' → s'.heap.Ns C m → H' D = none → H' C = none → C ≠ D → X.s₀.heap.objs.size ≤ C → C ≠ X.env.locals → (∀ x c, X.env.cells.lookup x = some c → c ≠ C) → (∀ p ∈ X.pn ++ pins, p.1 ≠ C) →
      QQ ys H' → R (.ref D) C (.ok .next) s') :
    wpAny (model X.prog X.w) X.A (newList []) (fun acc s₃ => wpAny (model X.prog X.w) X.A (newFunctionEnv scope X.env.globals (clOf scope X.env) [] X.env.qual none .none (some X.env)) (fun cenv s₄ =>
      codeAny (model X.prog X.w) X.A (.compStart (.ListComp elt [⟨tg, iter, ifs, 0⟩] scope pos) 0 itv acc { cenv with scope := relabel scope X.env }) (R acc cenv.locals) s₄) X.xe s₃) X.xe s2 := by
  obtain ⟨it, fp, tn, J, H2, e, I2, T, st2, f2, W, ⟨m0, w0⟩, turn⟩ := h2
  subst e
  have cellLt : ∀ x c, X.env.cells.lookup x = some c → c < s2.heap.objs.size := fun x c e => by
    obtain ⟨v, o, ho, _⟩ := I2.cell x c e
    exact Heap.lt_size ho
  refine wpAny_newObj_type (newEnv_comp (fun x c hm => by rw [Heap.size_push]; exact Nat.lt_succ_of_lt (cellLt x c (mem_clOf hm))) (fun h₁ hns₁ hsb₁ hnew₁ => ?_))
  dsimp only at hns₁ hsb₁ hnew₁ ⊢
  have hob : ∀ b ∈ fp, b < s2.heap.objs.size := fun b hb => by
    obtain ⟨o, ho, _⟩ := T.obj _ _ st2 b hb
    exact Heap.lt_size ho
  generalize hH2 : s2.heap.push { cls := .type "list", dict := none, data := .seq ([] : List Value).toArray } = G2 at hns₁ hsb₁ hnew₁ ⊢
  have hC : G2.objs.size = s2.heap.objs.size + 1 := by rw [← hH2, Heap.size_push]
  rw [hC] at hns₁ hnew₁ ⊢
  have old : ∀ b o, s2.heap.get? b = some o → h₁.get? b = some o := fun b o e => hsb₁ b o (hH2 ▸ Heap.get?_push_of_some _ e)
  have hD : h₁.get? s2.heap.objs.size = some { cls := .type "list", data := .seq #[] } := hsb₁ _ _ (hH2 ▸ Heap.get?_push_size _ rfl)
  have I0 := comp_start (scope := scope) (N := N) (caps := caps) (fp := fp) (tk := s2.toks) I2 O f2 hob hns₁ hD old hnew₁
  have st0 : tn 0 h₁ := T.keep _ _ _ st2 fun b _ o e => old b o e
  have f0 : ∀ {pins' : List (Addr × Obj)} {H' : Hp}, (∀ p ∈ pins', p.1 = s2.heap.objs.size) → (∀ b ∈ fp, H' b = none) → ∀ b ∈ fp, FpOk (compCx X scope N (s2.heap.objs.size + 1) s2 H2 fp) pins' H' b := fun {pins' H'} hp hn b hb => by
    obtain ⟨_, k1, k2, k3, k4, k5⟩ := f2 b hb
    refine ⟨hn b hb, Nat.ne_of_lt (Nat.lt_succ_of_lt (hob b hb)), fun hm => ?_, .inl hb, fun x c e => by
      rcases cells_lk _ _ _ e with z | z
      · exact fun w => absurd (Nat.lt_of_lt_of_le (hob b hb) (Nat.le_trans (Nat.le_succ_of_le (Nat.le_succ _)) (w ▸ z.1))) (Nat.lt_irrefl _)
      · exact k4 x c (lookup_clOf z), fun p hm => ?_⟩
    · rcases List.mem_cons.mp (I2.stkSub b hm) with z | z
      · exact k1 z
      · exact k2 z
    · have q := hp p (by simpa [compCx] using hm)
      rw [q]
      exact Nat.ne_of_gt (hob b hb)
  have loop : codeAny (model X.prog X.w) X.A (.compLoop (.ListComp elt [⟨tg, iter, ifs, 0⟩] scope pos) 0 (.ref it) (.ref s2.heap.objs.size) (compCx X scope N (s2.heap.objs.size + 1) s2 H2 fp).env)
      (R (.ref s2.heap.objs.size) (s2.heap.objs.size + 1)) { s2 with heap := h₁ } := by
    refine comp_loop (fun n s' => ∃ i ys its k H', Inv (compCx X scope N (s2.heap.objs.size + 1) s2 H2 fp) [(s2.heap.objs.size, lstO its k)] (capS caps σ) H' s' ∧ Vals ys its ∧ ys.length ≤ sizeLine ∧ tn i s'.heap ∧ (∀ b ∈ fp, H' b = none) ∧ W i n ys H')
      ?_ m0 ⟨0, [], [], 0, H2, I0, .nil, Nat.zero_le _, st0, fun b hb => (f2 b hb).1, w0⟩
    rintro n s3 ⟨i, ys, its, k, H3, I3, v3, z3, st3, fr3, w3⟩
    have one : ∀ p ∈ [(s2.heap.objs.size, lstO its k)], p.1 = s2.heap.objs.size := fun p hp => by rw [List.mem_singleton.mp hp]
    rcases turn i n ys H3 w3 with ⟨stop, qn⟩ | ⟨go, M, hM, step⟩
    · refine thn (T.done (compCx X scope N (s2.heap.objs.size + 1) s2 H2 fp) rfl rfl rfl hc i _ s3 _ H3 _ I3 (f0 one fr3) st3 stop) fun r s4 ⟨hr, I4⟩ => ?_
      subst hr
      obtain ⟨E1, E2, E3⟩ := comp_end I2 f2 I4 v3 z3
      obtain ⟨m, hm, _⟩ := I4.loc
      refine fin _ _ s4 H3 ys m E1 hm E2 E3 (Nat.ne_of_gt (Nat.lt_succ_self _)) (Nat.le_succ_of_le I2.sz) (Nat.ne_of_gt (Nat.lt_succ_of_lt I2.lt)) (fun x c e => ?_) (fun p hp => ?_) qn
      · obtain ⟨v, o, ho, _⟩ := I2.cell x c e
        exact Nat.ne_of_lt (Nat.lt_succ_of_lt (Heap.lt_size ho))
      · exact Nat.ne_of_lt (Nat.lt_succ_of_lt (Heap.lt_size (I2.pin p hp).1))
    · refine thn (T.item (compCx X scope N (s2.heap.objs.size + 1) s2 H2 fp) rfl rfl rfl hc i _ s3 _ H3 _ I3 (f0 one fr3) st3 go) fun r s4 ⟨u, hr, h4⟩ => ?_
      subst hr
      refine thn h4 fun _ s5 ⟨x, H5, I5, r5, y5, st5, fr5⟩ => ?_
      have I5' := I5.pinned (f0 one fr5) (T.obj _ _ st5)
      refine thn (hg _ _ _ _ _ s5 _ H5 x u _ I5' r5 (gk σ _ x H5 _ (fun _ _ e => e) (step x H5 y5))) fun _ s6 ⟨σ6, H6, I6, kp, q6⟩ => ?_
      refine thn (ht _ _ _ _ _ s6 σ6 H6 _ I6 q6) fun ok s7 ⟨H7, I7, q7⟩ => ?_
      have back : ∀ {σ8 : St} {H8 : Hp} {s8 : Shared} {ys' : List V}, Inv (compCx X scope N (s2.heap.objs.size + 1) s2 H2 fp) ([(s2.heap.objs.size, lstO its k)] ++ pinsAt fp s5.heap) σ8 H8 s8 → M ys' H8 →
          tn (i + 1) s8.heap ∧ (∀ b ∈ fp, H8 b = none) ∧ ∃ m', m' < n ∧ W (i + 1) m' ys' H8 := fun {σ8 H8 s8 ys'} I8 m8 => by
        refine ⟨T.keep _ _ _ st5 fun b hb o e => (I8.pin (b, o) (List.mem_append_right _ (List.mem_append_right _ (mem_pinsAt hb e)))).1, fun b hb => ?_, hM _ _ m8⟩
        obtain ⟨o, e, d⟩ := T.obj _ _ st5 b hb
        exact (I8.pin (b, o) (List.mem_append_right _ (List.mem_append_right _ (mem_pinsAt hb e)))).2.1
      have hlen : (capS caps σ).length = σ6.length := by rw [I6.len]; exact I3.len
      cases ok with
      | false =>
        have q7' : M ys H7 := q7
        obtain ⟨b1, b2, m', hm', w'⟩ := back I7 q7'
        exact ⟨m', hm', i + 1, ys, its, k, H7, (I7.weak hlen kp).unpinned, v3, z3, b1, b2, w'⟩
      | true =>
        have q7' : te σ6 H7 fun y H4 => ys.length < sizeLine ∧ M (ys ++ [y]) H4 := q7
        refine thn (he _ _ _ _ _ s7 σ6 H7 _ I7 q7') fun v8 s8 ⟨y, H8, I8, r8, hlt, m8⟩ => ?_
        obtain ⟨b1, b2, m', hm', w'⟩ := back I8 m8
        have hpin := I8.pin (s2.heap.objs.size, lstO its k) (List.mem_append_right _ (List.mem_append_left _ (List.mem_singleton.mpr rfl)))
        obtain ⟨e8, hDn, hDL, hDf, _⟩ := hpin
        have hl8 := v3.length
        refine call_meets F.slot_list_append ⟨_, e8, rfl⟩ F.entry_list_append (F.args_list_append_2 _ _) (PySem.list_append s2.heap.objs.size its.toArray k v8 (by rw [List.size_toArray]; omega)) ⟨e8, ?_⟩
        have q := PySem.IsL.update e8 (·.push v8)
        rw [show its.toArray.push v8 = (its ++ [v8]).toArray by simp] at q
        obtain ⟨k', q⟩ : ∃ k', (s8.heap.update s2.heap.objs.size (Obj.mapSeq (·.push v8))).get? s2.heap.objs.size = some (lstO (its ++ [v8]) k') := ⟨_, q⟩
        have I9 : Inv (compCx X scope N (s2.heap.objs.size + 1) s2 H2 fp) [] (capS caps σ) H8 s8 := (I8.weak hlen kp).pins_of (pins' := []) fun p hp => nomatch hp
        have I10 := I9.turned (h' := s8.heap.update s2.heap.objs.size (Obj.mapSeq (·.push v8))) (t' := s8.toks) (it := s2.heap.objs.size) (fun b o hb e => (Heap.get?_update_other s8.heap _ (Ne.symm hb)).trans e) hDn hDL (.inr (Nat.le_refl _))
          (fun x c e z => by
            rcases cells_lk _ _ _ e with w | w
            · exact absurd (Nat.lt_of_lt_of_le (Nat.lt_succ_of_lt (Nat.lt_succ_self _)) (z ▸ w.1)) (Nat.lt_irrefl _)
            · exact absurd (cellLt x c (lookup_clOf w)) (by rw [z]; exact Nat.lt_irrefl _)) (fun p hp => nomatch hp)
        refine ⟨m', hm', i + 1, ys ++ [y], its ++ [v8], k', H8, I10.pins_of fun p hp => ?_, v3.append (.cons r8 .nil), by rw [List.length_append, List.length_singleton]; omega, T.keep _ _ _ b1 fun b hb o e => ?_, b2, w'⟩
        · rw [List.mem_singleton.mp hp]
          exact ⟨q, hDn, hDL, hDf, fun v z => by cases z⟩
        · exact (Heap.get?_update_other s8.heap _ (Nat.ne_of_gt (hob b hb))).trans e
  exact codeAny_compStart_list loop (T.self _ _ _ _ _ st0 loop)
/-- [elt for tg in iter if ..] as a value -/
theorem pe_comp {elt tg iter : Expr} {ifs : List Expr} {pos : Pos} {wi : TI} {g : TG} {tt : TT} {te : TE} (hc : X.calm = true) (O : CompOk scope X.env.scope X.N N caps) (gk : GK caps g) (hi : PI X tg iter wi)
    (hg : ∀ C s H fp, PG (compCx X scope N C s H fp) tg g) (ht : ∀ C s H fp, PTs (compCx X scope N C s H fp) ifs tt) (he : ∀ C s H fp, PE (compCx X scope N C s H fp) elt te)
    (hs : ∀ x, foldedSetIterable iter X.env x = pure x := by intro _; rfl) : PE X (.ListComp elt [⟨tg, iter, ifs, 0⟩] scope pos) (tComp caps wi g tt te) := by
  intro pins s σ H Q I h
  rw [eval_ListComp]
  have hcl : closureFor scope X.env = pure (clOf scope X.env) := clos_ok fun x hx hf => by
    rcases (O.free x hx hf).2 with q | q
    · exact I.ok.has x.1 (.inl q)
    · exact I.ok.has x.1 (.inr q)
  refine wpAny_comprehension_free (use := none) rfl hs hcl O.kind O.loc (thn (hi pins s σ H _ I h) fun v s1 h1 => thn h1 fun itv s2 h2 => ?_)
  refine comp_block (R := fun acc C => compPost (model X.prog X.w) X.A X.xe none (EP X pins σ Q) acc C) hc O gk hg ht he h2 ?_
  intro D C s' H' ys m E1 hm E2 E3 hCD hC0 hCL hCc hCp qq
  refine ⟨m, hm, fun h' hs' => ?_⟩
  have I9 := E1.turned (h' := h') (t' := s'.toks) (it := C) (fun b o hb e => hs'.extBut b o hb e) (by rw [upd_ne hCD]; exact E3) hCL (.inr hC0) hCc hCp
  exact ⟨.ref D, _, I9, rfl, qq D E2⟩
/-- name = [..] where the store stands within the comprehension (a plain local, on one row) -/
def tSetComp (i : Nat) (caps : List (Option Nat)) (wi : TI) (g : TG) (tt : TT) (te : TE) : TS := fun D σ H =>
  wi σ H (tCompK caps g tt te σ fun ys H' => ∀ d, H' d = none → D.nx (σ.set i (some (.ref d))) (upd H' d (.lst ys)))
theorem ps_setComp {i : Nat} {y : Str} {py spos : Pos} {elt tg iter : Expr} {ifs : List Expr} {pos : Pos} {wi : TI} {g : TG} {tt : TT} {te : TE} (hN : X.N.Nodup) (hy : X.N[i]? = some y) (hl : X.env.scope.names.lookup y = some .local)
    (hsw : swapsWith (.ListComp elt [⟨tg, iter, ifs, 0⟩] scope pos) (some (.Name y py)) spos.line X.env = pure true)
    (hc : X.calm = true) (O : CompOk scope X.env.scope X.N N caps) (gk : GK caps g) (hi : PI X tg iter wi)
    (hg : ∀ C s H fp, PG (compCx X scope N C s H fp) tg g) (ht : ∀ C s H fp, PTs (compCx X scope N C s H fp) ifs tt) (he : ∀ C s H fp, PE (compCx X scope N C s H fp) elt te)
    (hs : ∀ x, foldedSetIterable iter X.env x = pure x := by intro _; rfl) : PS X (.Assign [.Name y py] (.ListComp elt [⟨tg, iter, ifs, 0⟩] scope pos) spos) (tSetComp i caps wi g tt te) := by
  intro pins s σ H D I h
  rw [exec_Assign_Name_used _ _ _ _ hsw]
  refine wpAny_bind (wpAny_standAt (wpAny_bind ?_))
  show wpAny _ X.A (do let _ ← comprehension (.ListComp elt [⟨tg, iter, ifs, 0⟩] scope pos) scope X.env _ (newList []) false (eval iter X.env) (some (assign (.Name y py) X.env))) _ _ s
  have hcl : closureFor scope X.env = pure (clOf scope X.env) := clos_ok fun x hx hf => by
    rcases (O.free x hx hf).2 with q | q
    · exact I.ok.has x.1 (.inl q)
    · exact I.ok.has x.1 (.inr q)
  refine wpAny_bind (thn (wpAny_comprehension_free (use := some (assign (.Name y py) X.env)) (Q := fun _ s' => SP X pins D .next s') rfl hs hcl O.kind O.loc
    (thn (hi pins s σ H _ I h) fun v s1 h1 => thn h1 fun itv s2 h2 => ?_)) fun _ s' hq => wpAny_pure (wpAny_pure hq))
  refine comp_block (R := fun acc C => compPost (model X.prog X.w) X.A X.xe (some (assign (.Name y py) X.env)) (fun _ s' => SP X pins D .next s') acc C) hc O gk hg ht he h2 ?_
  intro d C s' H' ys m E1 hm E2 E3 hCD hC0 hCL hCc hCp qq
  show wpAny _ X.A (assign (.Name y py) X.env (.ref d)) _ _ _
  refine wpAny_assign_Name (store_ok2 (v := .ref d) E1 hN hy (.inl hl) rfl (fun s'' I'' ⟨a, hs'', ha⟩ => ?_) (.inr hl))
  have hCa : C ≠ a := by
    rcases ha with z | z
    · rw [z]; exact hCL
    · exact fun q => hCc y a z q.symm
  refine ⟨m, hm.sameBut hs'' hCa, fun h' hs' => ?_⟩
  have I9 := I''.turned (h' := h') (t' := s''.toks) (it := C) (fun b o hb e => hs'.extBut b o hb e) (by rw [upd_ne hCD]; exact E3) hCL (.inr hC0) hCc hCp
  exact ⟨_, _, I9, qq d E2⟩
end
end L2

namespace L2
open PySem PySem.Spec PyProof.Rows

/-! ### defs that are done, by their names -/
structure Dn (P : Program) (w : World) (K : PySem.W.Frag) (mg : Str → Option Value) (base : Heap) (CX : CXT) (k : Nat) (x : Str) (ps : List Str) (sp : Sp) : Prop where
  ex : ∃ f fd, FnOk P w K mg base CX k f fd ps sp ∧ mg x = some (.ref f) ∧ PySem.W.keepIn K (.ref f) = true ∧ Binds K fd ps []
theorem pe_fn {X : Cx} {CX : CXT} {k j : Nat} {x : Str} {ps : List Str} {sp : Sp} {E : XK} {p pos : Pos} {e : Expr} {es : List Expr} {t : TA} (D : Dn X.prog X.w X.K X.mg X.base CX k x ps sp) (hr : Room j X.A) (hk : k ≤ j) (hg : Gl X x) (hx : Passes CX X E)
    (ha : PA X (e :: es) t) (hdb : (x == ("__debug__" : Str)) = false := by decide) (he : starEach (e :: es) X.env = (false, eval e X.env) :: starEach es X.env := by rfl) (hpl : (backTo pos (starEach es X.env)).any (·.1) = false := by rfl) :
    PE X (.Call (.Name x p) (e :: es) [] pos) (tCall sp [] E t) := by
  obtain ⟨f, fd, F, m, kp, b⟩ := D.ex
  exact pe_call F (hr.mono hk) hg m kp b .nil hx ha hdb he hpl
/-- a def of the text, as it stands behind the top -/
def Def (K : PySem.W.Frag) (mg : Str → Option Value) (x : Str) (st : Stmt) : Prop := ∃ f fd, Fun K x x st f fd ∧ mg x = some (.ref f)
section
variable {P : Program} {w : World} {K : PySem.W.Frag} {mg : Str → Option Value} {base : Heap}
theorem Def.ok {x : Str} {st : Stmt} {N ps : List Str} {k : Nat} {sp : Sp} (F : Def K mg x st) (S : FnScope N ps (defScope st)) (len : ∀ vs H Q E, sp vs H Q E → vs.length = ps.length)
    (hb : ∀ (kV doc pm : Value) (an : Option Addr) (cdv ct : Value) (us : List Value), us.length = ps.length → bindArgs (PySem.W.fnOf x x (defArgs st) (defBody st) (defScope st) .none kV doc pm an cdv ct) ⟨us, []⟩ = pure (ps.zip us))
    (hbody : ∀ (f : Addr) (cdv : Value) (A : Around) (outer : List Env) (s : Shared) (H : Hp) (vs : List V) (Q : VK) (E : XK), Room k (A.deeper (envOfC x (defScope st) s.heap.objs.size f cdv)) → sp vs H Q E →
      ∃ t, PSs (cxOf CX0 P w K mg base N x (defScope st) f cdv A outer s H E).nox (defBody st) t ∧ t { nx := fun _ H' => Q .non H', rt := Q } (start N vs) H) : Dn P w K mg base CX0 (k + 1) x ps sp := by
  obtain ⟨f, fd, F, m⟩ := F
  exact ⟨f, fd, F.ok S len (hbody f), m, F.kp, F.binds hb⟩
/-- a promise of nothing, to begin an induction over the calls -/
theorem Def.nothing {x : Str} {st : Stmt} {ps : List Str} (F : Def K mg x st)
    (hb : ∀ (kV doc pm : Value) (an : Option Addr) (cdv ct : Value) (us : List Value), us.length = ps.length → bindArgs (PySem.W.fnOf x x (defArgs st) (defBody st) (defScope st) .none kV doc pm an cdv ct) ⟨us, []⟩ = pure (ps.zip us)) :
    Dn P w K mg base CX0 0 x ps (fun _ _ _ _ => False) := by
  obtain ⟨f, fd, F, m⟩ := F
  exact ⟨f, fd, ⟨fun _ _ _ _ h => h.elim, fun _ _ _ _ _ _ _ _ _ _ _ _ _ h => h.elim⟩, m, F.kp, F.binds hb⟩
theorem Dn.imp {CX : CXT} {k : Nat} {x : Str} {ps : List Str} {sp sp' : Sp} (D : Dn P w K mg base CX k x ps sp) (h : ∀ vs H Q E, sp' vs H Q E → sp vs H Q E) : Dn P w K mg base CX k x ps sp' := by
  obtain ⟨f, fd, F, r⟩ := D.ex
  exact ⟨f, fd, F.imp h, r⟩
theorem Dn.mono {CX : CXT} {j k : Nat} {x : Str} {ps : List Str} {sp : Sp} (D : Dn P w K mg base CX j x ps sp) (h : j ≤ k) : Dn P w K mg base CX k x ps sp := by
  obtain ⟨f, fd, F, r⟩ := D.ex
  exact ⟨f, fd, F.mono h, r⟩
end
/-- a global that is a tuple of the module -/
def GTup (K : PySem.W.Frag) (mg : Str → Option Value) (x : Str) (xs : List V) : Prop := ∃ a, mg x = some (.ref a) ∧ ∀ H, SqT K H a xs
def tGTup (K : PySem.W.Frag) (xs : List V) : TE := fun _ H Q => ∀ a, (∀ H, SqT K H a xs) → Q (.ref a) H
theorem pe_gtup {X : Cx} {x : Str} {xs : List V} {pos : Pos} (h : GTup X.K X.mg x xs) (hg : Gl X x := by rfl) (hd : (x == ("__debug__" : Str)) = false := by decide) : PE X (.Name x pos) (tGTup X.K xs) := fun _ _ _ H _ I q => by
  obtain ⟨a, m, r⟩ := h
  exact ld_glob I hg m ⟨.ref a, H, I, rfl, q a r⟩ hd
theorem iteDF {c A B : Prop} [Decidable c] (hc : ¬ c) (h : B) : if decide c = true then A else B := by rw [if_neg (by simpa using hc)]; exact h
theorem iteDT {c A B : Prop} [Decidable c] (hc : c) (h : A) : if decide c = true then A else B := by rw [if_pos (by simpa using hc)]; exact h
theorem iteD2 {c A B : Prop} [Decidable c] (h1 : c → A) (h2 : ¬ c → B) : if decide c = true then A else B := by
  by_cases h : c
  · exact iteDT h (h1 h)
  · exact iteDF h (h2 h)
theorem iteN2 {c A B : Prop} [Decidable c] (h1 : ¬ c → A) (h2 : c → B) : if (!decide c) = true then A else B := by
  by_cases h : c
  · rw [if_neg (by simpa using h)]; exact h2 h
  · rw [if_pos (by simpa using h)]; exact h1 h
theorem Veq {i j : Int} (h : V.int i = V.int j) : i = j := V.int.inj h

/-! ### numbers of some size -/
theorem intBits_le {k : Int} {m : Nat} (h : k.natAbs < 2 ^ m) : Builtin.Int.intBits k ≤ m := by
  unfold Builtin.Int.intBits
  split
  · exact Nat.zero_le _
  · rcases Nat.eq_zero_or_pos k.natAbs with h0 | hp
    · rename_i hz
      exact absurd (by simpa using h0) (by simpa using hz)
    · have : k.natAbs.log2 < m := (Nat.log2_lt (Nat.ne_of_gt hp)).mpr h
      omega
theorem mulOk {i j : Int} {m n : Nat} (hi : i.natAbs < 2 ^ m) (hj : j.natAbs < 2 ^ n) (h : m + n ≤ 134217728) : IntMulOk i j := IntMulOk.of_le (intBits_le hi) (intBits_le hj) h
section
variable {X : Cx}
theorem op_mulB : OpR X (binaryOp .Mult) (rI IntMulOk fun i j => .int (i * j)) := opI fun _ _ _ _ _ _ _ c h => mul_int h c
theorem op_divB : OpR X (binaryOp .FloorDiv) (rI (fun _ j => j ≠ 0 ∧ j.natAbs < 2 ^ 9000) fun i j => .int (i.fdiv j)) := opI fun i j _ _ _ _ _ c h =>
  floordiv_int c.1 h (Or.inl (PyProof.noPylong_of_log2 ((Nat.log2_lt (by have := c.1; omega)).mpr c.2)))

/-- // by a positive divisor of any size that fits -/
theorem op_divP : OpR X (binaryOp .FloorDiv) (rI (fun _ j => 0 < j ∧ j.natAbs < 2 ^ 9000) fun i j => .int (i / j)) := opI fun i j _ _ _ _ _ c h =>
  floordiv_int (by have := c.1; omega) (by rw [Int.fdiv_eq_ediv_of_nonneg _ (by have := c.1; omega)]; exact h) (Or.inl (PyProof.noPylong_of_log2 ((Nat.log2_lt (by have := c.1; omega)).mpr c.2)))
theorem c9 {n : Int} (h0 : 0 < n) (h : n.natAbs < 2 ^ 64) : 0 < n ∧ n.natAbs < 2 ^ 9000 := ⟨h0, Nat.lt_of_lt_of_le h (Nat.pow_le_pow_right (by decide) (by decide))⟩
theorem mulL {i j : Int} (h : i.natAbs < 2 ^ 64) : IntMulOk i j := IntMulOk.of_left (intBits_le h)
theorem mulR {i j : Int} (h : j.natAbs < 2 ^ 64) : IntMulOk i j := IntMulOk.of_right (intBits_le h)
theorem pe_ty {x : Str} {T : String} {pos : Pos} (hg : Gl X x) (hm : X.mg x = none) (hv : bootBuiltins x = some (.type T)) (hn : x ≠ "__name__" := by decide) (hd : (x == ("__debug__" : Str)) = false := by decide) : PE X (.Name x pos) (tC (.ty T)) := pe_bltn hg hm hv rfl hn hd

/-! ### list.insert -/
def rInsert : V → List V → Hp → VK → Prop := fun x vs H Q => ∃ l xs i y, x = .ref l ∧ vs = [.int i, y] ∧ H l = some (.lst xs) ∧ 0 ≤ i ∧ i ≤ (xs.length : Int) ∧ xs.length < sizeLine ∧ Q .non (upd H l (.lst (xs.take i.toNat ++ y :: xs.drop i.toNat)))
/-! ### o[i] of a list, as op= reads it -/
def rGetL (K : PySem.W.Frag) : V → V → Hp → VK → Prop := fun o i H Q => ∃ p xs k v, o = .ref p ∧ i = .int k ∧ SqL K H p xs ∧ 0 ≤ k ∧ xs[k.toNat]? = some v ∧ Q v H
theorem PIp.of {op : Operator} {r : R2} (h : OpR X (inplaceOp op) r) : PIp X op r := h

/-! ### isinstance -/
/-- the sort of a value -/
def tyOf (K : PySem.W.Frag) (H : Hp) (x : V) (t : String) : Prop := match x with
  | .non => t = "NoneType"
  | .bl _ => t = "bool"
  | .int _ => t = "int"
  | .str _ => t = "str"
  | .ref a => (t = "list" ∧ ∃ xs, SqL K H a xs) ∨ (t = "tuple" ∧ ∃ xs, SqT K H a xs)
  | _ => False
/-- does a value of sort t count as a T -/
def isTy (t T : String) : Bool := t == T || (t == "bool" && T == "int")
def Sorts : List String := ["NoneType", "bool", "int", "str", "list", "tuple"]
def Kinds : List String := ["bool", "int", "str", "list", "tuple"]
theorem isinst_ty {pins : List (Addr × Obj)} {σ : St} {H : Hp} {s : Shared} {A : Around} {E : Value → Shared → Prop} {Q : Value → Shared → Prop} {c : Value} {b : Bool} {x : V} {u : Value} {t : String} (I : Inv X pins σ H s) (rx : RelV x u) (ty : tyOf X.K H x t)
    (e : PySem.W.kitOne X.K (.type t) c = some b) (h : ∀ tk, Q (.bool b) { s with toks := tk }) : wpAny (model X.prog X.w) A (call (.builtin "isinstance") [u, c]) Q E s := by
  cases x with
  | non => cases (show u = Value.none from rx); cases (show t = "NoneType" from ty); exact PySem.W.kia_one PySem.W.kitx_none I.kIn True.intro e (fun z => nomatch z) h
  | bl y => cases (show u = Value.bool y from rx); cases (show t = "bool" from ty); exact PySem.W.kia_one PySem.W.kitx_bool I.kIn True.intro e (fun z => nomatch z) h
  | int i => obtain ⟨tk, q⟩ := (show ∃ t, u = Value.int i t from rx); cases q; cases (show t = "int" from ty); exact PySem.W.kia_one PySem.W.kitx_int I.kIn True.intro e (fun z => nomatch z) h
  | str y => obtain ⟨tk, q⟩ := (show ∃ t, u = Value.str y t from rx); cases q; cases (show t = "str" from ty); exact PySem.W.kia_one PySem.W.kitx_str I.kIn True.intro e (fun z => nomatch z) h
  | ref a =>
    cases (show u = Value.ref a from rx)
    rcases ty with ⟨rfl, xs, hq⟩ | ⟨rfl, xs, hq⟩
    · obtain ⟨its, _, ⟨o, n, h1, h2, _⟩, _⟩ := I.list hq
      exact PySem.W.kia_one PySem.W.kitx_list I.kIn ⟨o, h1, h2⟩ e (fun z => nomatch z) h
    · obtain ⟨its, _, ⟨o, h1, h2, _⟩, _⟩ := I.tuple hq
      exact PySem.W.kia_one PySem.W.kitx_tuple I.kIn ⟨o, h1, h2⟩ e (fun z => nomatch z) h
  | byt _ => exact ty.elim
  | flt _ => exact ty.elim
  | ty _ => exact ty.elim
theorem tyOf_sort {K : PySem.W.Frag} {H : Hp} {x : V} {t : String} (h : tyOf K H x t) : t ∈ Sorts := by
  cases x with
  | non => cases (show t = "NoneType" from h); decide
  | bl _ => cases (show t = "bool" from h); decide
  | int _ => cases (show t = "int" from h); decide
  | str _ => cases (show t = "str" from h); decide
  | ref a => rcases h with ⟨rfl, _⟩ | ⟨rfl, _⟩ <;> decide
  | byt _ => exact h.elim
  | flt _ => exact h.elim
  | ty _ => exact h.elim
theorem kit_tT {K : PySem.W.Frag} {t T : String} (ht : t ∈ Sorts) (hT : T ∈ Kinds) : PySem.W.kitOne K (.type t) (.type T) = some (isTy t T) := by
  simp only [Sorts, Kinds, List.mem_cons, List.not_mem_nil, or_false] at ht hT
  rcases ht with rfl | rfl | rfl | rfl | rfl | rfl <;> rcases hT with rfl | rfl | rfl | rfl | rfl <;> (unfold PySem.W.kitOne PySem.W.kitCls PySem.W.subIn; kernel_rfl)
theorem call_isT : CallR X (.builtin "isinstance") (fun xs H Q => ∃ x T t, xs = [x, .ty T] ∧ T ∈ Kinds ∧ tyOf X.K H x t ∧ Q (.bl (isTy t T)) H) := by
  intro pins s σ H xs us Q I r h
  obtain ⟨x, T, t, rfl, hT, ty, q⟩ := h
  obtain ⟨u, w', rfl, rx, rT⟩ := vals2 r
  cases (show w' = Value.type T from rT)
  exact isinst_ty I rx ty (kit_tT (tyOf_sort ty) hT) fun tk => ⟨.bl _, H, I.tok tk, rfl, q⟩
end
end L2

namespace L2
open PySem PySem.Spec PyProof.Rows
/-! ### fractions, lists of whole numbers, as they lie in the heap -/
theorem Same.tup {K : PySem.W.Frag} {H H' : Hp} {a : Addr} {xs : List V} (e : Same H H') (h : SqT K H a xs) : SqT K H' a xs := by
  rcases h with (h | ⟨o, h⟩) | h
  · exact .inl (.inl (e _ _ h))
  · exact .inl (.inr ⟨o, e _ _ h⟩)
  · exact .inr h
theorem same_new {H : Hp} {p : Addr} (h : H p = none) (o : HO) : Same H (upd H p o) := fun b u q => by rw [upd_ne (ne_of_none q h)]; exact q
/-- the object at p, which stood not ahead, is changed: what stood ahead is as it was -/
theorem Same.over {H H' : Hp} {p : Addr} (e : Same H H') (h : H p = none) (o : HO) : Same H (upd H' p o) := fun b u q => by
  rw [upd_ne (ne_of_none q h)]; exact e b u q
def IsF (K : PySem.W.Frag) (H : Hp) (v : V) (p : Int × Int) : Prop := ∃ a, v = .ref a ∧ SqT K H a [.int p.1, .int p.2]
theorem IsF.mono {K : PySem.W.Frag} {H H' : Hp} {v : V} {p : Int × Int} (e : Same H H') (h : IsF K H v p) : IsF K H' v p := by
  obtain ⟨a, rfl, q⟩ := h
  exact ⟨a, rfl, e.tup q⟩
/-- tuples stay when a list is changed -/
theorem tup_over {K : PySem.W.Frag} {H : Hp} {a p : Addr} {xs ys zs : List V} (h : SqT K H a xs) (hp : H p = some (.lst ys)) : SqT K (upd H p (.lst zs)) a xs := by
  rcases h with (h | ⟨o, h⟩) | h
  · exact .inl (.inl (by rw [upd_ne (ne_of h hp (by intro z; cases z))]; exact h))
  · exact .inl (.inr ⟨o, by rw [upd_ne (ne_of h hp (by intro z; cases z))]; exact h⟩)
  · exact .inr h
theorem IsF.over {K : PySem.W.Frag} {H : Hp} {v : V} {p : Addr} {ys zs : List V} {q : Int × Int} (h : IsF K H v q) (hp : H p = some (.lst ys)) : IsF K (upd H p (.lst zs)) v q := by
  obtain ⟨a, rfl, h⟩ := h
  exact ⟨a, rfl, tup_over h hp⟩
theorem Paired.get {α β : Type} {F : α → β → Prop} : ∀ {xs : List α} {ys : List β} {i : Nat} {y : β}, Paired F xs ys → ys[i]? = some y → ∃ x, xs[i]? = some x ∧ F x y
  | _, _, _, _, .nil, e => by simp at e
  | _, _, 0, _, .cons r _, e => by simp at e; subst e; exact ⟨_, rfl, r⟩
  | _, _, i + 1, y, .cons _ t, e => by
    obtain ⟨x, h1, h2⟩ := Paired.get (i := i) t (by simpa using e)
    exact ⟨x, by simpa using h1, h2⟩
theorem Paired.get' {α β : Type} {F : α → β → Prop} : ∀ {xs : List α} {ys : List β} {i : Nat} {x : α}, Paired F xs ys → xs[i]? = some x → ∃ y, ys[i]? = some y ∧ F x y
  | _, _, _, _, .nil, e => by simp at e
  | _, _, 0, _, .cons r _, e => by simp at e; subst e; exact ⟨_, rfl, r⟩
  | _, _, i + 1, y, .cons _ t, e => by
    obtain ⟨x, h1, h2⟩ := Paired.get' (i := i) t (by simpa using e)
    exact ⟨x, by simpa using h1, h2⟩
theorem Paired.app {α β : Type} {F : α → β → Prop} : ∀ {xs xs' : List α} {ys ys' : List β}, Paired F xs ys → Paired F xs' ys' → Paired F (xs ++ xs') (ys ++ ys')
  | _, _, _, _, .nil, t => t
  | _, _, _, _, .cons r s, t => .cons r (Paired.app s t)
theorem atI_ok {α : Type} {xs : List α} {i : Int} {v : α} (h0 : 0 ≤ i) (h : xs[i.toNat]? = some v) : atI xs i = some v := by
  have e : i = ((i.toNat : Nat) : Int) := by omega
  rw [e]; exact atI_nat h
theorem map_int_get {ns : List Int} {i : Nat} (h : i < ns.length) : (ns.map V.int)[i]? = some (.int (ns.getD i 0)) := by
  simp [h]
theorem while_of {c : TT} {tb : TS} {D : Ends} {σ : St} {H : Hp} (Pv : Nat → St → Hp → Prop) (h0 : ∃ m, Pv m σ H)
    (hs : ∀ m σ H, Pv m σ H → c σ H fun b H1 => if b = true then tb { D with nx := fun σ' H' => ∃ m', m' < m ∧ Pv m' σ' H', ct := fun σ' H' => ∃ m', m' < m ∧ Pv m' σ' H', bk := D.nx } σ H1 else D.nx σ H1)
    (mono : ∀ σ H Q Q', (∀ b H1, Q b H1 → Q' b H1) → c σ H Q → c σ H Q') : tWhile c tb D σ H := by
  refine ⟨Pv, h0, fun m σ H p => ?_⟩
  refine mono σ H _ _ (fun b H1 q => ?_) (hs m σ H p)
  cases b with
  | true => exact ⟨_, fun σ' H' z => z, q⟩
  | false => exact q
end L2

namespace FQ
/-! ### fractions in lowest terms -/
structure Low (p : Int × Int) : Prop where
  pos : 0 < p.2
  cop : Int.gcd p.1 p.2 = 1
/-- the pair in lowest terms -/
def red (t b : Int) : Int × Int := (t * b.sign / (Int.gcd t b : Int), b * b.sign / (Int.gcd t b : Int))
theorem gcd_turn {a b : Int} : Int.gcd b (a % b) = Int.gcd a b := by
  have h := Int.gcd_add_mul_left_right b (a % b) (a / b)
  rw [Int.emod_add_mul_ediv] at h
  rw [← h, Int.gcd_comm]
theorem dvd_of_cop {k m n : Int} (h : Int.gcd k m = 1) (d : k ∣ m * n) : k ∣ n := by
  have h1 : k.natAbs ∣ m.natAbs * n.natAbs := by
    have := Int.natAbs_dvd_natAbs.mpr d
    rwa [Int.natAbs_mul] at this
  exact Int.natAbs_dvd_natAbs.mp (Nat.Coprime.dvd_of_dvd_mul_left h h1)
theorem red_spec {t b : Int} (hb : b ≠ 0) : ∃ u v : Int, t * b.sign = u * (Int.gcd t b : Int) ∧ b * b.sign = v * (Int.gcd t b : Int) ∧ red t b = (u, v) ∧ 0 < v ∧ Int.gcd u v = 1 := by
  have hg : 0 < Int.gcd t b := Int.gcd_pos_of_ne_zero_right _ hb
  have hg' : (0 : Int) < (Int.gcd t b : Int) := by omega
  have d1 : (Int.gcd t b : Int) ∣ t := Int.gcd_dvd_left ..
  have d2 : (Int.gcd t b : Int) ∣ b := Int.gcd_dvd_right ..
  obtain ⟨u, hu⟩ := d1
  obtain ⟨v, hv⟩ := d2
  refine ⟨u * b.sign, v * b.sign, ?_, ?_, ?_, ?_, ?_⟩
  · rw [Int.mul_right_comm, Int.mul_comm u, ← hu]
  · rw [Int.mul_right_comm, Int.mul_comm v, ← hv]
  · unfold red
    congr 1
    · apply Int.ediv_eq_of_eq_mul_left (by omega)
      rw [Int.mul_right_comm, Int.mul_comm u, ← hu]
    · apply Int.ediv_eq_of_eq_mul_left (by omega)
      rw [Int.mul_right_comm, Int.mul_comm v, ← hv]
  · have h1 : 0 < b * b.sign := by rw [Int.mul_sign_self]; omega
    have h2 : b * b.sign = (v * b.sign) * (Int.gcd t b : Int) := by rw [Int.mul_right_comm, Int.mul_comm v, ← hv]
    rw [h2] at h1
    rcases Int.lt_or_le 0 (v * b.sign) with h | h
    · exact h
    · exact absurd h1 (Int.not_lt.mpr (Int.mul_nonpos_of_nonpos_of_nonneg h (Int.le_of_lt hg')))
  · have hs : b.sign = 1 ∨ b.sign = -1 := by
      rcases Int.lt_or_gt_of_ne hb with h | h
      · exact .inr (Int.sign_eq_neg_one_of_neg h)
      · exact .inl (Int.sign_eq_one_of_pos h)
    have hc : Int.gcd u v = 1 := by
      have e := Int.gcd_mul_left (Int.gcd t b : Int) u v
      rw [← hu, ← hv, Int.natAbs_natCast] at e
      have : Int.gcd t b * 1 = Int.gcd t b * Int.gcd u v := by rw [Nat.mul_one]; exact e
      exact (Nat.eq_of_mul_eq_mul_left hg this).symm
    rcases hs with h | h <;> rw [h] <;> simp [hc]
theorem red_low {t b : Int} (hb : b ≠ 0) : Low (red t b) := by
  obtain ⟨u, v, _, _, e, h1, h2⟩ := red_spec (t := t) hb
  rw [e]
  exact ⟨h1, h2⟩
theorem red_worth {t b : Int} (hb : b ≠ 0) : (red t b).1 * b = t * (red t b).2 := by
  obtain ⟨u, v, h1, h2, e, _, _⟩ := red_spec (t := t) hb
  rw [e]
  have hg : (Int.gcd t b : Int) ≠ 0 := by have := Int.gcd_pos_of_ne_zero_right t hb; omega
  have hs : b.sign ≠ 0 := by simpa using hb
  have key : (u * b) * ((Int.gcd t b : Int) * b.sign) = (t * v) * ((Int.gcd t b : Int) * b.sign) := by
    calc (u * b) * ((Int.gcd t b : Int) * b.sign) = (u * (Int.gcd t b : Int)) * (b * b.sign) := by ac_rfl
      _ = (t * b.sign) * (v * (Int.gcd t b : Int)) := by rw [← h1, ← h2]
      _ = (t * v) * ((Int.gcd t b : Int) * b.sign) := by ac_rfl
  exact Int.eq_of_mul_eq_mul_right (Int.mul_ne_zero hg hs) key
theorem low_unique {p q : Int × Int} (hp : Low p) (hq : Low q) (h : p.1 * q.2 = q.1 * p.2) : p = q := by
  obtain ⟨a, b⟩ := p
  obtain ⟨c, d⟩ := q
  obtain ⟨hb, hab⟩ := hp
  obtain ⟨hd, hcd⟩ := hq
  dsimp only at *
  have d1 : b ∣ d := by
    have : b ∣ a * d := ⟨c, by rw [h, Int.mul_comm]⟩
    exact dvd_of_cop (by rw [Int.gcd_comm]; exact hab) this
  have d2 : d ∣ b := by
    have : d ∣ c * b := ⟨a, by rw [← h, Int.mul_comm]⟩
    exact dvd_of_cop (by rw [Int.gcd_comm]; exact hcd) this
  have e : b = d := Int.dvd_antisymm (by omega) (by omega) d1 d2
  subst e
  have : a = c := Int.eq_of_mul_eq_mul_right (by omega) h
  rw [this]
theorem red_eq {t b t' b' : Int} (hb : b ≠ 0) (hb' : b' ≠ 0) (h : t * b' = t' * b) : red t b = red t' b' := by
  refine low_unique (red_low hb) (red_low hb') ?_
  have e1 := red_worth (t := t) hb
  have e2 := red_worth (t := t') hb'
  have key : ((red t b).1 * (red t' b').2) * (b * b') = ((red t' b').1 * (red t b).2) * (b * b') := by
    calc ((red t b).1 * (red t' b').2) * (b * b') = ((red t b).1 * b) * ((red t' b').2 * b') := by ac_rfl
      _ = (t * (red t b).2) * ((red t' b').2 * b') := by rw [e1]
      _ = (t * b') * ((red t b).2 * (red t' b').2) := by ac_rfl
      _ = (t' * b) * ((red t b).2 * (red t' b').2) := by rw [h]
      _ = (t' * (red t' b').2) * ((red t b).2 * b) := by ac_rfl
      _ = ((red t' b').1 * b') * ((red t b).2 * b) := by rw [e2]
      _ = ((red t' b').1 * (red t b).2) * (b * b') := by ac_rfl
  exact Int.eq_of_mul_eq_mul_right (Int.mul_ne_zero hb hb') key
theorem red_eq_iff {t b : Int} (hb : b ≠ 0) {p : Int × Int} (hp : Low p) (h : p.1 * b = t * p.2) : red t b = p := by
  refine low_unique (red_low hb) hp ?_
  have e1 := red_worth (t := t) hb
  have key : ((red t b).1 * p.2) * b = (p.1 * (red t b).2) * b := by
    calc ((red t b).1 * p.2) * b = ((red t b).1 * b) * p.2 := by ac_rfl
      _ = (t * p.2) * (red t b).2 := by rw [e1]; ac_rfl
      _ = (p.1 * (red t b).2) * b := by rw [← h]; ac_rfl
  exact Int.eq_of_mul_eq_mul_right hb key
theorem red_small {t b : Int} (hb : b ≠ 0) : (red t b).1.natAbs ≤ t.natAbs ∧ (red t b).2.natAbs ≤ b.natAbs := by
  obtain ⟨u, v, h1, h2, e, _, _⟩ := red_spec (t := t) hb
  rw [e]
  have hg : 1 ≤ Int.gcd t b := Int.gcd_pos_of_ne_zero_right _ hb
  have hs : b.sign.natAbs = 1 := by
    rcases Int.lt_or_gt_of_ne hb with h | h
    · rw [Int.sign_eq_neg_one_of_neg h]; rfl
    · rw [Int.sign_eq_one_of_pos h]; rfl
  have k1 := congrArg Int.natAbs h1
  have k2 := congrArg Int.natAbs h2
  rw [Int.natAbs_mul, Int.natAbs_mul, hs, Nat.mul_one, Int.natAbs_natCast] at k1 k2
  constructor
  · show u.natAbs ≤ _
    rw [k1]
    exact Nat.le_mul_of_pos_right _ hg
  · show v.natAbs ≤ _
    rw [k2]
    exact Nat.le_mul_of_pos_right _ hg
/-- what the program divides by: the greatest divisor with the bottom's sign -/
theorem fdiv_red {t b : Int} (hb : b ≠ 0) : ((t.fdiv ((Int.gcd t b : Int) * b.sign), b.fdiv ((Int.gcd t b : Int) * b.sign)) : Int × Int) = red t b := by
  obtain ⟨u, v, h1, h2, e, _, _⟩ := red_spec (t := t) hb
  rw [e]
  have hg : (Int.gcd t b : Int) ≠ 0 := by have := Int.gcd_pos_of_ne_zero_right t hb; omega
  have hs : b.sign ≠ 0 := by simpa using hb
  have hs2 : b.sign * b.sign = 1 := by
    rcases Int.lt_or_gt_of_ne hb with h | h
    · rw [Int.sign_eq_neg_one_of_neg h]; rfl
    · rw [Int.sign_eq_one_of_pos h]; rfl
  have k1 : t = u * ((Int.gcd t b : Int) * b.sign) := by
    calc t = t * (b.sign * b.sign) := by rw [hs2, Int.mul_one]
      _ = (t * b.sign) * b.sign := by ac_rfl
      _ = u * ((Int.gcd t b : Int) * b.sign) := by rw [h1]; ac_rfl
  have k2 : b = v * ((Int.gcd t b : Int) * b.sign) := by
    calc b = b * (b.sign * b.sign) := by rw [hs2, Int.mul_one]
      _ = (b * b.sign) * b.sign := by ac_rfl
      _ = v * ((Int.gcd t b : Int) * b.sign) := by rw [h2]; ac_rfl
  generalize hd : (Int.gcd t b : Int) * b.sign = d at k1 k2 ⊢
  have hd0 : d ≠ 0 := by rw [← hd]; exact Int.mul_ne_zero hg hs
  rw [k1, k2, Int.mul_fdiv_cancel _ hd0, Int.mul_fdiv_cancel _ hd0]
end FQ

namespace LM
/-! ### what the law draws: cells, mixed numbers, orders, sums of deals -/
def cellAt (ns : List Int) (k : Int) : Int := if k < ns.length then ns.getD k.toNat 0 else 0
def oddGo (n : Int) : Nat → List Int × Int
  | 0 => ([], n)
  | k + 1 => ((oddGo n k).1 ++ [(oddGo n k).2 % 5040], (oddGo n k).2 / 5040)
def evenX (n k : Int) : Int := (n * n + 48271 * n + k + 1) % 2147483647
def evenGo (n : Int) : Nat → List Int × Int
  | 0 => ([], n)
  | k + 1 => ((evenGo n k).1 ++ [evenX (evenGo n k).2 k], evenX (evenGo n k).2 k)
def mixed (c : Int) (m : Nat) : List Int := if c % 2 = 1 then (oddGo (c / 2) m).1 else (evenGo ((c / 2 % 2147483647 * 16807 + 11) % 2147483647) m).1
theorem oddGo_len (n : Int) : ∀ m, (oddGo n m).1.length = m
  | 0 => rfl
  | m + 1 => by simp [oddGo, oddGo_len n m]
theorem evenGo_len (n : Int) : ∀ m, (evenGo n m).1.length = m
  | 0 => rfl
  | m + 1 => by simp [evenGo, evenGo_len n m]
theorem mixed_len (c : Int) (m : Nat) : (mixed c m).length = m := by
  unfold mixed; split <;> simp [oddGo_len, evenGo_len]
theorem oddGo_bd (n : Int) : ∀ m, ∀ x ∈ (oddGo n m).1, 0 ≤ x ∧ x < 2147483647
  | 0, x, h => by cases h
  | m + 1, x, h => by
    rcases List.mem_append.mp h with h | h
    · exact oddGo_bd n m x h
    · rw [List.mem_singleton.mp h]; omega
theorem evenX_bd (n k : Int) : 0 ≤ evenX n k ∧ evenX n k < 2147483647 := ⟨Int.emod_nonneg _ (by decide), Int.emod_lt_of_pos _ (by decide)⟩
theorem evenGo_bd (n : Int) : ∀ m, ∀ x ∈ (evenGo n m).1, 0 ≤ x ∧ x < 2147483647
  | 0, x, h => by cases h
  | m + 1, x, h => by
    rcases List.mem_append.mp h with h | h
    · exact evenGo_bd n m x h
    · rw [List.mem_singleton.mp h]; exact evenX_bd _ _
theorem mixed_bd (c : Int) (m : Nat) : ∀ x ∈ mixed c m, 0 ≤ x ∧ x < 2147483647 := by
  unfold mixed
  split
  · exact oddGo_bd _ _
  · exact evenGo_bd _ _
def ins (xs : List Int) (i : Nat) (x : Int) : List Int := xs.take i ++ x :: xs.drop i
theorem ins_perm (xs : List Int) (i : Nat) (x : Int) : (ins xs i x).Perm (x :: xs) := by
  unfold ins
  refine List.perm_middle.trans ?_
  rw [List.take_append_drop]
/-- the list and the number behind k turns -/
def permGo (num : Int) : Nat → List Int × Int
  | 0 => ([], num)
  | k + 1 => (ins (permGo num k).1 ((permGo num k).2 % (k + 1)).toNat k, (permGo num k).2 / (k + 1))
def perm (num : Int) (n : Nat) : List Int := (permGo num n).1
theorem perm_succ_perm : ∀ (num : Int) (n : Nat), (perm num n).Perm ((List.range n).map Int.ofNat)
  | _, 0 => List.Perm.refl _
  | num, n + 1 => by
    unfold perm
    rw [List.range_succ, List.map_append]
    refine (ins_perm _ _ _).trans ?_
    refine List.Perm.trans ?_ List.perm_append_comm
    exact (perm_succ_perm num n).cons _
theorem perm_len (num : Int) (n : Nat) : (perm num n).length = n := by
  have := (perm_succ_perm num n).length_eq
  simpa using this
theorem mem_perm {num : Int} {n : Nat} {x : Int} : x ∈ perm num n ↔ 0 ≤ x ∧ x < n := by
  rw [(perm_succ_perm num n).mem_iff]
  simp only [List.mem_map, List.mem_range]
  constructor
  · rintro ⟨a, h, rfl⟩; simp; omega
  · rintro ⟨h0, h1⟩; exact ⟨x.toNat, by omega, by simp; omega⟩
theorem sum_perm_eq : ∀ {xs ys : List Int}, xs.Perm ys → xs.sum = ys.sum := by
  intro xs ys h
  induction h with
  | nil => rfl
  | cons x _ ih => simp [ih]
  | swap x y l => simp; omega
  | trans _ _ ih1 ih2 => exact ih1.trans ih2
theorem map_getD_range (row : List Int) : (List.range row.length).map (fun i => row.getD i 0) = row := by
  apply List.ext_getElem
  · simp
  · intro i h1 h2
    simp at h1
    simp [h1]
/-! ### one deal more -/
def addOne (r : List Int) (t : Int) (w : Int) : List Int := r.set t.toNat (r.getD t.toNat 0 + w)
theorem addOne_len (r : List Int) (t w : Int) : (addOne r t w).length = r.length := by simp [addOne]
theorem sum_set : ∀ (r : List Int) (i : Nat) (w : Int), i < r.length → (r.set i (r.getD i 0 + w)).sum = r.sum + w
  | [], i, _, h => by cases h
  | x :: r, 0, w, _ => by simp; omega
  | x :: r, i + 1, w, h => by
    have ih := sum_set r i w (by simpa using h)
    simp only [List.set_cons_succ, List.getD_cons_succ, List.sum_cons, ih]
    omega
theorem sum_addOne {r : List Int} {t w : Int} (h0 : 0 ≤ t) (h : t < r.length) : (addOne r t w).sum = r.sum + w := sum_set r t.toNat w (by omega)
def addDeal (M : List (List Int)) (o : List Int) (w : Int) : List (List Int) := List.zipWith (fun r t => addOne r t w) M o
/-- the sums of the deals by the cells cs -/
def weight (great : Int) (c : Int) (x0 : Int) : Int := if great = 0 then 1 + x0 % 5 else if great = 1 then 1 + x0 else 1 + c % 100000000000000000000
def sumsGo (great : Int) (n : Nat) (cell : Nat → Int) : Nat → List (List Int) × Int
  | 0 => (List.replicate n (List.replicate n 0), 0)
  | k + 1 =>
    let xs := mixed (cell k) 2
    let w := weight great (cell k) (xs.getD 0 0)
    (addDeal (sumsGo great n cell k).1 (perm (xs.getD 1 0) n) w, (sumsGo great n cell k).2 + w)
structure SumsOk (n : Nat) (M : List (List Int)) (T : Int) : Prop where
  rows : M.length = n
  cols : ∀ r ∈ M, r.length = n
  nn : ∀ r ∈ M, ∀ x ∈ r, 0 ≤ x
  sum : ∀ r ∈ M, r.sum = T
theorem mem_set_nn {r : List Int} {i : Nat} {x y : Int} (h : ∀ z ∈ r, 0 ≤ z) (hx : 0 ≤ x) (hy : y ∈ r.set i x) : 0 ≤ y := by
  rcases List.mem_or_eq_of_mem_set hy with h1 | h1
  · exact h y h1
  · rw [h1]; exact hx
theorem getD_nn {r : List Int} (h : ∀ z ∈ r, 0 ≤ z) (i : Nat) : 0 ≤ r.getD i 0 := by
  by_cases hi : i < r.length
  · have : r.getD i 0 = r[i] := by simp [hi]
    rw [this]; exact h _ (List.getElem_mem hi)
  · rw [List.getD_eq_getElem?_getD, List.getElem?_eq_none (by omega)]; decide
theorem addDeal_ok {n : Nat} {M : List (List Int)} {T w : Int} {o : List Int} (h : SumsOk n M T) (hw : 0 ≤ w) (ho : o.length = n) (hm : ∀ t ∈ o, 0 ≤ t ∧ t < n) : SumsOk n (addDeal M o w) (T + w) := by
  have key : ∀ r ∈ addDeal M o w, ∃ r0 ∈ M, ∃ t ∈ o, r = addOne r0 t w := by
    intro r hr
    unfold addDeal at hr
    rw [← List.map_uncurry_zip_eq_zipWith, List.mem_map] at hr
    obtain ⟨⟨r0, t⟩, hz, rfl⟩ := hr
    exact ⟨r0, (List.of_mem_zip hz).1, t, (List.of_mem_zip hz).2, rfl⟩
  refine ⟨by simp [addDeal, h.rows, ho], fun r hr => ?_, fun r hr x hx => ?_, fun r hr => ?_⟩
  · obtain ⟨r0, h0, t, ht, rfl⟩ := key r hr
    rw [addOne_len]; exact h.cols r0 h0
  · obtain ⟨r0, h0, t, ht, rfl⟩ := key r hr
    exact mem_set_nn (h.nn r0 h0) (Int.add_nonneg (getD_nn (h.nn r0 h0) _) hw) hx
  · obtain ⟨r0, h0, t, ht, rfl⟩ := key r hr
    have l := h.cols r0 h0
    rw [sum_addOne (hm t ht).1 (by rw [l]; exact (hm t ht).2), h.sum r0 h0]
theorem weight_bd {g c x0 : Int} (h0 : 0 ≤ x0) (h1 : x0 < 2147483647) : 1 ≤ weight g c x0 ∧ weight g c x0 ≤ 100000000000000000000 := by
  unfold weight
  have e1 := Int.emod_nonneg c (show (100000000000000000000 : Int) ≠ 0 by decide)
  have e2 := Int.emod_lt_of_pos c (show (0 : Int) < 100000000000000000000 by decide)
  split
  · omega
  · split <;> omega
theorem mixed_at {c : Int} {m i : Nat} (h : i < m) : 0 ≤ (mixed c m).getD i 0 ∧ (mixed c m).getD i 0 < 2147483647 := by
  have hl := mixed_len c m
  have : (mixed c m).getD i 0 = (mixed c m)[i]'(by omega) := by simp [hl, h]
  rw [this]
  exact mixed_bd c m _ (List.getElem_mem _)
end LM

namespace L2
open PySem PySem.Spec PyProof.Rows
/-! ### the promises of the fractions' defs -/
def spWhole : Sp := fun vs H Q _ => ∃ i : Int, vs = [.int i] ∧ Q (.bl true) H
def spGcd : Sp := fun vs H Q _ => ∃ i j : Int, vs = [.int i, .int j] ∧ Q (.int (Int.gcd i j : Int)) H
def tupF (p : Int × Int) : HO := .tup [.int p.1, .int p.2]
def spFraction : Sp := fun vs H Q _ => ∃ t b : Int, vs = [.int t, .int b] ∧ b ≠ 0 ∧ b.natAbs < 2 ^ 9000 ∧ ∀ p H', Same H H' → H' p = some (tupF (FQ.red t b)) → Q (.ref p) H'
def Sz (n : Nat) (p : Int × Int) : Prop := p.1.natAbs < 2 ^ n ∧ p.2.natAbs < 2 ^ n ∧ p.2 ≠ 0
def fAdd (x y : Int × Int) : Int × Int := FQ.red (x.1 * y.2 + y.1 * x.2) (x.2 * y.2)
def fSub (x y : Int × Int) : Int × Int := FQ.red (x.1 * y.2 - y.1 * x.2) (x.2 * y.2)
def fMul (x y : Int × Int) : Int × Int := FQ.red (x.1 * y.1) (x.2 * y.2)
def sp2F (f : (Int × Int) → (Int × Int) → (Int × Int)) (K : PySem.W.Frag) : Sp := fun vs H Q _ => ∃ a b x y, vs = [.ref a, .ref b] ∧ SqT K H a [.int x.1, .int x.2] ∧ SqT K H b [.int y.1, .int y.2] ∧ Sz 4000 x ∧ Sz 4000 y ∧
  ∀ p H', Same H H' → H' p = some (tupF (f x y)) → Q (.ref p) H'
/-! ### the promises of what the law draws -/
def spCell (K : PySem.W.Frag) : Sp := fun vs H Q _ => ∃ a ns k, vs = [.ref a, .int k] ∧ SqL K H a (ns.map V.int) ∧ 0 ≤ k ∧ Q (.int (LM.cellAt ns k)) H
def spMixed : Sp := fun vs H Q _ => ∃ (c : Int) (m : Nat), vs = [.int c, .int m] ∧ m ≤ 63 ∧ ∀ p H', Same H H' → H p = none → H' p = some (.lst ((LM.mixed c m).map V.int)) → Q (.ref p) H'
def spPerm : Sp := fun vs H Q _ => ∃ (num : Int) (n : Nat), vs = [.int num, .int n] ∧ n ≤ 63 ∧ ∀ p H', Same H H' → H p = none → H' p = some (.lst ((LM.perm num n).map V.int)) → Q (.ref p) H'
def spDivisor : Sp := fun vs H Q _ => ∃ i j : Int, vs = [.int i, .int j] ∧ 0 ≤ j ∧ Q (.int (Int.gcd i j : Int)) H
def spLowest : Sp := fun vs H Q _ => ∃ t b : Int, vs = [.int t, .int b] ∧ 0 < b ∧ b.natAbs < 2 ^ 9000 ∧ ∀ p H', Same H H' → H' p = some (tupF (FQ.red t b)) → Q (.ref p) H'
theorem gcd_le {t b : Int} (hb : b ≠ 0) : Int.gcd t b ≤ b.natAbs := Nat.le_of_dvd (by omega) (Int.gcd_dvd_natAbs_right ..)
theorem fraction_div {t b : Int} (hb : b ≠ 0) (hz : b.natAbs < 2 ^ 9000) :
    (b < 0 → (-(Int.gcd t b : Int) ≠ 0 ∧ (-(Int.gcd t b : Int)).natAbs < 2 ^ 9000) ∧ t.fdiv (-(Int.gcd t b : Int)) = (FQ.red t b).1 ∧ b.fdiv (-(Int.gcd t b : Int)) = (FQ.red t b).2) ∧
    (¬ b < 0 → ((Int.gcd t b : Int) ≠ 0 ∧ (Int.gcd t b : Int).natAbs < 2 ^ 9000) ∧ t.fdiv (Int.gcd t b : Int) = (FQ.red t b).1 ∧ b.fdiv (Int.gcd t b : Int) = (FQ.red t b).2) := by
  have hg : 0 < Int.gcd t b := Int.gcd_pos_of_ne_zero_right _ hb
  have hl := gcd_le (t := t) hb
  have e := FQ.fdiv_red (t := t) hb
  constructor
  · intro hn
    rw [Int.sign_eq_neg_one_of_neg hn, Int.mul_neg_one] at e
    exact ⟨⟨by omega, by rw [Int.natAbs_neg, Int.natAbs_natCast]; exact Nat.lt_of_le_of_lt hl hz⟩, congrArg Prod.fst e, congrArg Prod.snd e⟩
  · intro hn
    rw [Int.sign_eq_one_of_pos (by omega), Int.mul_one] at e
    exact ⟨⟨by omega, by rw [Int.natAbs_natCast]; exact Nat.lt_of_le_of_lt hl hz⟩, congrArg Prod.fst e, congrArg Prod.snd e⟩
theorem pow_lt_mul {a b m n : Nat} (h1 : a < 2 ^ m) (h2 : b < 2 ^ n) : a * b < 2 ^ (m + n) := by
  rw [Nat.pow_add]
  exact Nat.mul_lt_mul'' h1 h2
theorem mul_size {a b : Int} {m n : Nat} (h1 : a.natAbs < 2 ^ m) (h2 : b.natAbs < 2 ^ n) : (a * b).natAbs < 2 ^ (m + n) := by
  rw [Int.natAbs_mul]
  exact pow_lt_mul h1 h2
theorem size_up {a : Int} {m n : Nat} (h : a.natAbs < 2 ^ m) (hmn : m ≤ n) : a.natAbs < 2 ^ n := Nat.lt_of_lt_of_le h (Nat.pow_le_pow_right (by decide) hmn)
theorem mul4 {a b : Int} (h1 : a.natAbs < 2 ^ 4000) (h2 : b.natAbs < 2 ^ 4000) : IntMulOk a b := mulOk h1 h2 (by decide)
theorem bot4 {a b : Int} (h1 : a.natAbs < 2 ^ 4000) (h2 : b.natAbs < 2 ^ 4000) : (a * b).natAbs < 2 ^ 9000 := size_up (mul_size h1 h2) (by decide)
end L2

namespace L2
open PySem PySem.Spec PyProof.Rows
/-! ### values as plain data, deep -/
mutual
inductive Rep (K : PySem.W.Frag) (H : Hp) : V → PyData → Prop
  | non : Rep K H .non .none
  | bl (b : Bool) : Rep K H (.bl b) (.bool b)
  | int (i : Int) : Rep K H (.int i) (.int i)
  | str (x : Str) : Rep K H (.str x) (.str x)
  | lst {a : Addr} {xs : List V} {ds : List PyData} : SqL K H a xs → Reps K H xs ds → xs.length ≤ 1000 → Rep K H (.ref a) (.list ds)
  | tup {a : Addr} {xs : List V} {ds : List PyData} : SqT K H a xs → Reps K H xs ds → xs.length ≤ 1000 → Rep K H (.ref a) (.tuple ds)
inductive Reps (K : PySem.W.Frag) (H : Hp) : List V → List PyData → Prop
  | nil : Reps K H [] []
  | cons {x : V} {d : PyData} {xs : List V} {ds : List PyData} : Rep K H x d → Reps K H xs ds → Reps K H (x :: xs) (d :: ds)
end
section
variable {X : Cx} {pins : List (Addr × Obj)} {σ : St} {H : Hp} {s : Shared}
mutual
theorem Rep.reads (I : Inv X pins σ H s) {x : V} {d : PyData} {u : Value} (r : Rep X.K H x d) (q : RelV x u) : ∃ as, Reads s.heap u d as := by
  cases r with
  | non => cases (show u = Value.none from q); exact ⟨_, .none⟩
  | bl b => cases (show u = Value.bool b from q); exact ⟨_, .bool b⟩
  | int i => obtain ⟨t, e⟩ := (show ∃ t, u = Value.int i t from q); cases e; exact ⟨_, .int i t⟩
  | str x => obtain ⟨t, e⟩ := (show ∃ t, u = Value.str x t from q); cases e; exact ⟨_, .str x t⟩
  | @lst a xs ds hq hs hl =>
    cases (show u = Value.ref a from q)
    obtain ⟨its, rv, ⟨o, n, h1, h2, _, h3⟩, _⟩ := I.list hq
    obtain ⟨as, ra⟩ := Reps.reads I hs rv
    exact ⟨_, .list h1 h2 h3 (by simpa using ra)⟩
  | @tup a xs ds hq hs hl =>
    cases (show u = Value.ref a from q)
    obtain ⟨its, rv, ⟨o, h1, h2, n, h3⟩, _⟩ := I.tuple hq
    obtain ⟨as, ra⟩ := Reps.reads I hs rv
    exact ⟨_, .tuple h1 h2 h3 (by simpa using ra)⟩
theorem Reps.reads (I : Inv X pins σ H s) {xs : List V} {ds : List PyData} {us : List Value} (r : Reps X.K H xs ds) (q : Vals xs us) : ∃ as, ReadsAll s.heap us ds as := by
  cases r with
  | nil => cases q; exact ⟨_, .nil⟩
  | cons r rs =>
    cases q with
    | cons q qs =>
      obtain ⟨as, h1⟩ := Rep.reads I r q
      obtain ⟨bs, h2⟩ := Reps.reads I rs qs
      exact ⟨_, .cons h1 h2⟩
end
def rEqD (K : PySem.W.Frag) : R2 := fun x y H Q => ∃ d e, Rep K H x d ∧ Rep K H y e ∧ SeqAt.shaped d = true ∧ SeqAt.shaped e = true ∧ Q (.bl (PyData.eqv d e)) H
def rNeD (K : PySem.W.Frag) : R2 := fun x y H Q => ∃ d e, Rep K H x d ∧ Rep K H y e ∧ SeqAt.shaped d = true ∧ SeqAt.shaped e = true ∧ Q (.bl (!PyData.eqv d e)) H
theorem op_eqD {k : Nat} (hr : Room k X.A) : OpR X (compareOp .Eq) (rEqD X.K) := by
  intro pins s σ H x y v u Q I rx ry h
  obtain ⟨d, e, r1, r2, s1, s2, q⟩ := h
  obtain ⟨as, h1⟩ := r1.reads I rx
  obtain ⟨bs, h2⟩ := r2.reads I ry
  exact eq_dataH h1 h2 s1 s2 hr.units ⟨.bl _, H, I, rfl, q⟩
theorem op_neD {k : Nat} (hr : Room k X.A) : OpR X (compareOp .NotEq) (rNeD X.K) := by
  intro pins s σ H x y v u Q I rx ry h
  obtain ⟨d, e, r1, r2, s1, s2, q⟩ := h
  obtain ⟨as, h1⟩ := r1.reads I rx
  obtain ⟨bs, h2⟩ := r2.reads I ry
  exact ne_dataH h1 h2 s1 s2 hr.units ⟨.bl _, H, I, rfl, q⟩
end
mutual
theorem Rep.mono {K : PySem.W.Frag} {H H' : Hp} (e : Same H H') {x : V} {d : PyData} (r : Rep K H x d) : Rep K H' x d := by
  cases r with
  | non => exact .non
  | bl b => exact .bl b
  | int i => exact .int i
  | str x => exact .str x
  | lst hq hs hl => exact .lst (e.seq hq) (Reps.mono e hs) hl
  | tup hq hs hl => exact .tup (e.tup hq) (Reps.mono e hs) hl
theorem Reps.mono {K : PySem.W.Frag} {H H' : Hp} (e : Same H H') {xs : List V} {ds : List PyData} (r : Reps K H xs ds) : Reps K H' xs ds := by
  cases r with
  | nil => exact .nil
  | cons r rs => exact .cons (Rep.mono e r) (Reps.mono e rs)
end
theorem Reps.length {K : PySem.W.Frag} {H : Hp} : ∀ {xs : List V} {ds : List PyData}, Reps K H xs ds → xs.length = ds.length
  | _, _, .nil => rfl
  | _, _, .cons _ r => by simp [Reps.length r]
theorem Reps.get {K : PySem.W.Frag} {H : Hp} : ∀ {xs : List V} {ds : List PyData} {i : Nat} {d : PyData}, Reps K H xs ds → ds[i]? = some d → ∃ x, xs[i]? = some x ∧ Rep K H x d
  | _, _, _, _, .nil, e => by simp at e
  | _, _, 0, _, .cons r _, e => by simp at e; subst e; exact ⟨_, rfl, r⟩
  | _, _, i + 1, d, .cons _ t, e => by
    obtain ⟨x, h1, h2⟩ := Reps.get (i := i) t (by simpa using e)
    exact ⟨x, by simpa using h1, h2⟩
theorem Reps.ints {K : PySem.W.Frag} {H : Hp} : ∀ ns : List Int, Reps K H (ns.map V.int) (ns.map PyData.int)
  | [] => .nil
  | n :: ns => .cons (.int n) (Reps.ints ns)
/-- a fraction as data -/
def dF (p : Int × Int) : PyData := .tuple [.int p.1, .int p.2]
theorem IsF.rep {K : PySem.W.Frag} {H : Hp} {v : V} {p : Int × Int} (h : IsF K H v p) : Rep K H v (dF p) := by
  obtain ⟨a, rfl, q⟩ := h
  exact .tup q (.cons (.int _) (.cons (.int _) .nil)) (by simp)
theorem Reps.of_fracs {K : PySem.W.Frag} {H : Hp} : ∀ {xs : List V} {ps : List (Int × Int)}, Paired (IsF K H) xs ps → Reps K H xs (ps.map dF)
  | _, _, .nil => .nil
  | _, _, .cons r t => .cons r.rep (Reps.of_fracs t)
theorem Paired.len {α β : Type} {F : α → β → Prop} {xs : List α} {ys : List β} (h : Paired F xs ys) : xs.length = ys.length := Paired.length h
/-! ### the forms of a comprehension that one uses -/
theorem comp_range {lo : Int} {n : Nat} {caps : List (Option Nat)} {g : TG} {tt : TT} {te : TE} {σ : St} {QQ : List V → Hp → Prop} {H : Hp} (Pv : Nat → List V → Hp → Prop) (h0 : Pv 0 [] H)
    (hs : ∀ i ys H, i < n → Pv i ys H → g (.int (lo + i)) (capS caps σ) H fun σ2 H2 => tt σ2 H2 fun b H3 => if b = true then te σ2 H3 fun y H4 => ys.length < sizeLine ∧ Pv (i + 1) (ys ++ [y]) H4 else Pv (i + 1) ys H3)
    (hd : ∀ ys H, Pv n ys H → QQ ys H) : tCompK caps g tt te σ QQ (Itr lo n) H := by
  refine ⟨fun i m ys H => m = n - i ∧ i ≤ n ∧ Pv i ys H, ⟨n, by simp, Nat.zero_le _, h0⟩, ?_⟩
  rintro i m ys H ⟨rfl, hi, p⟩
  by_cases hlt : i < n
  · refine .inr ⟨hlt, Pv (i + 1), fun ys' H' p' => ⟨n - (i + 1), by omega, rfl, hlt, p'⟩, fun x H' y => ?_⟩
    obtain ⟨e, y⟩ := y
    subst e y
    exact hs i ys _ hlt p
  · have e : i = n := by omega
    subst e
    exact .inl ⟨Nat.le_refl _, hd ys H p⟩
theorem comp_list {K : PySem.W.Frag} {a : Addr} {xs : List V} {caps : List (Option Nat)} {g : TG} {tt : TT} {te : TE} {σ : St} {QQ : List V → Hp → Prop} {H : Hp} (Pv : Nat → List V → Hp → Prop) (h0 : Pv 0 [] H)
    (hl : ∀ i ys H, i ≤ xs.length → Pv i ys H → SqL K H a xs)
    (hs : ∀ i x ys H, xs[i]? = some x → Pv i ys H → g x (capS caps σ) H fun σ2 H2 => tt σ2 H2 fun b H3 => if b = true then te σ2 H3 fun y H4 => ys.length < sizeLine ∧ Pv (i + 1) (ys ++ [y]) H4 else Pv (i + 1) ys H3)
    (hd : ∀ ys H, Pv xs.length ys H → QQ ys H) : tCompK caps g tt te σ QQ (Itl K a) H := by
  refine ⟨fun i m ys H => m = xs.length - i ∧ i ≤ xs.length ∧ Pv i ys H, ⟨xs.length, by simp, Nat.zero_le _, h0⟩, ?_⟩
  rintro i m ys H ⟨rfl, hi, p⟩
  have q := hl i ys H hi p
  by_cases hlt : i < xs.length
  · refine .inr ⟨⟨xs, xs[i], q, by simp [hlt]⟩, Pv (i + 1), fun ys' H' p' => ⟨xs.length - (i + 1), by omega, rfl, hlt, p'⟩, fun x H' y => ?_⟩
    obtain ⟨e, y⟩ := y
    subst e
    exact hs i x ys _ (y xs q) p
  · have e : i = xs.length := by omega
    subst e
    exact .inl ⟨⟨xs, q, Nat.le_refl _⟩, hd ys H p⟩
theorem comp_tup {K : PySem.W.Frag} {a : Addr} {xs : List V} {caps : List (Option Nat)} {g : TG} {tt : TT} {te : TE} {σ : St} {QQ : List V → Hp → Prop} {H : Hp} (Pv : Nat → List V → Hp → Prop) (h0 : Pv 0 [] H)
    (hl : ∀ i ys H, i ≤ xs.length → Pv i ys H → SqT K H a xs)
    (hs : ∀ i x ys H, xs[i]? = some x → Pv i ys H → g x (capS caps σ) H fun σ2 H2 => tt σ2 H2 fun b H3 => if b = true then te σ2 H3 fun y H4 => ys.length < sizeLine ∧ Pv (i + 1) (ys ++ [y]) H4 else Pv (i + 1) ys H3)
    (hd : ∀ ys H, Pv xs.length ys H → QQ ys H) : tCompK caps g tt te σ QQ (Itt K a) H := by
  refine ⟨fun i m ys H => m = xs.length - i ∧ i ≤ xs.length ∧ Pv i ys H, ⟨xs.length, by simp, Nat.zero_le _, h0⟩, ?_⟩
  rintro i m ys H ⟨rfl, hi, p⟩
  have q := hl i ys H hi p
  by_cases hlt : i < xs.length
  · refine .inr ⟨⟨xs, xs[i], q, by simp [hlt]⟩, Pv (i + 1), fun ys' H' p' => ⟨xs.length - (i + 1), by omega, rfl, hlt, p'⟩, fun x H' y => ?_⟩
    obtain ⟨e, y⟩ := y
    subst e
    exact hs i x ys _ (y xs q) p
  · have e : i = xs.length := by omega
    subst e
    exact .inl ⟨⟨xs, q, Nat.le_refl _⟩, hd ys H p⟩
/-! the same without a test -/
theorem tTrue_ite {σ : St} {H : Hp} {A : Hp → Prop} {B : Hp → Prop} : (tTrue σ H fun b H3 => if b = true then A H3 else B H3) = A H := by
  unfold tTrue
  exact if_pos rfl
theorem comp_range1 {lo : Int} {n : Nat} {caps : List (Option Nat)} {g : TG} {te : TE} {σ : St} {QQ : List V → Hp → Prop} {H : Hp} (Pv : Nat → List V → Hp → Prop) (h0 : Pv 0 [] H)
    (hs : ∀ i ys H, i < n → Pv i ys H → g (.int (lo + i)) (capS caps σ) H fun σ2 H2 => te σ2 H2 fun y H4 => ys.length < sizeLine ∧ Pv (i + 1) (ys ++ [y]) H4)
    (hd : ∀ ys H, Pv n ys H → QQ ys H) : tCompK caps g tTrue te σ QQ (Itr lo n) H :=
  comp_range Pv h0 (fun i ys H hi p => by simp only [tTrue_ite]; exact hs i ys H hi p) hd
theorem comp_list1 {K : PySem.W.Frag} {a : Addr} {xs : List V} {caps : List (Option Nat)} {g : TG} {te : TE} {σ : St} {QQ : List V → Hp → Prop} {H : Hp} (Pv : Nat → List V → Hp → Prop) (h0 : Pv 0 [] H)
    (hl : ∀ i ys H, i ≤ xs.length → Pv i ys H → SqL K H a xs)
    (hs : ∀ i x ys H, xs[i]? = some x → Pv i ys H → g x (capS caps σ) H fun σ2 H2 => te σ2 H2 fun y H4 => ys.length < sizeLine ∧ Pv (i + 1) (ys ++ [y]) H4)
    (hd : ∀ ys H, Pv xs.length ys H → QQ ys H) : tCompK caps g tTrue te σ QQ (Itl K a) H :=
  comp_list Pv h0 hl (fun i x ys H hx p => by simp only [tTrue_ite]; exact hs i x ys H hx p) hd
theorem comp_tup1 {K : PySem.W.Frag} {a : Addr} {xs : List V} {caps : List (Option Nat)} {g : TG} {te : TE} {σ : St} {QQ : List V → Hp → Prop} {H : Hp} (Pv : Nat → List V → Hp → Prop) (h0 : Pv 0 [] H)
    (hl : ∀ i ys H, i ≤ xs.length → Pv i ys H → SqT K H a xs)
    (hs : ∀ i x ys H, xs[i]? = some x → Pv i ys H → g x (capS caps σ) H fun σ2 H2 => te σ2 H2 fun y H4 => ys.length < sizeLine ∧ Pv (i + 1) (ys ++ [y]) H4)
    (hd : ∀ ys H, Pv xs.length ys H → QQ ys H) : tCompK caps g tTrue te σ QQ (Itt K a) H :=
  comp_tup Pv h0 hl (fun i x ys H hx p => by simp only [tTrue_ite]; exact hs i x ys H hx p) hd
end L2

namespace L2
open PySem PySem.Spec PyProof.Rows
/-! ### sums along a row of wishes -/
def accs (row ws : List Int) (i : Nat) : Int := ((ws.take i).map fun w => row.getD w.toNat 0).sum
theorem accs_succ {row ws : List Int} {i : Nat} {w : Int} (h : ws[i]? = some w) : accs row ws (i + 1) = accs row ws i + row.getD w.toNat 0 := by
  unfold accs
  rw [List.take_add_one, h, List.map_append, List.sum_append]
  simp
theorem fAdd_red {a b T : Int} (hT : T ≠ 0) : fAdd (FQ.red a T) (FQ.red b T) = FQ.red (a + b) T := by
  have h1 := FQ.red_worth (t := a) hT
  have h2 := FQ.red_worth (t := b) hT
  have p1 := (FQ.red_low (t := a) hT).pos
  have p2 := (FQ.red_low (t := b) hT).pos
  unfold fAdd
  refine FQ.red_eq (Int.mul_ne_zero (by omega) (by omega)) hT ?_
  generalize FQ.red a T = p at *
  generalize FQ.red b T = q at *
  calc (p.1 * q.2 + q.1 * p.2) * T = (p.1 * T) * q.2 + (q.1 * T) * p.2 := by rw [Int.add_mul]; ac_rfl
    _ = (a * p.2) * q.2 + (b * q.2) * p.2 := by rw [h1, h2]
    _ = (a + b) * (p.2 * q.2) := by rw [Int.add_mul]; ac_rfl
theorem red_zero {T : Int} (hT : T ≠ 0) : FQ.red 0 T = (0, 1) := FQ.red_eq_iff hT ⟨by decide, by decide⟩ (by simp)
def spLaw (K : PySem.W.Frag) : Sp := fun vs H Q _ => ∃ (a : Addr) (ns : List Int), vs = [.ref a] ∧ SqL K H a (ns.map V.int) ∧ ns.length ≤ 63 ∧ ∀ H', Q (.bl true) H'
def spPrefixes (K : PySem.W.Frag) : Sp := fun vs H Q _ => ∃ (a b : Addr) (ws : List Int) (ss : List V) (row : List Int) (T : Int), vs = [.ref a, .ref b] ∧ SqT K H a (ws.map V.int) ∧ SqT K H b ss ∧
  Paired (IsF K H) ss (row.map fun x => FQ.red x T) ∧ (0 < T ∧ T < 2 ^ 80) ∧ (∀ x ∈ row, 0 ≤ x ∧ x ≤ T) ∧ (∀ w ∈ ws, 0 ≤ w ∧ w < row.length) ∧ ws.length ≤ 63 ∧
  ∀ p gs H', Same H H' → H' p = some (.tup gs) → Paired (IsF K H') gs ((List.range ws.length).map fun i => FQ.red (accs row ws (i + 1)) T) → Q (.ref p) H'
end L2

namespace L2
open PySem PySem.Spec PyProof.Rows
/-! ### the same data -/
def okD : Nat → PyData → Bool
  | _, .none => true
  | _, .bool _ => true
  | _, .int _ => true
  | _, .str x => SeqAt.shaped (.str x)
  | n + 1, .tuple ds => ds.all (okD n)
  | n + 1, .list ds => ds.all (okD n)
  | _, _ => false
def spSame (K : PySem.W.Frag) (n : Nat) : Sp := fun vs H Q _ => ∃ v u d, vs = [v, u] ∧ Rep K H v d ∧ Rep K H u d ∧ okD n d = true ∧ Q (.bl true) H
/-- the promise one call deeper -/
def spPrev (sp : Nat → Sp) : Nat → Sp
  | 0 => fun _ _ _ _ => False
  | n + 1 => sp n
/-! ### the sums of deals, as they lie -/
def sumsOf (ns : List Int) (at' n : Nat) : List (List Int) × Int :=
  LM.sumsGo (LM.cellAt ns at' / 5 % 3) n (fun k => LM.cellAt ns (at' + 1 + k)) (1 + LM.cellAt ns at' % 5).toNat
structure RowsAt (H0 H : Hp) (L : Addr) (rs : List Addr) (M : List (List Int)) : Prop where
  lst : H L = some (.lst (rs.map V.ref))
  rows : Paired (fun r (m : List Int) => H r = some (.lst (m.map V.int))) rs M
  nd : rs.Nodup
  fr : ∀ r ∈ rs, H0 r = none
  frL : H0 L = none
  nL : L ∉ rs
theorem RowsAt.get {H0 H : Hp} {L : Addr} {rs : List Addr} {M : List (List Int)} (R : RowsAt H0 H L rs M) {i : Nat} {m : List Int} (h : M[i]? = some m) : ∃ r, rs[i]? = some r ∧ H r = some (.lst (m.map V.int)) := Paired.get (F := fun r (m : List Int) => H r = some (.lst (m.map V.int))) R.rows h
theorem RowsAt.mono {H0 H H' : Hp} {L : Addr} {rs : List Addr} {M : List (List Int)} (R : RowsAt H0 H L rs M) (e : Same H H') : RowsAt H0 H' L rs M :=
  ⟨e _ _ R.lst, Paired.mapP R.rows fun _ _ h => e _ _ h, R.nd, R.fr, R.frL, R.nL⟩
theorem paired_keep {H : Hp} {r : Addr} {o : HO} : ∀ {rs : List Addr} {M : List (List Int)}, Paired (fun r (m : List Int) => H r = some (.lst (m.map V.int))) rs M → r ∉ rs →
    Paired (fun r' (m : List Int) => (upd H r o) r' = some (.lst (m.map V.int))) rs M
  | _, _, .nil, _ => .nil
  | _, _, .cons h t, n => .cons (by rw [upd_ne (fun z => n (by rw [z]; exact List.mem_cons_self))]; exact h) (paired_keep t fun z => n (List.mem_cons_of_mem _ z))
theorem paired_upd {H : Hp} {r : Addr} {m' : List Int} : ∀ {rs : List Addr} {M : List (List Int)} {j : Nat}, Paired (fun r (m : List Int) => H r = some (.lst (m.map V.int))) rs M → rs.Nodup → rs[j]? = some r →
    Paired (fun r' (m : List Int) => (upd H r (.lst (m'.map V.int))) r' = some (.lst (m.map V.int))) rs (M.set j m')
  | _, _, _, .nil, _, e => by simp at e
  | _, _, 0, .cons h t, nd, e => by
    simp at e
    subst e
    exact .cons upd_same (paired_keep t (List.nodup_cons.mp nd).1)
  | _, _, j + 1, .cons h t, nd, e => by
    have e' : _ := (by simpa using e : _)
    refine .cons ?_ (paired_upd t (List.nodup_cons.mp nd).2 e')
    rw [upd_ne (fun z => (List.nodup_cons.mp nd).1 (by rw [z]; exact List.mem_of_getElem? e'))]
    exact h
theorem RowsAt.upd {H0 H : Hp} {L r : Addr} {rs : List Addr} {M : List (List Int)} {j : Nat} (R : RowsAt H0 H L rs M) (m' : List Int) (h : rs[j]? = some r) : RowsAt H0 (L2.upd H r (.lst (m'.map V.int))) L rs (M.set j m') :=
  ⟨by rw [upd_ne (fun z => R.nL (by rw [z]; exact List.mem_of_getElem? h))]; exact R.lst, paired_upd R.rows R.nd h, R.nd, R.fr, R.frL, R.nL⟩
theorem RowsAt.len {H0 H : Hp} {L : Addr} {rs : List Addr} {M : List (List Int)} (R : RowsAt H0 H L rs M) : rs.length = M.length := Paired.len R.rows
/-- the rows behind j of a deal's turns -/
def mid (M : List (List Int)) (o : List Int) (w : Int) (j : Nat) : List (List Int) := LM.addDeal (M.take j) (o.take j) w ++ M.drop j
def spSums (K : PySem.W.Frag) : Sp := fun vs H Q _ => ∃ (a : Addr) (ns : List Int) (at' n : Nat), vs = [.ref a, .int at', .int n] ∧ SqL K H a (ns.map V.int) ∧ 1 ≤ n ∧ n ≤ 6 ∧ at' ≤ 63 ∧
  ∀ p L rs H', Same H H' → H' p = some (.tup [.ref L, .int (sumsOf ns at' n).2]) → RowsAt H H' L rs (sumsOf ns at' n).1 → Q (.ref p) H'
end L2

namespace L2
open PySem PySem.Spec PyProof.Rows

/-! ### an own exception that flies: how it lies behind a call -/
structure Flies (P : Program) (w : World) (outer : List Env) (H : Hp) (s : Shared) (a C : Addr) (B : Heap) (a0 : Value) (H' : Hp) (s' : Shared) : Prop where
  os : s'.os = s.os
  bare : AllBare s'.gens
  un : Un (frs outer) [] H H' s.heap s'.heap
  hok : HOk P w H' B
  keep : ∀ b o, s.heap.get? b = some o → H b = none → b ∉ frs outer → B.get? b = some o
  has : ∀ b o, s.heap.get? b = some o → b ∉ frs outer → ∃ o', B.get? b = some o'
  fly : Heap.FlyingW B outer a (.ref C) a0 s'.heap
def CXE (P : Program) (w : World) : CXT := fun outer H s E e s' => ∃ a C B a0 H', e = .ref a ∧ Flies P w outer H s a C B a0 H' s' ∧ E (.ref C) none H'

theorem ObjOk.is {P : Program} {w : World} {H : Hp} {h : Heap} {a : Addr} {o : HO} (x : ObjOk P w H h a o) : ∃ u, h.get? a = some u := by
  cases o with
  | lst xs => obtain ⟨_, _, _, _, e⟩ := x; exact ⟨_, e⟩
  | tup xs => obtain ⟨_, _, _, o, e, _⟩ := x; exact ⟨_, e⟩
  | dK kvs => obtain ⟨_, _, _, _, o, _, _, e, _⟩ := x; exact ⟨_, e⟩
  | dT kvs => obtain ⟨_, _, _, _, o, _, _, e, _⟩ := x; exact ⟨_, e⟩
  | set S n => obtain ⟨o, _, _, _, e, _⟩ := x; exact ⟨_, e⟩
  | ins C dx fs => obtain ⟨_, _, _, e, _⟩ := x; exact ⟨_, e⟩
  | own y => obtain ⟨_, e⟩ := x; exact ⟨_, e⟩
  | xd fs => obtain ⟨_, ⟨_, _, _, e, _⟩, _⟩ := x; exact ⟨_, e⟩
  | rng lo hi => obtain ⟨_, _, _, e⟩ := x; exact ⟨_, e⟩
  | frz ob u => obtain ⟨e, _⟩ := x; exact ⟨_, e⟩
  | tbl ps => exact ⟨_, (show h.get? a = some _ from x)⟩
  | met f y => exact ⟨_, (show h.get? a = some _ from x)⟩
  | ext φ => obtain ⟨_, ⟨_, e⟩, _⟩ := x; exact ⟨_, e⟩
theorem Flies.free {P : Program} {w : World} {outer : List Env} {H H' : Hp} {s s' : Shared} {a C : Addr} {B : Heap} {a0 : Value} (f : Flies P w outer H s a C B a0 H' s') : H' a = none := by
  cases q : H' a with
  | none => rfl
  | some o =>
    obtain ⟨x, hx⟩ := (f.hok a o q).is
    rw [f.fly.2.1] at hx; cases hx
/-- what is tracked lies apart from the frames -/
theorem hok_hide {P : Program} {w : World} {H : Hp} {h : Heap} {l : List Addr} (x : HOk P w H h) (n : ∀ b ∈ l, H b = none) : HOk P w H (PySem.W.hideAll h l) := fun a o e =>
  (x a o e).stay (fun b u hb q => PySem.W.hideAll_get _ q fun z => by
    rcases hb with rfl | hb
    · rw [n _ z] at e; cases e
    · rw [n _ z] at hb; cases hb) (fun _ q => q) fun _ _ q => q

section
variable {P : Program} {w : World} {K : PySem.W.Frag} {mg : Str → Option Value} {base : Heap} {N : List Str} {qual : Str} {scope : Scope} {f : Addr} {cd : Value} {A : Around} {outer : List Env} {s₀ : Shared} {H₀ : Hp} {E : XK}
abbrev cxE (P : Program) (w : World) (K : PySem.W.Frag) (mg : Str → Option Value) (base : Heap) (N : List Str) (qual : Str) (scope : Scope) (f : Addr) (cd : Value) (A : Around) (outer : List Env) (s₀ : Shared) (H₀ : Hp) (E : XK) : Cx := cxOf (CXE P w) P w K mg base N qual scope f cd A outer s₀ H₀ E
theorem frs_cons {env : Env} {l : List Env} {L : Addr} (h : env.frame = some L) : frs (env :: l) = L :: frs l := by unfold frs; rw [List.filterMap_cons, h]
/-- an exception that is made in a def's body leaves it -/
theorem made_leaves {pins : List (Addr × Obj)} {σ : St} {H : Hp} {s : Shared} {h' : Heap} {e C : Addr} {vs : List Value} (I : Inv (cxE P w K mg base N qual scope f cd A outer s₀ H₀ E) pins σ H s) (hx : Heap.MadeExcOf s.heap h' e (.ref C) vs) (hE : E (.ref C) none H) :
    (cxE P w K mg base N qual scope f cd A outer s₀ H₀ E).xe (.ref e) { s with heap := h' } := by
  have hf : (envOfC qual scope s₀.heap.objs.size f cd).frame = some s₀.heap.objs.size := rfl
  have hst : (cxE P w K mg base N qual scope f cd A outer s₀ H₀ E).stack = envOfC qual scope s₀.heap.objs.size f cd :: outer := rfl
  have hin : ∀ env ∈ (envOfC qual scope s₀.heap.objs.size f cd :: outer), ∀ b, env.frame = some b → b ∈ frs (envOfC qual scope s₀.heap.objs.size f cd :: outer) := fun env he b hb => List.mem_filterMap.mpr ⟨env, he, hb⟩
  have FF : s.heap.FunFrames base (envOfC qual scope s₀.heap.objs.size f cd :: outer) := I.stack
  have fr0 : ∀ b ∈ frs (envOfC qual scope s₀.heap.objs.size f cd :: outer), H b = none := I.stkFree
  have nin : ∀ b o, s₀.heap.get? b = some o → b ∉ frs outer → b ∉ frs (envOfC qual scope s₀.heap.objs.size f cd :: outer) := fun b o q nb => by
    rw [frs_cons hf]
    intro z
    rcases List.mem_cons.mp z with z | z
    · exact absurd (Heap.lt_size q) (by rw [z]; exact Nat.lt_irrefl _)
    · exact nb z
  have U : Un (frs outer) [] H₀ H s₀.heap s.heap := I.base
  show wpAny _ _ (leaving _ _) _ _ _
  refine wpAny_leaves_madeW (base := PySem.W.hideAll s.heap (frs (envOfC qual scope s₀.heap.objs.size f cd :: outer))) (h := s.heap) I.ok.frames hf (fun b o q => PySem.W.of_hideAll _ q) (PySem.W.funFrames_hide FF hin) hx fun h'' t x1 _ _ x4 => ?_
  have stay := x1.1
  refine ⟨e, C, _, _, H, rfl, ⟨I.os, I.bare, ⟨fun b o q n nb _ => ?_, fun b o q n hb _ => ?_, fun b o q n hx' => U.free b o q n hx', fun b o q _ => ?_, U.tups, U.frzs, U.tbls⟩, hok_hide I.hok fr0, fun b o q n nb => ?_, fun b o q nb => ?_, x1⟩, hE⟩
  · exact stay _ _ (PySem.W.hideAll_get _ (U.keep b o q n nb (by simp)) (nin b o q nb))
  · obtain ⟨sl, q1⟩ := U.slot b o q n hb (by simp)
    obtain ⟨_, o2, ho2, hnf⟩ := I.funs.mem hb
    have e2 : o2 = { o with slots := sl } := Option.some.inj (ho2.symm.trans q1)
    obtain ⟨sl', q2⟩ := x4 b o2 (hx.keeps _ _ ho2) hnf
    rw [e2] at q2
    exact ⟨sl', q2⟩
  · obtain ⟨o', q1⟩ := U.there b o q (by simp)
    by_cases hb : b ∈ frs outer
    · obtain ⟨_, o2, ho2, hnf⟩ := I.funs.mem hb
      obtain ⟨sl', q2⟩ := x4 b o2 (hx.keeps _ _ ho2) hnf
      exact ⟨_, q2⟩
    · exact ⟨o', stay _ _ (PySem.W.hideAll_get _ q1 (nin b o q hb))⟩
  · exact PySem.W.hideAll_get _ (U.keep b o q n nb (by simp)) (nin b o q nb)
  · obtain ⟨o', q1⟩ := U.there b o q (by simp)
    exact ⟨o', PySem.W.hideAll_get _ q1 (nin b o q nb)⟩
end
end L2
namespace L2
open PySem PySem.Spec PyProof.Rows
/-! ### raise X("..") of an own class under ValueError -/
def bmV : List Value := [.type "ValueError", .type "Exception", .type "BaseException", .type "object"]
/-- an own error class of the module -/
structure XCls (K : PySem.W.Frag) (mg : Str → Option Value) (x : Str) (C : Addr) : Prop where
  bound : mg x = some (.ref C)
  exc : PySem.W.excIn K C bmV "ValueError.__new__" = true
theorem exc_obj {K : PySem.W.Frag} {h : Heap} {C : Addr} {bmB : List Value} {nid : String} (X : K.In h) (q : PySem.W.excIn K C bmB nid = true) :
    ∃ bm N nm qn bs hdct sn sub ab col dd k0 k1 k2 k3 k5 mN, h.get? C = some (excClassObj nm qn C N bs bm hdct sn sub ab col dd k0 k1 k2 k3 k5 nid) ∧ h.Ns N mN ∧ mN "__init__" = none ∧ OwnTail h bmB bm := by
  unfold PySem.W.excIn at q
  split at q
  · rename_i dd cd sl hlk
    split at q
    · rename_i C' bm u0 u1 u2 u3 n u5 hmro hsl
      simp only [Bool.and_eq_true, beq_iff_eq, Bool.not_eq_true'] at q
      obtain ⟨⟨⟨⟨⟨rfl, rfl⟩, q3⟩, q4⟩, q5⟩, q6⟩ := q
      obtain ⟨nm, bs, mro, ns, qn, hd, sn, sub, ab, col, del⟩ := cd
      dsimp only at hmro q3 q5 q6
      subst hmro q3
      obtain ⟨l⟩ := sl
      simp only at hsl
      subst hsl
      exact ⟨bm, ns, nm, qn, bs, hd, sn, sub, ab, col, dd, u0, u1, u2, u3, u5, _, X _ _ hlk, .of_isNs (PySem.W.isNs_of_in X q5), PySem.W.nsMap_none_of_in X q5 q6, PySem.W.tail_of_in X q4⟩
    · cases q
  · cases q
section
variable {P : Program} {w : World} {K : PySem.W.Frag} {mg : Str → Option Value} {base : Heap} {N : List Str} {qual : Str} {scope : Scope} {f : Addr} {cd : Value} {A : Around} {outer : List Env} {s₀ : Shared} {H₀ : Hp} {E : XK}
def tRaise (C : Addr) (E : XK) (t : TA) : TS := fun _ σ H => t σ H fun vs H1 => vs.length ≤ sizeLine ∧ E (.ref C) none H1
theorem ps_raise {x : Str} {C : Addr} {e₀ : Expr} {es : List Expr} {np cpos pos : Pos} {t : TA} (hC : XCls K mg x C) (hg : Gl (cxE P w K mg base N qual scope f cd A outer s₀ H₀ E) x)
    (ha : PA (cxE P w K mg base N qual scope f cd A outer s₀ H₀ E).nox (e₀ :: es) t)
    (hd : (x == ("__debug__" : Str)) = false := by decide) (he : starEach (e₀ :: es) (cxE P w K mg base N qual scope f cd A outer s₀ H₀ E).env = (false, eval e₀ (cxE P w K mg base N qual scope f cd A outer s₀ H₀ E).env) :: starEach es (cxE P w K mg base N qual scope f cd A outer s₀ H₀ E).env := by rfl)
    (hpl : (backTo cpos (starEach es (cxE P w K mg base N qual scope f cd A outer s₀ H₀ E).env)).any (·.1) = false := by rfl) :
    PS (cxE P w K mg base N qual scope f cd A outer s₀ H₀ E) (.Raise (some (.Call (.Name x np) (e₀ :: es) [] cpos)) none pos) (tRaise C E t) := by
  intro pins s σ H D I h
  obtain ⟨bm, Nn, nm, qn, bs, hdct, sn, sub, ab, col, dd, k0, k1, k2, k3, k5, mN, hCo, hN, hni, T⟩ := exc_obj I.ok.mod.kin hC.exc
  refine wpAny_Raise_call_subT (C := C) (nm := nm) (q := qn) (N := Nn) (bs := bs) (bm := bm) (hdct := hdct) (sn := sn) (sub := sub) (ab := ab) (col := col) (dd := dd) (k0 := k0) (k1 := k1) (k2 := k2) (k3 := k3) (k5 := k5) (mN := mN) (bmB := bmV) (newId := "ValueError.__new__")
    PySem.F.excBase_ValueError (T.hasType (by decide)) (I.ok.hd rfl) (by rw [he]; exact hpl) hni (ld_glob I hg hC.bound ⟨rfl, ?_⟩ hd)
  have z := ha cpos pins s σ H _ (I.wish _) h
  have he' : starEach (e₀ :: es) (cxE P w K mg base N qual scope f cd A outer s₀ H₀ E).nox.env = (false, eval e₀ (cxE P w K mg base N qual scope f cd A outer s₀ H₀ E).env) :: starEach es (cxE P w K mg base N qual scope f cd A outer s₀ H₀ E).env := he
  rw [he'] at z
  rw [he]
  refine Calls.evalArgs_plain ?_
  refine wpAny_mono z (fun us s1 h1 => ?_) fun _ _ z => False.elim z
  obtain ⟨vs, H1, I1, r, hl, hE⟩ := h1
  have I1 := I1.unwish
  exact ⟨rfl, by rw [← r.length]; exact hl, I1.bk _ _ hCo, hN.keeps I1.bk, T.keeps I1.bk, fun h' e hm => made_leaves I1 hm hE⟩
end
end L2
namespace L2
open PySem PySem.Spec PyProof.Rows
section
variable {M : Model} {A : Around} {E : Value → Shared → Prop} {K : PySem.W.Frag} {h : Heap} {g : Array GenState} {d : Drawn} {t : Nat} {os : OsState} {a C CW : Addr} {oe : Obj}
end
end L2
namespace L2
open PySem PySem.Spec PyProof.Rows
/-! ### an exception that was caught: its class is known -/
def excO (C a : Addr) : HO := .ext fun h => ∃ o, h.get? a = some o ∧ o.cls = .ref C ∧ ∃ vs, o.data = .fields vs
section
variable {X : Cx} {pins : List (Addr × Obj)} {σ : St} {H : Hp} {s : Shared}
theorem Inv.caught {a C : Addr} {B : Heap} {a0 : Value} {H' : Hp} {s' : Shared} {h6 : Heap} (I : Inv X pins σ H s) (F : Flies X.prog X.w X.stack H s a C B a0 H' s') (fl : Heap.FlyingW B X.stack a (.ref C) a0 h6) (up : s'.heap.UpToSlots h6) :
    Inv X pins σ (upd H' a (excO C a)) { s' with heap := h6 } := by
  have fr := F.free
  have V' := F.un
  have ff := F.fly.2.2.1
  obtain ⟨oe, vs, hoe, hoc, hod, _⟩ := fl.first
  have ne : ∀ b u, H' b = some u → b ≠ a := fun b u q z => by rw [z, fr] at q; cases q
  have nea : ∀ b o, s.heap.get? b = some o → H b = none → b ≠ a := fun b o q n z => by
    by_cases hb : b ∈ frs X.stack
    · obtain ⟨_, o2, ho2, hnf⟩ := fl.2.2.1.mem hb
      rw [z, hoe] at ho2
      cases ho2
      exact hnf _ hod
    · have := F.keep b o q n hb
      rw [z, fl.2.1] at this
      cases this
  refine I.call' (s' := { s' with heap := h6 }) (ch := []) F.os ⟨fun b o q n nb _ => fl.1 _ _ (F.keep b o q n nb), fun b o q n hb _ => ?_, fun b o q n hx => ?_, fun b o q _ => ?_, fun b xs q => ?_, fun b o u q => ?_, fun b ps q => ?_⟩ ?_ F.bare (fun b z => absurd z (by simp))
  · obtain ⟨sl, q1⟩ := V'.slot b o q n hb (by simp)
    obtain ⟨_, o2, ho2, hnf⟩ := ff.mem hb
    have e2 := Option.some.inj (ho2.symm.trans q1)
    obtain ⟨sl', q2⟩ := up b o2 ho2 hnf
    rw [e2] at q2
    exact ⟨sl', q2⟩
  · rw [upd_ne (nea b o q n)]
    exact V'.free b o q n hx
  · by_cases hb : b ∈ frs X.stack
    · obtain ⟨_, o2, ho2, hnf⟩ := fl.2.2.1.mem hb
      exact ⟨_, ho2⟩
    · obtain ⟨o', q1⟩ := F.has b o q hb
      exact ⟨o', fl.1 _ _ q1⟩
  · have q' := V'.tups b xs q
    rw [upd_ne (ne _ _ q')]; exact q'
  · have q' := V'.frzs b o u q
    rw [upd_ne (ne _ _ q')]; exact q'
  · obtain ⟨more, q'⟩ := V'.tbls b ps q
    exact ⟨more, by rw [upd_ne (ne _ _ q')]; exact q'⟩
  · intro b u q
    by_cases hb : b = a
    · subst hb
      rw [upd_same] at q
      cases q
      exact ⟨⟨oe, hoe, hoc, vs, hod⟩, ⟨oe, hoe⟩, fun h1 h2 ⟨o, q1, q2, q3⟩ k => ⟨o, k o q1, q2, q3⟩⟩
    · rw [upd_ne hb] at q
      exact (F.hok b u q).stay (fun c v _ z => fl.1 _ _ z) (fun c z => by rw [upd_ne (ne _ _ z)]; exact z) fun c xs z => by rw [upd_ne (ne _ _ z)]; exact z
end
/-! ### within an except suite -/
def Cx.hold (X : Cx) (a : Addr) : Cx := { X with A := X.A.mark (some (.ref a)), calm := false, xe := fun _ _ => False }
theorem Cx.Ok.hold {X : Cx} (ok : X.Ok) (a : Addr) : (X.hold a).Ok :=
  ⟨ok.mod, ok.kind, ok.glob, ok.blt, ok.above, ok.inj, ok.has, ok.cab, (fun z => by cases z), ok.frames, ok.stk, ok.exf, ok.bs, ok.bsz, ok.noex, ok.exfs, ok.funs, ok.frf⟩
section
variable {X : Cx} {pins : List (Addr × Obj)} {σ : St} {H : Hp} {s : Shared}
theorem Inv.hold (I : Inv X pins σ H s) (a : Addr) : Inv (X.hold a) pins σ H s := ⟨I.ok.hold a, I.os, I.bare, I.base, I.loc, I.cell, I.free, I.freeC, I.pin, I.hok, I.len⟩
end
/-! ### code that may raise, while the names stand as they stood -/
def PEr (X : Cx) (e : Expr) (t : XK → TE) : Prop := ∀ (pins : List (Addr × Obj)) (s : Shared) (σ : St) (H : Hp) (Q : VK) (E : XK) (xe : Value → Shared → Prop), Inv X pins σ H s →
  (∀ H1 s1 e' s', Inv X pins σ H1 s1 → CXE X.prog X.w X.stack H1 s1 E e' s' → xe e' s') → t E σ H Q → wpAny (model X.prog X.w) X.A (eval e X.env) (EP X pins σ Q) xe s
def PSr (X : Cx) (sts : List Stmt) (t : XK → TS) : Prop := ∀ (pins : List (Addr × Obj)) (s : Shared) (σ : St) (H : Hp) (D : Ends) (E : XK) (xe : Value → Shared → Prop), Inv X pins σ H s →
  (∀ H1 s1 e' s', Inv X pins σ H1 s1 → CXE X.prog X.w X.stack H1 s1 E e' s' → xe e' s') → t E D σ H → wpAny (model X.prog X.w) X.A (execs sts X.env) (SP X pins D) xe s
section
variable {X : Cx}
/-- try: .. except W as n: .. -/
def tTry (K : PySem.W.Frag) (CW : Addr) (ni : Nat) (tb : XK → TS) (ts : TS) : TS := fun D σ H =>
  tb (fun c _ H1 => ∃ C, c = .ref C ∧ PySem.W.mroIn K C (.ref CW) = some true ∧ ∀ a, H1 a = none →
    ts { nx := fun σ' H' => D.nx (σ'.set ni none) H', rt := D.rt, bk := fun σ' H' => D.bk (σ'.set ni none) H', ct := fun σ' H' => D.ct (σ'.set ni none) H' } (σ.set ni (some (.ref a))) (upd H1 a (excO C a))) D σ H
end
end L2
namespace L2
open PySem PySem.Spec PyProof.Rows
structure XIs (K : PySem.W.Frag) (C : Addr) : Prop where
  exc : PySem.W.excIn K C bmV "ValueError.__new__" = true
  ga : PySem.W.findIn K (.ref C) "__getattribute__" = some (some (.builtin "BaseException.__getattribute__"))
  noG : PySem.W.findIn K (.ref C) "__getattr__" = some none
  cl : PySem.W.findIn K (.ref C) "__class__" = some (some (.builtin "object.__class__"))
  mo : PySem.W.mroIn K C (.type "object") = some true
  sg : PySem.W.specialIn K (.builtin "object.__class__") "__get__" = some (some (.builtin "getset_descriptor.__get__"))
  tk : PySem.W.takesIn K (.builtin "object.__class__") = some true
  mB : PySem.W.mroIn K C (.type "BaseException") = some true
section
variable {prog : Program} {w : World} {A : Around} {E : Value → Shared → Prop} {K : PySem.W.Frag} {h : Heap} {g : Array GenState} {d : Drawn} {t : Nat} {os : OsState} {a C : Addr} {o : Obj}
end
section
variable {X : Cx}
end
end L2
namespace L2
open PySem PySem.Spec PyProof.Rows
section
variable {P : Program} {w : World} {K : PySem.W.Frag} {mg : Str → Option Value} {base : Heap}
/-! ### a def that may raise -/
theorem Def.okE {x : Str} {st : Stmt} {N ps : List Str} {k : Nat} {sp : Sp} (F : Def K mg x st) (S : FnScope N ps (defScope st)) (len : ∀ vs H Q E, sp vs H Q E → vs.length = ps.length)
    (hb : ∀ (kV doc pm : Value) (an : Option Addr) (cdv ct : Value) (us : List Value), us.length = ps.length → bindArgs (PySem.W.fnOf x x (defArgs st) (defBody st) (defScope st) .none kV doc pm an cdv ct) ⟨us, []⟩ = pure (ps.zip us))
    (hbody : ∀ (f : Addr) (cdv : Value) (A : Around) (outer : List Env) (s : Shared) (H : Hp) (vs : List V) (Q : VK) (E : XK), Room k (A.deeper (envOfC x (defScope st) s.heap.objs.size f cdv)) → sp vs H Q E →
      ∃ t, PSs (cxE P w K mg base N x (defScope st) f cdv A outer s H E) (defBody st) t ∧ t { nx := fun _ H' => Q .non H', rt := Q } (start N vs) H) : Dn P w K mg base (CXE P w) (k + 1) x ps sp := by
  obtain ⟨f, fd, F, m⟩ := F
  have hbd := F.binds hb
  have kp := F.kp
  obtain ⟨oc, od, kV, doc, pm, an, cdv, ct, osl, rfl, lk, hcd⟩ := F.ex
  exact ⟨f, _, fn_of lk hcd S len fun A outer s H vs Q E hr hsp => hbody f cdv A outer s H vs Q E hr hsp, m, kp, hbd⟩
theorem passN {X : Cx} : Passes (CXE X.prog X.w) X E0 := fun _ _ _ _ _ _ _ ⟨_, _, _, _, _, _, _, z⟩ => z.elim
end
/-- the module's error classes -/
structure Xs where
  WishError : Addr
  NoFraction : Addr
  NoWishes : Addr
  NoTable : Addr
  NoPick : Addr
  NoOrder : Addr
  NoRoll : Addr
  NoPerson : Addr
  Unready : Addr
  NoWay : Addr
end L2
namespace L2
open PySem PySem.Spec PyProof.Rows
end L2

namespace L2
open PySem PySem.Spec PyProof.Rows
/-! ### promises of the law of the fractions -/
def spFractionE (x : Xs) : Sp := fun vs H Q E => ∃ t b : Int, vs = [.int t, .int b] ∧ (b = 0 → E (.ref x.NoFraction) none H) ∧ (b ≠ 0 → b.natAbs < 2 ^ 9000 ∧ ∀ p H', Same H H' → H' p = some (tupF (FQ.red t b)) → Q (.ref p) H')
def spBefore (K : PySem.W.Frag) : Sp := fun vs H Q _ => ∃ a b x y, vs = [.ref a, .ref b] ∧ SqT K H a [.int x.1, .int x.2] ∧ SqT K H b [.int y.1, .int y.2] ∧ Sz 4000 x ∧ Sz 4000 y ∧ Q (.bl (decide (x.1 * y.2 < y.1 * x.2))) H
def spIsFr (K : PySem.W.Frag) : Sp := fun vs H Q _ => ∃ (a : Addr) (p : Int × Int), vs = [.ref a] ∧ SqT K H a [.int p.1, .int p.2] ∧ FQ.Low p ∧ Q (.bl true) H
def kNumber (c : Int) : Int := if c % 4 = 0 then c / 4 * 982451653 % (2 * 10 ^ (40 : Int).toNat - 1) - 10 ^ (40 : Int).toNat + 1 else if c % 4 = 1 then c / 4 % 2001 - 1000 else c / 4 % 25 - 12
def spNumber : Sp := fun vs H Q _ => ∃ c : Int, vs = [.int c] ∧ Q (.int (kNumber c)) H
def spLowestN (n : Nat) : Sp := fun vs H Q _ => ∃ t b : Int, vs = [.int t, .int b] ∧ b ≠ 0 ∧ (n = 0 → 0 < b) ∧ b.natAbs < 2 ^ 9000 ∧ ∀ p H', Same H H' → H' p = some (tupF (FQ.red t b)) → Q (.ref p) H'
def spKinds (C : Addr) (nm : Str) : Sp := fun vs H Q _ => ∃ a : Addr, vs = [.ref a] ∧ H a = some (excO C a) ∧ ∀ p H', Same H H' → H p = none → H' p = some (.lst [.str nm]) → Q (.ref p) H'
def spTold01 : Sp := fun vs H Q _ => ∃ t b : Int, vs = [.int t, .int b] ∧ b.natAbs < 2 ^ 9000 ∧ (b ≠ 0 → ∀ p H', Same H H' → H' p = some (tupF (FQ.red t b)) → Q (.ref p) H') ∧ (b = 0 → ∀ p H', Same H H' → H' p = some (.lst [.str "NoFraction"]) → Q (.ref p) H')
def spWorth (K : PySem.W.Frag) : Sp := fun vs H Q _ => ∃ (a : Addr) (p : Int × Int) (t b : Int), vs = [.ref a, .int t, .int b] ∧ SqT K H a [.int p.1, .int p.2] ∧ FQ.Low p ∧ p.1 * b = t * p.2 ∧ Sz 4000 p ∧ t.natAbs < 2 ^ 9000 ∧ b.natAbs < 2 ^ 9000 ∧ Q (.bl true) H
def spRight (K : PySem.W.Frag) : Sp := fun vs H Q _ => ∃ (a b : Addr) (x y : Int × Int), vs = [.ref a, .ref b] ∧ SqT K H a [.int x.1, .int x.2] ∧ SqT K H b [.int y.1, .int y.2] ∧ FQ.Low x ∧ FQ.Low y ∧ Sz 200 x ∧ Sz 200 y ∧ ∀ H', Same H H' → Q (.bl true) H'
theorem Sz.up {m n : Nat} {p : Int × Int} (h : Sz m p) (hmn : m ≤ n) : Sz n p := ⟨size_up h.1 hmn, size_up h.2.1 hmn, h.2.2⟩
/-- a pair brought to lowest terms is right -/
structure OkF (p : Int × Int) (t b : Int) : Prop where
  low : FQ.Low p
  worth : p.1 * b = t * p.2
  sz : Sz 4000 p
  t : t.natAbs < 2 ^ 9000
  b : b.natAbs < 2 ^ 9000
theorem add_size {a b : Int} {m : Nat} (h1 : a.natAbs < 2 ^ m) (h2 : b.natAbs < 2 ^ m) : (a + b).natAbs < 2 ^ (m + 1) := by
  have := Int.natAbs_add_le a b
  rw [Nat.pow_succ]
  omega
end L2

namespace L2
open PySem PySem.Spec PyProof.Rows
/-! ### all, sorted, list(range(..)), isinstance of two kinds -/
section
variable {X : Cx}
theorem vals_of : ∀ {xs : List V} {us : List Value}, xs.length = us.length → (∀ (i : Nat) (v : V) (u : Value), xs[i]? = some v → us[i]? = some u → RelV v u) → Vals xs us
  | [], [], _, _ => .nil
  | x :: xs, u :: us, hl, h => .cons (h 0 x u rfl rfl) (vals_of (by simpa using hl) fun i v w h1 h2 => h (i + 1) v w (by simpa using h1) (by simpa using h2))
theorem ints_are {ns : List Int} : ∀ {vs : List Value}, Vals (ns.map V.int) vs → IntsAre vs ns := by
  induction ns with
  | nil => intro vs r; cases r; exact .nil
  | cons n ns ih =>
    intro vs r
    cases r with
    | cons r rs =>
      obtain ⟨t, rfl⟩ := (show ∃ t, _ = Value.int n t from r)
      exact .cons _ _ (ih rs)
theorem collect_tup {prog : Program} {w : World} {A : Around} {E : Value → Shared → Prop} {s : Shared} {l : Addr} {vs : List Value} {Q : List Value → Shared → Prop} (ht : IsTup s.heap l vs.toArray) (hsz : vs.length ≤ sizeLine)
    (h : Q vs { s with heap := (s.heap.push (seqObj "list" #[] 0)).update s.heap.objs.size (Obj.mapSeq (· ++ vs.toArray)) }) : wpAny (model prog w) A (collect (.ref l)) Q E s := by
  obtain ⟨o, ho, hcl, n, hd⟩ := ht
  have ho' : (s.heap.push (seqObj "list" #[] 0)).get? l = some o := Heap.get?_push_of_some _ ho
  have hnew : (s.heap.push (seqObj "list" #[] 0)).get? s.heap.objs.size = some (seqObj "list" #[] 0) := Heap.get?_push_size _ rfl
  unfold collect
  refine wpAny_bind (wpAny_runValue (codeAny_builtin F.entry_proto_collect ?_))
  change wpAny _ _ (do again (.builtin "list.__iadd__" ⟨[← newList [], .ref l], []⟩)) _ _ s
  refine wpAny_bind (wpAny_newList (wpAny_pure ⟨Code.quiet_builtin _ (by decide +kernel), codeAny_builtin F.entry_list_iadd ?_⟩))
  change wpAny _ _ (Builtin.List.listExtendWith (.ref s.heap.objs.size) (.ref l) (.ref s.heap.objs.size)) _ _ { s with heap := s.heap.push (seqObj "list" #[] 0) }
  unfold Builtin.List.listExtendWith
  refine wpAny_bind (wpAny_typeOf (T := "tuple") ⟨o, ho', hcl⟩ ?_)
  rw [if_pos (by rw [show (Value.type "tuple" == Value.type "tuple") = true from rfl]; simp)]
  refine wpAny_bind (listItems_at ho' hd ?_)
  refine wpAny_bind (listItems_at (xs := #[]) (n := 0) hnew rfl ?_)
  rw [if_neg (by simp)]
  refine wpAny_bind (listUpdate_at (xs := #[]) (n := 0) hnew rfl ?_ (Nat.zero_le _) (by change (#[] ++ vs.toArray).size ≤ sizeLine + 1; simp only [Array.size_append, List.size_toArray, List.length_nil]; omega))
  refine wpAny_pure ?_
  change wpAny (model prog w) A (do
      let o ← load s.heap.objs.size
      match o.data with
      | .seq xs _ => pure xs.toList
      | _ => unsupported "internal:collect") Q E { s with heap := (s.heap.push (seqObj "list" #[] 0)).update s.heap.objs.size (Obj.mapSeq (· ++ vs.toArray)) }
  refine wpAny_bind (wpAny_load (get?_update_seq hnew _) ?_)
  change wpAny _ _ (pure ((#[] : Array Value) ++ vs.toArray).toList) Q E _
  have e : ((#[] : Array Value) ++ vs.toArray).toList = vs := by simp
  rw [e]
  exact wpAny_pure h
theorem sorted_tup {prog : Program} {w : World} {A : Around} {E : Value → Shared → Prop} {s : Shared} {l : Addr} {vs : List Value} {ns : List Int} {Q : Value → Shared → Prop} (ht : IsTup s.heap l vs.toArray) (hI : IntsAre vs ns) (h64 : vs.length < 64)
    (h : ∀ (out : Array Value) (ns' : List Int), IntsAre out.toList ns' → ns'.Perm ns → ns'.Pairwise (· ≤ ·) → Q (.ref (s.heap.objs.size + 1)) { s with heap := sortedAll s.heap vs out }) :
    wpAny (model prog w) A (call (.builtin "sorted") [.ref l]) Q E s := by
  have e1 : ((s.heap.push (seqObj "list" #[] 0)).update s.heap.objs.size (Obj.mapSeq (· ++ vs.toArray))).objs.size = s.heap.objs.size + 1 := by rw [Heap.size_update, size_push']
  have e2 : (((s.heap.push (seqObj "list" #[] 0)).update s.heap.objs.size (Obj.mapSeq (· ++ vs.toArray))).push (seqObj "list" vs.toArray 0)).get? (s.heap.objs.size + 1) = some (seqObj "list" vs.toArray 0) := by
    rw [← e1]; exact Heap.get?_push_size _ rfl
  refine Calls.call_function_entry kind_sorted plain_sorted entry_sorted (args_sorted1 _) ?_
  unfold Builtin.«sorted»
  refine wpAny_bind (m := checkCount "sorted" 1 1 _) (wpAny_pure ?_)
  have hn : vs.length ≤ sizeLine := Nat.le_of_lt (small1000 (by omega))
  refine wpAny_bind (collect_tup ht hn (wpAny_bind (wpAny_newList ?_)))
  change wpAny _ _ _ _ _ { s with heap := ((s.heap.push (seqObj "list" #[] 0)).update s.heap.objs.size (Obj.mapSeq (· ++ vs.toArray))).push (seqObj "list" vs.toArray 0) }
  rw [e1]
  refine wpAny_bind (wpAny_holding (wpAny_call_entry slot_list_sort ⟨_, e2, rfl⟩ entry_list_sort (list_sort_tree e2 hI h64 fun out ns' a1 a2 a3 => ⟨_, rfl, ?_⟩) (args_list_sort _)))
  exact wpAny_pure ⟨_, rfl, h out ns' a1 a2 a3⟩
/-- sorted(..) of whole numbers -/
theorem call_sorted : CallR X (.builtin "sorted") (fun xs H Q => ∃ (p : Addr) (ns : List Int), xs = [.ref p] ∧ (SqL X.K H p (ns.map V.int) ∨ SqT X.K H p (ns.map V.int)) ∧ ns.length < 64 ∧ ∀ (l : Addr) (ns' : List Int), H l = none → ns'.Perm ns → ns'.Pairwise (· ≤ ·) → Q (.ref l) (upd H l (.lst (ns'.map V.int)))) := by
  intro pins s σ H xs us Q I r h
  obtain ⟨p, ns, rfl, hq, h64, q⟩ := h
  obtain ⟨u, rfl, rx⟩ := vals1 r
  cases (show u = Value.ref p from rx)
  have fin : ∀ (its : List Value), Vals (ns.map V.int) its → ∀ (out : Array Value) (ns' : List Int), IntsAre out.toList ns' → ns'.Perm ns → ns'.Pairwise (· ≤ ·) → EP X pins σ Q (.ref (s.heap.objs.size + 1)) { s with heap := sortedAll s.heap its out } := fun its rv out ns' a1 a2 a3 => by
    obtain ⟨e, he⟩ := sortedAll_at s.heap its out
    refine ⟨.ref (s.heap.objs.size + 1), _, I.laid (t' := s.toks) (fun b o ho => sortedAll_old ho) (Nat.le_succ _) (show ObjOk X.prog X.w _ _ _ (.lst (ns'.map V.int)) from ⟨?_, out.toList, e, vals_ints a1, by rw [he]⟩), rfl, q _ ns' (I.hok.fresh (Nat.le_succ _)) a2 a3⟩
    rw [List.length_map, a2.length_eq]
    exact Nat.le_of_lt (small1000 (by omega))
  rcases hq with hq | hq
  · obtain ⟨its, rv, pl, hz⟩ := I.list hq
    have hl := rv.length
    rw [List.length_map] at hl
    exact sorted_ints pl.isList (ints_are rv) (by omega) (fin its rv)
  · obtain ⟨its, rv, pl, hz⟩ := I.tuple hq
    have hl := rv.length
    rw [List.length_map] at hl
    exact sorted_tup pl (ints_are rv) (by omega) (fin its rv)
/-- range(n) as a value -/
theorem call_range : CallR X (.type "range") (fun xs H Q => ∃ n : Int, xs = [.int n] ∧ ∀ l, H l = none → Q (.ref l) (upd H l (.rng 0 n))) := by
  intro pins s σ H xs us Q I r h
  obtain ⟨n, rfl, q⟩ := h
  obtain ⟨u, rfl, t, rfl⟩ := vals1 r
  exact call_range_1 ⟨.ref s.heap.objs.size, _, I.laid (fun b o ho => Heap.get?_push_of_some _ ho) (Nat.le_refl _) (show ObjOk X.prog X.w _ _ _ (.rng 0 n) from ⟨_, _, _, Heap.get?_push_size _ rfl⟩), rfl, q _ I.fresh⟩
/-- list(range(n)) -/
theorem call_list_rng (hc : X.calm = true) : CallR X (.type "list") (fun xs H Q => ∃ p n, xs = [.ref p] ∧ H p = some (.rng 0 (n : Nat)) ∧ n ≤ 1000 ∧ ∀ l, H l = none → Q (.ref l) (upd H l (.lst ((List.range n).map fun (i : Nat) => V.int (i : Int))))) := by
  intro pins s σ H xs us Q I r h
  obtain ⟨p, n, rfl, hq, hn, q⟩ := h
  obtain ⟨u, rfl, rx⟩ := vals1 r
  cases (show u = Value.ref p from rx)
  obtain ⟨t, t2, t3, hr⟩ := I.hok p _ hq
  have hs : Builtin.Range.rangeSize 0 (n : Int) 1 = (n : Int) := by rw [rangeSize_one]; split <;> omega
  have hsm : Builtin.Range.small 0 (n : Int) 1 = true := small_one (by decide) (by decide) (by omega) (by omega)
  refine call_list_range (I.ok.hd hc) hr hsm hs (by omega) fun h' tk acc' c' hk hS hacc => ?_
  refine ⟨.ref s.heap.objs.size, _, I.laid hk (Nat.le_refl _) (show ObjOk X.prog X.w _ _ _ (.lst _) from ⟨?_, acc'.toList, c', ?_, ?_⟩), rfl, q _ I.fresh⟩
  · rw [List.length_map, List.length_range]; exact Nat.le_of_lt (small1000 hn)
  · refine vals_of (by rw [List.length_map, List.length_range, Array.length_toList, hacc.1]) fun i v u h1 h2 => ?_
    rw [List.getElem?_map] at h1
    have hi : i < n := by
      by_cases z : i < n
      · exact z
      · rw [List.getElem?_eq_none (by simpa using z)] at h1; cases h1
    rw [List.getElem?_range hi] at h1
    cases h1
    obtain ⟨t', e⟩ := hacc.2 i u (by rw [← h2]; simp)
    rw [e]
    exact ⟨t', by simp⟩
  · simpa using hS
end
end L2

namespace L2
open PySem PySem.Spec PyProof.Rows
/-! ### the shape of data: whatever okD takes -/
mutual
theorem okD_lay : ∀ (n : Nat) (d : PyData), okD n d = true → d.canLay0 = true ∧ d.depth ≤ n
  | _, .none, _ => by simp [PyData.canLay0, PyData.depth]
  | _, .bool _, _ => by simp [PyData.canLay0, PyData.depth]
  | _, .int _, _ => by simp [PyData.canLay0, PyData.depth]
  | n, .str x, h => by
    have h' : SeqAt.shaped (.str x) = true := by cases n <;> simpa [okD] using h
    exact ⟨SeqAt.canLay_of_shaped h', by simp [PyData.depth]⟩
  | n + 1, .tuple ds, h => by
    have := okD_lays n ds (by simpa [okD] using h)
    simp [PyData.canLay0, PyData.depth, this]
  | n + 1, .list ds, h => by
    have := okD_lays n ds (by simpa [okD] using h)
    simp [PyData.canLay0, PyData.depth, this]
  | 0, .tuple _, h => by simp [okD] at h
  | 0, .list _, h => by simp [okD] at h
  | 0, .dict _, h => by simp [okD] at h
  | _ + 1, .dict _, h => by simp [okD] at h
theorem okD_lays : ∀ (n : Nat) (ds : List PyData), (∀ d ∈ ds, okD n d = true) → PyData.canLayAll0 ds = true ∧ PyData.depthAll ds ≤ n
  | n, [], _ => by simp [PyData.canLayAll0, PyData.depthAll]
  | n, d :: ds, h => by
    have h1 := okD_lay n d (h d List.mem_cons_self)
    have h2 := okD_lays n ds fun x hx => h x (List.mem_cons_of_mem _ hx)
    simp only [PyData.canLayAll0, PyData.depthAll, h1.1, h2.1, Bool.and_self, true_and]
    omega
end
theorem shaped_ok {n : Nat} {d : PyData} (h : okD n d = true) (hn : n ≤ 64) : SeqAt.shaped d = true := by
  have := okD_lay n d h
  unfold SeqAt.shaped
  rw [this.1]
  simp
  omega
theorem tyOf.mono {K : PySem.W.Frag} {H H' : Hp} {x : V} {t : String} (e : Same H H') (h : tyOf K H x t) : tyOf K H' x t := by
  cases x with
  | ref a =>
    rcases h with ⟨h1, xs, hq⟩ | ⟨h1, xs, hq⟩
    · exact .inl ⟨h1, xs, e.seq hq⟩
    · exact .inr ⟨h1, xs, e.tup hq⟩
  | non => exact h
  | bl _ => exact h
  | int _ => exact h
  | str _ => exact h
  | byt _ => exact h
  | flt _ => exact h
  | ty _ => exact h
end L2

namespace L2
open PySem PySem.Spec PyProof.Rows
/-! ### the rules by the part K itself (within a comprehension's block) -/
section
variable {X : Cx} {K : PySem.W.Frag}
theorem ix_listK (h : X.K = K) : IxR X (rIxL K) := by subst h; exact ix_list
theorem ix_tupK (h : X.K = K) : IxR X (rIxT K) := by subst h; exact ix_tup
theorem call_len_seqK (h : X.K = K) : CallR X (.builtin "len") (fun xs H Q => ∃ p ys, xs = [.ref p] ∧ (SqL K H p ys ∨ SqT K H p ys) ∧ Q (.int ys.length) H) := by subst h; exact call_len_seq
theorem op_eqDK {k : Nat} (h : X.K = K) (hr : Room k X.A) : OpR X (compareOp .Eq) (rEqD K) := by subst h; exact op_eqD hr
theorem op_neDK {k : Nat} (h : X.K = K) (hr : Room k X.A) : OpR X (compareOp .NotEq) (rNeD K) := by subst h; exact op_neD hr
theorem op_notIn_seqK (h : X.K = K) : OpR X (compareOp .NotIn) (rIn K true) := by subst h; exact op_notIn_seq
theorem pe_gtupK {x : Str} {xs : List V} {pos : Pos} (e : X.K = K) (h : GTup K X.mg x xs) (hg : Gl X x := by rfl) (hd : (x == ("__debug__" : Str)) = false := by decide) : PE X (.Name x pos) (tGTup K xs) := by subst e; exact pe_gtup h hg hd
/-- a written row of whole numbers -/
def tInts (is : List Int) : TA := fun _ H Q => Q (is.map V.int) H
def intsOf : List Expr → Option (List Int)
  | [] => some []
  | .Constant (.int i) _ _ :: r => (intsOf r).map (i :: ·)
  | _ => none
/-! the same, shut: behind a rule whose end opens to the model's run the elaborator would run it -/
structure PSo (X : Cx) (st : Stmt) (t : TS) : Prop where
  h : PS X st t
structure PSso (X : Cx) (ss : List Stmt) (t : TS) : Prop where
  h : PSs X ss t
end
end L2

namespace LM
/-! ### rows of wishes -/
def rng (n : Nat) : List Int := (List.range n).map Int.ofNat
theorem rng_len (n : Nat) : (rng n).length = n := by simp [rng]
theorem mem_rng {n : Nat} {x : Int} : x ∈ rng n ↔ 0 ≤ x ∧ x < n := by
  unfold rng
  simp only [List.mem_map, List.mem_range]
  constructor
  · rintro ⟨a, h, rfl⟩; simp; omega
  · rintro ⟨h0, h1⟩; exact ⟨x.toNat, by omega, by simp; omega⟩
theorem rng_sorted (n : Nat) : (rng n).Pairwise (· ≤ ·) := by
  unfold rng
  rw [List.pairwise_map]
  refine List.Pairwise.imp ?_ (List.pairwise_lt_range (n := n))
  intro a b h
  simp
  omega
theorem rng_nodup (n : Nat) : (rng n).Nodup := by
  unfold rng
  rw [List.nodup_iff_pairwise_ne, List.pairwise_map]
  refine List.Pairwise.imp ?_ (List.pairwise_lt_range (n := n))
  intro a b h z
  have : a = b := Int.ofNat.inj z
  omega
theorem sorted_same {a b r : List Int} (ha : a.Perm r) (hs : a.Pairwise (· ≤ ·)) (hr : r.Pairwise (· ≤ ·)) : a = r :=
  List.Perm.eq_of_pairwise (fun x y _ _ h1 h2 => Int.le_antisymm h1 h2) hs hr ha
structure OkW (M : List (List Int)) : Prop where
  lo : 1 ≤ M.length
  hi : M.length ≤ 6
  rows : ∀ r ∈ M, r.Perm (rng M.length)
end LM
namespace LM
end LM

namespace L2
open PySem PySem.Spec PyProof.Rows
/-! ### promises of the rows of wishes -/
/-- a row as a list or as a tuple -/
def Rw (K : PySem.W.Frag) (H : Hp) (v : V) (ns : List Int) : Prop := ∃ a, v = .ref a ∧ (SqL K H a (ns.map V.int) ∨ SqT K H a (ns.map V.int))
def RwT (K : PySem.W.Frag) (H : Hp) (v : V) (ns : List Int) : Prop := ∃ a, v = .ref a ∧ SqT K H a (ns.map V.int)
theorem Rw.mono {K : PySem.W.Frag} {H H' : Hp} {v : V} {ns : List Int} (e : Same H H') (h : Rw K H v ns) : Rw K H' v ns := by
  obtain ⟨a, rfl, q | q⟩ := h
  · exact ⟨a, rfl, .inl (e.seq q)⟩
  · exact ⟨a, rfl, .inr (e.tup q)⟩
theorem RwT.mono {K : PySem.W.Frag} {H H' : Hp} {v : V} {ns : List Int} (e : Same H H') (h : RwT K H v ns) : RwT K H' v ns := by
  obtain ⟨a, rfl, q⟩ := h
  exact ⟨a, rfl, e.tup q⟩
theorem RwT.over {K : PySem.W.Frag} {H : Hp} {v : V} {p : Addr} {ys zs : List V} {ns : List Int} (h : RwT K H v ns) (hp : H p = some (.lst ys)) : RwT K (upd H p (.lst zs)) v ns := by
  obtain ⟨a, rfl, h⟩ := h
  exact ⟨a, rfl, tup_over h hp⟩
theorem Rw.ty {K : PySem.W.Frag} {H : Hp} {v : V} {ns : List Int} (h : Rw K H v ns) : ∃ t, tyOf K H v t ∧ (isTy t "list" || isTy t "tuple") = true := by
  obtain ⟨a, rfl, q | q⟩ := h
  · exact ⟨"list", .inl ⟨rfl, _, q⟩, rfl⟩
  · exact ⟨"tuple", .inr ⟨rfl, _, q⟩, rfl⟩
def dR (ns : List Int) : PyData := .tuple (ns.map PyData.int)
def dW (M : List (List Int)) : PyData := .list (M.map dR)
theorem RwT.rep {K : PySem.W.Frag} {H : Hp} {v : V} {ns : List Int} (h : RwT K H v ns) (hl : ns.length ≤ 1000) : Rep K H v (dR ns) := by
  obtain ⟨a, rfl, q⟩ := h
  exact .tup q (Reps.ints ns) (by rw [List.length_map]; exact hl)
def spListing (K : PySem.W.Frag) : Sp := fun vs H Q _ => ∃ v t, vs = [v] ∧ tyOf K H v t ∧ ∀ H', Same H H' → Q (.bl (isTy t "list" || isTy t "tuple")) H'
def spPeople (K : PySem.W.Frag) : Sp := fun vs H Q _ => ∃ a us, vs = [.ref a] ∧ (SqL K H a us ∨ SqT K H a us) ∧ ∀ H', Same H H' → Q (.bl (decide (1 ≤ us.length ∧ us.length ≤ 6))) H'
def spIsWish (K : PySem.W.Frag) : Sp := fun vs H Q _ => ∃ v ns n, vs = [v, .int (n : Nat)] ∧ Rw K H v ns ∧ ns.length ≤ 60 ∧ n ≤ 60 ∧ ∀ b H', Same H H' → (b = true ↔ ns.Perm (LM.rng n)) → Q (.bl b) H'
def spWishesOf (K : PySem.W.Frag) (x : Xs) : Sp := fun vs H Q E => ∃ a us M, vs = [.ref a] ∧ SqL K H a us ∧ Paired (Rw K H) us M ∧ M.length ≤ 60 ∧ (∀ r ∈ M, r.length ≤ 60) ∧ (¬ LM.OkW M → ∀ H', Same H H' → E (.ref x.NoWishes) none H') ∧
  (LM.OkW M → ∀ p gs H', Same H H' → H p = none → H' p = some (.lst gs) → Paired (RwT K H') gs M → Q (.ref p) H')
def spTold02 (K : PySem.W.Frag) : Sp := fun vs H Q _ => ∃ a us M, vs = [.ref a] ∧ SqL K H a us ∧ Paired (Rw K H) us M ∧ M.length ≤ 60 ∧ (∀ r ∈ M, r.length ≤ 60) ∧ (¬ LM.OkW M → ∀ p H', Same H H' → H' p = some (.tup [.str "NoWishes"]) → Q (.ref p) H') ∧
  (LM.OkW M → ∀ p gs H', Same H H' → H p = none → H' p = some (.lst gs) → Paired (RwT K H') gs M → Q (.ref p) H')
/-- the k-th row, as the bits say -/
def bitOf (bits : Int) (k : Nat) : Bool := decide (Builtin.bitAnd (bits / 2 ^ k) 1 = 1)
def dK (bits : Int) (k : Nat) (ns : List Int) : PyData := if bitOf bits k = true then .tuple (ns.map PyData.int) else .list (ns.map PyData.int)
def dKs (bits : Int) : Nat → List (List Int) → List PyData
  | _, [] => []
  | k, r :: M => dK bits k r :: dKs bits (k + 1) M
theorem SqL.over {K : PySem.W.Frag} {H : Hp} {a p : Addr} {o : HO} {xs : List V} (h : SqL K H a xs) (hne : a ≠ p) : SqL K (upd H p o) a xs := by
  rcases h with (h | ⟨u, h⟩) | h
  · exact .inl (.inl (by rw [upd_ne hne]; exact h))
  · exact .inl (.inr ⟨u, by rw [upd_ne hne]; exact h⟩)
  · exact .inr h
theorem SqT.over {K : PySem.W.Frag} {H : Hp} {a p : Addr} {o : HO} {xs : List V} (h : SqT K H a xs) (hne : a ≠ p) : SqT K (upd H p o) a xs := by
  rcases h with (h | ⟨u, h⟩) | h
  · exact .inl (.inl (by rw [upd_ne hne]; exact h))
  · exact .inl (.inr ⟨u, by rw [upd_ne hne]; exact h⟩)
  · exact .inr h
def spByKinds (K : PySem.W.Frag) : Sp := fun vs H Q _ => ∃ (L : Addr) (rs : List Addr) (M : List (List Int)) (bits : Int), vs = [.ref L, .int bits] ∧ H L = some (.lst (rs.map V.ref)) ∧ Paired (fun r (m : List Int) => H r = some (.lst (m.map V.int))) rs M ∧ M.length ≤ 60 ∧ (∀ r ∈ M, r.length ≤ 60) ∧
  ∀ p us H', Same H H' → H p = none → H' p = some (.lst us) → Reps K H' us (dKs bits 0 M) → (∀ u ∈ us, ∃ b, u = .ref b ∧ H b = none ∧ b ≠ p ∧ ((∃ ys, H' b = some (.lst ys)) ∨ ∃ ys, H' b = some (.tup ys))) → Q (.ref p) H'
theorem map_erase : ∀ (m : List Int) (j : Nat), (m.eraseIdx j).map V.int = (m.map V.int).eraseIdx j
  | [], _ => rfl
  | _ :: _, 0 => rfl
  | x :: m, j + 1 => by simp [map_erase m j]
def spSpoilt02 (K : PySem.W.Frag) : Sp := fun vs H Q _ => ∃ (a : Addr) (ns : List Int) (H0 : Hp) (L : Addr) (rs : List Addr) (M : List (List Int)), vs = [.ref a, .ref L] ∧ SqL K H0 a (ns.map V.int) ∧ Same H0 H ∧ RowsAt H0 H L rs M ∧ LM.OkW M ∧
  ∀ L' rs' M' H', Same H0 H' → H' L' = some (.lst (rs'.map V.ref)) → Paired (fun r (m : List Int) => H' r = some (.lst (m.map V.int))) rs' M' → ¬ LM.OkW M' → M'.length ≤ 7 → (∀ r ∈ M', r.length ≤ 7) → Q (.ref L') H'
end L2

namespace L2
open PySem PySem.Spec PyProof.Rows
/-! ### sum, min, max of a list of whole numbers -/
section
variable {X : Cx}
end
end L2

namespace FQ
end FQ
namespace LM
/-! ### tables, over one bottom -/
structure OkT (Z : List (List Int)) (T : Int) : Prop where
  lo : 1 ≤ Z.length
  hi : Z.length ≤ 6
  len : ∀ r ∈ Z, r.length = Z.length
  bd : ∀ r ∈ Z, ∀ x ∈ r, 0 ≤ x ∧ x ≤ T
  rs : ∀ r ∈ Z, r.sum = T
  cs : ∀ j, j < Z.length → (Z.map fun r => r.getD j 0).sum = T
def Bd (b : Nat) (m : List Int) : Prop := ∀ x ∈ m, x.natAbs < 2 ^ b
theorem Bd.up {b c : Nat} {m : List Int} (h : Bd b m) (hbc : b ≤ c) : Bd c m := fun x hx => Nat.lt_of_lt_of_le (h x hx) (Nat.pow_le_pow_right (by decide) hbc)
theorem Bd.sum {b : Nat} : ∀ {m : List Int}, Bd b m → m.length ≤ 60 → m.sum.natAbs < 2 ^ (b + 6) := by
  intro m h hl
  have key : ∀ l : List Int, Bd b l → l.sum.natAbs ≤ l.length * 2 ^ b := by
    intro l hb
    induction l with
    | nil => simp
    | cons x l ih =>
      have h1 := hb x List.mem_cons_self
      have h2 := ih fun y hy => hb y (List.mem_cons_of_mem _ hy)
      have h3 := Int.natAbs_add_le x l.sum
      rw [List.sum_cons, List.length_cons, Nat.add_mul]
      omega
  have h1 := key m h
  have h2 : m.length * 2 ^ b ≤ 60 * 2 ^ b := Nat.mul_le_mul_right _ hl
  have h3 : 2 ^ (b + 6) = 64 * 2 ^ b := by rw [Nat.pow_add, Nat.mul_comm]
  have h4 : 0 < 2 ^ b := Nat.pow_pos (by decide)
  omega
theorem Bd.take {b : Nat} {m : List Int} (h : Bd b m) (n : Nat) : Bd b (m.take n) := fun x hx => h x (List.mem_of_mem_take hx)
theorem Bd.set {b : Nat} {m : List Int} {i : Nat} {v : Int} (h : Bd b m) (hv : v.natAbs < 2 ^ b) : Bd b (m.set i v) := fun x hx => by
  rcases List.mem_or_eq_of_mem_set hx with z | z
  · exact h x z
  · rw [z]; exact hv
theorem Bd.getD {b : Nat} {m : List Int} (h : Bd b m) (i : Nat) : (m.getD i 0).natAbs < 2 ^ b := by
  by_cases hi : i < m.length
  · have : m.getD i 0 = m[i] := by simp [hi]
    rw [this]; exact h _ (List.getElem_mem hi)
  · rw [List.getD_eq_getElem?_getD, List.getElem?_eq_none (by omega)]; exact Nat.pow_pos (by decide)
/-- a square of numbers of some size -/
structure Sq (n b : Nat) (M : List (List Int)) : Prop where
  rows : M.length = n
  cols : ∀ r ∈ M, r.length = n
  bd : ∀ r ∈ M, Bd b r
theorem Sq.set {n b c : Nat} {M : List (List Int)} {i j : Nat} {m : List Int} {v : Int} (h : Sq n b M) (hm : m ∈ M) (hbc : b ≤ c) (hv : v.natAbs < 2 ^ c) : Sq n c (M.set i (m.set j v)) := by
  refine ⟨by simp [h.rows], fun r hr => ?_, fun r hr => ?_⟩
  · rcases List.mem_or_eq_of_mem_set hr with z | z
    · exact h.cols r z
    · rw [z, List.length_set]; exact h.cols m hm
  · rcases List.mem_or_eq_of_mem_set hr with z | z
    · exact (h.bd r z).up hbc
    · rw [z]; exact ((h.bd m hm).up hbc).set hv
end LM
namespace L2
open PySem PySem.Spec PyProof.Rows
/-! ### rows of fractions -/
def noL : PyData → Bool
  | .none => true
  | .bool _ => true
  | .int _ => true
  | .str _ => true
  | .tuple ds => noLs ds
  | _ => false
where noLs : List PyData → Bool
  | [] => true
  | d :: ds => noL d && noLs ds
mutual
theorem Rep.overT {K : PySem.W.Frag} {H : Hp} {p : Addr} {ys zs : List V} (hp : H p = some (.lst ys)) {x : V} {d : PyData} (r : Rep K H x d) (hn : noL d = true) : Rep K (upd H p (.lst zs)) x d := by
  cases r with
  | non => exact .non
  | bl b => exact .bl b
  | int i => exact .int i
  | str x => exact .str x
  | lst hq hs hl => simp [noL] at hn
  | tup hq hs hl => exact .tup (tup_over hq hp) (Reps.overT hp hs (by simpa [noL] using hn)) hl
theorem Reps.overT {K : PySem.W.Frag} {H : Hp} {p : Addr} {ys zs : List V} (hp : H p = some (.lst ys)) {xs : List V} {ds : List PyData} (r : Reps K H xs ds) (hn : noL.noLs ds = true) : Reps K (upd H p (.lst zs)) xs ds := by
  cases r with
  | nil => exact .nil
  | cons r rs =>
    simp only [noL.noLs, Bool.and_eq_true] at hn
    exact .cons (Rep.overT hp r hn.1) (Reps.overT hp rs hn.2)
end
def fr (T : Int) (m : List Int) : List (Int × Int) := m.map fun x => FQ.red x T
def dFr (T : Int) (m : List Int) : List PyData := (fr T m).map dF
def RwF (K : PySem.W.Frag) (H : Hp) (T : Int) (v : V) (m : List Int) : Prop := ∃ a gs, v = .ref a ∧ (SqL K H a gs ∨ SqT K H a gs) ∧ Paired (IsF K H) gs (fr T m)
def RwFT (K : PySem.W.Frag) (H : Hp) (T : Int) (v : V) (m : List Int) : Prop := ∃ a gs, v = .ref a ∧ SqT K H a gs ∧ Paired (IsF K H) gs (fr T m)
theorem fracs_mono {K : PySem.W.Frag} {H H' : Hp} {gs : List V} {ps : List (Int × Int)} (e : Same H H') (h : Paired (IsF K H) gs ps) : Paired (IsF K H') gs ps := Paired.mapP h fun _ _ q => q.mono e
theorem RwF.mono {K : PySem.W.Frag} {H H' : Hp} {T : Int} {v : V} {m : List Int} (e : Same H H') (h : RwF K H T v m) : RwF K H' T v m := by
  obtain ⟨a, gs, rfl, q, hg⟩ := h
  exact ⟨a, gs, rfl, q.imp e.seq e.tup, fracs_mono e hg⟩
theorem RwFT.mono {K : PySem.W.Frag} {H H' : Hp} {T : Int} {v : V} {m : List Int} (e : Same H H') (h : RwFT K H T v m) : RwFT K H' T v m := by
  obtain ⟨a, gs, rfl, q, hg⟩ := h
  exact ⟨a, gs, rfl, e.tup q, fracs_mono e hg⟩
theorem RwFT.rep {K : PySem.W.Frag} {H : Hp} {T : Int} {v : V} {m : List Int} (h : RwFT K H T v m) (hl : m.length ≤ 1000) : Rep K H v (.tuple (dFr T m)) := by
  obtain ⟨a, gs, rfl, q, hg⟩ := h
  have := Paired.len hg
  exact .tup q (Reps.of_fracs hg) (by rw [this, fr, List.length_map]; exact hl)
theorem rep_frac {K : PySem.W.Frag} {H : Hp} {v : V} {p : Int × Int} (h : Rep K H v (dF p)) : IsF K H v p := by
  unfold dF at h
  cases h with
  | tup hq hs hl =>
    cases hs with
    | cons h1 hs =>
      cases hs with
      | cons h2 hs =>
        cases hs
        cases h1
        cases h2
        exact ⟨_, rfl, hq⟩
theorem fracs_of {K : PySem.W.Frag} {H : Hp} : ∀ {xs : List V} {ps : List (Int × Int)}, Reps K H xs (ps.map dF) → Paired (IsF K H) xs ps
  | [], [], _ => .nil
  | [], _ :: _, h => by cases h
  | _ :: _, [], h => by cases h
  | _ :: _, _ :: _, h => by
    cases h with
    | cons h hs => exact .cons (rep_frac h) (fracs_of hs)
def spTotal (K : PySem.W.Frag) : Sp := fun vs H Q _ => ∃ a gs m T, vs = [.ref a] ∧ (SqL K H a gs ∨ SqT K H a gs) ∧ Paired (IsF K H) gs (fr T m) ∧ (0 < T ∧ T < 2 ^ 80) ∧ LM.Bd 90 m ∧ m.length ≤ 60 ∧ ∀ v H', Same H H' → IsF K H' v (FQ.red m.sum T) → Q v H'
def spShare (K : PySem.W.Frag) : Sp := fun vs H Q _ => ∃ v y T, vs = [v] ∧ IsF K H v (FQ.red y T) ∧ (0 < T ∧ T < 2 ^ 80) ∧ y.natAbs < 2 ^ 90 ∧ Q (.bl (decide (0 ≤ y ∧ y ≤ T))) H
def spShareRow (K : PySem.W.Frag) : Sp := fun vs H Q _ => ∃ v m T n, vs = [v, .int (n : Nat)] ∧ RwF K H T v m ∧ (0 < T ∧ T < 2 ^ 80) ∧ LM.Bd 90 m ∧ m.length ≤ 60 ∧ ∀ b H', Same H H' → (b = true ↔ m.length = n ∧ ∀ y ∈ m, 0 ≤ y ∧ y ≤ T) → Q (.bl b) H'
def spTableOf (K : PySem.W.Frag) (x : Xs) : Sp := fun vs H Q E => ∃ a us Z T, vs = [.ref a] ∧ SqL K H a us ∧ Paired (RwF K H T) us Z ∧ (0 < T ∧ T < 2 ^ 80) ∧ Z.length ≤ 60 ∧ (∀ r ∈ Z, LM.Bd 90 r ∧ r.length ≤ 60) ∧ (¬ LM.OkT Z T → ∀ H', Same H H' → E (.ref x.NoTable) none H') ∧
  (LM.OkT Z T → ∀ p gs H', Same H H' → H p = none → H' p = some (.lst gs) → Paired (RwFT K H' T) gs Z → Q (.ref p) H')
def spTold03 (K : PySem.W.Frag) : Sp := fun vs H Q _ => ∃ a us Z T, vs = [.ref a] ∧ SqL K H a us ∧ Paired (RwF K H T) us Z ∧ (0 < T ∧ T < 2 ^ 80) ∧ Z.length ≤ 60 ∧ (∀ r ∈ Z, LM.Bd 90 r ∧ r.length ≤ 60) ∧ (¬ LM.OkT Z T → ∀ p H', Same H H' → H' p = some (.tup [.str "NoTable"]) → Q (.ref p) H') ∧
  (LM.OkT Z T → ∀ p gs H', Same H H' → H p = none → H' p = some (.lst gs) → Paired (RwFT K H' T) gs Z → Q (.ref p) H')
def dG (bits : Int) (k : Nat) (ds : List PyData) : PyData := if bitOf bits k = true then .tuple ds else .list ds
def dGs (bits : Int) : Nat → List (List PyData) → List PyData
  | _, [] => []
  | k, r :: M => dG bits k r :: dGs bits (k + 1) M
def spByKindsG (K : PySem.W.Frag) : Sp := fun vs H Q _ => ∃ (L : Addr) (rs : List Addr) (D : List (List PyData)) (bits : Int), vs = [.ref L, .int bits] ∧ H L = some (.lst (rs.map V.ref)) ∧ Paired (fun r (ds : List PyData) => ∃ c, H r = some (.lst c) ∧ Reps K H c ds) rs D ∧ D.length ≤ 60 ∧ (∀ ds ∈ D, ds.length ≤ 60 ∧ noL.noLs ds = true) ∧
  ∀ p us H', Same H H' → H p = none → H' p = some (.lst us) → Reps K H' us (dGs bits 0 D) → Q (.ref p) H'
def spGood03 (K : PySem.W.Frag) : Sp := fun vs H Q _ => ∃ (L : Addr) (rs : List Addr) (Z : List (List Int)) (T : Int), vs = [.ref L, .int T] ∧ H L = some (.lst (rs.map V.ref)) ∧ Paired (fun r (m : List Int) => H r = some (.lst (m.map V.int))) rs Z ∧ Z.length ≤ 60 ∧ ∀ b H', Same H H' → (b = true ↔ LM.OkT Z T) → Q (.bl b) H'
def spChanged (K : PySem.W.Frag) : Sp := fun vs H Q _ => ∃ (H0 : Hp) (L xa : Addr) (rs : List Addr) (M : List (List Int)) (xs : List Int) (n : Nat) (T way unit : Int), vs = [.ref L, .int T, .int way, .ref xa, .int unit] ∧ Same H0 H ∧ RowsAt H0 H L rs M ∧ LM.Sq n 80 M ∧ 1 ≤ n ∧ n ≤ 6 ∧ T.natAbs < 2 ^ 80 ∧
  (0 ≤ way ∧ way ≤ 9) ∧ SqL K H xa (xs.map V.int) ∧ xs.length = 6 ∧ (∀ r ∈ rs, r ≠ xa) ∧ L ≠ xa ∧ unit.natAbs < 2 ^ 80 ∧
  ∀ L' rs' M' H', Same H0 H' → H' L' = some (.lst (rs'.map V.ref)) → Paired (fun r (m : List Int) => H' r = some (.lst (m.map V.int))) rs' M' → M'.length ≤ 7 → (∀ r ∈ M', LM.Bd 90 r ∧ r.length ≤ 7) → Q (.ref L') H'
end L2

namespace L2
open PySem PySem.Spec PyProof.Rows
/-! ### a square that is changed place by place -/
def SqAt (H0 H : Hp) (L : Addr) (rs : List Addr) (n b : Nat) : Prop := Same H0 H ∧ ∃ M, RowsAt H0 H L rs M ∧ LM.Sq n b M
theorem SqAt.lst {H0 H : Hp} {L : Addr} {rs : List Addr} {n b : Nat} (s : SqAt H0 H L rs n b) : H L = some (.lst (rs.map V.ref)) := by
  obtain ⟨_, M, R, _⟩ := s
  exact R.lst
theorem SqAt.row {H0 H : Hp} {L r : Addr} {rs : List Addr} {n b i : Nat} (s : SqAt H0 H L rs n b) (hi : rs[i]? = some r) :
    ∃ m : List Int, H r = some (.lst (m.map V.int)) ∧ m.length = n ∧ LM.Bd b m ∧ ∀ (j : Nat) (v : Int) (c : Nat), b ≤ c → v.natAbs < 2 ^ c → SqAt H0 (upd H r (.lst ((m.map V.int).set j (.int v)))) L rs n c := by
  obtain ⟨S, M, R, Z⟩ := s
  obtain ⟨m, hm, hr⟩ := Paired.get' R.rows hi
  have hmem := List.mem_of_getElem? hm
  refine ⟨m, hr, Z.cols m hmem, Z.bd m hmem, fun j v c hbc hv => ⟨S.over (R.fr r (List.mem_of_getElem? hi)) _, M.set i (m.set j v), ?_, Z.set hmem hbc hv⟩⟩
  have := R.upd (m.set j v) hi
  rw [List.map_set] at this
  exact this
theorem Paired.erase {α β : Type} {F : α → β → Prop} : ∀ {xs : List α} {ys : List β}, Paired F xs ys → ∀ n, Paired F (xs.eraseIdx n) (ys.eraseIdx n)
  | _, _, .nil, _ => .nil
  | _, _, .cons r t, 0 => t
  | _, _, .cons r t, n + 1 => .cons r (Paired.erase t n)
end L2
namespace L2
end L2
namespace L2
open PySem PySem.Spec PyProof.Rows
end L2

namespace LN
open LM
/-! The draws of the later laws: numbers by cells, orders, wishes, tables. -/
def m1 (c p : Int) : Int := (c % 2147483629 * 16807 + 69621 * p + 11) % 2147483629
def m2 (n p : Int) : Int := (n * n + 48271 * p + 7) % 2147483629
def m3 (n : Int) : Int := (n * n + 69621) % 2147483587
def mixed (c p : Int) : Int := m3 (m2 (m1 c p) p)
theorem m1_bd (c p : Int) : 0 ≤ m1 c p ∧ m1 c p < 2147483629 := ⟨Int.emod_nonneg _ (by decide), Int.emod_lt_of_pos _ (by decide)⟩
theorem m2_bd (c p : Int) : 0 ≤ m2 c p ∧ m2 c p < 2147483629 := ⟨Int.emod_nonneg _ (by decide), Int.emod_lt_of_pos _ (by decide)⟩
/-- an order of n: of the numbers left the one at the place is taken -/
def ordGo (n : Nat) (num : Int) : Nat → List Int × List Int × Int
  | 0 => ([], rng n, num)
  | k + 1 =>
    let p := ordGo n num k
    (p.1 ++ [p.2.1.getD (p.2.2 % p.2.1.length).toNat 0], p.2.1.eraseIdx (p.2.2 % p.2.1.length).toNat, p.2.2 / 6)
def order (num : Int) (n : Nat) : List Int := (ordGo n num n).1
theorem erase_perm : ∀ {l : List Int} {i : Nat}, i < l.length → (l.getD i 0 :: l.eraseIdx i).Perm l
  | x :: l, 0, _ => by simp
  | x :: l, i + 1, h => by
    have ih := erase_perm (l := l) (i := i) (by simpa using h)
    rw [List.getD_cons_succ, List.eraseIdx_cons_succ]
    exact (List.Perm.swap x (l.getD i 0) _).trans (List.Perm.cons x ih)
theorem ordGo_ok (n : Nat) (num : Int) : ∀ k, k ≤ n → ((ordGo n num k).1 ++ (ordGo n num k).2.1).Perm (rng n) ∧ (ordGo n num k).1.length = k ∧ (ordGo n num k).2.1.length = n - k
  | 0, _ => by simp [ordGo, rng_len]
  | k + 1, h => by
    obtain ⟨ih, h1, h2⟩ := ordGo_ok n num k (by omega)
    have hl : ((ordGo n num k).2.2 % (ordGo n num k).2.1.length).toNat < (ordGo n num k).2.1.length := by
      have b0 := Int.emod_nonneg (ordGo n num k).2.2 (show ((ordGo n num k).2.1.length : Int) ≠ 0 by omega)
      have b1 := Int.emod_lt_of_pos (ordGo n num k).2.2 (show (0 : Int) < ((ordGo n num k).2.1.length : Int) by omega)
      omega
    refine ⟨?_, ?_, ?_⟩
    · show (((ordGo n num k).1 ++ [_]) ++ _).Perm _
      rw [List.append_assoc]
      exact (List.Perm.append_left _ (erase_perm hl)).trans ih
    · show ((ordGo n num k).1 ++ [_]).length = _
      rw [List.length_append, h1]; rfl
    · show (List.eraseIdx _ _).length = _
      rw [List.length_eraseIdx, if_pos hl, h2]
      omega
def Pm (n : Nat) (l : List Int) : Prop := l.Perm (rng n)
theorem order_pm (num : Int) (n : Nat) : Pm n (order num n) := by
  obtain ⟨h, h1, h2⟩ := ordGo_ok n num n (Nat.le_refl _)
  have e : (ordGo n num n).2.1 = [] := List.eq_nil_of_length_eq_zero (by omega)
  rw [e, List.append_nil] at h
  exact h
theorem Pm.len {n : Nat} {l : List Int} (h : Pm n l) : l.length = n := by rw [List.Perm.length_eq h, rng_len]
theorem Pm.mem {n : Nat} {l : List Int} (h : Pm n l) {x : Int} : x ∈ l ↔ 0 ≤ x ∧ x < n := by rw [List.Perm.mem_iff h]; exact mem_rng
theorem Pm.nodup {n : Nat} {l : List Int} (h : Pm n l) : l.Nodup := (List.Perm.nodup_iff h).mpr (rng_nodup n)
theorem map_rng (row : List Int) : (rng row.length).map (fun t => row.getD t.toNat 0) = row := by
  unfold rng
  rw [List.map_map]
  exact map_getD_range row
theorem Pm.sum {row l : List Int} (h : Pm row.length l) : (l.map fun t => row.getD t.toNat 0).sum = row.sum := by
  rw [sum_perm_eq (List.Perm.map _ h), map_rng]
/-- the wishes by the cells from at on -/
def wishGo (ns : List Int) (at' : Int) (n : Nat) : Nat → List (List Int)
  | 0 => []
  | k + 1 => wishGo ns at' n k ++ [if 0 < k ∧ cellAt ns (at' + k) % 4 = 1 then (wishGo ns at' n k).getD (cellAt ns (at' + k) / 4 % k).toNat [] else order (mixed (cellAt ns (at' + k)) k) n]
theorem wishGo_len (ns : List Int) (at' : Int) (n : Nat) : ∀ k, (wishGo ns at' n k).length = k
  | 0 => rfl
  | k + 1 => by rw [wishGo, List.length_append, wishGo_len]; rfl
theorem wishGo_pm (ns : List Int) (at' : Int) (n : Nat) : ∀ k, ∀ w ∈ wishGo ns at' n k, Pm n w
  | 0, w, h => by cases h
  | k + 1, w, h => by
    rw [wishGo] at h
    rcases List.mem_append.mp h with z | z
    · exact wishGo_pm ns at' n k w z
    · rw [List.mem_singleton.mp z]
      split
      · rename_i c
        have b0 := Int.emod_nonneg (cellAt ns (at' + k) / 4) (show (k : Int) ≠ 0 by omega)
        have b1 := Int.emod_lt_of_pos (cellAt ns (at' + k) / 4) (show (0 : Int) < k by omega)
        have hl : (cellAt ns (at' + k) / 4 % k).toNat < (wishGo ns at' n k).length := by rw [wishGo_len]; omega
        rw [List.getD_eq_getElem?_getD, List.getElem?_eq_getElem hl]
        exact wishGo_pm ns at' n k _ (List.getElem_mem hl)
      · exact order_pm _ _
def wishes (ns : List Int) (at' : Int) (n : Nat) : List (List Int) := wishGo ns at' n n
theorem wishes_len (ns : List Int) (at' : Int) (n : Nat) : (wishes ns at' n).length = n := wishGo_len ns at' n n
theorem wishes_pm {ns : List Int} {at' : Int} {n : Nat} {w : List Int} (h : w ∈ wishes ns at' n) : Pm n w := wishGo_pm ns at' n n w h
/-- tables -/
def deals (f : Int) : Int := if f / 54 % 8 = 1 then 9 + f / 432 % 17 else f / 6 % 9
def sizes : List Int := [2, 7, 60, 1000000000000]
def size (x : Int) : Int := sizes.getD (x % 4).toNat 0
def tabGo (ns : List Int) (at' : Int) (n : Nat) (sz : Int) : Nat → List (List Int) × Int
  | 0 => (List.replicate n (List.replicate n 0), 0)
  | k + 1 =>
    (addDeal (tabGo ns at' n sz k).1 (order (mixed (cellAt ns (at' + 1 + k)) (20 + k)) n) (1 + cellAt ns (at' + 1 + k) / 5 % sz), (tabGo ns at' n sz k).2 + (1 + cellAt ns (at' + 1 + k) / 5 % sz))
/-- the table by the cells: whole numbers over one bottom -/
def table (ns : List Int) (at' : Int) (many : Nat) (n : Nat) : List (List Int) × Int := tabGo ns at' n (size (mixed (cellAt ns at') 40)) (1 + many)
/-! the first place at which something is found -/
end LN

namespace L2
open PySem PySem.Spec PyProof.Rows
/-! ### enumerate of a list -/
section
variable {X : Cx} {pins : List (Addr × Obj)} {σ : St} {H : Hp} {s : Shared} {h' : Heap}
/-- several objects of an iterator have turned -/
theorem Inv.turnedL {t' : Nat} {fp : List Addr} (I : Inv X pins σ H s) (k : ∀ b o, b ∉ fp → s.heap.get? b = some o → h'.get? b = some o) (hf : ∀ b ∈ fp, FpOk X pins H b) : Inv X pins σ H { s with heap := h', toks := t' } := by
  have nit : ∀ b u, H b = some u → b ∉ fp := fun b u e z => by rw [(hf b z).1] at e; cases e
  refine I.step (g' := s.gens) (d' := s.drawn) (ch := fp) (fun b hb => ?_) (fun b o _ _ hc e _ => k b o hc e) (fun b o _ _ hc e _ => ⟨o.slots, k b o hc e⟩) (fun _ _ _ _ n => n)
    (fun b o hc e => ⟨o, k b o hc e⟩) (fun _ _ e => e) (fun _ _ _ e => e) (fun b ps e => ⟨#[], by rw [e]; simp⟩) (fun m hm => ?_) (fun b u e => ?_) I.bare
  · obtain ⟨f0, f1, f2, f3, f4, f5⟩ := hf b hb
    exact ⟨f3, f1, f4, f5⟩
  · obtain ⟨o, es, ep, ho, r⟩ := hm
    exact ⟨o, es, ep, k _ o (fun z => (hf _ z).2.1 rfl) ho, r⟩
  · refine (I.hok b u e).stay (fun c v hc q => k c v ?_ q) (fun _ q => q) fun _ _ q => q
    rcases hc with z | z
    · rw [z]; exact nit b u e
    · exact nit c _ z
theorem get?_push_cases {h : Heap} {o u : Obj} {b : Addr} (e : (h.push o).get? b = some u) (ho : o.isFreed = false) : h.get? b = some u ∨ (b = h.objs.size ∧ u = o) := by
  rcases Nat.lt_trichotomy b h.objs.size with q | q | q
  · left
    cases hb : h.get? b with
    | some u' => rw [Heap.get?_push_of_some _ hb] at e; exact e
    | none =>
      exfalso
      unfold Heap.get? at hb e
      unfold Heap.push at e
      simp only [Array.getElem?_push] at e
      rw [if_neg (by omega)] at e
      rw [hb] at e
      cases e
  · right
    subst q
    rw [Heap.get?_push_size _ ho] at e
    cases e
    exact ⟨rfl, rfl⟩
  · exfalso
    have e2 : (h.push o).objs.size = h.objs.size + 1 := by unfold Heap.push; simp
    have e3 : b < h.objs.size + 1 := by rw [← e2]; exact Heap.lt_size e
    exact Nat.lt_irrefl _ (Nat.lt_of_lt_of_le q (Nat.le_of_lt_succ e3))
/-- the pairs (i, item): a new tuple at each turn -/
def Ite (K : PySem.W.Frag) (a : Addr) : It :=
  ⟨fun i H => ∃ xs x, SqL K H a xs ∧ xs[i]? = some x, fun i H x H' => ∃ y t, (∀ xs, SqL K H a xs → xs[i]? = some y) ∧ x = .ref t ∧ H t = none ∧ H' = upd H t (.tup [.int i, y]), fun i H => ∃ xs, SqL K H a xs ∧ xs.length ≤ i⟩
theorem turn_enum {P : Program} {w : World} {K : PySem.W.Frag} {elts : List Expr} {x1 : Nat} {pos : Pos} (a it e : Addr) (hne : e ≠ it) : Turn P w K (.Tuple elts x1 pos) (Ite K a) [e, it] e (fun i h => (∃ old, IsEnum h e it i old) ∧ h.IsListIter it a i) where
  mem := by simp
  obj := fun i h st b hb => by
    obtain ⟨⟨old, s1⟩, o, s2, c, d⟩ := st
    rcases List.mem_cons.mp hb with z | z
    · subst z
      exact ⟨_, s1, fun v z => by cases z⟩
    · have e := List.mem_singleton.mp z
      subst e
      exact ⟨o, s2, fun v z => by rw [d] at z; cases z⟩
  keep := fun i h h' st k => by
    obtain ⟨⟨old, s1⟩, s2⟩ := st
    exact ⟨⟨old, k e (by simp) _ s1⟩, s2.at fun o q => k it (by simp) o q⟩
  item := by
    intro X hP hw hK hc i pins s σ H E I hf st hg
    subst hP hw hK
    obtain ⟨xs, x, hq, hx⟩ := hg
    obtain ⟨its, rv, p, hz⟩ := I.list hq
    obtain ⟨u, hu, ru⟩ := rv.get hx
    obtain ⟨⟨old, s1⟩, s2⟩ := st
    refine wpAny_pyNext_enum_item s1 s2 p.isList (x := u) (by simpa using hu) hne fun h' so si ht hsz kk => ?_
    have lt : ∀ b o, s.heap.get? b = some o → b ≠ s.heap.objs.size := fun b o q => Nat.ne_of_lt (Heap.lt_size q)
    have le : e ≠ s.heap.objs.size := lt _ _ s1
    have li : it ≠ s.heap.objs.size := by obtain ⟨o, q, _⟩ := s2; exact lt _ _ q
    have hn : H s.heap.objs.size = none := I.hok.fresh (Nat.le_refl _)
    have I0 : Inv X pins σ (upd H s.heap.objs.size (.tup [.int i, x])) { s with heap := s.heap.push { cls := .type "tuple", data := .seq #[.int i s.toks, u] }, toks := s.toks } :=
      I.laid (t' := s.toks) (fun b o q => Heap.get?_push_of_some _ q) (Nat.le_refl _) ⟨by show 2 ≤ sizeLine; decide, [.int i s.toks, u], .cons ⟨_, rfl⟩ (.cons ru .nil), ⟨_, Heap.get?_push_size _ rfl, rfl, _, rfl⟩⟩
    have hf' : ∀ b ∈ [e, it], FpOk X pins (upd H s.heap.objs.size (.tup [.int i, x])) b := fun b hb => by
      have q := hf b hb
      refine ⟨?_, q.2⟩
      have hb' : b ≠ s.heap.objs.size := by
        rcases List.mem_cons.mp hb with z | z
        · rw [z]; exact le
        · rw [List.mem_singleton.mp z]; exact li
      rw [upd_ne hb']
      exact q.1
    have I1 : Inv X pins σ (upd H s.heap.objs.size (.tup [.int i, x])) { s with heap := h', toks := s.toks + 1 } :=
      Inv.turnedL (s := { s with heap := s.heap.push { cls := .type "tuple", data := .seq #[.int i s.toks, u] }, toks := s.toks }) I0 (fp := [e, it]) (t' := s.toks + 1) (fun b o hb q => by
        rcases get?_push_cases q rfl with q | ⟨rfl, rfl⟩
        · exact kk b o (fun z => hb (by simp [z])) (fun z => hb (by simp [z])) q
        · exact ht) hf'
    refine ⟨_, rfl, wpAny_letOwnedTupleGo_enum (s := { s with heap := h', toks := s.toks + 1 }) so fun h2 se sb => ?_⟩
    have I2 : Inv X pins σ (upd H s.heap.objs.size (.tup [.int i, x])) { s with heap := h2, toks := s.toks + 1 } :=
      Inv.turnedL (s := { s with heap := h', toks := s.toks + 1 }) I1 (fp := [e, it]) (t' := s.toks + 1) (fun b o hb q => (sb.2 b (fun z => hb (by simp [z]))).trans q) hf'
    refine ⟨.ref s.heap.objs.size, _, I2, rfl, ⟨x, _, fun ys hy => by rw [I.list_inj hy hq]; exact hx, rfl, hn, rfl⟩, ⟨⟨_, se⟩, si.at fun o q => (sb.2 it (Ne.symm hne)).trans q⟩, fun b hb => (hf' b hb).1⟩
  done := by
    intro X hP hw hK hc i pins s σ H E I hf st hg
    subst hP hw hK
    obtain ⟨xs, hq, hx⟩ := hg
    obtain ⟨its, rv, p, hz⟩ := I.list hq
    obtain ⟨⟨old, s1⟩, s2⟩ := st
    have hl := rv.length
    exact wpAny_pyNext_enum_end (I.ok.hd hc) s1 s2 p.isList (by simp; omega) fun h' eb => ⟨rfl, I.turnedL (fp := [e, it]) (t' := s.toks) (fun b o hb q => eb b o (fun z => hb (by simp [z])) q) hf⟩
  self := fun _ _ _ _ _ st h => by
    obtain ⟨⟨old, s1⟩, s2⟩ := st
    exact wpAny_pyIter_enum s1 h
def iEnum (K : PySem.W.Frag) (ta : TA) : TI := fun σ H R => ta σ H fun vs H1 => ∃ a, vs = [.ref a] ∧ (∃ xs, SqL K H1 a xs) ∧ R (Ite K a) H1
theorem pi_enum {elts : List Expr} {x1 : Nat} {tpos : Pos} {a : Expr} {ta : TA} {p pos : Pos} (hg : Gl X "enumerate") (hm : X.mg "enumerate" = none) (ha : PA X [a] ta) (hs : starEach [a] X.env = [(false, eval a X.env)] := by rfl) :
    PI X (.Tuple elts x1 tpos) (.Call (.Name "enumerate" p) [a] [] pos) (iEnum X.K ta) := by
  intro pins s σ H R I h
  refine Call_ (ld_blt I hg hm PyProof.Rows.boot_enumerate (PyProof.Rows.callWith_type1 (thn (ha pos pins s σ H _ I h) fun us s1 ⟨vs, H1, I1, r1, q1⟩ => ?_) hs rfl))
  obtain ⟨l, e, ⟨xs, hq⟩, q⟩ := q1
  subst e
  cases r1 with
  | cons r rr =>
    cases rr
    cases r
    obtain ⟨its, rv, pl, hz⟩ := I1.list hq
    refine call_enumerate_list pl.isList fun h' se si hsz kk => ?_
    refine wpAny_pyIter_enum (s := { s1 with heap := h' }) se ?_
    have I2 : Inv X pins σ H1 { s1 with heap := h' } := I1.kept (t' := s1.toks) kk
    refine ⟨_, [s1.heap.objs.size + 1, s1.heap.objs.size], _, _, H1, rfl, I2, turn_enum l _ _ (Nat.succ_ne_self _), ⟨⟨_, se⟩, si⟩, fun b hb => ?_, q⟩
    rcases List.mem_cons.mp hb with z | z
    · subst z
      exact I1.fpOk (Nat.le_succ _) (I1.hok.fresh (Nat.le_succ _))
    · rw [List.mem_singleton.mp z]
      exact I1.fpOk (Nat.le_refl _) (I1.hok.fresh (Nat.le_refl _))
end
section
variable {X : Cx} {K : PySem.W.Frag}
theorem pg_tupK {es : List Expr} {k : Nat} {pos : Pos} {t : TGs} (hK : X.K = K) (n : Nat) (hc : X.calm = true) (h : PGs X es t) (hn : (assignEach es X.env).length = n := by rfl) (hst : (assignEach es X.env).findIdx? (·.1) = none := by rfl) :
    PG X (.Tuple es k pos) (gTup K n t) := by subst hK; exact pg_tup hc h hn hst
theorem pe_bmK {T : String} {name : Str} {id : String} {r : V → List V → Hp → VK → Prop} {o e : Expr} {es : List Expr} {apos cpos : Pos} {to : TE} {t : TA} (hK : X.K = K) (pa : PlainAttrs T) (slot : Slot T name id) (hty : typeOf (.builtin id) = pure (.type "method_descriptor")) (hm : MtR X id r) (ho : PE X o to) (ha : PA X (e :: es) t)
    (hbase : attributeBase o name X.env (eval o X.env) = eval o X.env := by rfl)
    (hfew : ((backTo cpos (starEach (e :: es) X.env)).all (fun x => !x.1) && (backToKw cpos (keywordEach [] X.env)).all (fun x => x.1.isSome)
      && decide ((e :: es).length + ([] : List Keyword).length + (if ([] : List Keyword).isEmpty then 0 else 1) < 30)) = true := by rfl)
    (hline : (apos.endLine == cpos.line) = true := by rfl) (hs : starEach (e :: es) X.env = (false, eval e X.env) :: starEach es X.env := by rfl) (hplain : (backTo cpos (starEach es X.env)).any (·.1) = false := by rfl) :
    PE X (.Call (.Attribute o name apos) (e :: es) [] cpos) (tBM K T r to t) := by subst hK; exact pe_bm pa slot hty hm ho ha hbase hfew hline hs hplain
end
theorem comp_enum {K : PySem.W.Frag} {a : Addr} {xs : List V} {caps : List (Option Nat)} {g : TG} {tt : TT} {te : TE} {σ : St} {QQ : List V → Hp → Prop} {H : Hp} (Pv : Nat → List V → Hp → Prop) (h0 : Pv 0 [] H)
    (hl : ∀ i ys H, i ≤ xs.length → Pv i ys H → SqL K H a xs)
    (hs : ∀ i x ys H t, xs[i]? = some x → H t = none → Pv i ys H → g (.ref t) (capS caps σ) (upd H t (.tup [.int i, x])) fun σ2 H2 => tt σ2 H2 fun b H3 => if b = true then te σ2 H3 fun y H4 => ys.length < sizeLine ∧ Pv (i + 1) (ys ++ [y]) H4 else Pv (i + 1) ys H3)
    (hd : ∀ ys H, Pv xs.length ys H → QQ ys H) : tCompK caps g tt te σ QQ (Ite K a) H := by
  refine ⟨fun i m ys H => m = xs.length - i ∧ i ≤ xs.length ∧ Pv i ys H, ⟨xs.length, by simp, Nat.zero_le _, h0⟩, ?_⟩
  rintro i m ys H ⟨rfl, hi, p⟩
  have q := hl i ys H hi p
  by_cases hlt : i < xs.length
  · refine .inr ⟨⟨xs, xs[i], q, by simp [hlt]⟩, Pv (i + 1), fun ys' H' p' => ⟨xs.length - (i + 1), by omega, rfl, hlt, p'⟩, fun x H' y => ?_⟩
    obtain ⟨y, t, h1, rfl, h3, rfl⟩ := y
    exact hs i y ys H t (h1 xs q) h3 p
  · have e : i = xs.length := by omega
    subst e
    exact .inl ⟨⟨xs, q, Nat.le_refl _⟩, hd ys H p⟩
theorem comp_enum1 {K : PySem.W.Frag} {a : Addr} {xs : List V} {caps : List (Option Nat)} {g : TG} {te : TE} {σ : St} {QQ : List V → Hp → Prop} {H : Hp} (Pv : Nat → List V → Hp → Prop) (h0 : Pv 0 [] H)
    (hl : ∀ i ys H, i ≤ xs.length → Pv i ys H → SqL K H a xs)
    (hs : ∀ i x ys H t, xs[i]? = some x → H t = none → Pv i ys H → g (.ref t) (capS caps σ) (upd H t (.tup [.int i, x])) fun σ2 H2 => te σ2 H2 fun y H4 => ys.length < sizeLine ∧ Pv (i + 1) (ys ++ [y]) H4)
    (hd : ∀ ys H, Pv xs.length ys H → QQ ys H) : tCompK caps g tTrue te σ QQ (Ite K a) H :=
  comp_enum Pv h0 hl (fun i x ys H t hx ht p => by simp only [tTrue_ite]; exact hs i x ys H t hx ht p) hd
end L2

namespace L2
open PySem PySem.Spec PyProof.Rows
/-! ### what the later laws draw: promises -/
def IsR (K : PySem.W.Frag) (H : Hp) (v : V) (row : List Int) : Prop := ∃ a, v = .ref a ∧ SqT K H a (row.map V.int)
theorem IsR.mono {K : PySem.W.Frag} {H H' : Hp} {v : V} {row : List Int} (e : Same H H') (h : IsR K H v row) : IsR K H' v row := by
  obtain ⟨a, rfl, q⟩ := h
  exact ⟨a, rfl, e.tup q⟩
theorem IsR.over {K : PySem.W.Frag} {H : Hp} {v : V} {p : Addr} {ys zs : List V} {row : List Int} (h : IsR K H v row) (hp : H p = some (.lst ys)) : IsR K (upd H p (.lst zs)) v row := by
  obtain ⟨a, rfl, h⟩ := h
  exact ⟨a, rfl, tup_over h hp⟩
theorem IsR.rep {K : PySem.W.Frag} {H : Hp} {v : V} {row : List Int} (h : IsR K H v row) (hl : row.length ≤ 1000) : Rep K H v (.tuple (row.map PyData.int)) := by
  obtain ⟨a, rfl, h⟩ := h
  exact .tup h (Reps.ints _) (by rw [List.length_map]; exact hl)
theorem seqIx_ok {i : Int} {n : Nat} (h0 : 0 ≤ i) (h1 : i < n) : seqIndex? i n = some i.toNat := PySem.StrLaws.seqIndex_nonneg h0 h1
def spMixN : Sp := fun vs H Q _ => ∃ c p : Int, vs = [.int c, .int p] ∧ Q (.int (LN.mixed c p)) H
def spOrder : Sp := fun vs H Q _ => ∃ (num : Int) (n : Nat), vs = [.int num, .int n] ∧ n ≤ 63 ∧ ∀ p H', Same H H' → H p = none → H' p = some (.tup ((LN.order num n).map V.int)) → Q (.ref p) H'
def spWishes (K : PySem.W.Frag) : Sp := fun vs H Q _ => ∃ (a : Addr) (ns : List Int) (at' : Int) (n : Nat), vs = [.ref a, .int at', .int n] ∧ SqL K H a (ns.map V.int) ∧ 0 ≤ at' ∧ n ≤ 6 ∧
  ∀ p ws H', Same H H' → H p = none → H' p = some (.lst ws) → Paired (IsR K H') ws (LN.wishes ns at' n) → Q (.ref p) H'
def spDeals : Sp := fun vs H Q _ => ∃ f : Int, vs = [.int f] ∧ Q (.int (LN.deals f)) H
def spTableN (K : PySem.W.Frag) : Sp := fun vs H Q _ => ∃ (a : Addr) (ns : List Int) (at' : Int) (many n : Nat), vs = [.ref a, .int at', .int many, .int n] ∧ SqL K H a (ns.map V.int) ∧ 0 ≤ at' ∧ many ≤ 25 ∧ 1 ≤ n ∧ n ≤ 6 ∧
  ∀ p us H', Same H H' → H p = none → H' p = some (.lst us) → Paired (RwFT K H' (LN.table ns at' many n).2) us (LN.table ns at' many n).1 → Q (.ref p) H'
def sp2P (f : (Int × Int) → (Int × Int) → (Int × Int)) (K : PySem.W.Frag) : Sp := fun vs H Q _ => ∃ a b x y, vs = [.ref a, .ref b] ∧ SqT K H a [.int x.1, .int x.2] ∧ SqT K H b [.int y.1, .int y.2] ∧ Sz 4000 x ∧ Sz 4000 y ∧ 0 < x.2 ∧ 0 < y.2 ∧
  ∀ p H', Same H H' → H' p = some (tupF (f x y)) → Q (.ref p) H'
def spPfxL (K : PySem.W.Frag) : Sp := fun vs H Q _ => ∃ (a b : Addr) (ws : List Int) (ss : List V) (row : List Int) (T : Int), vs = [.ref a, .ref b] ∧ SqT K H a (ws.map V.int) ∧ SqT K H b ss ∧
  Paired (IsF K H) ss (row.map fun x => FQ.red x T) ∧ (0 < T ∧ T < 2 ^ 80) ∧ (∀ x ∈ row, 0 ≤ x ∧ x ≤ T) ∧ (∀ w ∈ ws, 0 ≤ w ∧ w < row.length) ∧ ws.length ≤ 63 ∧
  ∀ p gs H', Same H H' → H p = none → H' p = some (.lst gs) → Paired (IsF K H') gs ((List.range ws.length).map fun i => FQ.red (accs row ws (i + 1)) T) → Q (.ref p) H'
/-! ### who would rather have another one's shares -/
def lessF (x y : Int × Int) : Bool := decide (x.1 * y.2 < y.1 * x.2)
def pfx (T : Int) (row ws : List Int) : List (Int × Int) := (List.range ws.length).map fun i => FQ.red (accs row ws (i + 1)) T
def placeAt (xs ys : List (Int × Int)) (i : Nat) : Option Nat := if lessF (xs.getD i (0, 1)) (ys.getD i (0, 1)) = true then some i else none
def place (xs ys : List (Int × Int)) : Option Nat := (List.range xs.length).findSome? (placeAt xs ys)
def otherAt (T : Int) (Z : List (List Int)) (w : List Int) (own : List (Int × Int)) (j : Nat) : Option (Nat × Nat) := (place own (pfx T (Z.getD j []) w)).map fun k => (j, k)
def ratherAt (T : Int) (Z W : List (List Int)) (i : Nat) : Option (Nat × Nat × Nat) := ((List.range Z.length).findSome? (otherAt T Z (W.getD i []) (pfx T (Z.getD i []) (W.getD i [])))).map fun jk => (i, jk.1, jk.2)
def ratherF (T : Int) (Z W : List (List Int)) : Option (Nat × Nat × Nat) := (List.range W.length).findSome? (ratherAt T Z W)
def optI : Option Nat → V
  | none => .non
  | some k => .int k
mutual
theorem eqv_self : ∀ (n : Nat) (d : PyData), okD n d = true → PyData.eqv d d = true
  | _, .none, _ => by simp [PyData.eqv]
  | _, .bool _, _ => by simp [PyData.eqv]
  | _, .int _, _ => by simp [PyData.eqv]
  | n, .str x, h => by simp [PyData.eqv]
  | n + 1, .tuple ds, h => by
    have := eqvs_self n ds (by simpa [okD] using h)
    simp [PyData.eqv, this]
  | n + 1, .list ds, h => by
    have := eqvs_self n ds (by simpa [okD] using h)
    simp [PyData.eqv, this]
  | 0, .tuple _, h => by simp [okD] at h
  | 0, .list _, h => by simp [okD] at h
  | 0, .dict _, h => by simp [okD] at h
  | _ + 1, .dict _, h => by simp [okD] at h
theorem eqvs_self : ∀ (n : Nat) (ds : List PyData), (∀ d ∈ ds, okD n d = true) → PyData.eqvAll ds ds = true
  | n, [], _ => by simp [PyData.eqvAll]
  | n, d :: ds, h => by
    have h1 := eqv_self n d (h d List.mem_cons_self)
    have h2 := eqvs_self n ds fun x hx => h x (List.mem_cons_of_mem _ hx)
    simp [PyData.eqvAll, h1, h2]
end
theorem okD_ints (n : Nat) (l : List Int) : ∀ d ∈ l.map PyData.int, okD n d = true := fun d hd => by
  obtain ⟨i, _, rfl⟩ := List.mem_map.mp hd
  cases n <;> rfl
def spFirstG (K : PySem.W.Frag) : Sp := fun vs H Q _ => ∃ (a b : Addr) (gs hs : List V) (xs ys : List (Int × Int)), vs = [.ref a, .ref b] ∧ SqT K H a gs ∧ SqT K H b hs ∧ Paired (IsF K H) gs xs ∧ Paired (IsF K H) hs ys ∧ xs.length = ys.length ∧ xs.length ≤ 63 ∧
  (∀ x ∈ xs, Sz 4000 x ∧ 0 < x.2) ∧ (∀ y ∈ ys, Sz 4000 y ∧ 0 < y.2) ∧ Q (optI (place xs ys)) H
structure TabOk (n : Nat) (T : Int) (Z W : List (List Int)) : Prop where
  T0 : 0 < T
  T1 : T < 2 ^ 80
  n6 : n ≤ 6
  wl : W.length = n
  zl : Z.length = n
  pm : ∀ w ∈ W, LN.Pm n w
  cl : ∀ z ∈ Z, z.length = n
  bd : ∀ z ∈ Z, ∀ x ∈ z, 0 ≤ x ∧ x ≤ T
def spRather (K : PySem.W.Frag) : Sp := fun vs H Q _ => ∃ (a b : Addr) (ws us : List V) (W Z : List (List Int)) (T : Int) (n : Nat), vs = [.ref a, .ref b] ∧ SqL K H a ws ∧ SqL K H b us ∧ Paired (IsR K H) ws W ∧ Paired (RwFT K H T) us Z ∧ TabOk n T Z W ∧
  (ratherF T Z W = none → ∀ H', Same H H' → Q .non H') ∧ (∀ i j k : Nat, ratherF T Z W = some (i, j, k) → ∀ p H', Same H H' → H' p = some (.tup [.int i, .int j, .int k]) → Q (.ref p) H')
end L2

namespace EM
open LM
/-! The mathematics of eating, over one bottom: of thing j there is left (ms j) / D. -/
def at0 (ms : List Int) (t : Int) : Int := ms.getD t.toNat 0
def best (ms : List Int) (w : List Int) : Int := (w.filter fun t => decide (at0 ms t ≠ 0)).headD 0
def dishes (W : List (List Int)) (ms : List Int) : List Int := W.map (best ms)
def cnt (ds : List Int) (t : Int) : Int := (ds.count t : Nat)
def pickGo (ds ms : List Int) : Int → List Int → Int
  | s, [] => s
  | s, t :: r => pickGo ds ms (if at0 ms t * cnt ds s < at0 ms s * cnt ds t then t else s) r
def pick (ds ms : List Int) : Int := pickGo ds ms (ds.headD 0) ds
def nextMs (ds ms : List Int) : List Int := (rng ms.length).map fun j => at0 ms j * cnt ds (pick ds ms) - cnt ds j * at0 ms (pick ds ms)
structure Course where
  m : Int
  D : Int
  ds : List Int
  gone : List Int
def goneOf (ds ms' : List Int) : List Int := (rng ms'.length).filter fun t => decide (t ∈ ds) && decide (at0 ms' t = 0)
def course (W : List (List Int)) (D : Int) (ms : List Int) : Course :=
  ⟨at0 ms (pick (dishes W ms) ms), D * cnt (dishes W ms) (pick (dishes W ms) ms), dishes W ms, goneOf (dishes W ms) (nextMs (dishes W ms) ms)⟩
def run (W : List (List Int)) : Nat → Int → List Int → List Course
  | 0, _, _ => []
  | k + 1, D, ms => if ms.sum = 0 then [] else course W D ms :: run W k (course W D ms).D (nextMs (dishes W ms) ms)
def nz (ms : List Int) : Nat := ((rng ms.length).filter fun t => decide (at0 ms t ≠ 0)).length

theorem at0_mem {ms : List Int} {t : Int} (h0 : 0 ≤ t) (h : t < ms.length) : at0 ms t ∈ ms := by
  unfold at0
  have h1 : t.toNat < ms.length := by omega
  rw [List.getD_eq_getElem?_getD, List.getElem?_eq_getElem h1]
  exact List.getElem_mem h1
theorem best_spec {ms w : List Int} (h : ∃ t ∈ w, at0 ms t ≠ 0) : best ms w ∈ w ∧ at0 ms (best ms w) ≠ 0 := by
  obtain ⟨t, ht, hn⟩ := h
  have hm : t ∈ w.filter fun t => decide (at0 ms t ≠ 0) := List.mem_filter.mpr ⟨ht, decide_eq_true hn⟩
  unfold best
  cases hf : w.filter fun t => decide (at0 ms t ≠ 0) with
  | nil => rw [hf] at hm; cases hm
  | cons a r =>
    have ha : a ∈ w.filter fun t => decide (at0 ms t ≠ 0) := by rw [hf]; exact List.mem_cons_self
    have := List.mem_filter.mp ha
    exact ⟨this.1, of_decide_eq_true this.2⟩
theorem le_trans3 {a b e c d f : Int} (hd : 0 < d) (hc : 0 ≤ c) (hf : 0 ≤ f) (h1 : a * d ≤ b * c) (h2 : b * f ≤ e * d) : a * f ≤ e * c := by
  have h3 : a * d * f ≤ b * c * f := Int.mul_le_mul_of_nonneg_right h1 hf
  have h4 : b * f * c ≤ e * d * c := Int.mul_le_mul_of_nonneg_right h2 hc
  refine Int.le_of_mul_le_mul_right (a := d) ?_ hd
  have e1 : a * f * d = a * d * f := by rw [Int.mul_right_comm]
  have e2 : b * c * f = b * f * c := by rw [Int.mul_right_comm]
  have e3 : e * c * d = e * d * c := by rw [Int.mul_right_comm]
  rw [e1, e3]
  rw [e2] at h3
  exact Int.le_trans h3 h4
theorem cnt_pos {ds : List Int} {t : Int} (h : t ∈ ds) : 0 < cnt ds t := by
  have := List.count_pos_iff.mpr h
  unfold cnt; omega
theorem cnt_nn (ds : List Int) (t : Int) : 0 ≤ cnt ds t := by unfold cnt; omega
theorem cnt_zero {ds : List Int} {t : Int} (h : t ∉ ds) : cnt ds t = 0 := by
  unfold cnt; rw [List.count_eq_zero.mpr h]; rfl
theorem cnt_le (ds : List Int) (t : Int) : cnt ds t ≤ ds.length := by
  have := List.count_le_length (a := t) (l := ds)
  unfold cnt; omega
theorem pickGo_spec {ds ms : List Int} : ∀ (r : List Int) (s : Int), s ∈ ds → (∀ t ∈ r, t ∈ ds) →
    pickGo ds ms s r ∈ ds ∧ at0 ms (pickGo ds ms s r) * cnt ds s ≤ at0 ms s * cnt ds (pickGo ds ms s r) ∧ ∀ t ∈ r, at0 ms (pickGo ds ms s r) * cnt ds t ≤ at0 ms t * cnt ds (pickGo ds ms s r)
  | [], s, hs, _ => ⟨hs, Int.le_refl _, fun t ht => by cases ht⟩
  | t :: r, s, hs, hr => by
    have ht := hr t List.mem_cons_self
    have hr' : ∀ u ∈ r, u ∈ ds := fun u hu => hr u (List.mem_cons_of_mem _ hu)
    unfold pickGo
    by_cases c : at0 ms t * cnt ds s < at0 ms s * cnt ds t
    · rw [if_pos c]
      obtain ⟨a, b, d⟩ := pickGo_spec (ms := ms) r t ht hr'
      refine ⟨a, ?_, fun u hu => ?_⟩
      · exact le_trans3 (cnt_pos ht) (cnt_nn _ _) (cnt_nn _ _) b (Int.le_of_lt c)
      · rcases List.mem_cons.mp hu with rfl | hu
        · exact b
        · exact d u hu
    · rw [if_neg c]
      obtain ⟨a, b, d⟩ := pickGo_spec (ms := ms) r s hs hr'
      refine ⟨a, b, fun u hu => ?_⟩
      rcases List.mem_cons.mp hu with rfl | hu
      · exact le_trans3 (cnt_pos hs) (cnt_nn _ _) (cnt_nn _ _) b (Int.not_lt.mp c)
      · exact d u hu
theorem pick_spec {ds ms : List Int} (h : ds ≠ []) : pick ds ms ∈ ds ∧ ∀ t ∈ ds, at0 ms (pick ds ms) * cnt ds t ≤ at0 ms t * cnt ds (pick ds ms) := by
  cases ds with
  | nil => exact absurd rfl h
  | cons a r =>
    have := pickGo_spec (ds := a :: r) (ms := ms) (a :: r) a List.mem_cons_self fun _ h => h
    exact ⟨this.1, this.2.2⟩
theorem rng_at (ms : List Int) : (rng ms.length).map (at0 ms) = ms := by
  conv => rhs; rw [← map_getD_range ms]
  unfold rng
  rw [List.map_map]
  rfl
theorem next_len (ds ms : List Int) : (nextMs ds ms).length = ms.length := by
  unfold nextMs; rw [List.length_map, rng_len]
theorem rng_get {n k : Nat} (h : k < n) : (rng n)[k]? = some (k : Int) := by
  unfold rng
  rw [List.getElem?_map, List.getElem?_range h]; rfl
theorem at0_next {ds ms : List Int} {t : Int} (h0 : 0 ≤ t) (h : t < ms.length) : at0 (nextMs ds ms) t = at0 ms t * cnt ds (pick ds ms) - cnt ds t * at0 ms (pick ds ms) := by
  have h1 : t.toNat < ms.length := by omega
  have e : ((t.toNat : Nat) : Int) = t := by omega
  conv => lhs; unfold at0 nextMs
  rw [List.getD_eq_getElem?_getD, List.getElem?_map, rng_get h1, e]
  rfl
theorem sum_zero : ∀ {ms : List Int}, (∀ m ∈ ms, 0 ≤ m) → ms.sum = 0 → ∀ m ∈ ms, m = 0
  | [], _, _, m, h => by cases h
  | a :: r, hn, hs, m, h => by
    have ha := hn a List.mem_cons_self
    have hr : 0 ≤ r.sum := by
      have : ∀ {r : List Int}, (∀ m ∈ r, 0 ≤ m) → 0 ≤ r.sum := by
        intro r
        induction r with
        | nil => intro _; exact Int.le_refl 0
        | cons b q ih => intro h; rw [List.sum_cons]; have := h b List.mem_cons_self; have := ih fun m hm => h m (List.mem_cons_of_mem _ hm); omega
      exact this fun m hm => hn m (List.mem_cons_of_mem _ hm)
    rw [List.sum_cons] at hs
    rcases List.mem_cons.mp h with rfl | h
    · omega
    · exact sum_zero (fun m hm => hn m (List.mem_cons_of_mem _ hm)) (by omega) m h
theorem all_zero_sum : ∀ {ms : List Int}, (∀ m ∈ ms, m = 0) → ms.sum = 0
  | [], _ => rfl
  | a :: r, h => by rw [List.sum_cons, h a List.mem_cons_self, all_zero_sum fun m hm => h m (List.mem_cons_of_mem _ hm)]; rfl
theorem some_left {ms : List Int} (h : ms.sum ≠ 0) : ∃ t : Int, 0 ≤ t ∧ t < ms.length ∧ at0 ms t ≠ 0 :=
  Classical.byContradiction fun c => h (all_zero_sum fun m hm => by
    obtain ⟨k, hk, e⟩ := List.mem_iff_getElem.mp hm
    refine Classical.byContradiction fun z => c ⟨(k : Nat), by omega, by omega, ?_⟩
    unfold at0
    rw [List.getD_eq_getElem?_getD, Int.toNat_natCast, List.getElem?_eq_getElem hk, e]
    exact z)
theorem sum_ind {d : Int} : ∀ {l : List Int}, l.Nodup → ((d ∈ l → (l.map fun j => if d = j then (1 : Int) else 0).sum = 1) ∧ (d ∉ l → (l.map fun j => if d = j then (1 : Int) else 0).sum = 0))
  | [], _ => ⟨fun h => (by cases h), fun _ => rfl⟩
  | a :: r, hn => by
    obtain ⟨h1, h2⟩ := List.nodup_cons.mp hn
    obtain ⟨i1, i2⟩ := sum_ind (d := d) h2
    rw [List.map_cons, List.sum_cons]
    by_cases e : d = a
    · subst e
      exact ⟨fun _ => by rw [if_pos rfl, i2 h1]; rfl, fun h => absurd List.mem_cons_self h⟩
    · rw [if_neg e]
      exact ⟨fun h => by rw [i1 ((List.mem_cons.mp h).resolve_left e)]; rfl, fun h => by rw [i2 fun z => h (List.mem_cons_of_mem _ z)]; rfl⟩
theorem sum_map_add {f g : Int → Int} : ∀ l : List Int, (l.map fun j => f j + g j).sum = (l.map f).sum + (l.map g).sum
  | [] => rfl
  | a :: r => by rw [List.map_cons, List.map_cons, List.map_cons, List.sum_cons, List.sum_cons, List.sum_cons, sum_map_add r]; omega
theorem sum_map_lin {f g : Int → Int} {a b : Int} : ∀ l : List Int, (l.map fun j => f j * a - g j * b).sum = (l.map f).sum * a - (l.map g).sum * b
  | [] => by simp
  | x :: r => by
    rw [List.map_cons, List.map_cons, List.map_cons, List.sum_cons, List.sum_cons, List.sum_cons, sum_map_lin r, Int.add_mul, Int.add_mul]
    omega
theorem cnt_cons (d : Int) (ds : List Int) (j : Int) : cnt (d :: ds) j = cnt ds j + if d = j then 1 else 0 := by
  unfold cnt
  rw [List.count_cons]
  by_cases e : d = j
  · rw [if_pos e, if_pos (by simp [e])]; rfl
  · rw [if_neg e, if_neg (by simp [e])]; rfl
theorem sum_cnt {n : Nat} : ∀ {ds : List Int}, (∀ d ∈ ds, 0 ≤ d ∧ d < n) → ((rng n).map (cnt ds)).sum = ds.length
  | [], _ => all_zero_sum fun m hm => by
    obtain ⟨j, _, rfl⟩ := List.mem_map.mp hm
    rfl
  | d :: ds, h => by
    have ih := sum_cnt (n := n) (ds := ds) fun x hx => h x (List.mem_cons_of_mem _ hx)
    have e : (rng n).map (cnt (d :: ds)) = (rng n).map fun j => cnt ds j + if d = j then 1 else 0 := List.map_congr_left fun j _ => cnt_cons d ds j
    rw [e, sum_map_add, ih, (sum_ind (rng_nodup n)).1 (mem_rng.mpr (h d List.mem_cons_self)), List.length_cons]
    omega
theorem filter_lt {p q : Int → Bool} : ∀ {l : List Int}, (∀ x ∈ l, q x = true → p x = true) → (l.filter q).length ≤ (l.filter p).length ∧ ((∃ x ∈ l, p x = true ∧ q x = false) → (l.filter q).length < (l.filter p).length)
  | [], _ => ⟨Nat.le_refl _, fun ⟨x, h, _⟩ => by cases h⟩
  | a :: r, h => by
    obtain ⟨i1, i2⟩ := filter_lt (p := p) (q := q) (l := r) fun x hx => h x (List.mem_cons_of_mem _ hx)
    have ha := h a List.mem_cons_self
    rw [List.filter_cons, List.filter_cons]
    cases hq : q a with
    | true =>
      rw [if_pos rfl, if_pos (ha hq), List.length_cons, List.length_cons]
      refine ⟨by omega, fun ⟨x, hx, hp, hf⟩ => ?_⟩
      rcases List.mem_cons.mp hx with rfl | hx
      · rw [hq] at hf; cases hf
      · have := i2 ⟨x, hx, hp, hf⟩; omega
    | false =>
      rw [if_neg (by decide)]
      cases hp' : p a with
      | true => rw [if_pos rfl, List.length_cons]; exact ⟨by omega, fun _ => by omega⟩
      | false =>
        rw [if_neg (by decide)]
        refine ⟨i1, fun ⟨x, hx, hp, hf⟩ => ?_⟩
        rcases List.mem_cons.mp hx with rfl | hx
        · rw [hp'] at hp; cases hp
        · exact i2 ⟨x, hx, hp, hf⟩
/-- how it stands between two stops: T / D is the time, G the things that are gone -/
structure St (n : Nat) (D : Int) (ms : List Int) (T : Int) (G : List Int) : Prop where
  pos : 0 < D
  len : ms.length = n
  nn : ∀ m ∈ ms, 0 ≤ m
  le : ∀ m ∈ ms, m ≤ D
  sum : ms.sum = n * (D - T)
  T0 : 0 ≤ T
  gone : ∀ t : Int, 0 ≤ t → t < n → (t ∈ G ↔ at0 ms t = 0)
  inG : ∀ t ∈ G, 0 ≤ t ∧ t < n
  nd : G.Nodup
  big : D ≤ 8 ^ (n - nz ms)
theorem nz_le (ms : List Int) : nz ms ≤ ms.length := by
  unfold nz
  exact Nat.le_trans (List.length_filter_le ..) (by rw [rng_len]; exact Nat.le_refl _)
theorem St.start {n : Nat} : St n 1 (List.replicate n 1) 0 [] := by
  have hat : ∀ t : Int, 0 ≤ t → t < n → at0 (List.replicate n (1 : Int)) t = 1 := fun t h0 h => by
    unfold at0
    rw [List.getD_eq_getElem?_getD, List.getElem?_replicate_of_lt (by omega)]
    rfl
  refine ⟨by decide, List.length_replicate, fun m h => ?_, fun m h => ?_, ?_, Int.le_refl 0, fun t h0 h => ⟨fun z => (by cases z), fun z => ?_⟩, fun t h => (by cases h), List.nodup_nil, ?_⟩
  · rw [(List.mem_replicate.mp h).2]; decide
  · rw [(List.mem_replicate.mp h).2]; decide
  · have : ∀ n : Nat, (List.replicate n (1 : Int)).sum = n := by
      intro n
      induction n with
      | zero => rfl
      | succ k ih => rw [List.replicate_succ, List.sum_cons, ih]; omega
    rw [this]; omega
  · rw [hat t h0 h] at z; cases z
  · exact_mod_cast Nat.one_le_pow _ _ (by decide)
section
variable {n : Nat} {W : List (List Int)} {D T : Int} {ms G : List Int}
theorem best_ok (S : St n D ms T G) (hW : ∀ w ∈ W, w.Perm (rng n)) (hs : ms.sum ≠ 0) {w : List Int} (hw : w ∈ W) : (0 ≤ best ms w ∧ best ms w < n) ∧ at0 ms (best ms w) ≠ 0 ∧ best ms w ∈ w := by
  obtain ⟨t, h0, h1, hn⟩ := some_left hs
  rw [S.len] at h1
  obtain ⟨a, b⟩ := best_spec (ms := ms) (w := w) ⟨t, (hW w hw).mem_iff.mpr (mem_rng.mpr ⟨h0, h1⟩), hn⟩
  exact ⟨mem_rng.mp ((hW w hw).mem_iff.mp a), b, a⟩
theorem dish_ok (S : St n D ms T G) (hW : ∀ w ∈ W, w.Perm (rng n)) (hs : ms.sum ≠ 0) {d : Int} (hd : d ∈ dishes W ms) : (0 ≤ d ∧ d < n) ∧ at0 ms d ≠ 0 := by
  obtain ⟨w, hw, rfl⟩ := List.mem_map.mp hd
  have := best_ok S hW hs hw
  exact ⟨this.1, this.2.1⟩
theorem step_ok (S : St n D ms T G) (hl : W.length = n) (hn1 : 1 ≤ n) (hn6 : n ≤ 6) (hW : ∀ w ∈ W, w.Perm (rng n)) (hs : ms.sum ≠ 0) :
    0 < (course W D ms).m ∧ 0 < cnt (dishes W ms) (pick (dishes W ms) ms) ∧ cnt (dishes W ms) (pick (dishes W ms) ms) ≤ 6 ∧ pick (dishes W ms) ms ∈ (course W D ms).gone ∧
    nz (nextMs (dishes W ms) ms) < nz ms ∧
    St n (course W D ms).D (nextMs (dishes W ms) ms) (T * cnt (dishes W ms) (pick (dishes W ms) ms) + (course W D ms).m) (G ++ (course W D ms).gone) := by
  have hdl : (dishes W ms).length = n := by unfold dishes; rw [List.length_map, hl]
  have hne : dishes W ms ≠ [] := fun z => by rw [z] at hdl; simp at hdl; omega
  have hd := fun {d : Int} (h : d ∈ dishes W ms) => dish_ok S hW hs h
  unfold course
  dsimp only
  generalize dishes W ms = ds at *
  obtain ⟨pm, pmin⟩ := pick_spec (ms := ms) hne
  have hpos := cnt_pos pm
  have hle := cnt_le ds (pick ds ms)
  rw [hdl] at hle
  obtain ⟨⟨p0, p1⟩, pn⟩ := hd pm
  have hm0 : 0 < at0 ms (pick ds ms) := by
    have := S.nn _ (at0_mem p0 (by rw [S.len]; exact p1)); omega
  have hat : ∀ t : Int, 0 ≤ t → t < n → at0 (nextMs ds ms) t = at0 ms t * cnt ds (pick ds ms) - cnt ds t * at0 ms (pick ds ms) := fun t h0 h1 => at0_next h0 (by rw [S.len]; exact h1)
  have hln : (nextMs ds ms).length = n := by rw [next_len, S.len]
  have hzero : ∀ t : Int, 0 ≤ t → t < n → at0 ms t = 0 → at0 (nextMs ds ms) t = 0 := fun t h0 h1 z => by
    have : t ∉ ds := fun q => (hd q).2 z
    rw [hat t h0 h1, z, cnt_zero this]; omega
  have hnew : ∀ t : Int, 0 ≤ t → t < n → at0 ms t ≠ 0 → at0 (nextMs ds ms) t = 0 → t ∈ ds := fun t h0 h1 z q => Classical.byContradiction fun c => by
    rw [hat t h0 h1, cnt_zero c, Int.zero_mul, Int.sub_zero] at q
    rcases Int.mul_eq_zero.mp q with q | q
    · exact z q
    · omega
  have hpz : at0 (nextMs ds ms) (pick ds ms) = 0 := by
    rw [hat _ p0 p1, Int.mul_comm]; omega
  have hgm : ∀ t : Int, t ∈ goneOf ds (nextMs ds ms) ↔ (0 ≤ t ∧ t < n) ∧ t ∈ ds ∧ at0 (nextMs ds ms) t = 0 := fun t => by
    unfold goneOf
    rw [List.mem_filter, hln, mem_rng, Bool.and_eq_true, decide_eq_true_iff, decide_eq_true_iff]
  have hnz : nz (nextMs ds ms) < nz ms := by
    unfold nz
    rw [hln, S.len]
    refine (filter_lt fun x hx h => ?_).2 ⟨pick ds ms, mem_rng.mpr ⟨p0, p1⟩, decide_eq_true pn, by rw [hpz]; rfl⟩
    have hx' := mem_rng.mp hx
    exact decide_eq_true fun z => of_decide_eq_true h (hzero x hx'.1 hx'.2 z)
  refine ⟨hm0, hpos, by omega, (hgm _).mpr ⟨⟨p0, p1⟩, pm, hpz⟩, hnz, Int.mul_pos S.pos hpos, hln, ?_, ?_, ?_, ?_, fun t h0 h1 => ?_, fun t h => ?_, ?_, ?_⟩
  · intro m hm
    unfold nextMs at hm
    obtain ⟨j, hj, rfl⟩ := List.mem_map.mp hm
    rw [S.len] at hj
    obtain ⟨j0, j1⟩ := mem_rng.mp hj
    by_cases c : j ∈ ds
    · have := pmin j c
      rw [Int.mul_comm (cnt ds j)]; omega
    · rw [cnt_zero c, Int.zero_mul]
      have := Int.mul_nonneg (S.nn _ (at0_mem j0 (by rw [S.len]; exact j1))) (Int.le_of_lt hpos)
      omega
  · intro m hm
    unfold nextMs at hm
    obtain ⟨j, hj, rfl⟩ := List.mem_map.mp hm
    rw [S.len] at hj
    obtain ⟨j0, j1⟩ := mem_rng.mp hj
    have h1 := Int.mul_le_mul_of_nonneg_right (S.le _ (at0_mem j0 (by rw [S.len]; exact j1))) (Int.le_of_lt hpos)
    have h2 := Int.mul_nonneg (cnt_nn ds j) (Int.le_of_lt hm0)
    omega
  · unfold nextMs
    rw [sum_map_lin, rng_at, S.len, sum_cnt (n := n) (fun d h => (hd h).1), hdl, S.sum]
    rw [Int.mul_assoc, ← Int.mul_sub, Int.sub_mul, Int.sub_sub]
  · have := Int.mul_nonneg S.T0 (Int.le_of_lt hpos); omega
  · rw [List.mem_append, S.gone t h0 h1, hgm]
    constructor
    · rintro (z | z)
      · exact hzero t h0 h1 z
      · exact z.2.2
    · intro z
      by_cases c : at0 ms t = 0
      · exact .inl c
      · exact .inr ⟨⟨h0, h1⟩, hnew t h0 h1 c z, z⟩
  · rcases List.mem_append.mp h with h | h
    · exact S.inG t h
    · exact ((hgm t).mp h).1
  · refine List.nodup_append.mpr ⟨S.nd, ?_, fun a ha b hb e => ?_⟩
    · unfold goneOf
      exact (rng_nodup _).filter _
    · subst e
      obtain ⟨q, q1, _⟩ := (hgm a).mp hb
      exact (hd q1).2 ((S.gone a q.1 q.2).mp ha)
  · have h8 : cnt ds (pick ds ms) ≤ 8 := by omega
    have h1 := Int.mul_le_mul S.big h8 (Int.le_of_lt hpos) (by exact_mod_cast Nat.zero_le _)
    refine Int.le_trans h1 ?_
    have e : (8 : Int) ^ (n - nz ms) * 8 = 8 ^ (n - nz ms + 1) := (Int.pow_succ ..).symm
    rw [e]
    have hz := nz_le ms
    rw [S.len] at hz
    exact_mod_cast Nat.pow_le_pow_right (by decide) (show n - nz ms + 1 ≤ n - nz (nextMs ds ms) by omega)
end
end EM

namespace EM
open LM
/-! The stops one by one. -/
structure Sta where
  D : Int
  ms : List Int
  T : Int
  G : List Int
def s0 (n : Nat) : Sta := ⟨1, List.replicate n 1, 0, []⟩
def cs (W : List (List Int)) (s : Sta) : Course := course W s.D s.ms
def cn (W : List (List Int)) (s : Sta) : Int := cnt (dishes W s.ms) (pick (dishes W s.ms) s.ms)
def nxt (W : List (List Int)) (s : Sta) : Sta := ⟨s.D * cn W s, nextMs (dishes W s.ms) s.ms, s.T * cn W s + (cs W s).m, s.G ++ (cs W s).gone⟩
def st (W : List (List Int)) (n : Nat) : Nat → Sta
  | 0 => s0 n
  | i + 1 => nxt W (st W n i)
def Upto (W : List (List Int)) (n N : Nat) : Prop := ∀ i, i < N → (st W n i).ms.sum ≠ 0
theorem Upto.mono {W : List (List Int)} {n N M : Nat} (h : Upto W n N) (hM : M ≤ N) : Upto W n M := fun i hi => h i (by omega)
theorem Upto.snoc {W : List (List Int)} {n N : Nat} (h : Upto W n N) (hs : (st W n N).ms.sum ≠ 0) : Upto W n (N + 1) := fun i hi => by
  rcases Nat.lt_succ_iff_lt_or_eq.mp hi with z | z
  · exact h i z
  · rw [z]; exact hs
/-- the number of stops -/
structure Stops (W : List (List Int)) (n N : Nat) : Prop where
  up : Upto W n N
  last : (st W n N).ms.sum = 0
theorem Stops.uniq {W : List (List Int)} {n N M : Nat} (h : Stops W n N) (h' : Stops W n M) : N = M := by
  rcases Nat.lt_trichotomy N M with z | z | z
  · exact absurd h.last (h'.up N z)
  · exact z
  · exact absurd h'.last (h.up M z)
structure Ws (n : Nat) (W : List (List Int)) : Prop where
  n1 : 1 ≤ n
  n6 : n ≤ 6
  len : W.length = n
  pm : ∀ w ∈ W, w.Perm (rng n)
section
variable {W : List (List Int)} {n : Nat}
theorem st_ok (h : Ws n W) : ∀ i, Upto W n i → St n (st W n i).D (st W n i).ms (st W n i).T (st W n i).G ∧ nz (st W n i).ms + i ≤ n
  | 0, _ => ⟨St.start, by
    have := nz_le (List.replicate n 1)
    rw [List.length_replicate] at this
    exact this⟩
  | i + 1, hu => by
    obtain ⟨S, hz⟩ := st_ok h i (hu.mono (by omega))
    have hs := hu i (by omega)
    obtain ⟨_, _, _, _, hlt, S'⟩ := step_ok S h.len h.n1 h.n6 h.pm hs
    refine ⟨S', ?_⟩
    show nz (nextMs (dishes W (st W n i).ms) (st W n i).ms) + (i + 1) ≤ n
    omega
theorem upto_le (h : Ws n W) {i : Nat} (hu : Upto W n i) : i ≤ n := by have := (st_ok h i hu).2; omega
theorem T_le {D T : Int} {ms G : List Int} (S : St n D ms T G) (hn : 1 ≤ n) : T ≤ D := by
  have h1 : 0 ≤ ms.sum := by
    have : ∀ {r : List Int}, (∀ m ∈ r, 0 ≤ m) → 0 ≤ r.sum := by
      intro r
      induction r with
      | nil => intro _; exact Int.le_refl 0
      | cons b q ih => intro h; rw [List.sum_cons]; have := h b List.mem_cons_self; have := ih fun m hm => h m (List.mem_cons_of_mem _ hm); omega
    exact this S.nn
  rw [S.sum] at h1
  have : 0 ≤ D - T := by
    refine Classical.byContradiction fun c => ?_
    have : (n : Int) * (D - T) < 0 := Int.mul_neg_of_pos_of_neg (by omega) (by omega)
    omega
  omega
theorem D_le {D T : Int} {ms G : List Int} (S : St n D ms T G) (hn : n ≤ 6) : D ≤ 262144 := by
  have h := S.big
  have h2 : (8 : Int) ^ (n - nz ms) ≤ 8 ^ 6 := by
    have : (8 : Nat) ^ (n - nz ms) ≤ 8 ^ 6 := Nat.pow_le_pow_right (by decide) (by omega)
    exact_mod_cast this
  have e : (8 : Int) ^ 6 = 262144 := by decide
  omega
/-- one course, as the text needs it -/
structure Step (W : List (List Int)) (n : Nat) (s : Sta) : Prop where
  S : St n s.D s.ms s.T s.G
  S' : St n (nxt W s).D (nxt W s).ms (nxt W s).T (nxt W s).G
  m0 : 0 < (cs W s).m
  mD : (cs W s).m ≤ s.D
  c0 : 0 < cn W s
  c6 : cn W s ≤ 6
  ne : (cs W s).gone ≠ []
  dl : (dishes W s.ms).length = n
  dm : ∀ d ∈ dishes W s.ms, (0 ≤ d ∧ d < n) ∧ at0 s.ms d ≠ 0
theorem step_of (h : Ws n W) {i : Nat} (hu : Upto W n i) (hs : (st W n i).ms.sum ≠ 0) : Step W n (st W n i) := by
  obtain ⟨S, _⟩ := st_ok h i hu
  obtain ⟨a, b, c, d, _, S'⟩ := step_ok S h.len h.n1 h.n6 h.pm hs
  have hdl : (dishes W (st W n i).ms).length = n := by unfold dishes; rw [List.length_map, h.len]
  have hdm : ∀ d ∈ dishes W (st W n i).ms, (0 ≤ d ∧ d < n) ∧ at0 (st W n i).ms d ≠ 0 := fun d hd => dish_ok S h.pm hs hd
  have hne : dishes W (st W n i).ms ≠ [] := fun z => by rw [z] at hdl; have := h.n1; simp at hdl; omega
  have hp := hdm _ (pick_spec (ms := (st W n i).ms) hne).1
  refine ⟨S, S', a, ?_, b, c, (fun z => by unfold cs at z; rw [z] at d; cases d), hdl, hdm⟩
  exact S.le _ (at0_mem hp.1.1 (by rw [S.len]; exact hp.1.2))
/-- what a person has eaten of a thing, over the bottom of the time -/
def et (W : List (List Int)) (n : Nat) : Nat → Nat → Int → Int
  | 0, _, _ => 0
  | i + 1, p, t => et W n i p t * cn W (st W n i) + if (dishes W (st W n i).ms).getD p 0 = t then (cs W (st W n i)).m else 0
end
theorem nodup_len : ∀ (n : Nat) {l : List Int}, l.Nodup → (∀ x ∈ l, 0 ≤ x ∧ x < (n : Int)) → l.length ≤ n
  | 0, l, _, h => by
    cases l with
    | nil => exact Nat.le_refl _
    | cons x r => have := h x List.mem_cons_self; omega
  | n + 1, l, hn, h => by
    have ih := nodup_len n (l := l.erase (n : Int)) (hn.erase _) fun x hx => by
      have h1 := h x (List.mem_of_mem_erase hx)
      have h2 : x ≠ (n : Int) := fun z => by rw [z] at hx; exact (hn.not_mem_erase) hx
      omega
    have := List.length_erase (a := (n : Int)) (l := l)
    split at this <;> omega
theorem gone_eq {ns ds ms : List Int} (hm : ∀ i, i ∈ ns ↔ i ∈ ds) (hn : ns.Nodup) (hs : ns.Pairwise (· ≤ ·)) (hd : ∀ d ∈ ds, 0 ≤ d ∧ d < ms.length) : ns.filter (fun t => decide (at0 ms t = 0)) = goneOf ds ms := by
  refine sorted_same (b := []) ?_ (hs.filter _) ((rng_sorted _).filter _)
  refine (List.perm_ext_iff_of_nodup (hn.filter _) ((rng_nodup _).filter _)).mpr fun t => ?_
  rw [List.mem_filter, List.mem_filter, hm, mem_rng]
  constructor
  · rintro ⟨a, b⟩
    exact ⟨hd t a, by rw [decide_eq_true a, b]; rfl⟩
  · rintro ⟨_, b⟩
    have := (Bool.and_eq_true _ _).mp b
    exact ⟨of_decide_eq_true this.1, this.2⟩
theorem goneOf_sorted (ds ms : List Int) : (goneOf ds ms).Pairwise (· ≤ ·) := (rng_sorted _).filter _
theorem goneOf_nodup (ds ms : List Int) : (goneOf ds ms).Nodup := (rng_nodup _).filter _
theorem goneOf_mem {ds ms : List Int} {t : Int} (h : t ∈ goneOf ds ms) : 0 ≤ t ∧ t < ms.length := mem_rng.mp (List.mem_filter.mp h).1
end EM

namespace L2
open PySem PySem.Spec PyProof.Rows
/-! ### sets of small whole numbers: their tables are known by what they hold -/
/-- the numbers below 6 of which b says so, rising -/
def smallS (b : Nat → Bool) : List Nat := (List.range 6).filter b
/-- the table of such a set -/
def tabS (S : List Nat) (led : Bool) : SetTable := ⟨if S.length ≤ 4 then 7 else 31, S.toArray, #[], 0, led, if S.length ≤ 4 then 0 else 1, true⟩
def subs : List Nat → List (List Nat)
  | [] => [[]]
  | a :: r => subs r ++ (subs r).map (a :: ·)
theorem mem_subs : ∀ {l S : List Nat}, S.Sublist l → S ∈ subs l
  | _, _, .slnil => List.mem_singleton.mpr rfl
  | _, _, .cons a h => List.mem_append.mpr (.inl (mem_subs h))
  | _, _, .cons₂ a h => List.mem_append.mpr (.inr (List.mem_map.mpr ⟨_, mem_subs h, rfl⟩))
theorem smallS_subs (b : Nat → Bool) : smallS b ∈ subs (List.range 6) := mem_subs List.filter_sublist
/-- what is asked of the tables, one by one -/
def rankS (S : List Nat) (v : Nat) : Nat := (S.filter (· < v)).length
def insS (S : List Nat) (v : Nat) : List Nat := S.take (rankS S v) ++ v :: S.drop (rankS S v)
def tabOne (S : List Nat) (v : Nat) (led : Bool) : Bool :=
  match (tabS S led).freeSlot (v : Int) with
  | some (j, d) =>
    let q := (tabS S led).put j
    decide (j = v) && !d && decide (q.2 = rankS S v) && q.1.fits (S.length + 1) && decide (q.1.plain = true) &&
    (if q.1.tooFull then
      match q.1.relaid ((insS S v).map Int.ofNat).toArray (SetTable.grown (S.length + 1)) with
      | some (t', o) => decide (t' = tabS (insS S v) led) && decide (o = (List.range (S.length + 1)).toArray) && t'.fits (S.length + 1) && coversAll o (S.length + 1)
      | none => false
    else decide (q.1 = tabS (insS S v) led))
  | none => false
theorem tab_all : ∀ S ∈ subs (List.range 6), ∀ v ∈ List.range 6, v ∉ S → tabOne S v true = true ∧ tabOne S v false = true := by decide +kernel
theorem ins_all : ∀ S ∈ subs (List.range 6), ∀ v ∈ List.range 6, v ∉ S → insS S v = (List.range 6).filter fun x => decide (x ∈ S) || x == v := by decide +kernel
theorem fits_all : ∀ S ∈ subs (List.range 6), (tabS S true).fits S.length = true ∧ (tabS S false).fits S.length = true := by decide +kernel
/-- the walk from slot to slot -/
def nextOk (S : List Nat) (led : Bool) : Bool :=
  (List.range (S.length + 1)).all fun i => decide (SetTable.below (tabS S led).place (if i = 0 then 0 else (S.getD (i - 1) 0) + 1) = i)
theorem next_all : ∀ S ∈ subs (List.range 6), nextOk S true = true ∧ nextOk S false = true := by decide +kernel
def valS (tok : Nat → Tok) (v : Nat) : Int × Value := ((v : Int), Value.int (v : Int) (tok v))
def SetIs (h : Heap) (a : Addr) (b : Nat → Bool) (led : Bool) : Prop :=
  ∃ (o : Obj) (es : Array (Int × Value)) (ep : Nat) (tok : Nat → Tok), h.get? a = some o ∧ o.ExactSet ∧ o.data = .set es ep (tabS (smallS b) led) ∧ es.toList = (smallS b).map (valS tok)
theorem mem_small {b : Nat → Bool} {v : Nat} : v ∈ smallS b ↔ v < 6 ∧ b v = true := by
  unfold smallS; rw [List.mem_filter, List.mem_range]
theorem small_le (b : Nat → Bool) : (smallS b).length ≤ 6 := by
  unfold smallS; exact Nat.le_trans (List.length_filter_le ..) (by rw [List.length_range]; exact Nat.le_refl _)
theorem small_fits (b : Nat → Bool) (led : Bool) : (tabS (smallS b) led).fits (smallS b).length = true := by
  have := fits_all _ (smallS_subs b)
  cases led
  · exact this.2
  · exact this.1
theorem small_add {b : Nat → Bool} {v : Nat} (hv : v < 6) (hb : b v = false) : insS (smallS b) v = smallS fun x => b x || x == v := by
  rw [ins_all _ (smallS_subs b) v (List.mem_range.mpr hv) fun z => by rw [(mem_small.mp z).2] at hb; cases hb]
  unfold smallS
  refine List.filter_congr fun x hx => ?_
  have : decide (x ∈ List.filter b (List.range 6)) = b x := by
    rw [Bool.eq_iff_iff, decide_eq_true_iff, List.mem_filter]
    exact ⟨fun h => h.2, fun h => ⟨hx, h⟩⟩
  rw [this]
theorem small_old {b : Nat → Bool} {v : Nat} (hb : b v = true) : (smallS fun x => b x || x == v) = smallS b := by
  unfold smallS
  refine List.filter_congr fun x hx => ?_
  by_cases e : x = v
  · subst e; rw [hb]; rfl
  · rw [beq_false_of_ne e, Bool.or_false]
theorem hash_small (v : Nat) (hv : v < 6) : hashInt (v : Int) = v :=
  (show ∀ v ∈ List.range 6, hashInt ((v : Nat) : Int) = v by decide +kernel) v (List.mem_range.mpr hv)
theorem filterMap_all {α : Type} (xs : Array α) : Array.filterMap (fun x => xs[x]?) (List.range xs.size).toArray = xs := by
  apply Array.ext'
  rw [Array.toList_filterMap]
  have : ∀ (l : List α), List.filterMap (fun x => l[x]?) (List.range l.length) = l := by
    intro l
    induction l with
    | nil => rfl
    | cons a r ih =>
      rw [List.length_cons, List.range_succ_eq_map, List.filterMap_cons, List.filterMap_map]
      show a :: List.filterMap (fun x => r[x]?) (List.range r.length) = a :: r
      rw [ih]
  have := this xs.toList
  simpa using this
theorem ints_small {prog : Program} {w : World} {b : Nat → Bool} {tok : Nat → Tok} {es : Array (Int × Value)} (he : es.toList = (smallS b).map (valS tok)) : ElemsOf (intKind prog w) es.toList := by
  intro e hm
  rw [he] at hm
  obtain ⟨u, hu, rfl⟩ := List.mem_map.mp hm
  exact ⟨⟨(u : Int), beq_self_eq_true _, (hash_small u (mem_small.mp hu).1).symm⟩, rfl⟩
theorem lay_small {b : Nat → Bool} {v : Nat} {led : Bool} {es : Array (Int × Value)} {x : Value} {tok : Nat → Tok} (hv : v < 6) (hb : b v = false) (he : es.toList = (smallS b).map (valS tok)) :
    ∃ t, layNew (tabS (smallS b) led) es (v : Int) x = (SetTable.insertAt es (rankS (smallS b) v) ((v : Int), x), t, false, false) ∧ t.plain = true ∧ t.fits (es.size + 1) = true ∧
      (t.tooFull = false → t = tabS (insS (smallS b) v) led) ∧ (t.tooFull = true → t.relaid ((insS (smallS b) v).map Int.ofNat).toArray (SetTable.grown (es.size + 1)) = some (tabS (insS (smallS b) v) led, (List.range (es.size + 1)).toArray) ∧
        (tabS (insS (smallS b) v) led).fits (es.size + 1) = true ∧ coversAll (List.range (es.size + 1)).toArray (es.size + 1) = true) := by
  have hsz : es.size = (smallS b).length := by rw [← Array.length_toList, he, List.length_map]
  have h := tab_all _ (smallS_subs b) v (List.mem_range.mpr hv) fun z => by rw [(mem_small.mp z).2] at hb; cases hb
  have h1 : tabOne (smallS b) v led = true := by
    cases led
    · exact h.2
    · exact h.1
  unfold tabOne at h1
  cases hfs : (tabS (smallS b) led).freeSlot (v : Int) with
  | none => rw [hfs] at h1; cases h1
  | some jd =>
    obtain ⟨j, d⟩ := jd
    rw [hfs] at h1
    dsimp only at h1
    rw [Bool.and_eq_true, Bool.and_eq_true, Bool.and_eq_true, Bool.and_eq_true, Bool.and_eq_true, decide_eq_true_iff, decide_eq_true_iff, decide_eq_true_iff] at h1
    obtain ⟨⟨⟨⟨⟨rfl, hd⟩, hp⟩, hfit⟩, hpl⟩, hrest⟩ := h1
    have hd' : d = false := by cases d <;> first | rfl | cases hd
    subst hd'
    rw [← hsz] at hfit hrest
    have hsi : (SetTable.insertAt es (rankS (smallS b) j) ((j : Int), x)).size = es.size + 1 := by
      have := (SetTable.insertAt_perm es (rankS (smallS b) j) ((j : Int), x)).length_eq
      simpa using this
    refine ⟨((tabS (smallS b) led).put j).1, ?_, hpl, hfit, fun hn => ?_, fun ht => ?_⟩
    · unfold layNew
      rw [hfs]
      dsimp only
      rw [hp, hsi, hfit]
      have ho : ((tabS (smallS b) led).put j).1.orStandIn (es.size + 1) = ((tabS (smallS b) led).put j).1 := by
        unfold SetTable.orStandIn; rw [if_pos hfit]
      rw [ho]
      rfl
    · rw [hn, if_neg (by decide)] at hrest
      exact of_decide_eq_true hrest
    · rw [ht, if_pos rfl] at hrest
      cases hre : ((tabS (smallS b) led).put j).1.relaid ((insS (smallS b) j).map Int.ofNat).toArray (SetTable.grown (es.size + 1)) with
      | none => rw [hre] at hrest; cases hrest
      | some to =>
        obtain ⟨t', o⟩ := to
        rw [hre] at hrest
        dsimp only at hrest
        rw [Bool.and_eq_true, Bool.and_eq_true, Bool.and_eq_true, decide_eq_true_iff, decide_eq_true_iff] at hrest
        obtain ⟨⟨⟨rfl, rfl⟩, z1⟩, z2⟩ := hrest
        exact ⟨rfl, z1, z2⟩
theorem setAdd_small {prog : Program} {w : World} {A : Around} {E : Value → Shared → Prop} {s : Shared} {a : Addr} {b : Nat → Bool} {led : Bool} {v : Nat} {tk : Tok} {Q : Bool → Shared → Prop} (hv : v < 6) (hS : SetIs s.heap a b led)
    (q : ∀ h', Heap.SameBut a s.heap h' → SetIs h' a (fun x => b x || x == v) led → Q (!b v) { s with heap := h' }) :
    wpAny (model prog w) A (setAddHashed a (.int v tk) ((intKind prog w).hash (v : Int))) Q E s := by
  obtain ⟨o, es, ep, tok, ho, hx, hd, he⟩ := hS
  have hsz : es.size = (smallS b).length := by rw [← Array.length_toList, he, List.length_map]
  have h6 := small_le b
  have hf : (tabS (smallS b) led).fits es.size = true := by rw [hsz]; exact small_fits b led
  have hE : ElemsOf (intKind prog w) es.toList := ints_small he
  have hh : (intKind prog w).hash (v : Int) = v := hash_small v hv
  have h64 : 64 ≤ scanBound := by decide +kernel
  unfold setAddHashed
  refine wpAny_holding ?_
  rw [setAddHashedIn.eq_def]
  dsimp only
  refine wpAny_bind (wpAny_setState_of ho hd hf ?_)
  dsimp only
  rw [if_pos (byScan_of (knd := intKind prog w) (x := .int v tk) rfl (by omega) hE)]
  unfold setAddByScan
  refine wpAny_bind (wpAny_bind (wpAny_rule ?_))
  refine wpAny_bind (wpAny_setScan_of (knd := intKind prog w) (k := (v : Int)) (beq_self_eq_true _) ho hd hf hE ?_)
  cases hb : b v with
  | true =>
    cases hfi : List.findIdx? (fun e : Int × Value => (intKind prog w).is (v : Int) e.2) es.toList with
    | none =>
      have := List.findIdx?_eq_none_iff.mp hfi (valS tok v) (by rw [he]; exact List.mem_map.mpr ⟨v, mem_small.mpr ⟨hv, hb⟩, rfl⟩)
      rw [show (intKind prog w).is (v : Int) (valS tok v).2 = true from beq_self_eq_true _] at this
      cases this
    | some j =>
      refine wpAny_pure (wpAny_pure ?_)
      have := q s.heap (Heap.SameBut.refl a _) ⟨o, es, ep, tok, ho, hx, by rw [small_old hb]; exact hd, by rw [small_old hb]; exact he⟩
      rw [hb] at this
      exact this
  | false =>
    cases hfi : List.findIdx? (fun e : Int × Value => (intKind prog w).is (v : Int) e.2) es.toList with
    | some j =>
      obtain ⟨e, h1, h2⟩ := List.findIdx?_eq_some_iff_getElem.mp hfi
      have hm : es.toList[j] ∈ (smallS b).map (valS tok) := by rw [← he]; exact List.getElem_mem e
      obtain ⟨u, hu, hue⟩ := List.mem_map.mp hm
      have h3 := (mem_small.mp hu).2
      have h4 : (intKind prog w).is (v : Int) (valS tok u).2 = true := by rw [hue]; exact h1
      have h5 : (u : Int) = v := eq_of_beq h4
      have : u = v := by omega
      rw [this, hb] at h3
      cases h3
    | none =>
      obtain ⟨t, hl, hpl, hfit, hfew, hfull⟩ := lay_small (led := led) (x := .int v tk) hv hb he
      dsimp only
      rw [hh, hl]
      dsimp only
      refine wpAny_bind (wpAny_pure ?_)
      rw [if_pos hpl, hashByValue_scannable 8 (x := .int v tk) rfl]
      refine wpAny_bind (wpAny_pure ?_)
      rw [if_pos (show plainKind (Value.int (v : Int) tk) = true from rfl)]
      have hes' : (SetTable.insertAt es (rankS (smallS b) v) ((v : Int), Value.int (v : Int) tk)).toList = (smallS fun x => b x || x == v).map (valS fun u => if u = v then tk else tok u) := by
        rw [SetTable.toList_insertAt, he, ← small_add hv hb]
        have e1 : (smallS b).map (valS tok) = (smallS b).map (valS fun u => if u = v then tk else tok u) := List.map_congr_left fun u hu => by
          have : u ≠ v := fun z => by rw [z] at hu; rw [(mem_small.mp hu).2] at hb; cases hb
          show ((u : Int), Value.int (u : Int) (tok u)) = ((u : Int), Value.int (u : Int) (if u = v then tk else tok u))
          rw [if_neg this]
        rw [e1]
        unfold insS
        rw [List.map_append, List.map_cons, List.map_take, List.map_drop]
        have e2 : valS (fun u => if u = v then tk else tok u) v = ((v : Int), Value.int (v : Int) tk) := by
          show ((v : Int), Value.int (v : Int) (if v = v then tk else tok v)) = _
          rw [if_pos rfl]
        rw [e2]
      have hsi : (SetTable.insertAt es (rankS (smallS b) v) ((v : Int), Value.int (v : Int) tk)).size = es.size + 1 := by
        have := (SetTable.insertAt_perm es (rankS (smallS b) v) ((v : Int), Value.int (v : Int) tk)).length_eq
        simpa using this
      rw [small_add hv hb] at hfew hfull
      generalize SetTable.insertAt es (rankS (smallS b) v) ((v : Int), Value.int (v : Int) tk) = es' at *
      have hline : es'.size ≤ sizeLine := Nat.le_of_lt (small1000 (by omega))
      rw [hsi] at hline
      have p1 := putSet_of es' t hd
      have g1 : (s.heap.update a (Obj.putSet es' t)).get? a = some ⟨o.cls, o.dict, .set es' (ep + 1) t, o.slots⟩ := by
        rw [← p1]
        exact Heap.get?_update_self _ ho (by rw [p1]; rfl)
      refine wpAny_bind (wpAny_storeSet_of ho hd ?_ (by rw [hsi]; exact hline))
      cases hfu : t.tooFull with
      | false =>
        rw [if_neg (by simp)]
        refine wpAny_pure (wpAny_pure ?_)
        have := q _ (Heap.SameBut.update s.heap a (Obj.putSet es' t)) ⟨_, es', ep + 1, _, g1, hx, by rw [hfew hfu], hes'⟩
        rw [hb] at this
        exact this
      | true =>
        obtain ⟨r1, r2, r3⟩ := hfull hfu
        have hm : Array.map (fun x : Int × Value => x.1) es' = ((smallS fun x => b x || x == v).map Int.ofNat).toArray := by
          apply Array.ext'
          rw [Array.toList_map, hes', List.map_map]
          rfl
        have hr : relayAll t es' (SetTable.grown es'.size) = (es', tabS (smallS fun x => b x || x == v) led, false) := by
          unfold relayAll
          rw [hm, hsi, r1]
          dsimp only
          rw [← hsi, filterMap_all, hsi, r2, r3]
          rfl
        rw [if_pos (by simp), hr]
        dsimp only
        refine wpAny_bind (wpAny_pure (wpAny_bind (wpAny_storeSet_of g1 rfl (wpAny_pure (wpAny_pure ?_)) (by rw [hsi]; exact hline))))
        have p2 := putSet_of (o := ⟨o.cls, o.dict, .set es' (ep + 1) t, o.slots⟩) es' (tabS (smallS fun x => b x || x == v) led) rfl
        have g2 : ((s.heap.update a (Obj.putSet es' t)).update a (Obj.putSet es' (tabS (smallS fun x => b x || x == v) led))).get? a = some ⟨o.cls, o.dict, .set es' (ep + 1 + 1) (tabS (smallS fun x => b x || x == v) led), o.slots⟩ := by
          rw [← p2]
          exact Heap.get?_update_self _ g1 (by rw [p2]; rfl)
        have := q _ ((Heap.SameBut.update s.heap a _).trans (Heap.SameBut.update _ a _)) ⟨_, es', ep + 1 + 1, _, g2, hx, rfl, hes'⟩
        rw [hb] at this
        exact this
end L2

namespace L2
open PySem PySem.Spec PyProof.Rows
/-- sets are walked in the table's order, unless the run follows a text -/
def ledOf (w : World) : Bool := !w.params.followText "set-order"
theorem set_new {prog : Program} {w : World} {A : Around} {E : Value → Shared → Prop} {s : Shared} (a : Value) {Q₁ : Value → Shared → Prop}
    (h : Q₁ (.ref s.heap.objs.size) { s with heap := s.heap.push { cls := .type "set", data := .set #[] 0 (SetTable.fresh 0 0 (ledOf w)) } }) :
    codeAny (model prog w) A (.call (.builtin "set.__new__") ⟨[.type "set", a], []⟩) (wants Q₁ E) s := by
  refine codeAny_of_tree ?_
  refine wpAny_bind (wpAny_of_eq (F.newCall_set_1 a) (wpAny_pure ⟨plainId_quiet F.plain_set_new _, codeAny_builtin F.entry_set_new ?_⟩))
  rw [Around.under_plainId F.plain_set_new _]
  have hsub := sub_set_self
  unfold Builtin.«set.__new__» Builtin.Frozenset.newClass
  refine wpAny_bind (wpAny_bind (wpAny_pure ?_))
  refine wpAny_ite_false rfl (wpAny_bind (wpAny_of_eq hsub (wpAny_ite_false rfl (wpAny_pure ?_))))
  unfold newSet setsByText
  refine wpAny_bind (wpAny_bind (wpAny_bind (wpAny_askSetting (wpAny_pure ?_))))
  show wpAny _ _ (newObj _ _) _ _ _
  unfold newObj
  dsimp only
  rw [if_neg (by decide)]
  unfold newObjAsIs
  exact wpAny_bind (wpAny_alloc (wpAny_pure (wpAny_pure h)))
theorem SetIs.congr {h h' : Heap} {a : Addr} {b : Nat → Bool} {led : Bool} (H : SetIs h a b led) (e : ∀ o, h.get? a = some o → h'.get? a = some o) : SetIs h' a b led := by
  obtain ⟨o, es, ep, tok, ho, r⟩ := H
  exact ⟨o, es, ep, tok, e o ho, r⟩
theorem SetIs.by {h : Heap} {a : Addr} {b b' : Nat → Bool} {led : Bool} (H : SetIs h a b led) (e : ∀ x, x < 6 → b x = b' x) : SetIs h a b' led := by
  have : smallS b = smallS b' := List.filter_congr fun x hx => e x (List.mem_range.mp hx)
  unfold SetIs at H ⊢
  rw [this] at H
  exact H
theorem set_loop {prog : Program} {w : World} {A : Around} {R : Result → Shared → Prop} {I : Addr} {fp wr : List Addr} {G : Array GenState → Array GenState → Prop} {n : Nat} {P : Nat → Value → Prop} {St : Nat → Shared → Prop} {led : Bool}
    (W : WalksS prog w A.in1 I fp wr G n P St) (S : Addr) (hS : S ∉ fp) (val : Nat → Nat) (hP : ∀ i v, P i v → val i < 6 ∧ ∃ t, v = Value.int (val i : Nat) t) :
    ∀ (k i : Nat) (s : Shared) (b : Nat → Bool), n - i = k → i ≤ n → St i s → SetIs s.heap S b led →
      (∀ s', Moved (S :: wr) G s s' → SetIs s'.heap S (fun x => b x || (List.range' i (n - i)).any fun j => x == val j) led → R (.ok (.ret .none)) s') →
      codeAny (model prog w) A (.builtin "set.update.loop" ⟨[.ref S, .ref I], []⟩) R s := by
  have hSw : S ∉ wr := fun z => hS (W.sub S z)
  intro k
  induction k with
  | zero =>
    intro i s b hk hi hSt hset h
    have e : i = n := by omega
    subst e
    refine codeAny_builtin F.entry_set_update_loop ?_
    rw [Around.under_plainId F.plain_set_update_loop _]
    unfold Builtin.«set.update.loop»
    refine wpAny_bind (W.done s _ _ hSt fun s' m => ?_)
    refine wpAny_pure (h s' ⟨fun c o hc => m.heap c o fun z => hc (List.mem_cons_of_mem _ z), m.gens, m.drawn, m.os, m.toks⟩ ((hset.congr fun o => m.heap S o hSw).by fun x _ => ?_))
    rw [Nat.sub_self]
    simp
  | succ k ih =>
    intro i s b hk hi hSt hset h
    refine codeAny_builtin F.entry_set_update_loop ?_
    rw [Around.under_plainId F.plain_set_update_loop _]
    unfold Builtin.«set.update.loop»
    refine wpAny_bind (W.item i s _ _ (by omega) hSt fun v s' hv hSt' m => ?_)
    obtain ⟨hlt, t, rfl⟩ := hP i v hv
    dsimp only
    refine wpAny_bind (wpAny_holding ?_)
    unfold setAdd
    refine wpAny_holding (wpAny_bind ((intKind prog w).pyHash (k := ((val i : Nat) : Int)) (beq_self_eq_true _) ?_))
    refine setAdd_small hlt (SetIs.congr hset fun o => m.heap S o hSw) fun h' hb hs' => ?_
    refine wpAny_pure ⟨plainId_quiet F.plain_set_update_loop _, ih (i + 1) _ _ (by omega) (by omega) (W.frame (i + 1) s' h' (s'.toks + 1) hSt' (Nat.le_succ _) fun c hc o ho => by rw [hb.2 c fun z => hS (z ▸ hc)]; exact ho) hs' fun s'' m2 hset2 => h s'' ?_ (hset2.by fun x _ => ?_)⟩
    · refine ⟨fun c o hc ho => m2.heap c o hc ?_, W.gtrans _ _ _ m.gens m2.gens, m2.drawn.trans m.drawn, m2.os.trans m.os, Nat.le_trans m.toks (Nat.le_trans (Nat.le_succ _) m2.toks)⟩
      show h'.get? c = some o
      rw [hb.2 c fun z => hc (by rw [z]; exact List.mem_cons_self)]
      exact m.heap c o (fun z => hc (List.mem_cons_of_mem _ z)) ho
    · have e : n - i = (n - (i + 1)) + 1 := by omega
      rw [e, List.range'_succ, List.any_cons, Bool.or_assoc]
end L2

namespace L2
open PySem PySem.Spec PyProof.Rows
theorem call_set_small {prog : Program} {w : World} {A : Around} {E : Value → Shared → Prop} {s : Shared} {l : Addr} {items : Array Value} {Q : Value → Shared → Prop} (hh : A.handled = none) (hl : s.heap.IsList l items) (val : Nat → Nat)
    (hv : ∀ i v, items[i]? = some v → val i < 6 ∧ ∃ t, v = Value.int (val i : Nat) t)
    (h : ∀ (h' : Heap) (tk : Nat), SetIs h' s.heap.objs.size (fun x => (List.range' 0 items.size).any fun j => x == val j) (ledOf w) → (∀ b o, s.heap.get? b = some o → h'.get? b = some o) → Q (.ref s.heap.objs.size) { s with heap := h', toks := tk }) :
    wpAny (model prog w) A (call (.type "set") [.ref l]) Q E s := by
  obtain ⟨c, tl, hmro⟩ := F.called_set.mro
  have hmade := F.called_set.made
  have hsub := F.called_set.sub
  refine wpAny_call (codeAny_of_tree (wpAny_pure ⟨Code.quiet_builtin _ (by decide +kernel), codeAny_builtin F.entry_type_call ?_⟩))
  rw [Around.under_plain (weight_type_call_type "set" [.ref l] []) rfl]
  have h1 := F.called_set.notType
  have h2 := F.called_set.canCreate
  have hct := F.typeCall_set_1 (.ref l)
  unfold Builtin.«type.__call__»
  refine wpAny_ite_false (by rw [h1]; rfl) (wpAny_ite_false (by rw [h2]; rfl) (wpAny_bind (wpAny_of_eq hct (wpAny_bind (wpAny_of_eq hmro (wpAny_ite_false rfl (wpAny_bind (wpAny_of_eq hmade (wpAny_bind (wpAny_pure ?_)))))))))) 
  refine wpAny_bind (wpAny_holding (wpAny_call (codeAny_mono (set_new (E := E) (.ref l) (Q₁ := fun v s1 => v = .ref s.heap.objs.size ∧ s1 = _) ⟨rfl, rfl⟩) fun r s₁ hr => ?_)))
  cases r with
  | error e => exact hr
  | ok fl =>
    cases fl with
    | ret v =>
      obtain ⟨rfl, rfl⟩ := (show v = _ ∧ s₁ = _ from hr)
      have hnew : (s.heap.push { cls := Value.type "set", data := Data.set #[] 0 (SetTable.fresh 0 0 (ledOf w)) }).get? s.heap.objs.size = some { cls := Value.type "set", data := Data.set #[] 0 (SetTable.fresh 0 0 (ledOf w)) } := Heap.get?_push_size _ rfl
      refine wpAny_bind (wpAny_isInstance (T := "set") ⟨_, hnew, rfl⟩ hsub (wpAny_ite_false rfl (wpAny_bind (wpAny_holding ?_))))
      unfold callSpecial?
      refine wpAny_bind (wpAny_specialOf (T := "set") ⟨_, hnew, rfl⟩ F.called_set.init.lookup ?_)
      refine wpAny_holding (wpAny_bind (wpAny_of_eq (F.called_set.init.bind _) (wpAny_bind (wpAny_call (codeAny_call_builtin F.called_set.init.plain F.entry_set_init (check_set_init_1 ⟨_, hnew, rfl⟩ ?_))))))
      unfold Builtin.«set.__init__»
      refine wpAny_bind (wpAny_pure ?_)
      dsimp only [List.cons_append, List.nil_append]
      unfold typeNameOfCut
      unfold shownTypeOf
      refine wpAny_bind (wpAny_bind ?_)
      refine wpAny_bind (wpAny_typeOf (T := "set") ⟨_, hnew, rfl⟩ (wpAny_ite_false rfl (wpAny_pure (wpAny_pure (wpAny_bind (wpAny_pure (wpAny_bind (wpAny_pure ?_))))))))
      unfold setUsed
      refine wpAny_bind (wpAny_bind (wpAny_setState_of hnew rfl (by cases ledOf w <;> rfl) (wpAny_pure (wpAny_ite_false rfl ?_))))
      have hl1 := hl.push { cls := Value.type "set", data := Data.set #[] 0 (SetTable.fresh 0 0 (ledOf w)) }
      have ht : Shared.TypeIs { s with heap := s.heap.push { cls := Value.type "set", data := Data.set #[] 0 (SetTable.fresh 0 0 (ledOf w)) } } (.ref l) "list" := by
        obtain ⟨o, h1, h2, _⟩ := hl1
        exact ⟨o, h1, h2⟩
      unfold Builtin.Frozenset.updateFrom Builtin.Frozenset.isAnySet orM
      refine wpAny_bind (wpAny_bind (wpAny_bind (wpAny_isInstance ht F.sub_list_set (wpAny_isInstance ht F.sub_list_frozenset ?_))))
      refine wpAny_ite_false rfl (wpAny_bind (wpAny_typeOf ht (wpAny_ite_false rfl (wpAny_bind (wpAny_pyIter_list hl1 ?_)))))
      refine wpAny_bind (wpAny_runValue ?_)
      have hS1 : s.heap.get? s.heap.objs.size = none := by
        cases e : s.heap.get? s.heap.objs.size with
        | none => rfl
        | some o => exact absurd (Heap.lt_size e) (Nat.lt_irrefl _)
      have hlS : l ≠ s.heap.objs.size := fun z => by
        obtain ⟨o, h1, _⟩ := hl
        rw [z, hS1] at h1; cases h1
      have hsz : (s.heap.push { cls := Value.type "set", data := Data.set #[] 0 (SetTable.fresh 0 0 (ledOf w)) }).objs.size = s.heap.objs.size + 1 := size_push' ..
      have hIl : l ≠ s.heap.objs.size + 1 := fun z => by
        obtain ⟨o, h1, _⟩ := hl
        rw [z] at h1
        exact absurd (Nat.lt_of_succ_lt (Heap.lt_size h1)) (Nat.lt_irrefl _)
      dsimp only
      rw [hsz]
      refine set_loop (Walks.toS (Walks.list (A := A.in1.in1.in1) hh (s.heap.objs.size + 1) l hIl items)) s.heap.objs.size (fun z => ?_) val hv items.size 0 _ (fun _ => false) rfl (Nat.zero_le _) ⟨?_, hl1.push _⟩ (led := ledOf w) ?_ fun s' m hs => ?_
      · rcases List.mem_cons.mp z with z | z
        · exact absurd z (Nat.ne_of_lt (Nat.lt_succ_self _))
        · exact hlS (List.mem_singleton.mp z).symm
      · exact ⟨_, (by rw [← hsz]; exact Heap.get?_push_size _ rfl), rfl, rfl⟩
      · exact ⟨_, #[], 0, fun _ => 0, Heap.get?_push_of_some _ hnew, ⟨rfl, rfl, rfl⟩, rfl, rfl⟩
      · refine wpAny_pure (wpAny_pure (wpAny_pure (wpAny_ite_false rfl (wpAny_pure ?_))))
        obtain ⟨h', g', d', t', o'⟩ := s'
        have e1 : g' = s.gens := m.gens
        have e2 : d' = s.drawn := m.drawn
        have e3 : o' = s.os := m.os
        subst e1 e2 e3
        refine h h' t' (hs.by fun x _ => by rw [Bool.false_or]; rfl) fun b o hb => m.heap b o (fun z => ?_) (Heap.get?_push_of_some _ (Heap.get?_push_of_some _ hb))
        rcases List.mem_cons.mp z with z | z
        · rw [z, hS1] at hb; cases hb
        · rw [List.mem_singleton.mp z] at hb
          exact absurd (Nat.lt_of_succ_lt (Heap.lt_size hb)) (Nat.lt_irrefl _)
    | _ => exact hr.elim
end L2

namespace L2
open PySem PySem.Spec PyProof.Rows
theorem slot_set_next : Slot "set_iterator" (Str.ofString "__next__") "set_iterator.__next__" := by
  refine Slot.of (owner := "set_iterator") (n := "__next__") ?_ ?_ ?_ ?_ ?_ ?_
  · rw [typeLookup_type, builtinLookup_eq_fast]; rfl
  · decide +kernel
  · decide +kernel
  · decide +kernel
  · exact Or.inl (by decide +kernel)
  · rw [isSubtype_type]; rfl
theorem entry_set_next : entryFor table "set_iterator.__next__" = some Builtin.«set_iterator.__next__» := entryFor_of_tree rfl
theorem args_set_next (a : Value) : argsOk "set_iterator.__next__" ⟨[a], []⟩ := by
  show _ = _
  rw [signature?_of (rows := Manifest.sig_set_iterator) rfl rfl]
  rfl
theorem entry_set_iter : entryFor table "set.__iter__" = some Builtin.«frozenset.__iter__» := entryFor_alias (id' := "frozenset.__iter__") rfl rfl (by decide +kernel) rfl
/-- the object of a walk through a set -/
def WalkObj (a : Addr) (slot i n ep : Nat) : Obj := { cls := .type "set_iterator", data := .fields #[rawInt slot, rawInt i, .ref a, rawInt n, rawInt ep] }
theorem set_iter {prog : Program} {w : World} {A : Around} {E : Value → Shared → Prop} {s : Shared} {a : Addr} {o : Obj} {es : Array (Int × Value)} {ep : Nat} {t : SetTable} {Q : Value → Shared → Prop} (ho : s.heap.get? a = some o) (hx : o.ExactSet) (hd : o.data = .set es ep t)
    (hf : t.fits es.size = true) (hp : t.plain = true)
    (h : Q (.ref s.heap.objs.size) { s with heap := s.heap.push (WalkObj a 0 0 es.size ep) }) : wpAny (model prog w) A (pyIter (.ref a)) Q E s := by
  have ht : s.TypeIs (.ref a) "set" := ⟨o, ho, hx.1⟩
  refine wpAny_pyIter_slot ht F.slot_set_iter (wpAny_call_entry F.slot_set_iter ht entry_set_iter ?_ (F.args_set_iter_1 _))
  unfold Builtin.«frozenset.__iter__» Builtin.Frozenset.slot0 slotArgs Builtin.Frozenset.sizeOf setEntries setDrawn setsByText
  refine wpAny_bind (wpAny_bind (wpAny_pure (wpAny_pure (wpAny_bind (wpAny_bind (wpAny_bind (wpAny_setState_of ho hd hf (wpAny_pure (wpAny_pure (wpAny_bind (wpAny_bind (wpAny_setState_of ho hd hf ?_)))))))))))) 
  refine wpAny_bind (wpAny_bind (wpAny_askSetting (wpAny_pure (wpAny_pure (wpAny_ite_false ?_ ?_)))))
  · show decide ((_ && (!t.plain && _)) = true) = false
    rw [hp]
    simp
  refine wpAny_bind (wpAny_pure ?_)
  unfold setEpoch newFields
  refine wpAny_bind (wpAny_bind (wpAny_setState_of ho hd hf (wpAny_pure (wpAny_bind ?_))))
  unfold newObj
  dsimp only
  rw [if_neg (by show ¬ 5 > sizeLine + 2; decide +kernel)]
  unfold newObjAsIs
  refine wpAny_bind (wpAny_alloc (wpAny_pure (wpAny_pure ⟨_, rfl, "set_iterator", _, ⟨_, Heap.get?_push_size _ rfl, rfl⟩, slot_set_next.lookup, h⟩)))
end L2

namespace L2
open PySem PySem.Spec PyProof.Rows
def walkSlot (S : List Nat) (k : Nat) : Nat := if k = 0 then 0 else S.getD (k - 1) 0 + 1
theorem firstArg_stop : firstArgMember (Value.type "StopIteration") [] = pure Value.none := by
  unfold firstArgMember
  dsimp only
  rw [pure_bind]
  split <;> rfl
theorem below_small (b : Nat → Bool) (led : Bool) {k : Nat} (hk : k ≤ (smallS b).length) : SetTable.below (tabS (smallS b) led).place (walkSlot (smallS b) k) = k := by
  have h := next_all _ (smallS_subs b)
  have h1 : nextOk (smallS b) led = true := by
    cases led
    · exact h.2
    · exact h.1
  unfold nextOk at h1
  have h2 := List.all_eq_true.mp h1 k (List.mem_range.mpr (by omega))
  exact of_decide_eq_true h2
theorem set_next {prog : Program} {w : World} {A : Around} {E : Value → Shared → Prop} {s : Shared} {I a : Addr} {o : Obj} {es : Array (Int × Value)} {ep i : Nat} {b : Nat → Bool} {Q : Option Value → Shared → Prop} (hw : ledOf w = true)
    (hI : s.heap.get? I = some (WalkObj a (walkSlot (smallS b) i) i es.size ep)) (ho : s.heap.get? a = some o) (hd : o.data = .set es ep (tabS (smallS b) (ledOf w))) (hes : es.size = (smallS b).length) (hi : i < es.size) (hne : a ≠ I)
    (h : ∀ h', Heap.SameBut I s.heap h' → h'.get? I = some (WalkObj a (walkSlot (smallS b) (i + 1)) (i + 1) es.size ep) → Q (some es[i].2) { s with heap := h' }) :
    wpAny (model prog w) A (pyNext (.ref I)) Q E s := by
  have hf : (tabS (smallS b) (ledOf w)).fits es.size = true := by rw [hes]; exact small_fits b _
  have ht : s.TypeIs (.ref I) "set_iterator" := ⟨_, hI, rfl⟩
  unfold pyNext
  refine wpAny_bind (wpAny_attempt (wpAny_callSpecial?_slot ht slot_set_next (wpAny_call_entry slot_set_next ht entry_set_next ?_ (args_set_next _))))
  unfold Builtin.«set_iterator.__next__» slotArgs
  refine wpAny_bind (wpAny_pure (wpAny_bind (wpAny_fieldsOf hI rfl ?_)))
  dsimp only [rawInt]
  unfold setEntries
  refine wpAny_bind (wpAny_bind (wpAny_setState_of ho hd hf (wpAny_pure (wpAny_ite_false (by simp) ?_))))
  unfold setNext setsByText
  refine wpAny_bind (wpAny_bind (wpAny_setState_of ho hd hf ?_))
  dsimp only
  have hT : w.params.followText "set-order" = false := by
    unfold ledOf at hw
    cases e : w.params.followText "set-order" with
    | false => rfl
    | true => rw [e] at hw; cases hw
  refine wpAny_bind (wpAny_bind (wpAny_askSetting (wpAny_pure ?_)))
  rw [if_neg (show ¬ (model prog w).w.params.followText "set-order" = true by intro z; exact absurd (hT.symm.trans z) (by decide))]
  refine wpAny_ite_false (by show decide ((!true && _) = true) = false; rfl) (wpAny_bind ?_)
  have hm : ∀ (x : Bool) (P : Sem Unit), (if (!true && x) = true then P else pure ()) = pure () := fun x P => rfl
  rw [hw]
  refine (show ∀ (R : Unit → Shared → Prop), R () s → wpAny (model prog w) A.in1 (if (!true && _) = true then _ else pure ()) R _ s from fun R z => wpAny_pure z) _ ?_
  have hiS : i < (smallS b).length := by omega
  have hp1 : (tabS (smallS b) true).place[i]? = some (smallS b)[i] := by
    show (smallS b).toArray[i]? = _
    simp [hiS]
  rw [Int.toNat_natCast, below_small b true (Nat.le_of_lt hiS), hp1, Array.getElem?_eq_getElem hi]
  refine wpAny_pure ?_
  dsimp only
  have g1 : (s.heap.update I (Obj.mapFields fun x => x.setIfInBounds 0 (Value.int (((smallS b)[i] + 1 : Nat) : Int) 0))).get? I = some { cls := .type "set_iterator", data := .fields #[Value.int (((smallS b)[i] + 1 : Nat) : Int) 0, rawInt i, .ref a, rawInt es.size, rawInt ep] } :=
    Heap.get?_update_self (o := WalkObj a (walkSlot (smallS b) i) i es.size ep) _ hI rfl
  refine wpAny_bind (wpAny_setField hI rfl (by show 0 < 5; decide) (wpAny_bind (wpAny_setField g1 rfl (by show 1 < 5; decide) (wpAny_pure ⟨_, rfl, wpAny_pure ?_⟩))))
  refine h _ ((Heap.SameBut.update s.heap I _).trans (Heap.SameBut.update _ I _)) ?_
  have e : walkSlot (smallS b) (i + 1) = (smallS b)[i] + 1 := by
    unfold walkSlot
    rw [if_neg (Nat.succ_ne_zero i), Nat.add_sub_cancel, List.getD_eq_getElem?_getD, List.getElem?_eq_getElem hiS]
    rfl
  rw [e]
  exact Heap.get?_update_self _ g1 rfl
theorem set_next_end {prog : Program} {w : World} {A : Around} {E : Value → Shared → Prop} {s : Shared} {I a : Addr} {o : Obj} {es : Array (Int × Value)} {ep : Nat} {b : Nat → Bool} {Q : Option Value → Shared → Prop} (hA : A.handled = none) (hw : ledOf w = true)
    (hI : s.heap.get? I = some (WalkObj a (walkSlot (smallS b) es.size) es.size es.size ep)) (ho : s.heap.get? a = some o) (hd : o.data = .set es ep (tabS (smallS b) (ledOf w))) (hes : es.size = (smallS b).length)
    (h : ∀ h', (∀ c ob, c ≠ I → s.heap.get? c = some ob → h'.get? c = some ob) → Q none { s with heap := h' }) :
    wpAny (model prog w) A (pyNext (.ref I)) Q E s := by
  have hf : (tabS (smallS b) (ledOf w)).fits es.size = true := by rw [hes]; exact small_fits b _
  have ht : s.TypeIs (.ref I) "set_iterator" := ⟨_, hI, rfl⟩
  unfold pyNext
  refine wpAny_bind (wpAny_attempt (wpAny_callSpecial?_slot ht slot_set_next (wpAny_call_entry slot_set_next ht entry_set_next ?_ (args_set_next _))))
  unfold Builtin.«set_iterator.__next__» slotArgs
  refine wpAny_bind (wpAny_pure (wpAny_bind (wpAny_fieldsOf hI rfl ?_)))
  dsimp only [rawInt]
  unfold setEntries
  refine wpAny_bind (wpAny_bind (wpAny_setState_of ho hd hf (wpAny_pure (wpAny_ite_false (by simp) ?_))))
  unfold setNext setsByText
  refine wpAny_bind (wpAny_bind (wpAny_setState_of ho hd hf ?_))
  dsimp only
  have hT : w.params.followText "set-order" = false := by
    unfold ledOf at hw
    cases e : w.params.followText "set-order" with
    | false => rfl
    | true => rw [e] at hw; cases hw
  refine wpAny_bind (wpAny_bind (wpAny_askSetting (wpAny_pure ?_)))
  rw [if_neg (show ¬ (model prog w).w.params.followText "set-order" = true by intro z; exact absurd (hT.symm.trans z) (by decide))]
  refine wpAny_ite_false (by show decide ((!true && _) = true) = false; rfl) (wpAny_bind ?_)
  rw [hw]
  refine (show ∀ (R : Unit → Shared → Prop), R () s → wpAny (model prog w) A.in1 (if (!true && _) = true then _ else pure ()) R _ s from fun R z => wpAny_pure z) _ ?_
  rw [Int.toNat_natCast, below_small b true (by omega), Array.getElem?_eq_none (Nat.le_refl _)]
  refine wpAny_pure ?_
  dsimp only
  refine wpAny_bind (wpAny_setField hI rfl (by show 2 < 5; decide) ?_)
  unfold newExc raiseNew newTuple
  refine wpAny_bind (wpAny_bind (wpAny_newObj_type (wpAny_bind (wpAny_of_eq (a := Value.none) firstArg_stop (wpAny_newObj_type ?_ (sizeOk_excFields ..)))) (Nat.zero_le _)))
  refine wpAny_bind (wpAny_handled ?_)
  rw [show A.in1.handled = none from hA]
  refine wpAny_throw (wpAny_bind (wpAny_isInstance (T := "StopIteration") ⟨_, Heap.get?_push_size _ rfl, rfl⟩ isSubtype_stop (wpAny_ite_true rfl (wpAny_pure ?_))))
  refine h _ fun c ob hc hob => Heap.get?_push_of_some _ (Heap.get?_push_of_some _ ?_)
  rw [Heap.get?_update_ne _ _ _ _ hc]
  exact hob
end L2

namespace L2
open PySem PySem.Spec PyProof.Rows
theorem pickGo_perm {α : Type} (next : Nat → Nat) : ∀ (fuel k : Nat) (left : List α) (out : Array α), left.length = fuel → (pickOrder.go next fuel k left out).toList.Perm (out.toList ++ left)
  | 0, k, left, out, h => by
    rw [pickOrder.go.eq_1, List.length_eq_zero_iff.mp h, List.append_nil]
  | fuel + 1, k, left, out, h => by
    have hl : next k % left.length < left.length := Nat.mod_lt _ (by omega)
    rw [pickOrder.go.eq_2, List.getElem?_eq_getElem hl]
    dsimp only
    refine (pickGo_perm next fuel (k + 1) _ _ (by rw [List.length_eraseIdx, if_pos hl]; omega)).trans ?_
    rw [Array.toList_push, List.append_assoc]
    refine List.Perm.append_left _ ?_
    generalize next k % left.length = j at hl
    have e : left.eraseIdx j = left.take j ++ left.drop (j + 1) := List.eraseIdx_eq_take_drop_succ ..
    rw [e]
    have e2 : left = left.take j ++ left[j] :: left.drop (j + 1) := by
      rw [← List.drop_eq_getElem_cons hl, List.take_append_drop]
    conv => rhs; rw [e2]
    rw [List.singleton_append]
    exact List.perm_middle.symm
theorem pick_perm {α : Type} (next : Nat → Nat) (xs : Array α) : (pickOrder next xs).toList.Perm xs.toList := by
  unfold pickOrder
  have := pickGo_perm next xs.size 0 xs.toList #[] (Array.length_toList ..)
  simpa using this
theorem set_next_text {prog : Program} {w : World} {A : Around} {E : Value → Shared → Prop} {s : Shared} {I a : Addr} {o : Obj} {es : Array (Int × Value)} {ep i : Nat} {b : Nat → Bool} {Q : Option Value → Shared → Prop} (hw : ledOf w = false)
    (hI : s.heap.get? I = some (WalkObj a 0 i es.size ep)) (ho : s.heap.get? a = some o) (hd : o.data = .set es ep (tabS (smallS b) (ledOf w))) (hes : es.size = (smallS b).length) (hi : i < es.size)
    {x : Int × Value} (hx : (pickOrder (w.params.setOrder a ep) es)[i]? = some x)
    (h : ∀ h', Heap.SameBut I s.heap h' → h'.get? I = some (WalkObj a 0 (i + 1) es.size ep) → Q (some x.2) { s with heap := h' }) :
    wpAny (model prog w) A (pyNext (.ref I)) Q E s := by
  have hf : (tabS (smallS b) (ledOf w)).fits es.size = true := by rw [hes]; exact small_fits b _
  have ht : s.TypeIs (.ref I) "set_iterator" := ⟨_, hI, rfl⟩
  have hT : w.params.followText "set-order" = true := by
    unfold ledOf at hw
    cases e : w.params.followText "set-order" with
    | true => rfl
    | false => rw [e] at hw; cases hw
  unfold pyNext
  refine wpAny_bind (wpAny_attempt (wpAny_callSpecial?_slot ht slot_set_next (wpAny_call_entry slot_set_next ht entry_set_next ?_ (args_set_next _))))
  unfold Builtin.«set_iterator.__next__» slotArgs
  refine wpAny_bind (wpAny_pure (wpAny_bind (wpAny_fieldsOf hI rfl ?_)))
  dsimp only [rawInt]
  unfold setEntries
  refine wpAny_bind (wpAny_bind (wpAny_setState_of ho hd hf (wpAny_pure (wpAny_ite_false (by simp) ?_))))
  unfold setNext setWalk setsByText
  refine wpAny_bind (wpAny_bind (wpAny_setState_of ho hd hf ?_))
  dsimp only
  refine wpAny_bind (wpAny_bind (wpAny_askSetting (wpAny_pure ?_)))
  rw [if_pos (show (model prog w).w.params.followText "set-order" = true from hT)]
  refine wpAny_ite_false (by simp) (wpAny_bind (wpAny_bind (wpAny_setState_of ho hd hf ?_)))
  dsimp only
  refine wpAny_bind (wpAny_bind (wpAny_askSetting (wpAny_pure ?_)))
  rw [if_pos (show (model prog w).w.params.followText "set-order" = true from hT)]
  refine wpAny_bind (wpAny_askSetting (wpAny_pure ?_))
  have hx' : (pickOrder ((model prog w).w.params.setOrder a ep) es)[((i : Nat) : Int).toNat]? = some x := by rw [Int.toNat_natCast]; exact hx
  dsimp only
  rw [hx']
  refine wpAny_pure ?_
  dsimp only [Option.map]
  have g1 : (s.heap.update I (Obj.mapFields fun y => y.setIfInBounds 0 (Value.int (((0 : Int).toNat : Nat) : Int) 0))).get? I = some { cls := .type "set_iterator", data := .fields #[Value.int (((0 : Int).toNat : Nat) : Int) 0, rawInt i, .ref a, rawInt es.size, rawInt ep] } :=
    Heap.get?_update_self (o := WalkObj a 0 i es.size ep) _ hI rfl
  refine wpAny_bind (wpAny_setField hI rfl (by show 0 < 5; decide) (wpAny_bind (wpAny_setField g1 rfl (by show 1 < 5; decide) (wpAny_pure ⟨_, rfl, wpAny_pure ?_⟩))))
  refine h _ ((Heap.SameBut.update s.heap I _).trans (Heap.SameBut.update _ I _)) ?_
  exact Heap.get?_update_self _ g1 rfl
end L2

namespace L2
open PySem PySem.Spec PyProof.Rows
theorem set_end_text {prog : Program} {w : World} {A : Around} {E : Value → Shared → Prop} {s : Shared} {I a : Addr} {o : Obj} {es : Array (Int × Value)} {ep : Nat} {b : Nat → Bool} {Q : Option Value → Shared → Prop} (hA : A.handled = none) (hw : ledOf w = false)
    (hI : s.heap.get? I = some (WalkObj a 0 es.size es.size ep)) (ho : s.heap.get? a = some o) (hd : o.data = .set es ep (tabS (smallS b) (ledOf w))) (hes : es.size = (smallS b).length)
    (h : ∀ h', (∀ c ob, c ≠ I → s.heap.get? c = some ob → h'.get? c = some ob) → Q none { s with heap := h' }) :
    wpAny (model prog w) A (pyNext (.ref I)) Q E s := by
  have hf : (tabS (smallS b) (ledOf w)).fits es.size = true := by rw [hes]; exact small_fits b _
  have ht : s.TypeIs (.ref I) "set_iterator" := ⟨_, hI, rfl⟩
  have hT : w.params.followText "set-order" = true := by
    unfold ledOf at hw
    cases e : w.params.followText "set-order" with
    | true => rfl
    | false => rw [e] at hw; cases hw
  unfold pyNext
  refine wpAny_bind (wpAny_attempt (wpAny_callSpecial?_slot ht slot_set_next (wpAny_call_entry slot_set_next ht entry_set_next ?_ (args_set_next _))))
  unfold Builtin.«set_iterator.__next__» slotArgs
  refine wpAny_bind (wpAny_pure (wpAny_bind (wpAny_fieldsOf hI rfl ?_)))
  dsimp only [rawInt]
  unfold setEntries
  refine wpAny_bind (wpAny_bind (wpAny_setState_of ho hd hf (wpAny_pure (wpAny_ite_false (by simp) ?_))))
  unfold setNext setWalk setsByText
  refine wpAny_bind (wpAny_bind (wpAny_setState_of ho hd hf ?_))
  dsimp only
  refine wpAny_bind (wpAny_bind (wpAny_askSetting (wpAny_pure ?_)))
  rw [if_pos (show (model prog w).w.params.followText "set-order" = true from hT)]
  refine wpAny_ite_false (by simp) (wpAny_bind (wpAny_bind (wpAny_setState_of ho hd hf ?_)))
  dsimp only
  refine wpAny_bind (wpAny_bind (wpAny_askSetting (wpAny_pure ?_)))
  rw [if_pos (show (model prog w).w.params.followText "set-order" = true from hT)]
  refine wpAny_bind (wpAny_askSetting (wpAny_pure ?_))
  have hx' : (pickOrder ((model prog w).w.params.setOrder a ep) es)[((es.size : Nat) : Int).toNat]? = none := by
    rw [Int.toNat_natCast]
    refine Array.getElem?_eq_none ?_
    have := (pick_perm (w.params.setOrder a ep) es).length_eq
    rw [Array.length_toList, Array.length_toList] at this
    exact Nat.le_of_eq this
  dsimp only
  rw [hx']
  refine wpAny_pure ?_
  dsimp only [Option.map]
  refine wpAny_bind (wpAny_setField hI rfl (by show 2 < 5; decide) ?_)
  unfold newExc raiseNew newTuple
  refine wpAny_bind (wpAny_bind (wpAny_newObj_type (wpAny_bind (wpAny_of_eq (a := Value.none) firstArg_stop (wpAny_newObj_type ?_ (sizeOk_excFields ..)))) (Nat.zero_le _)))
  refine wpAny_bind (wpAny_handled ?_)
  rw [show A.in1.handled = none from hA]
  refine wpAny_throw (wpAny_bind (wpAny_isInstance (T := "StopIteration") ⟨_, Heap.get?_push_size _ rfl, rfl⟩ isSubtype_stop (wpAny_ite_true rfl (wpAny_pure ?_))))
  refine h _ fun c ob hc hob => Heap.get?_push_of_some _ (Heap.get?_push_of_some _ ?_)
  rw [Heap.get?_update_ne _ _ _ _ hc]
  exact hob
theorem slot_set_self : Slot "set_iterator" (Str.ofString "__iter__") "set_iterator.__iter__" := by
  refine Slot.of (owner := "set_iterator") (n := "__iter__") ?_ ?_ ?_ ?_ ?_ ?_
  · rw [typeLookup_type, builtinLookup_eq_fast]; rfl
  · decide +kernel
  · decide +kernel
  · decide +kernel
  · exact Or.inl (by decide +kernel)
  · rw [isSubtype_type]; rfl
theorem entry_set_self : entryFor table "set_iterator.__iter__" = some Builtin.«dict_keyiterator.__iter__» := entryFor_alias (id' := "dict_keyiterator.__iter__") rfl rfl (by decide +kernel) rfl
theorem args_set_self (a : Value) : argsOk "set_iterator.__iter__" ⟨[a], []⟩ := by
  show _ = _
  rw [signature?_of (rows := Manifest.sig_set_iterator) rfl rfl]
  rfl
/-- the order in which a set is walked -/
def ordS (w : World) (a : Addr) (ep : Nat) (es : Array (Int × Value)) : Array (Int × Value) := if ledOf w = true then es else pickOrder (w.params.setOrder a ep) es
theorem ord_perm (w : World) (a : Addr) (ep : Nat) (es : Array (Int × Value)) : (ordS w a ep es).toList.Perm es.toList := by
  unfold ordS
  split
  · exact List.Perm.refl _
  · exact pick_perm _ _
theorem walks_set {prog : Program} {w : World} {A : Around} {I a : Addr} {o : Obj} {es : Array (Int × Value)} {ep : Nat} {b : Nat → Bool} (hA : A.handled = none) (hd : o.data = .set es ep (tabS (smallS b) (ledOf w))) (hes : es.size = (smallS b).length) (hne : a ≠ I) :
    WalksS prog w A I [I, a] [I] (fun x y => y = x) es.size (fun i v => ∃ x, (ordS w a ep es)[i]? = some x ∧ v = x.2)
      (fun i s => s.heap.get? I = some (WalkObj a (if ledOf w = true then walkSlot (smallS b) i else 0) i es.size ep) ∧ s.heap.get? a = some o) := by
  refine ⟨fun c hc => by rw [List.mem_singleton.mp hc]; exact List.mem_cons_self, fun _ => rfl, fun x y z h1 h2 => h2.trans h1, fun i s h' tk hS _ hk => ⟨hk I List.mem_cons_self _ hS.1, hk a (List.mem_cons_of_mem _ List.mem_cons_self) _ hS.2⟩, fun i s Q E hi hS h => ?_, fun s Q E hS h => ?_, fun i s Q E hS q => ?_⟩
  · cases hw : ledOf w with
    | true =>
      obtain ⟨hI, ho⟩ := hS
      rw [if_pos hw] at hI
      refine set_next hw hI ho hd hes hi hne fun h' hb hI' => h _ _ ⟨es[i], ?_, rfl⟩ ⟨?_, ?_⟩ ?_
      · unfold ordS; rw [if_pos hw, Array.getElem?_eq_getElem hi]
      · rw [if_pos hw]; exact hI'
      · show h'.get? a = some o
        rw [hb.2 a hne]; exact ho
      · exact ⟨fun c ob hc hob => by show h'.get? c = some ob; rw [hb.2 c fun z => hc (by rw [z]; exact List.mem_cons_self)]; exact hob, rfl, rfl, rfl, Nat.le_refl _⟩
    | false =>
      obtain ⟨hI, ho⟩ := hS
      rw [if_neg (by rw [hw]; decide)] at hI
      have hlen := (pick_perm (w.params.setOrder a ep) es).length_eq
      rw [Array.length_toList, Array.length_toList] at hlen
      have hx : (pickOrder (w.params.setOrder a ep) es)[i]? = some (pickOrder (w.params.setOrder a ep) es)[i] := Array.getElem?_eq_getElem (by omega)
      refine set_next_text hw hI ho hd hes hi hx fun h' hb hI' => h _ _ ⟨_, ?_, rfl⟩ ⟨?_, ?_⟩ ?_
      · unfold ordS; rw [if_neg (by rw [hw]; decide)]; exact hx
      · rw [if_neg (by rw [hw]; decide)]; exact hI'
      · show h'.get? a = some o
        rw [hb.2 a hne]; exact ho
      · exact ⟨fun c ob hc hob => by show h'.get? c = some ob; rw [hb.2 c fun z => hc (by rw [z]; exact List.mem_cons_self)]; exact hob, rfl, rfl, rfl, Nat.le_refl _⟩
  · obtain ⟨hI, ho⟩ := hS
    have fin : ∀ h', (∀ c ob, c ≠ I → s.heap.get? c = some ob → h'.get? c = some ob) → Q none { s with heap := h' } := fun h' hk => h _ ⟨fun c ob hc hob => hk c ob (fun z => hc (by rw [z]; exact List.mem_cons_self)) hob, rfl, rfl, rfl, Nat.le_refl _⟩
    cases hw : ledOf w with
    | true => rw [if_pos hw] at hI; exact set_next_end hA hw hI ho hd hes fin
    | false => rw [if_neg (by rw [hw]; decide)] at hI; exact set_end_text hA hw hI ho hd hes fin
  · have ht : s.TypeIs (.ref I) "set_iterator" := ⟨_, hS.1, rfl⟩
    refine wpAny_pyIter_slot ht slot_set_self (wpAny_call_entry slot_set_self ht entry_set_self ?_ (args_set_self _))
    exact wpAny_bind (wpAny_pure (wpAny_pure ⟨_, rfl, "set_iterator", _, ht, slot_set_next.lookup, q⟩))
end L2

namespace L2
open PySem PySem.Spec PyProof.Rows
theorem hint_set {prog : Program} {w : World} {A : Around} {E : Value → Shared → Prop} {s : Shared} {a : Addr} {Q : Bool → Shared → Prop} (ht : s.TypeIs (.ref a) "set") (h : Q false s) : wpAny (model prog w) A (Builtin.List.listLengthHint (.ref a)) Q E s := by
  have hsp : splitId "set.__len__" = some ("set", "__len__") := by decide +kernel
  unfold Builtin.List.listLengthHint
  refine wpAny_bind (wpAny_specialOf ht F.slot_set_len.lookup ?_)
  dsimp only
  rw [hsp]
  dsimp only
  refine wpAny_bind (wpAny_isInstance ht sub_set_self (wpAny_ite_false rfl ?_))
  refine wpAny_ite_true (by decide +kernel) ?_
  refine wpAny_bind (wpAny_typeOf ht ?_)
  exact wpAny_pure h
end L2

namespace L2
open PySem PySem.Spec PyProof.Rows
theorem ints_pairs : ∀ {l : List (Int × Value)}, (∀ x ∈ l, ∃ t, x.2 = Value.int x.1 t) → IntsAre (l.map (·.2)) (l.map (·.1))
  | [], _ => .nil
  | x :: r, h => by
    obtain ⟨t, e⟩ := h x List.mem_cons_self
    rw [List.map_cons, List.map_cons, e]
    exact .cons _ _ (ints_pairs fun y hy => h y (List.mem_cons_of_mem _ hy))
theorem collect_set {prog : Program} {w : World} {A : Around} {E : Value → Shared → Prop} {s : Shared} {a : Addr} {b : Nat → Bool} {Q : List Value → Shared → Prop} (hA : A.handled = none) (hS : SetIs s.heap a b (ledOf w))
    (h : ∀ (h' : Heap) (tk : Nat) (vs : List Value) (ns : List Int), s.heap.objs.size < h'.objs.size → (∀ c ob, s.heap.get? c = some ob → h'.get? c = some ob) → IntsAre vs ns → ns.Perm ((smallS b).map Int.ofNat) → Q vs { s with heap := h', toks := tk }) : wpAny (model prog w) A (collect (.ref a)) Q E s := by
  obtain ⟨o, es, ep, tok, ho, hx, hd, he⟩ := hS
  have hsz : es.size = (smallS b).length := by rw [← Array.length_toList, he, List.length_map]
  have hf : (tabS (smallS b) (ledOf w)).fits es.size = true := by rw [hsz]; exact small_fits b _
  have ho1 : (s.heap.push (seqObj "list" #[] 0)).get? a = some o := Heap.get?_push_of_some _ ho
  have hnew : (s.heap.push (seqObj "list" #[] 0)).get? s.heap.objs.size = some (seqObj "list" #[] 0) := Heap.get?_push_size _ rfl
  unfold collect
  refine wpAny_bind (wpAny_runValue (codeAny_builtin F.entry_proto_collect ?_))
  change wpAny _ _ (do again (.builtin "list.__iadd__" ⟨[← newList [], .ref a], []⟩)) _ _ s
  refine wpAny_bind (wpAny_newList (wpAny_pure ⟨Code.quiet_builtin _ (by decide +kernel), codeAny_builtin F.entry_list_iadd ?_⟩))
  change wpAny _ _ (Builtin.List.listExtendWith (.ref s.heap.objs.size) (.ref a) (.ref s.heap.objs.size)) _ _ { s with heap := s.heap.push (seqObj "list" #[] 0) }
  unfold Builtin.List.listExtendWith
  have haS : s.heap.objs.size ≠ a := fun z => by
    have := Heap.lt_size ho
    rw [z] at this
    exact absurd this (Nat.lt_irrefl _)
  refine wpAny_bind (wpAny_typeOf (T := "set") ⟨o, ho1, hx.1⟩ (wpAny_ite_false ?_ (wpAny_bind (set_iter ho1 hx hd hf rfl (wpAny_bind (wpAny_holding (hint_set ⟨o, Heap.get?_push_of_some _ ho1, hx.1⟩ ?_)))))))
  · show decide ((Builtin.List.listSameRef (.ref s.heap.objs.size) (.ref a) || _ || _) = true) = false
    have : Builtin.List.listSameRef (.ref s.heap.objs.size) (.ref a) = false := by
      show (s.heap.objs.size == a) = false
      exact beq_false_of_ne haS
    rw [this]
    rfl
  refine wpAny_ite_true (by decide +kernel) (wpAny_bind (wpAny_rule ?_))
  have hsz1 : (s.heap.push (seqObj "list" #[] 0)).objs.size = s.heap.objs.size + 1 := size_push' ..
  have hne : a ≠ s.heap.objs.size + 1 := fun z => by
    have := Heap.lt_size ho
    rw [z] at this
    exact absurd (Nat.lt_of_succ_lt this) (Nat.lt_irrefl _)
  dsimp only
  have hI : ((s.heap.push (seqObj "list" #[] 0)).push (WalkObj a 0 0 es.size ep)).get? (s.heap.push (seqObj "list" #[] 0)).objs.size = some (WalkObj a 0 0 es.size ep) := Heap.get?_push_size _ rfl
  have hL2 : ((s.heap.push (seqObj "list" #[] 0)).push (WalkObj a 0 0 es.size ep)).get? s.heap.objs.size = some (seqObj "list" #[] 0) := Heap.get?_push_of_some _ hnew
  have ho2 : ((s.heap.push (seqObj "list" #[] 0)).push (WalkObj a 0 0 es.size ep)).get? a = some o := Heap.get?_push_of_some _ ho1
  have hk2 : ∀ c ob, s.heap.get? c = some ob → c ≠ s.heap.objs.size ∧ ((s.heap.push (seqObj "list" #[] 0)).push (WalkObj a 0 0 es.size ep)).get? c = some ob := fun c ob hc => ⟨fun z => (by
    have := Heap.lt_size hc
    rw [z] at this
    exact absurd this (Nat.lt_irrefl _)), Heap.get?_push_of_some _ (Heap.get?_push_of_some _ hc)⟩
  rw [hsz1] at hI ⊢
  generalize (s.heap.push (seqObj "list" #[] 0)).push (WalkObj a 0 0 es.size ep) = g at *
  unfold Builtin.List.listTouch
  have hL3 : (g.update s.heap.objs.size (Obj.mapSeq fun x => x.push Value.none)).get? s.heap.objs.size = some (seqObj "list" #[Value.none] 1) := Heap.get?_update_self (o := seqObj "list" #[] 0) _ hL2 rfl
  have hL4 : ((g.update s.heap.objs.size (Obj.mapSeq fun x => x.push Value.none)).update s.heap.objs.size (Obj.mapSeq fun x => x.pop)).get? s.heap.objs.size = some (seqObj "list" #[] 2) := Heap.get?_update_self (o := seqObj "list" #[Value.none] 1) _ hL3 rfl
  have hk4 : ∀ c ob, c ≠ s.heap.objs.size → g.get? c = some ob → ((g.update s.heap.objs.size (Obj.mapSeq fun x => x.push Value.none)).update s.heap.objs.size (Obj.mapSeq fun x => x.pop)).get? c = some ob := fun c ob hc hg => by
    rw [Heap.get?_update_ne _ _ _ _ hc, Heap.get?_update_ne _ _ _ _ hc]; exact hg
  refine wpAny_bind (wpAny_bind (listUpdate_at hL2 rfl (listUpdate_at hL3 rfl ?_ (by show 1 ≤ sizeLine; decide +kernel) (Nat.zero_le _)) (Nat.zero_le _) (by show 1 ≤ sizeLine + 1; decide +kernel)))
  generalize (g.update s.heap.objs.size (Obj.mapSeq fun x => x.push Value.none)).update s.heap.objs.size (Obj.mapSeq fun x => x.pop) = g4 at *
  refine wpAny_pure ⟨Code.quiet_builtin _ (by decide +kernel), ?_⟩
  refine codeAny_extend_loopS (walks_set (A := A.in1) (I := s.heap.objs.size + 1) (a := a) (o := o) hA hd hsz hne) (by have := small_le b; exact Nat.le_of_lt (small1000 (by omega))) s.heap.objs.size (fun z => ?_) _ es.size 0 _ #[] 2 rfl (Nat.zero_le _) ⟨?_, hk4 a o (fun z => haS z.symm) ho2⟩ hL4 ⟨rfl, fun j v hj => ?_⟩ fun s' acc c m hacc hit => ?_
  · rcases List.mem_cons.mp z with z | z
    · exact absurd z (Nat.ne_of_lt (Nat.lt_succ_self _))
    · exact haS (List.mem_singleton.mp z)
  · have : (if ledOf w = true then walkSlot (smallS b) 0 else 0) = 0 := by split <;> rfl
    rw [this]
    exact hk4 _ _ (fun z => absurd z.symm (Nat.ne_of_lt (Nat.lt_succ_self _))) hI
  · simp at hj
  · obtain ⟨h', g', d', t', o'⟩ := s'
    have e1 : g' = s.gens := m.gens
    have e2 : d' = s.drawn := m.drawn
    have e3 : o' = s.os := m.os
    subst e1 e2 e3
    refine wpAny_bind (wpAny_load' hacc (wpAny_pure ?_))
    refine h h' t' acc.toList ((ordS w a ep es).toList.map (·.1)) (Heap.lt_size hacc) (fun c ob hc => m.heap c ob (fun z => ?_) (hk4 c ob (hk2 c ob hc).1 (hk2 c ob hc).2)) ?_ ?_
    · rcases List.mem_cons.mp z with z | z
      · exact (hk2 c ob hc).1 z
      · have := Heap.lt_size hc
        rw [List.mem_singleton.mp z] at this
        exact absurd (Nat.lt_of_succ_lt this) (Nat.lt_irrefl _)
    · have hol := (ord_perm w a ep es).length_eq
      rw [Array.length_toList, Array.length_toList] at hol
      have e : acc.toList = (ordS w a ep es).toList.map (·.2) := by
        refine List.ext_getElem? fun j => ?_
        rw [List.getElem?_map, Array.getElem?_toList, Array.getElem?_toList]
        cases hj : acc[j]? with
        | none =>
          have : acc.size ≤ j := Array.getElem?_eq_none_iff.mp hj
          rw [Array.getElem?_eq_none (by have := hit.1; omega)]; rfl
        | some v =>
          obtain ⟨x, hx, rfl⟩ := hit.2 j v hj
          rw [hx]; rfl
      rw [e]
      refine ints_pairs fun x hx => ?_
      have := (ord_perm w a ep es).mem_iff.mp hx
      rw [he] at this
      obtain ⟨u, _, rfl⟩ := List.mem_map.mp this
      exact ⟨_, rfl⟩
    · refine ((ord_perm w a ep es).map _).trans ?_
      rw [he, List.map_map]
      exact List.Perm.refl _
end L2

namespace L2
open PySem PySem.Spec PyProof.Rows
theorem sorted_set {prog : Program} {w : World} {A : Around} {E : Value → Shared → Prop} {s : Shared} {a : Addr} {b : Nat → Bool} {Q : Value → Shared → Prop} (hA : A.handled = none) (hS : SetIs s.heap a b (ledOf w))
    (h : ∀ (l : Addr) (h' : Heap) (tk : Nat) (out : Array Value) (ns : List Int), s.heap.objs.size ≤ l → (∀ c ob, s.heap.get? c = some ob → h'.get? c = some ob) → (∃ n, h'.get? l = some (seqObj "list" out n)) → IntsAre out.toList ns → ns.Perm ((smallS b).map Int.ofNat) → ns.Pairwise (· ≤ ·) → Q (.ref l) { s with heap := h', toks := tk }) :
    wpAny (model prog w) A (call (.builtin "sorted") [.ref a]) Q E s := by
  refine Calls.call_function_entry kind_sorted plain_sorted entry_sorted (args_sorted1 _) ?_
  unfold Builtin.«sorted»
  refine wpAny_bind (m := checkCount "sorted" 1 1 _) (wpAny_pure ?_)
  refine wpAny_bind (collect_set (A := A.in1) hA hS fun h' tk vs ns hlt hk hI hp => wpAny_bind (wpAny_newList ?_ (by have := small_le b; have := hp.length_eq; rw [List.length_map] at this; have := hI.length; exact Nat.le_of_lt (small1000 (by omega)))))
  have hlen : ns.length = (smallS b).length := by rw [hp.length_eq, List.length_map]
  have h6 := small_le b
  have hvl : vs.length = ns.length := hI.length
  have e2 : (h'.push (seqObj "list" vs.toArray 0)).get? h'.objs.size = some (seqObj "list" vs.toArray 0) := Heap.get?_push_size _ rfl
  refine wpAny_bind (wpAny_holding (wpAny_call_entry slot_list_sort ⟨_, e2, rfl⟩ entry_list_sort (list_sort_tree e2 hI (by omega) fun out ns' a1 a2 a3 => ⟨_, rfl, ?_⟩) (args_list_sort _)))
  refine wpAny_pure ⟨_, rfl, ?_⟩
  refine h _ _ _ out ns' (Nat.le_of_lt hlt) (fun c ob hc => ?_) (sortedHeap_at e2) a1 (a2.trans hp) a3
  have hc' := hk c ob hc
  have hcl := Heap.lt_size hc'
  have hp1 : (h'.push (seqObj "list" vs.toArray 0)).get? c = some ob := Heap.get?_push_of_some _ hc'
  exact (sortedHeap_old (Nat.ne_of_lt hcl) (Heap.lt_size hp1)).trans hp1
end L2

namespace L2
open PySem PySem.Spec PyProof.Rows
theorem int_nth : ∀ {vs : List Value} {ns : List Int}, IntsAre vs ns → ∀ (i : Nat) (v : Value), vs[i]? = some v → i < ns.length ∧ ∃ t, v = Value.int (ns.getD i 0) t
  | _, _, .nil, i, v, h => by simp at h
  | _, _, .cons n t hr, 0, v, h => by
    rw [List.getElem?_cons_zero] at h
    cases h
    exact ⟨Nat.zero_lt_succ _, t, rfl⟩
  | _, _, .cons n t hr, i + 1, v, h => by
    rw [List.getElem?_cons_succ] at h
    obtain ⟨h1, t', e⟩ := int_nth hr i v h
    exact ⟨Nat.succ_lt_succ h1, t', e⟩
theorem small_nodup (b : Nat → Bool) : ((smallS b).map Int.ofNat).Nodup := by
  unfold smallS
  exact List.pairwise_map.mpr ((List.nodup_range.filter _).imp fun h z => h (Int.ofNat.inj z))
section
variable {X : Cx}
/-- sorted(set(e)), e a list of whole numbers below 6 -/
def tSortedSet (K : PySem.W.Frag) (te : TE) : TE := fun σ H Q => te σ H fun x H1 => ∃ (p : Addr) (ns : List Int), x = .ref p ∧ SqL K H1 p (ns.map V.int) ∧ (∀ i ∈ ns, 0 ≤ i ∧ i < 6) ∧
  ∀ (l : Addr) (ns' : List Int), H1 l = none → (∀ i, i ∈ ns' ↔ i ∈ ns) → ns'.Nodup → ns'.Pairwise (· ≤ ·) → Q (.ref l) (upd H1 l (.lst (ns'.map V.int)))
theorem pe_sortedSet {e : Expr} {te : TE} {p p2 pos pos2 : Pos} (hc : X.calm = true) (h1 : Gl X "sorted") (m1 : X.mg "sorted" = none) (h2 : Gl X "set") (m2 : X.mg "set" = none) (ha : PE X e te)
    (he : starEach [e] X.env = (false, eval e X.env) :: starEach [] X.env := by rfl) : PE X (.Call (.Name "sorted" p) [.Call (.Name "set" p2) [e] [] pos2] [] pos) (tSortedSet X.K te) := by
  intro pins s σ H Q I h
  refine wpAny_Call_Name_kw (ld_blt I h1 m1 Boot.sorted ?_)
  refine PyProof.Rows.callWith_builtin1 ?_ rfl rfl
  show wpAny _ _ (spliced ((false, eval (.Call (.Name "set" p2) [e] [] pos2) X.env) :: [])) _ _ s
  refine Calls.spliced_cons ?_
  refine wpAny_Call_Name_kw (ld_blt I h2 m2 Boot.set ?_)
  refine PyProof.Rows.callWith_type1 ?_ he rfl
  rw [he]
  show wpAny _ _ (spliced ((false, eval e X.env) :: [])) _ _ s
  refine Calls.spliced_cons (thn (ha pins s σ H _ I h) fun u s1 ⟨x, H1, I1, r1, q1⟩ => ?_)
  obtain ⟨l, ns, rfl, hq, hb, q⟩ := q1
  cases (show u = Value.ref l from r1)
  obtain ⟨its, rv, pl, hz⟩ := I1.list hq
  have hI := ints_are rv
  have hlen : its.length = ns.length := hI.length
  have hA : X.A.handled = none := I1.ok.hd hc
  refine wpAny_pure (call_set_small hA pl.isList (fun i => (ns.getD i 0).toNat) (fun i v hv => ?_) fun h' tk hset hk => wpAny_pure (sorted_set hA hset fun l2 h2 tk2 out ns' hl2 hk2 hat hout hperm hsort => ?_))
  · rw [← Array.getElem?_toList] at hv
    obtain ⟨hi, t, e⟩ := int_nth hI i v (by simpa using hv)
    have hm : ns.getD i 0 ∈ ns := by
      rw [List.getD_eq_getElem?_getD, List.getElem?_eq_getElem hi]
      exact List.getElem_mem hi
    have := hb _ hm
    refine ⟨by omega, t, ?_⟩
    rw [e]
    congr 1
    omega
  · have hmem : ∀ i, i ∈ ns' ↔ i ∈ ns := fun i => by
      rw [hperm.mem_iff, List.mem_map]
      constructor
      · rintro ⟨u, hu, rfl⟩
        obtain ⟨_, hb2⟩ := mem_small.mp hu
        obtain ⟨j, hj, e⟩ := List.any_eq_true.mp hb2
        have e' : u = (ns.getD j 0).toNat := eq_of_beq e
        have hj' : j < ns.length := by
          have := List.mem_range'.mp hj
          simp at this
          omega
        have hm : ns.getD j 0 ∈ ns := by
          rw [List.getD_eq_getElem?_getD, List.getElem?_eq_getElem hj']
          exact List.getElem_mem hj'
        have := hb _ hm
        have : Int.ofNat u = ns.getD j 0 := by rw [e']; show ((ns.getD j 0).toNat : Int) = _; omega
        rw [this]; exact hm
      · intro hi
        have hbi := hb i hi
        obtain ⟨j, hj, e⟩ := List.mem_iff_getElem.mp hi
        refine ⟨i.toNat, mem_small.mpr ⟨by omega, List.any_eq_true.mpr ⟨j, ?_, ?_⟩⟩, by show ((i.toNat : Nat) : Int) = i; omega⟩
        · rw [List.mem_range']
          exact ⟨j, by simp; omega, by omega⟩
        · rw [List.getD_eq_getElem?_getD, List.getElem?_eq_getElem hj, Option.getD_some, e]
          exact beq_self_eq_true _
    obtain ⟨n2, hat⟩ := hat
    have hs1 : s1.heap.objs.size ≤ h'.objs.size := by
      obtain ⟨o, _, _, _, ho, _⟩ := hset
      exact Nat.le_of_lt (Heap.lt_size ho)
    have hle : s1.heap.objs.size ≤ l2 := Nat.le_trans hs1 hl2
    have hnd : ns'.Nodup := hperm.nodup_iff.mpr (small_nodup _)
    refine ⟨.ref l2, _, I1.laid (t' := tk2) (fun c ob hc => hk2 c ob (hk c ob hc)) hle (show ObjOk X.prog X.w _ _ _ (.lst (ns'.map V.int)) from ⟨?_, out.toList, n2, vals_ints hout, by rw [hat]⟩), rfl, q _ ns' (I1.hok.fresh hle) hmem hnd hsort⟩
    have h6 := small_le (fun x => (List.range' 0 its.toArray.size).any fun j => x == (ns.getD j 0).toNat)
    have := hperm.length_eq
    rw [List.length_map] at this ⊢
    exact Nat.le_of_lt (small1000 (by omega))
end
end L2

namespace L2
open PySem PySem.Spec PyProof.Rows
section
variable {X : Cx}
/-- sorted(set(e)), e a tuple of whole numbers below 6 -/
def tSortedSetT (K : PySem.W.Frag) (te : TE) : TE := fun σ H Q => te σ H fun x H1 => ∃ (p : Addr) (ns : List Int), x = .ref p ∧ SqT K H1 p (ns.map V.int) ∧ (∀ i ∈ ns, 0 ≤ i ∧ i < 6) ∧
  ∀ (l : Addr) (ns' : List Int), H1 l = none → (∀ i, i ∈ ns' ↔ i ∈ ns) → ns'.Nodup → ns'.Pairwise (· ≤ ·) → Q (.ref l) (upd H1 l (.lst (ns'.map V.int)))
end
end L2

namespace L2
open PySem PySem.Spec PyProof.Rows
section
variable {X : Cx}
/-- how often a number stands in a list -/
theorem mt_count : MtM X "list.count" (fun x vs H Q => ∃ (l : Addr) (ns : List Int) (k : Int), x = .ref l ∧ vs = [.int k] ∧ SqL X.K H l (ns.map V.int) ∧ Q (.int (ns.count k : Nat)) H) := by
  intro pins s σ H x vs v us Q I rx rv h
  obtain ⟨l, ns, k, rfl, rfl, hq, q⟩ := h
  cases rx
  obtain ⟨u, rfl, tk, rfl⟩ := rv.one
  obtain ⟨its, r, pl, hz⟩ := I.list hq
  exact count_list_ints pl.isList (ints_are r) ⟨.int _, H, I.tok _, ⟨_, rfl⟩, q⟩
theorem mt_countK {K : PySem.W.Frag} (h : X.K = K) : MtM X "list.count" (fun x vs H Q => ∃ (l : Addr) (ns : List Int) (k : Int), x = .ref l ∧ vs = [.int k] ∧ SqL K H l (ns.map V.int) ∧ Q (.int (ns.count k : Nat)) H) := by
  subst h; exact mt_count
end
end L2

namespace L2
open PySem PySem.Spec PyProof.Rows
/-! ### fractions by their worth -/
theorem eqv_dF2 (p q : Int × Int) : PyData.eqv (dF p) (dF q) = decide (p = q) := by
  obtain ⟨a, b⟩ := p
  obtain ⟨c, d⟩ := q
  unfold dF
  by_cases h1 : a = c <;> by_cases h2 : b = d <;> simp [PyData.eqv, PyData.eqvAll, h1, h2]
theorem okD_dF (p : Int × Int) : okD 1 (dF p) = true := rfl
theorem shaped_dF (p : Int × Int) : SeqAt.shaped (dF p) = true := shaped_ok (okD_dF p) (by decide)
structure Wt (p : Int × Int) (a D : Int) : Prop where
  w : p.1 * D = a * p.2
  p2 : p.2 ≠ 0
  d : D ≠ 0
theorem wt_red {a D : Int} (hD : D ≠ 0) : Wt (FQ.red a D) a D := ⟨FQ.red_worth hD, by have := (FQ.red_low (t := a) hD).pos; omega, hD⟩
theorem wt_pair {a D : Int} (hD : D ≠ 0) : Wt (a, D) a D := ⟨rfl, hD, hD⟩
theorem fAdd_wt {p q : Int × Int} {a D b E : Int} (h : Wt p a D) (k : Wt q b E) : fAdd p q = FQ.red (a * E + b * D) (D * E) := by
  unfold fAdd
  refine FQ.red_eq (Int.mul_ne_zero h.p2 k.p2) (Int.mul_ne_zero h.d k.d) ?_
  calc (p.1 * q.2 + q.1 * p.2) * (D * E) = (p.1 * D) * (q.2 * E) + (q.1 * E) * (p.2 * D) := by rw [Int.add_mul]; ac_rfl
    _ = (a * p.2) * (q.2 * E) + (b * q.2) * (p.2 * D) := by rw [h.w, k.w]
    _ = (a * E + b * D) * (p.2 * q.2) := by rw [Int.add_mul]; ac_rfl
theorem fSub_wt {p q : Int × Int} {a D b E : Int} (h : Wt p a D) (k : Wt q b E) : fSub p q = FQ.red (a * E - b * D) (D * E) := by
  unfold fSub
  refine FQ.red_eq (Int.mul_ne_zero h.p2 k.p2) (Int.mul_ne_zero h.d k.d) ?_
  calc (p.1 * q.2 - q.1 * p.2) * (D * E) = (p.1 * D) * (q.2 * E) - (q.1 * E) * (p.2 * D) := by rw [Int.sub_mul]; ac_rfl
    _ = (a * p.2) * (q.2 * E) - (b * q.2) * (p.2 * D) := by rw [h.w, k.w]
    _ = (a * E - b * D) * (p.2 * q.2) := by rw [Int.sub_mul]; ac_rfl
theorem fMul_wt {p q : Int × Int} {a D b E : Int} (h : Wt p a D) (k : Wt q b E) : fMul p q = FQ.red (a * b) (D * E) := by
  unfold fMul
  refine FQ.red_eq (Int.mul_ne_zero h.p2 k.p2) (Int.mul_ne_zero h.d k.d) ?_
  calc (p.1 * q.1) * (D * E) = (p.1 * D) * (q.1 * E) := by ac_rfl
    _ = (a * p.2) * (b * q.2) := by rw [h.w, k.w]
    _ = (a * b) * (p.2 * q.2) := by ac_rfl
theorem red_scale {a D c : Int} (hD : D ≠ 0) (hc : c ≠ 0) : FQ.red (a * c) (D * c) = FQ.red a D := FQ.red_eq (Int.mul_ne_zero hD hc) hD (by ac_rfl)
theorem fAdd_next {T D m c : Int} (hD : D ≠ 0) (hc : c ≠ 0) : fAdd (FQ.red T D) (FQ.red m (D * c)) = FQ.red (T * c + m) (D * c) := by
  rw [fAdd_wt (wt_red hD) (wt_red (Int.mul_ne_zero hD hc))]
  refine FQ.red_eq (Int.mul_ne_zero hD (Int.mul_ne_zero hD hc)) (Int.mul_ne_zero hD hc) ?_
  rw [Int.add_mul, Int.add_mul]
  congr 1 <;> ac_rfl
theorem fSub_next {a b D c : Int} (hD : D ≠ 0) (hc : c ≠ 0) : fSub (FQ.red a D) (FQ.red b (D * c)) = FQ.red (a * c - b) (D * c) := by
  rw [fSub_wt (wt_red hD) (wt_red (Int.mul_ne_zero hD hc))]
  refine FQ.red_eq (Int.mul_ne_zero hD (Int.mul_ne_zero hD hc)) (Int.mul_ne_zero hD hc) ?_
  rw [Int.sub_mul, Int.sub_mul]
  congr 1 <;> ac_rfl
theorem red_nothing {m D : Int} (hD : D ≠ 0) : FQ.red m D = (0, 1) ↔ m = 0 := by
  constructor
  · intro h
    have := FQ.red_worth (t := m) hD
    rw [h] at this
    simp at this
    omega
  · rintro rfl
    exact red_zero hD
theorem lessF_wt {p q : Int × Int} {a D b E : Int} (h : Wt p a D) (k : Wt q b E) (hp : 0 < p.2) (hq : 0 < q.2) (hD : 0 < D) (hE : 0 < E) : lessF p q = decide (a * E < b * D) := by
  have key : (p.1 * q.2) * (D * E) = (a * E) * (p.2 * q.2) ∧ (q.1 * p.2) * (D * E) = (b * D) * (p.2 * q.2) := by
    constructor
    · calc (p.1 * q.2) * (D * E) = (p.1 * D) * (q.2 * E) := by ac_rfl
        _ = (a * p.2) * (q.2 * E) := by rw [h.w]
        _ = _ := by ac_rfl
    · calc (q.1 * p.2) * (D * E) = (q.1 * E) * (p.2 * D) := by ac_rfl
        _ = (b * q.2) * (p.2 * D) := by rw [k.w]
        _ = _ := by ac_rfl
  have h1 : 0 < D * E := Int.mul_pos hD hE
  have h2 : 0 < p.2 * q.2 := Int.mul_pos hp hq
  unfold lessF
  refine decide_eq_decide.mpr ⟨fun z => ?_, fun z => ?_⟩
  · have := Int.mul_lt_mul_of_pos_right z h1
    rw [key.1, key.2] at this
    exact Int.lt_of_mul_lt_mul_right this (Int.le_of_lt h2)
  · have := Int.mul_lt_mul_of_pos_right z h2
    rw [← key.1, ← key.2] at this
    exact Int.lt_of_mul_lt_mul_right this (Int.le_of_lt h1)
theorem lessF_red {a D b E : Int} (hD : 0 < D) (hE : 0 < E) : lessF (FQ.red a D) (FQ.red b E) = decide (a * E < b * D) :=
  lessF_wt (wt_red (by omega)) (wt_red (by omega)) (FQ.red_low (by omega)).pos (FQ.red_low (by omega)).pos hD hE
theorem Sz_redN {a D : Int} {n : Nat} (hD : D ≠ 0) (h1 : a.natAbs < 2 ^ n) (h2 : D.natAbs < 2 ^ n) : Sz n (FQ.red a D) := by
  have s := FQ.red_small (t := a) hD
  have p := (FQ.red_low (t := a) hD).pos
  exact ⟨Nat.lt_of_le_of_lt s.1 h1, Nat.lt_of_le_of_lt s.2 h2, by omega⟩
/-- sums of fractions, one behind the other -/
def totF (ps : List (Int × Int)) : Int × Int := ps.foldl fAdd (0, 1)
theorem totF_snoc (ps : List (Int × Int)) (p : Int × Int) : totF (ps ++ [p]) = fAdd (totF ps) p := by unfold totF; rw [List.foldl_append]; rfl
theorem totF_frGo {D : Int} (hD : D ≠ 0) : ∀ (ms : List Int) (a : Int), (fr D ms).foldl fAdd (FQ.red a D) = FQ.red (a + ms.sum) D
  | [], a => by simp [fr]
  | m :: ms, a => by
    show (fr D ms).foldl fAdd (fAdd (FQ.red a D) (FQ.red m D)) = _
    rw [fAdd_red hD, totF_frGo hD ms, List.sum_cons, Int.add_assoc]
theorem totF_fr {D : Int} (hD : D ≠ 0) (ms : List Int) : totF (fr D ms) = FQ.red ms.sum D := by
  have := totF_frGo hD ms 0
  rw [red_zero hD, Int.zero_add] at this
  exact this
theorem fAdd_size {m n : Nat} {x y : Int × Int} (hx : Sz m x) (hy : Sz n y) : Sz (m + n + 1) (fAdd x y) := by
  obtain ⟨x1, x2, x0⟩ := hx
  obtain ⟨y1, y2, y0⟩ := hy
  refine Sz_redN (Int.mul_ne_zero x0 y0) (add_size (mul_size x1 y2) (by rw [Nat.add_comm]; exact mul_size y1 x2)) (size_up (mul_size x2 y2) (by omega))
theorem totF_size : ∀ (k : Nat) {ps : List (Int × Int)}, ps.length = k → (∀ p ∈ ps, Sz 30 p) → Sz (31 * k + 1) (totF ps)
  | 0, ps, hl, _ => by rw [List.eq_nil_of_length_eq_zero hl]; exact ⟨by decide, by decide, by decide⟩
  | k + 1, ps, hl, h => by
    have hne : ps ≠ [] := fun z => by rw [z] at hl; cases hl
    have e := List.dropLast_concat_getLast hne
    rw [← e, totF_snoc]
    have h1 := totF_size k (ps := ps.dropLast) (by rw [List.length_dropLast]; omega) fun p hp => h p (List.dropLast_subset _ hp)
    have h2 := h _ (List.getLast_mem hne)
    exact (fAdd_size h1 h2).up (by omega)
theorem totF_ok {ps : List (Int × Int)} (hl : ps.length ≤ 60) (h : ∀ p ∈ ps, Sz 30 p) : Sz 4000 (totF ps) := (totF_size _ rfl h).up (by omega)
def spTotF (K : PySem.W.Frag) : Sp := fun vs H Q _ => ∃ (a : Addr) (gs : List V) (ps : List (Int × Int)), vs = [.ref a] ∧ SqL K H a gs ∧ Paired (IsF K H) gs ps ∧ (∀ p ∈ ps, Sz 30 p) ∧ ps.length ≤ 60 ∧ ∀ v H', Same H H' → IsF K H' v (totF ps) → Q v H'
/-- the first of the smallest -/
def leastGo (s : Int × Int) (ps : List (Int × Int)) : Int × Int := ps.foldl (fun s p => if lessF p s = true then p else s) s
def leastF (ps : List (Int × Int)) : Int × Int := leastGo (ps.headD (0, 1)) ps
def spLeast (K : PySem.W.Frag) : Sp := fun vs H Q _ => ∃ (a : Addr) (gs : List V) (ps : List (Int × Int)), vs = [.ref a] ∧ SqL K H a gs ∧ Paired (IsF K H) gs ps ∧ ps ≠ [] ∧ ps.length ≤ 60 ∧ (∀ p ∈ ps, Sz 4000 p) ∧ ∀ v, IsF K H v (leastF ps) → Q v H
/-! ### eating -/
open EM in
def dishT (D : Int) (ds ms : List Int) (t : Int) : Int × Int := FQ.red (at0 ms t) (D * cnt ds t)
open EM in
theorem least_pickGo {D : Int} {ds ms : List Int} (hD : 0 < D) : ∀ (r : List Int) (s : Int), s ∈ ds → (∀ t ∈ r, t ∈ ds) → leastGo (dishT D ds ms s) (r.map (dishT D ds ms)) = dishT D ds ms (pickGo ds ms s r)
  | [], s, _, _ => rfl
  | t :: r, s, hs, hr => by
    have ht := hr t List.mem_cons_self
    have hr' : ∀ u ∈ r, u ∈ ds := fun u hu => hr u (List.mem_cons_of_mem _ hu)
    have ps : 0 < D * cnt ds s := Int.mul_pos hD (cnt_pos hs)
    have pt : 0 < D * cnt ds t := Int.mul_pos hD (cnt_pos ht)
    have e : lessF (dishT D ds ms t) (dishT D ds ms s) = decide (at0 ms t * cnt ds s < at0 ms s * cnt ds t) := by
      unfold dishT
      rw [lessF_red pt ps]
      refine decide_eq_decide.mpr ?_
      have e1 : at0 ms t * (D * cnt ds s) = (at0 ms t * cnt ds s) * D := by ac_rfl
      have e2 : at0 ms s * (D * cnt ds t) = (at0 ms s * cnt ds t) * D := by ac_rfl
      rw [e1, e2]
      exact ⟨fun z => Int.lt_of_mul_lt_mul_right z (Int.le_of_lt hD), fun z => Int.mul_lt_mul_of_pos_right z hD⟩
    show leastGo (if lessF (dishT D ds ms t) (dishT D ds ms s) = true then dishT D ds ms t else dishT D ds ms s) (r.map (dishT D ds ms)) = dishT D ds ms (pickGo ds ms (if at0 ms t * cnt ds s < at0 ms s * cnt ds t then t else s) r)
    rw [e]
    by_cases c : at0 ms t * cnt ds s < at0 ms s * cnt ds t
    · rw [if_pos (decide_eq_true c), if_pos c]
      exact least_pickGo hD r t ht hr'
    · rw [if_neg (by simpa using c), if_neg c]
      exact least_pickGo hD r s hs hr'
theorem least_pick {D : Int} {ds ms : List Int} (hD : 0 < D) (hne : ds ≠ []) : leastF (ds.map (dishT D ds ms)) = dishT D ds ms (EM.pick ds ms) := by
  cases ds with
  | nil => exact absurd rfl hne
  | cons a r => exact least_pickGo (ds := a :: r) hD (a :: r) a List.mem_cons_self fun _ h => h
def spBestL (K : PySem.W.Frag) : Sp := fun vs H Q _ => ∃ (w l : Addr) (row ms : List Int) (D : Int) (gs : List V), vs = [.ref w, .ref l] ∧ SqT K H w (row.map V.int) ∧ SqL K H l gs ∧ Paired (IsF K H) gs (fr D ms) ∧ 0 < D ∧
  (∀ t ∈ row, 0 ≤ t ∧ t < ms.length) ∧ row.length ≤ 63 ∧ (∃ t ∈ row, EM.at0 ms t ≠ 0) ∧ ∀ H', Same H H' → Q (.int (EM.best ms row)) H'
def spTimeS (K : PySem.W.Frag) : Sp := fun vs H Q _ => ∃ (d l : Addr) (ds ms : List Int) (D : Int) (gs : List V), vs = [.ref d, .ref l] ∧ SqL K H d (ds.map V.int) ∧ SqL K H l gs ∧ Paired (IsF K H) gs (fr D ms) ∧ 0 < D ∧ D ≤ 262144 ∧ ds ≠ [] ∧ ds.length ≤ 6 ∧
  (∀ t ∈ ds, 0 ≤ t ∧ t < ms.length) ∧ (∀ m ∈ ms, 0 ≤ m ∧ m ≤ D) ∧ ∀ v H', Same H H' → IsF K H' v (dishT D ds ms (EM.pick ds ms)) → Q v H'
def spLeftB (K : PySem.W.Frag) : Sp := fun vs H Q _ => ∃ (d l p : Addr) (ds ms : List Int) (D c m : Int) (gs : List V), vs = [.ref d, .ref l, .ref p] ∧ SqL K H d (ds.map V.int) ∧ SqL K H l gs ∧ Paired (IsF K H) gs (fr D ms) ∧ IsF K H (.ref p) (FQ.red m (D * c)) ∧
  0 < D ∧ D ≤ 262144 ∧ 0 < c ∧ c ≤ 6 ∧ 0 ≤ m ∧ m ≤ D ∧ ds.length ≤ 6 ∧ ms.length ≤ 6 ∧ (∀ m ∈ ms, 0 ≤ m ∧ m ≤ D) ∧
  ∀ q gs' H', Same H H' → H q = none → H' q = some (.lst gs') → Paired (IsF K H') gs' (fr (D * c) ((LM.rng ms.length).map fun j => EM.at0 ms j * c - EM.cnt ds j * m)) → Q (.ref q) H'
/-- a course as it lies: the list of dishes is not P -/
def IsC (K : PySem.W.Frag) (P : Addr) (H : Hp) (v : V) (c : EM.Course) : Prop := ∃ a l d g, v = .ref a ∧ SqT K H a [.ref l, .ref d, .ref g] ∧ IsF K H (.ref l) (FQ.red c.m c.D) ∧ H d = some (.lst (c.ds.map V.int)) ∧ SqT K H g (c.gone.map V.int) ∧ d ≠ P
theorem IsC.mono {K : PySem.W.Frag} {P : Addr} {H H' : Hp} {v : V} {c : EM.Course} (e : Same H H') (h : IsC K P H v c) : IsC K P H' v c := by
  obtain ⟨a, l, d, g, rfl, h1, h2, h3, h4, h5⟩ := h
  exact ⟨a, l, d, g, rfl, e.tup h1, h2.mono e, e _ _ h3, e.tup h4, h5⟩
theorem IsC.over {K : PySem.W.Frag} {P : Addr} {H : Hp} {v : V} {c : EM.Course} {ys zs : List V} (h : IsC K P H v c) (hp : H P = some (.lst ys)) : IsC K P (upd H P (.lst zs)) v c := by
  obtain ⟨a, l, d, g, rfl, h1, h2, h3, h4, h5⟩ := h
  exact ⟨a, l, d, g, rfl, tup_over h1 hp, h2.over hp, by rw [upd_ne h5]; exact h3, tup_over h4 hp, h5⟩
def IsC2 (K : PySem.W.Frag) (H : Hp) (v : V) (c : EM.Course) : Prop := ∃ a l d g, v = .ref a ∧ SqT K H a [.ref l, d, .ref g] ∧ IsF K H (.ref l) (FQ.red c.m c.D) ∧ SqT K H g (c.gone.map V.int)
theorem IsC.two {K : PySem.W.Frag} {P : Addr} {H : Hp} {v : V} {c : EM.Course} (h : IsC K P H v c) : IsC2 K H v c := by
  obtain ⟨a, l, d, g, rfl, h1, h2, h3, h4, h5⟩ := h
  exact ⟨a, l, _, g, rfl, h1, h2, h4⟩
theorem IsC2.mono {K : PySem.W.Frag} {H H' : Hp} {v : V} {c : EM.Course} (e : Same H H') (h : IsC2 K H v c) : IsC2 K H' v c := by
  obtain ⟨a, l, d, g, rfl, h1, h2, h4⟩ := h
  exact ⟨a, l, d, g, rfl, e.tup h1, h2.mono e, e.tup h4⟩
theorem IsC2.over {K : PySem.W.Frag} {P : Addr} {H : Hp} {v : V} {c : EM.Course} {ys zs : List V} (h : IsC2 K H v c) (hp : H P = some (.lst ys)) : IsC2 K (upd H P (.lst zs)) v c := by
  obtain ⟨a, l, d, g, rfl, h1, h2, h4⟩ := h
  exact ⟨a, l, d, g, rfl, tup_over h1 hp, h2.over hp, tup_over h4 hp⟩
def courses (W : List (List Int)) (n N : Nat) : List EM.Course := (List.range N).map fun i => EM.cs W (EM.st W n i)
theorem courses_at {W : List (List Int)} {n N i : Nat} {c : EM.Course} (h : (courses W n N)[i]? = some c) : i < N ∧ c = EM.cs W (EM.st W n i) := by
  unfold courses at h
  rw [List.getElem?_map] at h
  by_cases hi : i < N
  · rw [List.getElem?_range hi] at h
    exact ⟨hi, (Option.some.inj h).symm⟩
  · rw [List.getElem?_eq_none (by rw [List.length_range]; omega)] at h
    cases h
def spCourses (K : PySem.W.Frag) : Sp := fun vs H Q _ => ∃ (a : Addr) (ws : List V) (W : List (List Int)) (n : Nat), vs = [.ref a] ∧ SqL K H a ws ∧ Paired (IsR K H) ws W ∧ EM.Ws n W ∧
  ∀ p cs N H', Same H H' → H p = none → H' p = some (.lst cs) → EM.Stops W n N → Paired (IsC K p H') cs (courses W n N) → Q (.ref p) H'
def spEatenOf (K : PySem.W.Frag) : Sp := fun vs H Q _ => ∃ (c : Addr) (cs : List V) (W : List (List Int)) (n N p : Nat) (t : Int), vs = [.ref c, .int p, .int t] ∧ H c = some (.lst cs) ∧ EM.Ws n W ∧ EM.Upto W n N ∧ Paired (IsC K c H) cs (courses W n N) ∧ p < n ∧
  ∀ v H', Same H H' → IsF K H' v (FQ.red (EM.et W n N p t) (EM.st W n N).D) → Q v H'
def eatRow (W : List (List Int)) (n N p : Nat) : List Int := (LM.rng n).map (EM.et W n N p)
def eatRows (W : List (List Int)) (n N : Nat) : List (List Int) := (List.range n).map (eatRow W n N)
def spEatenBy (K : PySem.W.Frag) : Sp := fun vs H Q _ => ∃ (c : Addr) (cs : List V) (W : List (List Int)) (n N p : Nat), vs = [.ref c, .int p, .int n] ∧ H c = some (.lst cs) ∧ EM.Ws n W ∧ EM.Upto W n N ∧ Paired (IsC K c H) cs (courses W n N) ∧ p < n ∧
  ∀ v H', Same H H' → RwFT K H' (EM.st W n N).D v (eatRow W n N p) → Q v H'
def spEaten (K : PySem.W.Frag) : Sp := fun vs H Q _ => ∃ (a : Addr) (ws : List V) (W : List (List Int)) (n : Nat), vs = [.ref a] ∧ SqL K H a ws ∧ Paired (IsR K H) ws W ∧ EM.Ws n W ∧
  ∀ p us N H', Same H H' → H p = none → H' p = some (.lst us) → EM.Stops W n N → Paired (RwFT K H' (EM.st W n N).D) us (eatRows W n N) → Q (.ref p) H'
structure Stop where
  T : Int
  D : Int
  g : List Int
def IsStop (K : PySem.W.Frag) (H : Hp) (v : V) (s : Stop) : Prop := ∃ a l g, v = .ref a ∧ SqT K H a [.ref l, .ref g] ∧ IsF K H (.ref l) (FQ.red s.T s.D) ∧ SqT K H g (s.g.map V.int)
theorem IsStop.mono {K : PySem.W.Frag} {H H' : Hp} {v : V} {c : Stop} (e : Same H H') (h : IsStop K H v c) : IsStop K H' v c := by
  obtain ⟨a, l, g, rfl, h1, h2, h4⟩ := h
  exact ⟨a, l, g, rfl, e.tup h1, h2.mono e, e.tup h4⟩
theorem IsStop.over {K : PySem.W.Frag} {P : Addr} {H : Hp} {v : V} {c : Stop} {ys zs : List V} (h : IsStop K H v c) (hp : H P = some (.lst ys)) : IsStop K (upd H P (.lst zs)) v c := by
  obtain ⟨a, l, g, rfl, h1, h2, h4⟩ := h
  exact ⟨a, l, g, rfl, tup_over h1 hp, h2.over hp, tup_over h4 hp⟩
theorem IsStop.rep {K : PySem.W.Frag} {H : Hp} {v : V} {s : Stop} (h : IsStop K H v s) (hl : s.g.length ≤ 1000) : Rep K H v (.tuple [dF (FQ.red s.T s.D), .tuple (s.g.map PyData.int)]) := by
  obtain ⟨a, l, g, rfl, h1, h2, h4⟩ := h
  exact .tup h1 (.cons h2.rep (.cons (.tup h4 (Reps.ints _) (by rw [List.length_map]; exact hl)) .nil)) (by simp)
theorem Reps.of_stops {K : PySem.W.Frag} {H : Hp} : ∀ {xs : List V} {Z : List Stop}, Paired (IsStop K H) xs Z → (∀ s ∈ Z, s.g.length ≤ 1000) → Reps K H xs (Z.map fun s => .tuple [dF (FQ.red s.T s.D), .tuple (s.g.map PyData.int)])
  | _, _, .nil, _ => .nil
  | _, _, .cons h t, hl => .cons (h.rep (hl _ List.mem_cons_self)) (Reps.of_stops t fun r hr => hl r (List.mem_cons_of_mem _ hr))
def stopAt (W : List (List Int)) (n i : Nat) : Stop := ⟨(EM.st W n (i + 1)).T, (EM.st W n (i + 1)).D, (EM.cs W (EM.st W n i)).gone⟩
def stopsOf (W : List (List Int)) (n N : Nat) : List Stop := (List.range N).map (stopAt W n)
def spStops (K : PySem.W.Frag) : Sp := fun vs H Q _ => ∃ (a : Addr) (ws : List V) (W : List (List Int)) (n : Nat), vs = [.ref a] ∧ SqL K H a ws ∧ Paired (IsR K H) ws W ∧ EM.Ws n W ∧
  ∀ p ts N H', Same H H' → H p = none → H' p = some (.lst ts) → EM.Stops W n N → Paired (IsStop K H') ts (stopsOf W n N) → Q (.ref p) H'
/-! ### the law's own walk -/
theorem inV_int (t : Int) : ∀ G : List Int, inV (.int t) (G.map V.int) = decide (t ∈ G)
  | [] => by simp [inV]
  | x :: G => by
    have ih := inV_int t G
    unfold inV at ih ⊢
    rw [List.map_cons, List.any_cons, ih]
    by_cases h1 : x = t
    · subst h1; simp [eqV]
    · by_cases h2 : t ∈ G
      · simp [h2]
      · have h3 : t ≠ x := fun z => h1 z.symm
        simp [eqV, h1, h2, h3]
theorem flat_ints (G : List Int) : (G.map V.int).all flatV = true := by
  rw [List.all_eq_true]
  intro v hv
  obtain ⟨i, _, rfl⟩ := List.mem_map.mp hv
  rfl
/-- rows of fractions over one bottom, each a list of its own -/
structure RowsF (K : PySem.W.Frag) (H0 H : Hp) (L : Addr) (rs : List Addr) (D : Int) (M : List (List Int)) : Prop where
  lst : H L = some (.lst (rs.map V.ref))
  rows : Paired (fun r (m : List Int) => ∃ gs, H r = some (.lst gs) ∧ Paired (IsF K H) gs (fr D m)) rs M
  nd : rs.Nodup
  fresh : ∀ r ∈ rs, H0 r = none
  frL : H0 L = none
  nL : L ∉ rs
section
variable {K : PySem.W.Frag} {H0 H H' : Hp} {L : Addr} {rs : List Addr} {D : Int} {M : List (List Int)}
theorem RowsF.mono (R : RowsF K H0 H L rs D M) (e : Same H H') : RowsF K H0 H' L rs D M :=
  ⟨e _ _ R.lst, Paired.mapP R.rows fun _ _ ⟨gs, h1, h2⟩ => ⟨gs, e _ _ h1, fracs_mono e h2⟩, R.nd, R.fresh, R.frL, R.nL⟩
theorem RowsF.get (R : RowsF K H0 H L rs D M) {i : Nat} {m : List Int} (h : M[i]? = some m) : ∃ r gs, rs[i]? = some r ∧ H r = some (.lst gs) ∧ Paired (IsF K H) gs (fr D m) := by
  obtain ⟨r, h1, gs, h2, h3⟩ := Paired.get R.rows h
  exact ⟨r, gs, h1, h2, h3⟩
theorem RowsF.len (R : RowsF K H0 H L rs D M) : rs.length = M.length := Paired.len R.rows
/-- another list is changed -/
theorem RowsF.over {p : Addr} {ys zs : List V} (R : RowsF K H0 H L rs D M) (hp : H p = some (.lst ys)) (h1 : p ≠ L) (h2 : p ∉ rs) : RowsF K H0 (upd H p (.lst zs)) L rs D M := by
  refine ⟨by rw [upd_ne (Ne.symm h1)]; exact R.lst, ?_, R.nd, R.fresh, R.frL, R.nL⟩
  have : ∀ {rs : List Addr} {M : List (List Int)}, p ∉ rs → Paired (fun r (m : List Int) => ∃ gs, H r = some (.lst gs) ∧ Paired (IsF K H) gs (fr D m)) rs M → Paired (fun r (m : List Int) => ∃ gs, upd H p (.lst zs) r = some (.lst gs) ∧ Paired (IsF K (upd H p (.lst zs))) gs (fr D m)) rs M := by
    intro rs M hn h
    induction h with
    | nil => exact .nil
    | cons a b ih =>
      obtain ⟨gs, h1, h2⟩ := a
      refine .cons ⟨gs, ?_, Paired.mapP h2 fun _ _ q => q.over hp⟩ (ih fun z => hn (List.mem_cons_of_mem _ z))
      rw [upd_ne (fun z => hn (by rw [z]; exact List.mem_cons_self))]
      exact h1
  exact this h2 R.rows
/-- one row is changed -/
theorem RowsF.upd {r : Addr} {j : Nat} {gs gs' : List V} {m' : List Int} (R : RowsF K H0 H L rs D M) (h : rs[j]? = some r) (hr : H r = some (.lst gs)) (hg : Paired (IsF K H) gs' (fr D m')) : RowsF K H0 (L2.upd H r (.lst gs')) L rs D (M.set j m') := by
  refine ⟨by rw [upd_ne (fun z => R.nL (by rw [z]; exact List.mem_of_getElem? h))]; exact R.lst, ?_, R.nd, R.fresh, R.frL, R.nL⟩
  have keep : ∀ {rs : List Addr} {M : List (List Int)}, r ∉ rs → Paired (fun r (m : List Int) => ∃ gs, H r = some (.lst gs) ∧ Paired (IsF K H) gs (fr D m)) rs M → Paired (fun r' (m : List Int) => ∃ gs, L2.upd H r (.lst gs') r' = some (.lst gs) ∧ Paired (IsF K (L2.upd H r (.lst gs'))) gs (fr D m)) rs M := by
    intro rs M hn h
    induction h with
    | nil => exact .nil
    | cons a b ih =>
      obtain ⟨gs, h1, h2⟩ := a
      refine .cons ⟨gs, ?_, Paired.mapP h2 fun _ _ q => q.over hr⟩ (ih fun z => hn (List.mem_cons_of_mem _ z))
      rw [upd_ne (fun z => hn (by rw [z]; exact List.mem_cons_self))]
      exact h1
  have : ∀ {rs : List Addr} {M : List (List Int)} {j : Nat}, rs.Nodup → rs[j]? = some r → Paired (fun r (m : List Int) => ∃ gs, H r = some (.lst gs) ∧ Paired (IsF K H) gs (fr D m)) rs M → Paired (fun r' (m : List Int) => ∃ gs, L2.upd H r (.lst gs') r' = some (.lst gs) ∧ Paired (IsF K (L2.upd H r (.lst gs'))) gs (fr D m)) rs (M.set j m') := by
    intro rs M j nd e h
    induction h generalizing j with
    | nil => simp at e
    | cons a b ih =>
      cases j with
      | zero =>
        simp at e
        subst e
        exact .cons ⟨gs', upd_same, Paired.mapP hg fun _ _ q => q.over hr⟩ (keep (List.nodup_cons.mp nd).1 b)
      | succ j =>
        have e' : _ := (by simpa using e : _)
        obtain ⟨gs1, h1, h2⟩ := a
        refine .cons ⟨gs1, ?_, Paired.mapP h2 fun _ _ q => q.over hr⟩ (ih (List.nodup_cons.mp nd).2 e')
        rw [upd_ne (fun z => (List.nodup_cons.mp nd).1 (by rw [z]; exact List.mem_of_getElem? e'))]
        exact h1
  exact this R.nd h R.rows
end
/-- what has been eaten of each thing -/
def gone1 (W : List (List Int)) (n i : Nat) : List Int := (LM.rng n).map fun t => (EM.st W n i).D - EM.at0 (EM.st W n i).ms t
theorem stops_at {W : List (List Int)} {n N i : Nat} {c : Stop} (h : (stopsOf W n N)[i]? = some c) : i < N ∧ c = stopAt W n i := by
  unfold stopsOf at h
  rw [List.getElem?_map] at h
  by_cases hi : i < N
  · rw [List.getElem?_range hi] at h
    exact ⟨hi, (Option.some.inj h).symm⟩
  · rw [List.getElem?_eq_none (by rw [List.length_range]; omega)] at h
    cases h
def addsTo (e ds : List Int) (m : Int) : List Int := ds.foldl (fun e t => LM.addOne e t m) e
theorem addOne_at {e : List Int} {t u m : Int} (h0 : 0 ≤ t) (h1 : t < e.length) (u0 : 0 ≤ u) : EM.at0 (LM.addOne e t m) u = EM.at0 e u + if t = u then m else 0 := by
  unfold EM.at0 LM.addOne
  rw [List.getD_eq_getElem?_getD]
  by_cases h : t = u
  · subst h
    rw [List.getElem?_set_self (by omega), if_pos rfl]
    rfl
  · rw [List.getElem?_set_ne (fun z => h (by omega)), if_neg h, Int.add_zero, List.getD_eq_getElem?_getD]
def spIsStop (K : PySem.W.Frag) : Sp := fun vs H Q _ => ∃ (v : V) (s : Stop) (n : Nat), vs = [v, .int n] ∧ IsStop K H v s ∧ 0 < s.D ∧ n ≤ 6 ∧ s.g ≠ [] ∧ s.g.Nodup ∧ s.g.Pairwise (· ≤ ·) ∧ (∀ t ∈ s.g, 0 ≤ t ∧ t < n) ∧ ∀ H', Same H H' → Q (.bl true) H'
def spWalked (K : PySem.W.Frag) : Sp := fun vs H Q _ => ∃ (a t : Addr) (ws ts : List V) (W : List (List Int)) (n N : Nat), vs = [.ref a, .ref t] ∧ SqL K H a ws ∧ Paired (IsR K H) ws W ∧ EM.Ws n W ∧ EM.Stops W n N ∧ H t = some (.lst ts) ∧ Paired (IsStop K H) ts (stopsOf W n N) ∧
  ∀ p us H', Same H H' → H p = none → H' p = some (.lst us) → Paired (RwFT K H' (EM.st W n N).D) us (eatRows W n N) → Q (.ref p) H'
end L2

namespace L2
open PySem PySem.Spec PyProof.Rows
/-! ### x in a list of data, deep -/
section
variable {X : Cx} {K : PySem.W.Frag}
def rInD (K : PySem.W.Frag) (neg : Bool) : R2 := fun x y H Q => ∃ d ds, Rep K H y (.list ds) ∧ Rep K H x d ∧ SeqAt.shaped (.list ds) = true ∧ SeqAt.shaped d = true ∧ (∀ e ∈ ds, SeqAt.noMix e d = true) ∧ Q (.bl (if neg then !decide (countIn d ds ≠ 0) else decide (countIn d ds ≠ 0))) H
end
theorem same_ints : ∀ a b : List Int, sameAll (a.map PyData.int) (b.map PyData.int) = decide (a = b)
  | [], [] => by simp [sameAll]
  | [], _ :: _ => by simp [sameAll]
  | _ :: _, [] => by simp [sameAll]
  | x :: a, y :: b => by
    simp only [List.map_cons, sameAll, same, same_ints a b]
    by_cases h1 : x = y <;> by_cases h2 : a = b <;> simp [h1, h2]
theorem same_rows (a b : List Int) : same (.tuple (a.map PyData.int)) (.tuple (b.map PyData.int)) = decide (a = b) := by
  simp only [same, same_ints]
end L2

namespace L2
open PySem PySem.Spec PyProof.Rows
/-! ### lots: whole weights over one bottom, with deals -/
abbrev Lot := Int × List Int
def cw (Ls : List Lot) (i : Nat) : Int := ((Ls.take i).map Prod.fst).sum
theorem cw_succ {Ls : List Lot} {i : Nat} {l : Lot} (h : Ls[i]? = some l) : cw Ls (i + 1) = cw Ls i + l.1 := by
  unfold cw
  rw [List.take_add_one, h, List.map_append, List.sum_append]
  simp
structure LotsOk (n : Nat) (Ls : List Lot) (T : Int) : Prop where
  tot : cw Ls Ls.length = T
  w1 : ∀ l ∈ Ls, 1 ≤ l.1
  w2 : ∀ l ∈ Ls, l.1 ≤ 1000000000000
  ne : 1 ≤ Ls.length
  le : Ls.length ≤ 40
  dl : ∀ l ∈ Ls, l.2.length = n
section
variable {n : Nat} {Ls : List Lot} {T : Int}
theorem LotsOk.up (h : LotsOk n Ls T) {i : Nat} (hi : i < Ls.length) : cw Ls i < cw Ls (i + 1) ∧ cw Ls (i + 1) = cw Ls i + (Ls[i]).1 := by
  have e := cw_succ (List.getElem?_eq_getElem hi)
  have := h.w1 _ (List.getElem_mem hi)
  omega
theorem LotsOk.mono (h : LotsOk n Ls T) {i : Nat} : ∀ k, i + k ≤ Ls.length → cw Ls i ≤ cw Ls (i + k)
  | 0, _ => Int.le_refl _
  | k + 1, hk => by
    have h1 := h.mono (i := i) k (by omega)
    have h2 := (h.up (i := i + k) (by omega)).1
    rw [← Nat.add_assoc]
    omega
theorem LotsOk.mono' (h : LotsOk n Ls T) {i j : Nat} (hij : i ≤ j) (hj : j ≤ Ls.length) : cw Ls i ≤ cw Ls j := by
  have := h.mono (i := i) (j - i) (by omega)
  rw [show i + (j - i) = j by omega] at this
  exact this
theorem cw_zero (Ls : List Lot) : cw Ls 0 = 0 := rfl
theorem LotsOk.bd (h : LotsOk n Ls T) {i : Nat} (hi : i ≤ Ls.length) : 0 ≤ cw Ls i ∧ cw Ls i ≤ T := by
  have h1 := h.mono' (Nat.zero_le i) hi
  have h2 := h.mono' hi (Nat.le_refl _)
  rw [cw_zero] at h1
  rw [h.tot] at h2
  exact ⟨h1, h2⟩
theorem LotsOk.cwle (h : LotsOk n Ls T) : ∀ i, i ≤ Ls.length → cw Ls i ≤ i * 1000000000000
  | 0, _ => by rw [cw_zero]; simp
  | i + 1, hi => by
    have h1 := h.cwle i (by omega)
    have h2 := (h.up (i := i) (by omega)).2
    have h3 := h.w2 _ (List.getElem_mem (show i < Ls.length by omega))
    rw [h2]
    push_cast
    omega
theorem LotsOk.T0 (h : LotsOk n Ls T) : 0 < T ∧ T < 2 ^ 80 := by
  have h1 := (h.up (i := 0) (by have := h.ne; omega)).1
  have h2 := h.bd (i := 1) h.ne
  rw [cw_zero, Nat.zero_add] at h1
  have h3 := h.cwle Ls.length (Nat.le_refl _)
  rw [h.tot] at h3
  have h4 := h.le
  have : (Ls.length : Int) * 1000000000000 ≤ 40 * 1000000000000 := Int.mul_le_mul_of_nonneg_right (by omega) (by decide)
  constructor <;> omega
end
/-- the first place up to which the weights come to more than p -/
structure First (Ls : List Lot) (T : Int) (p : Int × Int) (i : Nat) : Prop where
  lt : i < Ls.length
  yes : lessF p (FQ.red (cw Ls (i + 1)) T) = true
  no : ∀ j, j < i → lessF p (FQ.red (cw Ls (j + 1)) T) = false
theorem First.uniq {Ls : List Lot} {T : Int} {p : Int × Int} {i j : Nat} (h : First Ls T p i) (h' : First Ls T p j) : i = j := by
  rcases Nat.lt_trichotomy i j with z | z | z
  · have := h'.no i z; rw [h.yes] at this; cases this
  · exact z
  · have := h.no j z; rw [h'.yes] at this; cases this
def IsLot (K : PySem.W.Frag) (H : Hp) (T : Int) (v : V) (l : Lot) : Prop := ∃ a f g, v = .ref a ∧ SqT K H a [.ref f, .ref g] ∧ IsF K H (.ref f) (FQ.red l.1 T) ∧ SqT K H g (l.2.map V.int)
theorem IsLot.mono {K : PySem.W.Frag} {H H' : Hp} {T : Int} {v : V} {l : Lot} (e : Same H H') (h : IsLot K H T v l) : IsLot K H' T v l := by
  obtain ⟨a, f, g, rfl, h1, h2, h3⟩ := h
  exact ⟨a, f, g, rfl, e.tup h1, h2.mono e, e.tup h3⟩
theorem IsLot.rep {K : PySem.W.Frag} {H : Hp} {T : Int} {v : V} {l : Lot} (h : IsLot K H T v l) (hl : l.2.length ≤ 1000) : Rep K H v (.tuple [dF (FQ.red l.1 T), .tuple (l.2.map PyData.int)]) := by
  obtain ⟨a, f, g, rfl, h1, h2, h4⟩ := h
  exact .tup h1 (.cons h2.rep (.cons (.tup h4 (Reps.ints _) (by rw [List.length_map]; exact hl)) .nil)) (by simp)
def Refused (p : Int × Int) : Prop := lessF p (0, 1) = true ∨ lessF p (1, 1) = false
def spPicked (K : PySem.W.Frag) (x : Xs) : Sp := fun vs H Q E => ∃ (L m : Addr) (ls : List V) (Ls : List Lot) (T : Int) (n : Nat) (p : Int × Int), vs = [.ref L, .ref m] ∧ SqL K H L ls ∧ Paired (IsLot K H T) ls Ls ∧ LotsOk n Ls T ∧ IsF K H (.ref m) p ∧ Sz 2000 p ∧ 0 < p.2 ∧
  (Refused p → E (.ref x.NoPick) none H) ∧ (¬ Refused p → ∀ i v H', First Ls T p i → Same H H' → IsR K H' v (Ls.getD i (0, [])).2 → Q v H')
def spRefused32 (K : PySem.W.Frag) : Sp := fun vs H Q _ => ∃ (L m : Addr) (ls : List V) (Ls : List Lot) (T : Int) (n : Nat) (p : Int × Int), vs = [.ref L, .ref m] ∧ SqL K H L ls ∧ Paired (IsLot K H T) ls Ls ∧ LotsOk n Ls T ∧ IsF K H (.ref m) p ∧ Sz 2000 p ∧ 0 < p.2 ∧ Refused p ∧ ∀ H', Same H H' → Q (.bl true) H'
def IsRaw (K : PySem.W.Frag) (H : Hp) (v : V) (l : Lot) : Prop := ∃ a g, v = .ref a ∧ SqT K H a [.int l.1, .ref g] ∧ SqT K H g (l.2.map V.int)
theorem IsRaw.mono {K : PySem.W.Frag} {H H' : Hp} {v : V} {l : Lot} (e : Same H H') (h : IsRaw K H v l) : IsRaw K H' v l := by
  obtain ⟨a, g, rfl, h1, h3⟩ := h
  exact ⟨a, g, rfl, e.tup h1, e.tup h3⟩
theorem IsRaw.over {K : PySem.W.Frag} {H : Hp} {v : V} {p : Addr} {ys zs : List V} {l : Lot} (h : IsRaw K H v l) (hp : H p = some (.lst ys)) : IsRaw K (upd H p (.lst zs)) v l := by
  obtain ⟨a, g, rfl, h1, h3⟩ := h
  exact ⟨a, g, rfl, tup_over h1 hp, tup_over h3 hp⟩
def spLots (K : PySem.W.Frag) : Sp := fun vs H Q _ => ∃ (a : Addr) (ns : List Int) (n : Nat), vs = [.ref a, .int n] ∧ SqL K H a (ns.map V.int) ∧ n ≤ 6 ∧ ∀ p ls Ls T H', Same H H' → H p = none → H' p = some (.lst ls) → Paired (IsLot K H' T) ls Ls → LotsOk n Ls T → Q (.ref p) H'
end L2

namespace L2
open PySem PySem.Spec PyProof.Rows
/-- what keeps the parts of a zip apart -/
structure ZipA (z TI TO i1 i2 : Addr) (fp1 fp2 : List Addr) : Prop where
  TIz : TI ≠ z
  TOz : TO ≠ z
  i1z : i1 ≠ z
  i2z : i2 ≠ z
  TITO : TI ≠ TO
  TIi1 : TI ≠ i1
  TIi2 : TI ≠ i2
  TOi1 : TO ≠ i1
  TOi2 : TO ≠ i2
  i12 : i1 ≠ i2
  z1 : z ∉ fp1
  T1 : TO ∉ fp1
  i21 : i2 ∉ fp1
  z2 : z ∉ fp2
  T2 : TO ∉ fp2
  i12' : i1 ∉ fp2
/-! ### lists and tuples alike -/
def Sqx (h : Heap) (tp : Bool) (l : Addr) (items : Array Value) : Prop := if tp = true then h.IsTuple l items else h.IsList l items
def Itx (h : Heap) (tp : Bool) (it l : Addr) (i : Nat) : Prop := if tp = true then h.IsTupleIter it l i else h.IsListIter it l i
def itObj (tp : Bool) (l : Addr) : Obj := { cls := .type (if tp = true then "tuple_iterator" else "list_iterator"), data := .fields #[.ref l, .int 0 0] }
theorem Sqx.keep {h h' : Heap} {tp : Bool} {l : Addr} {items : Array Value} (q : Sqx h tp l items) (k : ∀ o, h.get? l = some o → h'.get? l = some o) : Sqx h' tp l items := by
  cases tp with
  | true => obtain ⟨o, q1, r⟩ := (show h.IsTuple l items from q); exact ⟨o, k o q1, r⟩
  | false => obtain ⟨o, q1, r⟩ := (show h.IsList l items from q); exact ⟨o, k o q1, r⟩
theorem Sqx.lt {h : Heap} {tp : Bool} {l : Addr} {items : Array Value} (q : Sqx h tp l items) : l < h.objs.size := by
  cases tp with
  | true => obtain ⟨o, q1, r⟩ := (show h.IsTuple l items from q); exact Heap.lt_size q1
  | false => obtain ⟨o, q1, r⟩ := (show h.IsList l items from q); exact Heap.lt_size q1
theorem Itx.new {h : Heap} {tp : Bool} {it l : Addr} (e : h.get? it = some (itObj tp l)) : Itx h tp it l 0 := by
  cases tp with
  | true => exact ⟨_, e, rfl, rfl⟩
  | false => exact ⟨_, e, rfl, rfl⟩
theorem Itx.keep {h h' : Heap} {tp : Bool} {it l : Addr} {i : Nat} (q : Itx h tp it l i) (k : ∀ o, h.get? it = some o → h'.get? it = some o) : Itx h' tp it l i := by
  cases tp with
  | true => exact Heap.IsTupleIter.at q k
  | false => exact Heap.IsListIter.at q k
theorem Itx.get {h : Heap} {tp : Bool} {it l : Addr} {i : Nat} (q : Itx h tp it l i) : ∃ vs n, h.get? it = some { cls := .type n, data := .fields vs } ∨ ∃ o, h.get? it = some o ∧ o.data = .fields vs := by
  cases tp with
  | true => obtain ⟨o, e, c, d⟩ := (show h.IsTupleIter it l i from q); exact ⟨_, "", .inr ⟨o, e, d⟩⟩
  | false => obtain ⟨o, e, c, d⟩ := (show h.IsListIter it l i from q); exact ⟨_, "", .inr ⟨o, e, d⟩⟩
def SqB (K : PySem.W.Frag) (H : Hp) (tp : Bool) (a : Addr) (xs : List V) : Prop := if tp = true then SqT K H a xs else SqL K H a xs
theorem SqB.mono {K : PySem.W.Frag} {H H' : Hp} {tp : Bool} {a : Addr} {xs : List V} (e : Same H H') (h : SqB K H tp a xs) : SqB K H' tp a xs := by
  cases tp with
  | true => exact e.tup h
  | false => exact e.seq h
structure ZipB (z TI TO i1 i2 l1 l2 : Addr) : Prop where
  TIz : TI ≠ z
  TOz : TO ≠ z
  i1z : i1 ≠ z
  i2z : i2 ≠ z
  TITO : TI ≠ TO
  TIi1 : TI ≠ i1
  TIi2 : TI ≠ i2
  TOi1 : TO ≠ i1
  TOi2 : TO ≠ i2
  i12 : i1 ≠ i2
  l1z : l1 ≠ z
  l1T : l1 ≠ TO
  l1i : l1 ≠ i1
  l1j : l1 ≠ i2
  l2z : l2 ≠ z
  l2T : l2 ≠ TO
  l2i : l2 ≠ i1
  l2j : l2 ≠ i2
theorem ZipB.a {z TI TO i1 i2 l1 l2 : Addr} (b : ZipB z TI TO i1 i2 l1 l2) : ZipA z TI TO i1 i2 [i1, l1] [i2, l2] :=
  ⟨b.TIz, b.TOz, b.i1z, b.i2z, b.TITO, b.TIi1, b.TIi2, b.TOi1, b.TOi2, b.i12, by simp [Ne.symm b.i1z, Ne.symm b.l1z], by simp [b.TOi1, Ne.symm b.l1T], by simp [Ne.symm b.i12, Ne.symm b.l1j], by simp [Ne.symm b.i2z, Ne.symm b.l2z], by simp [b.TOi2, Ne.symm b.l2T], by simp [b.i12, Ne.symm b.l2i]⟩
section
variable {X : Cx} {pins : List (Addr × Obj)} {σ : St} {H : Hp} {s : Shared}
end
def Itz (K : PySem.W.Frag) (t1 t2 : Bool) (a b : Addr) : It :=
  ⟨fun i H => ∃ xs ys x y, SqB K H t1 a xs ∧ SqB K H t2 b ys ∧ xs[i]? = some x ∧ ys[i]? = some y,
   fun i H v H' => ∃ x y t, (∀ xs, SqB K H t1 a xs → xs[i]? = some x) ∧ (∀ ys, SqB K H t2 b ys → ys[i]? = some y) ∧ v = .ref t ∧ H t = none ∧ H' = upd H t (.tup [x, y]),
   fun i H => ∃ xs, SqB K H t1 a xs ∧ xs.length = i⟩
def iZip (K : PySem.W.Frag) (ta : TA) : TI := fun σ H R => ta σ H fun vs H1 => ∃ (t1 t2 : Bool) (a b : Addr), vs = [.ref a, .ref b] ∧ (∃ xs, SqB K H1 t1 a xs) ∧ (∃ ys, SqB K H1 t2 b ys) ∧ R (Itz K t1 t2 a b) H1
section
variable {X : Cx}
end
end L2

namespace L2
open PySem PySem.Spec PyProof.Rows
/-- a zip whose last tuple is still held -/
def ZipHeld (h : Heap) (z TI TO T : Addr) : Prop := ∃ (f1 : Bool) (o : Obj), h.get? z = some { cls := .type "zip", data := .fields #[rawInt T, .bool f1, .bool false, .ref TI, .ref TO] } ∧ h.get? T = some o
/-- how a zip stands between two turns of dict's walk -/
def ZipSt (h : Heap) (z TI TO T : Addr) : Prop := (IsZip h z TI TO .none ∧ ∃ a b, IsPair h TO a b) ∨ ZipHeld h z TI TO T
end L2

namespace L2
open PySem PySem.Spec PyProof.Rows
theorem paired_of_get {α β : Type} {R : α → β → Prop} : ∀ {l : List α} {m : List β}, l.length = m.length → (∀ (i : Nat) a b, l[i]? = some a → m[i]? = some b → R a b) → Paired R l m
  | [], [], _, _ => .nil
  | a :: l, b :: m, hl, h => .cons (h 0 a b rfl rfl) (paired_of_get (by simpa using hl) fun i x y hx hy => h (i + 1) x y (by simpa using hx) (by simpa using hy))
/-- things[person], things a dict by whole numbers -/
def rIxD : R2 := fun x y H Q => ∃ (a : Addr) (kvs : List (Key × V)) (i : Int) (j : Nat) (v : V), x = .ref a ∧ y = .int i ∧ H a = some (.dK kvs) ∧ kvs[j]? = some ((Sum.inl i : Key), v) ∧ Q v H
def tDictZip (K : PySem.W.Frag) (ta : TA) : TE := fun σ H Q => ta σ H fun vs H1 => ∃ (t1 t2 : Bool) (a b : Addr) (ns : List Int) (ys : List V), vs = [.ref a, .ref b] ∧ SqB K H1 t1 a (ns.map V.int) ∧ SqB K H1 t2 b ys ∧ ns.Nodup ∧ ns.length = ys.length ∧ ns.length ≤ 1000 ∧
  ∀ d, H1 d = none → Q (.ref d) (upd H1 d (.dK ((ns.map Sum.inl).zip ys)))
end L2

namespace L2
open PySem PySem.Spec PyProof.Rows
/-! ### tuples joined, empty or not; a walk over a list or a tuple -/
def rCatE (K : PySem.W.Frag) : R2 := fun x y H Q => ∃ (a b : Addr) (xs ys : List V), x = .ref a ∧ y = .ref b ∧ SqT K H a xs ∧ SqT K H b ys ∧ xs.length + ys.length ≤ sizeLine ∧
  ∀ p H', Same H H' → SqT K H' p (xs ++ ys) → Q (.ref p) H'
theorem op_catE {X : Cx} : OpR X (binaryOp .Add) (rCatE X.K) := by
  intro pins s σ H x y v u Q I rx ry h
  obtain ⟨a, b, xs, ys, rfl, rfl, ha, hb, hz, q⟩ := h
  by_cases hx : xs = []
  · cases rx
    cases ry
    obtain ⟨its, r1, p1, _⟩ := I.tuple ha
    obtain ⟨its2, r2, p2, _⟩ := I.tuple hb
    have hv : its = [] := r1.nil_iff.mpr hx
    obtain ⟨⟨cls, dd, data, sl⟩, ho, hc, n, hd⟩ := id p1
    obtain ⟨⟨cls2, dd2, data2, sl2⟩, ho2, hc2, n2, hd2⟩ := id p2
    simp only at hc hd hc2 hd2
    subst hc hd hc2 hd2
    refine concat_meets ⟨_, ho, rfl⟩ ⟨_, ho2, rfl⟩ noFill_tuple_add seq_tuple_add PySem.F.slot_tuple_add PySem.F.entry_tuple_add (PySem.F.args_tuple_add_2 _ _)
      (tuple_addW0 a b its.toArray its2.toArray n n2 dd dd2 sl sl2 (by simp [hv])) ⟨ho, ho2, ?_⟩
    exact ⟨.ref b, H, I, rfl, q b H (Same.refl _) (by rw [hx]; exact hb)⟩
  · refine op_catT pins s σ H (.ref a) (.ref b) v u Q I rx ry ⟨a, b, xs, ys, rfl, rfl, ha, hb, hx, hz, fun e => ?_, fun _ p hp => ?_⟩
    · exact q a H (Same.refl _) (by rw [e, List.append_nil]; exact ha)
    · exact q p _ (same_new hp _) (SqT.of upd_same)
def Itb (K : PySem.W.Frag) (tp : Bool) (a : Addr) : It := if tp = true then Itt K a else Itl K a
theorem SqB.over {K : PySem.W.Frag} {H : Hp} {tp : Bool} {a p : Addr} {o : HO} {xs : List V} (h : SqB K H tp a xs) (hne : a ≠ p) : SqB K (upd H p o) tp a xs := by
  cases tp with
  | true => exact SqT.over h hne
  | false => exact SqL.over h hne
/-! ### the deal by turns -/
def leftIn (w ts : List Int) : List Int := w.filter fun t => !decide (t ∈ ts)
def bestF (w ts : List Int) : Int := (leftIn w ts).getD 0 0
theorem pigeon : ∀ (row ts : List Int), row.Nodup → (∀ t ∈ row, t ∈ ts) → row.length ≤ ts.length
  | [], _, _, _ => Nat.zero_le _
  | a :: r, ts, hn, h => by
    have ha := h a List.mem_cons_self
    have := pigeon r (ts.erase a) (List.nodup_cons.mp hn).2 fun t ht => (List.mem_erase_of_ne (show t ≠ a from fun z => (List.nodup_cons.mp hn).1 (z ▸ ht))).mpr (h t (List.mem_cons_of_mem _ ht))
    rw [List.length_erase_of_mem ha] at this
    have := List.length_pos_of_mem ha
    rw [List.length_cons]
    omega
theorem free_ex {n : Nat} {w ts : List Int} (h : LN.Pm n w) (hl : ts.length < n) : ∃ t ∈ w, t ∉ ts := by
  refine Classical.byContradiction fun z => ?_
  have := pigeon w ts h.nodup fun t ht => Classical.byContradiction fun y => z ⟨t, ht, y⟩
  rw [h.len] at this
  omega
theorem bestF_get {w ts : List Int} (h : ∃ t ∈ w, t ∉ ts) : (leftIn w ts)[0]? = some (bestF w ts) ∧ bestF w ts ∈ w ∧ bestF w ts ∉ ts := by
  obtain ⟨t, h1, h2⟩ := h
  have hm : t ∈ leftIn w ts := List.mem_filter.mpr ⟨h1, by simpa using h2⟩
  unfold bestF
  cases hf : leftIn w ts with
  | nil => rw [hf] at hm; cases hm
  | cons b r =>
    have hb : b ∈ leftIn w ts := by rw [hf]; exact List.mem_cons_self
    obtain ⟨h3, h4⟩ := List.mem_filter.mp hb
    exact ⟨rfl, h3, by simpa using h4⟩
def tk (W : List (List Int)) (o : List Int) : Nat → List Int
  | 0 => []
  | k + 1 => tk W o k ++ [bestF (W.getD (o.getD k 0).toNat []) (tk W o k)]
def bt (W : List (List Int)) (o : List Int) (k : Nat) : Int := bestF (W.getD (o.getD k 0).toNat []) (tk W o k)
theorem tk_eq (W : List (List Int)) (o : List Int) : ∀ k, tk W o k = (List.range k).map (bt W o)
  | 0 => rfl
  | k + 1 => by
    rw [List.range_succ, List.map_append, ← tk_eq W o k]
    rfl
theorem tk_len (W : List (List Int)) (o : List Int) (k : Nat) : (tk W o k).length = k := by rw [tk_eq]; simp
structure Deals (n : Nat) (W : List (List Int)) (o ds : List Int) : Prop where
  len : ds.length = n
  at' : ∀ j, j < n → ds[(o.getD j 0).toNat]? = some (bt W o j)
theorem Deals.uniq {n : Nat} {W : List (List Int)} {o ds es : List Int} (ho : LN.Pm n o) (h1 : Deals n W o ds) (h2 : Deals n W o es) : ds = es := by
  apply List.ext_getElem?
  intro i
  by_cases hi : i < n
  · have hm : (i : Int) ∈ o := ho.mem.mpr ⟨by omega, by omega⟩
    obtain ⟨j, hj, e⟩ := List.mem_iff_getElem.mp hm
    have hjn : j < n := by rw [ho.len] at hj; exact hj
    have ed : (o.getD j 0).toNat = i := by rw [List.getD_eq_getElem?_getD, List.getElem?_eq_getElem hj, e]; rfl
    have a1 := h1.at' j hjn
    have a2 := h2.at' j hjn
    rw [ed] at a1 a2
    rw [a1, a2]
  · rw [List.getElem?_eq_none (by rw [h1.len]; omega), List.getElem?_eq_none (by rw [h2.len]; omega)]
structure Ws41 (n : Nat) (W : List (List Int)) : Prop where
  lo : 1 ≤ n
  hi : n ≤ 6
  len : W.length = n
  pm : ∀ w ∈ W, LN.Pm n w
def spBestF (K : PySem.W.Frag) : Sp := fun vs H Q _ => ∃ (w l : Addr) (row ts : List Int), vs = [.ref w, .ref l] ∧ SqT K H w (row.map V.int) ∧ SqL K H l (ts.map V.int) ∧ row.length ≤ 63 ∧ (∃ t ∈ row, t ∉ ts) ∧ ∀ H', Same H H' → Q (.int (bestF row ts)) H'
def spDealBy (K : PySem.W.Frag) (x : Xs) : Sp := fun vs H Q E => ∃ (a : Addr) (v : V) (ws : List V) (W : List (List Int)) (n : Nat) (o : List Int), vs = [.ref a, v] ∧ SqL K H a ws ∧ Paired (IsR K H) ws W ∧ Ws41 n W ∧ Rw K H v o ∧ o.length ≤ 60 ∧
  (¬ LN.Pm n o → ∀ H', Same H H' → E (.ref x.NoOrder) none H') ∧ (LN.Pm n o → ∀ p ds H', Same H H' → H p = none → H' p = some (.tup (ds.map V.int)) → Deals n W o ds → Q (.ref p) H')
def spRefused41 (K : PySem.W.Frag) : Sp := fun vs H Q _ => ∃ (a : Addr) (v : V) (ws : List V) (W : List (List Int)) (n : Nat) (o : List Int), vs = [.ref a, v] ∧ SqL K H a ws ∧ Paired (IsR K H) ws W ∧ Ws41 n W ∧ Rw K H v o ∧ o.length ≤ 60 ∧ ¬ LN.Pm n o ∧ ∀ H', Same H H' → Q (.bl true) H'
/-- no order of n people -/
def Bad (K : PySem.W.Frag) (n : Nat) (H : Hp) (v : V) : Prop := ∃ b, IsR K H v b ∧ ¬ LN.Pm n b ∧ b.length ≤ 60
theorem Bad.mono {K : PySem.W.Frag} {n : Nat} {H H' : Hp} {v : V} (e : Same H H') (h : Bad K n H v) : Bad K n H' v := by
  obtain ⟨b, h1, h2⟩ := h
  exact ⟨b, h1.mono e, h2⟩
theorem Bad.over {K : PySem.W.Frag} {n : Nat} {H : Hp} {v : V} {p : Addr} {ys zs : List V} (h : Bad K n H v) (hp : H p = some (.lst ys)) : Bad K n (upd H p (.lst zs)) v := by
  obtain ⟨b, h1, h2⟩ := h
  exact ⟨b, h1.over hp, h2⟩
def spBent41 (K : PySem.W.Frag) : Sp := fun vs H Q _ => ∃ (a : Addr) (o : List Int) (n : Nat) (c : Int), vs = [.ref a, .int c] ∧ SqT K H a (o.map V.int) ∧ LN.Pm n o ∧ 1 ≤ n ∧ n ≤ 6 ∧
  ∀ p bs H', Same H H' → H' p = some (.lst bs) → (∀ v ∈ bs, Bad K n H' v) → Q (.ref p) H'
theorem cat_i {K : PySem.W.Frag} {H : Hp} {a b : Addr} {l m : List Int} {Q : VK} (h1 : SqT K H a (l.map V.int)) (h2 : SqT K H b (m.map V.int)) (hl : l.length + m.length ≤ 1000) (q : ∀ p H', Same H H' → SqT K H' p ((l ++ m).map V.int) → Q (.ref p) H') : rCatE K (.ref a) (.ref b) H Q :=
  ⟨a, b, _, _, rfl, rfl, h1, h2, by rw [List.length_map, List.length_map]; exact Nat.le_trans hl (by decide), fun p H' S h => q p H' S (by rw [List.map_append]; exact h)⟩
end L2

namespace HM
open LM LN
/-! ### sets below n, and Hall's theorem -/
def cnt (n : Nat) (S : Nat → Bool) : Nat := (List.range n).countP S
theorem cnt_succ (n : Nat) (S : Nat → Bool) : cnt (n + 1) S = cnt n S + if S n = true then 1 else 0 := by
  unfold cnt
  rw [List.range_succ, List.countP_append]
  simp [List.countP_cons]
theorem cnt_mono {S S' : Nat → Bool} : ∀ {n : Nat}, (∀ i, i < n → S i = true → S' i = true) → cnt n S ≤ cnt n S'
  | 0, _ => Nat.le_refl _
  | n + 1, h => by
    have ih := cnt_mono (n := n) fun i hi => h i (Nat.lt_succ_of_lt hi)
    rw [cnt_succ, cnt_succ]
    by_cases e : S n = true
    · rw [if_pos e, if_pos (h n (Nat.lt_succ_self n) e)]; omega
    · rw [if_neg e]; omega
theorem cnt_or_le (S S' : Nat → Bool) : ∀ n : Nat, cnt n (fun i => S i || S' i) ≤ cnt n S + cnt n S'
  | 0 => Nat.le_refl _
  | n + 1 => by
    have ih := cnt_or_le S S' n
    rw [cnt_succ, cnt_succ, cnt_succ]
    cases S n <;> cases S' n <;> simp <;> omega
theorem cnt_or_eq {S S' : Nat → Bool} (hd : ∀ i, S i = true → S' i = true → False) : ∀ n : Nat, cnt n (fun i => S i || S' i) = cnt n S + cnt n S'
  | 0 => rfl
  | n + 1 => by
    have ih := cnt_or_eq hd n
    rw [cnt_succ, cnt_succ, cnt_succ, ih]
    cases h1 : S n <;> cases h2 : S' n <;> simp <;> try omega
    exact (hd n h1 h2).elim
theorem cnt_pos {S : Nat → Bool} : ∀ {n : Nat}, 0 < cnt n S → ∃ i, i < n ∧ S i = true
  | 0, h => absurd h (Nat.lt_irrefl _)
  | n + 1, h => by
    rw [cnt_succ] at h
    by_cases e : S n = true
    · exact ⟨n, Nat.lt_succ_self n, e⟩
    · rw [if_neg e] at h
      obtain ⟨i, h1, h2⟩ := cnt_pos (n := n) (by omega)
      exact ⟨i, Nat.lt_succ_of_lt h1, h2⟩
theorem cnt_one (c : Nat) : ∀ n : Nat, cnt n (fun i => i == c) = if c < n then 1 else 0
  | 0 => rfl
  | n + 1 => by
    rw [cnt_succ, cnt_one c n]
    by_cases e : n = c
    · subst e; simp
    · by_cases h : c < n
      · simp [e, h, show c < n + 1 by omega]
      · simp [e, h, show ¬ c < n + 1 by omega]
theorem cnt_split (n : Nat) (A S : Nat → Bool) (h : ∀ i, S i = true → A i = true) : cnt n A = cnt n S + cnt n (fun i => A i && !S i) := by
  rw [← cnt_or_eq (S := S) (S' := fun i => A i && !S i) (fun i h1 h2 => by simp [h1] at h2)]
  congr 1
  funext i
  cases h1 : S i with
  | true => simp [h i h1]
  | false => simp
def nb (n : Nat) (E : Nat → Nat → Bool) (S : Nat → Bool) (c : Nat) : Bool := (List.range n).any fun r => S r && E r c
theorem nb_iff {n : Nat} {E : Nat → Nat → Bool} {S : Nat → Bool} {c : Nat} : nb n E S c = true ↔ ∃ r, r < n ∧ S r = true ∧ E r c = true := by
  unfold nb
  rw [List.any_eq_true]
  constructor
  · rintro ⟨r, h1, h2⟩
    rw [Bool.and_eq_true] at h2
    exact ⟨r, List.mem_range.mp h1, h2⟩
  · rintro ⟨r, h1, h2, h3⟩
    exact ⟨r, List.mem_range.mpr h1, by rw [h2, h3]; rfl⟩
theorem hall (n : Nat) : ∀ (m : Nat) (A : Nat → Bool) (E : Nat → Nat → Bool), cnt n A = m → (∀ S : Nat → Bool, (∀ i, S i = true → A i = true) → cnt n S ≤ cnt n (nb n E S)) →
    ∃ f : Nat → Nat, (∀ r, r < n → A r = true → f r < n ∧ E r (f r) = true) ∧ ∀ r r', r < n → r' < n → A r = true → A r' = true → f r = f r' → r = r' := by
  intro m
  induction m using Nat.strongRecOn with
  | _ m ih =>
    intro A E hA hH
    by_cases h0 : m = 0
    · have no : ∀ r, r < n → A r = true → False := fun r hr h => by
        have : cnt n (fun i => i == r) ≤ cnt n A := cnt_mono fun i _ e => by rw [eq_of_beq e]; exact h
        rw [cnt_one, if_pos hr, hA, h0] at this
        omega
      exact ⟨fun _ => 0, fun r hr h => (no r hr h).elim, fun r _ hr _ h => (no r hr h).elim⟩
    by_cases hc : ∃ S0 : Nat → Bool, (∀ i, S0 i = true → A i = true) ∧ 0 < cnt n S0 ∧ cnt n S0 < m ∧ cnt n (nb n E S0) ≤ cnt n S0
    · obtain ⟨S0, hs, hp, hl, hcr⟩ := hc
      obtain ⟨f1, g1, g2⟩ := ih _ hl S0 E rfl fun S h => hH S fun i hi => hs i (h i hi)
      have hsp := cnt_split n A S0 hs
      obtain ⟨f2, k1, k2⟩ := ih (cnt n fun i => A i && !S0 i) (by omega) (fun i => A i && !S0 i) (fun r c => E r c && !nb n E S0 c) rfl fun S h => by
        have hdis : ∀ i, S i = true → S0 i = true → False := fun i h1 h2 => by
          have := h i h1
          simp [h2] at this
        have hT := hH (fun i => S i || S0 i) fun i hi => by
          rcases Bool.or_eq_true_iff.mp hi with z | z
          · have := h i z
            rw [Bool.and_eq_true] at this
            exact this.1
          · exact hs i z
        rw [cnt_or_eq hdis] at hT
        have h2 : cnt n (nb n E fun i => S i || S0 i) ≤ cnt n (fun c => nb n (fun r c => E r c && !nb n E S0 c) S c || nb n E S0 c) := cnt_mono fun c _ hc => by
          obtain ⟨r, hr, hS, hE⟩ := nb_iff.mp hc
          cases hn : nb n E S0 c with
          | true => simp
          | false =>
            rw [Bool.or_false]
            rcases Bool.or_eq_true_iff.mp hS with z | z
            · exact nb_iff.mpr ⟨r, hr, z, by simp [hE, hn]⟩
            · exact absurd (nb_iff.mpr ⟨r, hr, z, hE⟩) (by rw [hn]; exact Bool.false_ne_true)
        have h3 := cnt_or_le (nb n (fun r c => E r c && !nb n E S0 c) S) (nb n E S0) n
        omega
      have sep : ∀ r r', r < n → S0 r = true → r' < n → A r' = true → ¬ S0 r' = true → f1 r = f2 r' → False := fun r r' hr h1 hr' h2 h3 e => by
        have a1 := (g1 r hr h1).2
        have a2 := (k1 r' hr' (by simp [h2, h3])).2
        rw [← e, Bool.and_eq_true] at a2
        have := nb_iff.mpr ⟨r, hr, h1, a1⟩
        rw [this] at a2
        exact absurd a2.2 (by decide)
      refine ⟨fun r => if S0 r = true then f1 r else f2 r, fun r hr h => ?_, fun r r' hr hr' h h' e => ?_⟩
      · dsimp only
        by_cases z : S0 r = true
        · rw [if_pos z]; exact g1 r hr z
        · rw [if_neg z]
          obtain ⟨a1, a2⟩ := k1 r hr (by simp [h, z])
          rw [Bool.and_eq_true] at a2
          exact ⟨a1, a2.1⟩
      · dsimp only at e
        by_cases z : S0 r = true
        · rw [if_pos z] at e
          by_cases z' : S0 r' = true
          · rw [if_pos z'] at e; exact g2 r r' hr hr' z z' e
          · rw [if_neg z'] at e; exact (sep r r' hr z hr' h' z' e).elim
        · rw [if_neg z] at e
          by_cases z' : S0 r' = true
          · rw [if_pos z'] at e; exact (sep r' r hr' z' hr h z e.symm).elim
          · rw [if_neg z'] at e; exact k2 r r' hr hr' (by simp [h, z]) (by simp [h', z']) e
    · obtain ⟨r0, hr0, hA0⟩ := cnt_pos (n := n) (S := A) (by omega)
      have h1 := hH (fun i => i == r0) fun i hi => by rw [eq_of_beq hi]; exact hA0
      rw [cnt_one, if_pos hr0] at h1
      obtain ⟨c0, hc0, hn0⟩ := cnt_pos (n := n) (S := nb n E fun i => i == r0) (by omega)
      obtain ⟨r1, hr1, e1, hE0⟩ := nb_iff.mp hn0
      have e1 : r1 = r0 := eq_of_beq e1
      subst e1
      have hsp := cnt_split n A (fun i => i == r1) fun i hi => by rw [eq_of_beq hi]; exact hA0
      rw [cnt_one, if_pos hr0] at hsp
      obtain ⟨f, k1, k2⟩ := ih (cnt n fun i => A i && !(i == r1)) (by omega) (fun i => A i && !(i == r1)) (fun r c => E r c && !(c == c0)) rfl fun S h => by
        by_cases hz : cnt n S = 0
        · omega
        have hSA : ∀ i, S i = true → A i = true := fun i hi => by
          have := h i hi
          rw [Bool.and_eq_true] at this
          exact this.1
        have hlt : cnt n S < m := by
          have := cnt_mono (n := n) fun i _ => h i
          omega
        have hbig : cnt n S < cnt n (nb n E S) := Classical.byContradiction fun z => hc ⟨S, hSA, by omega, hlt, by omega⟩
        have h2 : cnt n (nb n E S) ≤ cnt n (fun c => nb n (fun r c => E r c && !(c == c0)) S c || c == c0) := cnt_mono fun c _ hc => by
          obtain ⟨r, hr, hS, hE⟩ := nb_iff.mp hc
          cases hn : c == c0 with
          | true => simp
          | false => rw [Bool.or_false]; exact nb_iff.mpr ⟨r, hr, hS, by simp [hE, hn]⟩
        have h3 := cnt_or_le (nb n (fun r c => E r c && !(c == c0)) S) (fun c => c == c0) n
        have h4 := cnt_one c0 n
        rw [if_pos hc0] at h4
        omega
      refine ⟨fun r => if r = r1 then c0 else f r, fun r hr h => ?_, fun r r' hr hr' h h' e => ?_⟩
      · dsimp only
        by_cases z : r = r1
        · rw [if_pos z, z]; exact ⟨hc0, hE0⟩
        · rw [if_neg z]
          obtain ⟨a1, a2⟩ := k1 r hr (by simp [h, z])
          rw [Bool.and_eq_true] at a2
          exact ⟨a1, a2.1⟩
      · dsimp only at e
        by_cases z : r = r1
        · by_cases z' : r' = r1
          · rw [z, z']
          · rw [if_pos z, if_neg z'] at e
            have := (k1 r' hr' (by simp [h', z'])).2
            rw [← e] at this
            simp at this
        · by_cases z' : r' = r1
          · rw [if_neg z, if_pos z'] at e
            have := (k1 r hr (by simp [h, z])).2
            rw [e] at this
            simp at this
          · rw [if_neg z, if_neg z'] at e
            exact k2 r r' hr hr' (by simp [h, z]) (by simp [h', z']) e
/-! ### equal sums: a deal within -/
def sm : Nat → (Nat → Int) → Int
  | 0, _ => 0
  | n + 1, f => sm n f + f n
theorem sm_congr {f g : Nat → Int} : ∀ {n : Nat}, (∀ i, i < n → f i = g i) → sm n f = sm n g
  | 0, _ => rfl
  | n + 1, h => by
    show sm n f + f n = sm n g + g n
    rw [sm_congr fun i hi => h i (Nat.lt_succ_of_lt hi), h n (Nat.lt_succ_self n)]
theorem sm_le {f g : Nat → Int} : ∀ {n : Nat}, (∀ i, i < n → f i ≤ g i) → sm n f ≤ sm n g
  | 0, _ => Int.le_refl _
  | n + 1, h => by
    have h1 := sm_le fun i hi => h i (Nat.lt_succ_of_lt hi)
    have h2 := h n (Nat.lt_succ_self n)
    show sm n f + f n ≤ sm n g + g n
    omega
theorem sm_add (f g : Nat → Int) : ∀ n : Nat, sm n (fun i => f i + g i) = sm n f + sm n g
  | 0 => rfl
  | n + 1 => by
    show sm n (fun i => f i + g i) + (f n + g n) = (sm n f + f n) + (sm n g + g n)
    rw [sm_add f g n]
    omega
theorem sm_zero : ∀ n : Nat, sm n (fun _ => 0) = 0
  | 0 => rfl
  | n + 1 => by show sm n (fun _ => 0) + 0 = 0; rw [sm_zero n]; rfl
theorem sm_swap (a : Nat → Nat → Int) (m : Nat) : ∀ n : Nat, sm n (fun i => sm m (a i)) = sm m (fun j => sm n fun i => a i j)
  | 0 => (sm_zero m).symm
  | n + 1 => by
    show sm n (fun i => sm m (a i)) + sm m (a n) = sm m (fun j => (sm n fun i => a i j) + a n j)
    rw [sm_swap a m n, sm_add]
theorem sm_cnt (S : Nat → Bool) (R : Int) : ∀ n : Nat, sm n (fun i => if S i = true then R else 0) = R * cnt n S
  | 0 => by show (0 : Int) = R * 0; simp
  | n + 1 => by
    show sm n _ + (if S n = true then R else 0) = _
    rw [sm_cnt S R n, cnt_succ]
    by_cases e : S n = true
    · rw [if_pos e, if_pos e]; push_cast; rw [Int.mul_add, Int.mul_one]
    · rw [if_neg e, if_neg e]; simp
structure RegF (n : Nat) (M : Nat → Nat → Int) (R : Int) : Prop where
  pos : 0 < R
  nn : ∀ i j, 0 ≤ M i j
  row : ∀ i, i < n → sm n (M i) = R
  col : ∀ j, j < n → sm n (fun i => M i j) = R
theorem deal_ex {n : Nat} {M : Nat → Nat → Int} {R : Int} (h : RegF n M R) : ∃ f : Nat → Nat, (∀ r, r < n → f r < n ∧ M r (f r) ≠ 0) ∧ ∀ r r', r < n → r' < n → f r = f r' → r = r' := by
  obtain ⟨f, h1, h2⟩ := hall n _ (fun _ => true) (fun r c => decide (M r c ≠ 0)) rfl fun S _ => by
    have e1 : sm n (fun i => if S i = true then R else 0) = sm n (fun i => sm n fun j => if S i = true then M i j else 0) := sm_congr fun i hi => by
      by_cases e : S i = true
      · rw [if_pos e, ← h.row i hi]
        exact sm_congr fun j _ => by rw [if_pos e]
      · rw [if_neg e]
        exact (sm_zero n).symm.trans (sm_congr fun j _ => by rw [if_neg e])
    have e2 : sm n (fun j => sm n fun i => if S i = true then M i j else 0) ≤ sm n (fun j => if nb n (fun r c => decide (M r c ≠ 0)) S j = true then R else 0) := sm_le fun j hj => by
      by_cases e : nb n (fun r c => decide (M r c ≠ 0)) S j = true
      · rw [if_pos e, ← h.col j hj]
        exact sm_le fun i _ => by
          by_cases z : S i = true
          · rw [if_pos z]; exact Int.le_refl _
          · rw [if_neg z]; exact h.nn i j
      · rw [if_neg e]
        exact Int.le_of_eq ((sm_congr fun i hi => by
          by_cases z : S i = true
          · rw [if_pos z]
            exact Classical.byContradiction fun y => e (nb_iff.mpr ⟨i, hi, z, decide_eq_true y⟩)
          · rw [if_neg z]).trans (sm_zero n))
    rw [← sm_swap, ← e1, sm_cnt, sm_cnt] at e2
    have := Int.le_of_mul_le_mul_left e2 h.pos
    omega
  exact ⟨f, fun r hr => ⟨(h1 r hr rfl).1, by simpa using (h1 r hr rfl).2⟩, fun r r' hr hr' e => h2 r r' hr hr' rfl rfl e⟩
end HM

namespace HM
open LM LN
def ent (M : List (List Int)) (p t : Nat) : Int := (M.getD p []).getD t 0
structure Reg (n : Nat) (M : List (List Int)) (R : Int) : Prop where
  len : M.length = n
  cols : ∀ r ∈ M, r.length = n
  nn : ∀ p t, 0 ≤ ent M p t
  row : ∀ i, i < n → sm n (ent M i) = R
  col : ∀ j, j < n → sm n (fun i => ent M i j) = R
theorem getD_lt {α : Type} {l : List α} {i : Nat} {d : α} (h : i < l.length) : l.getD i d = l[i] := by rw [List.getD_eq_getElem?_getD, List.getElem?_eq_getElem h]; rfl
theorem addDeal_len {M : List (List Int)} {d : List Int} {w : Int} (h : M.length = d.length) : (addDeal M d w).length = M.length := by simp [addDeal, h]
theorem addDeal_get {M : List (List Int)} {d : List Int} {w : Int} {p : Nat} (h : M.length = d.length) (hp : p < M.length) : (addDeal M d w)[p]? = some (addOne (M.getD p []) (d.getD p 0) w) := by
  unfold addDeal
  rw [List.getElem?_zipWith, List.getElem?_eq_getElem hp, List.getElem?_eq_getElem (show p < d.length by omega), getD_lt hp, getD_lt (show p < d.length by omega)]
theorem ent_add {n : Nat} {M : List (List Int)} {R : Int} {d : List Int} {w : Int} (h : Reg n M R) (hd : d.length = n) (hb : ∀ t ∈ d, 0 ≤ t ∧ t < n) {p : Nat} (hp : p < n) (t : Nat) :
    ent (addDeal M d w) p t = ent M p t + if (d.getD p 0).toNat = t then w else 0 := by
  have hl : M.length = d.length := by rw [h.len, hd]
  have hpm : p < M.length := by rw [h.len]; exact hp
  have hrow : (M.getD p []).length = n := by rw [getD_lt hpm]; exact h.cols _ (List.getElem_mem hpm)
  have hdp := hb (d.getD p 0) (by rw [getD_lt (show p < d.length by omega)]; exact List.getElem_mem _)
  unfold ent
  rw [show (addDeal M d w).getD p [] = addOne (M.getD p []) (d.getD p 0) w by rw [List.getD_eq_getElem?_getD, addDeal_get hl hpm]; rfl]
  generalize M.getD p [] = r at hrow
  generalize d.getD p 0 = x at hdp
  unfold addOne
  rw [List.getD_eq_getElem?_getD, List.getElem?_set]
  by_cases e : x.toNat = t
  · subst e
    rw [if_pos rfl, if_pos rfl, if_pos (by omega)]
    rfl
  · rw [if_neg e, if_neg e, ← List.getD_eq_getElem?_getD]
    omega
theorem cnt_congr {S S' : Nat → Bool} {n : Nat} (h : ∀ i, i < n → S i = S' i) : cnt n S = cnt n S' :=
  Nat.le_antisymm (cnt_mono fun i hi e => by rw [← h i hi]; exact e) (cnt_mono fun i hi e => by rw [h i hi]; exact e)
theorem pm_at {n : Nat} {d : List Int} (h : Pm n d) {t : Nat} (ht : t < n) : ∃ p, p < n ∧ d.getD p 0 = (t : Int) ∧ ∀ q, q < n → (d.getD q 0).toNat = t → q = p := by
  obtain ⟨p, hp, e⟩ := List.mem_iff_getElem.mp (h.mem.mpr (show (0 : Int) ≤ (t : Int) ∧ (t : Int) < n by omega))
  have hl := h.len
  refine ⟨p, by omega, by rw [getD_lt hp, e], fun q hq eq => ?_⟩
  have hq' : q < d.length := by omega
  have b := h.mem.mp (List.getElem_mem hq')
  rw [getD_lt hq'] at eq
  have : d[q] = d[p] := by rw [e]; omega
  exact (List.getElem?_inj hq' h.nodup).mp (by rw [List.getElem?_eq_getElem hq', List.getElem?_eq_getElem hp, this])
theorem sm_one {n : Nat} {p : Nat} (hp : p < n) {S : Nat → Bool} (hS : ∀ q, q < n → (S q = true ↔ q = p)) (w : Int) : sm n (fun q => if S q = true then w else 0) = w := by
  rw [sm_cnt, cnt_congr (S' := fun q => q == p) fun i hi => by
    rw [Bool.eq_iff_iff, hS i hi]
    exact ⟨fun e => by rw [e]; exact beq_self_eq_true _, fun e => eq_of_beq e⟩, cnt_one, if_pos hp]
  simp
theorem mem_ent {n : Nat} {M : List (List Int)} {r : List Int} (hl : M.length = n) (hr : r ∈ M) : ∃ p, p < n ∧ M.getD p [] = r := by
  obtain ⟨p, hp, e⟩ := List.mem_iff_getElem.mp hr
  exact ⟨p, by omega, by rw [getD_lt hp, e]⟩
theorem Reg.add {n : Nat} {M : List (List Int)} {R : Int} {d : List Int} {w : Int} (h : Reg n M R) (hd : Pm n d) (hw : ∀ p, p < n → 0 ≤ ent M p (d.getD p 0).toNat + w) : Reg n (addDeal M d w) (R + w) := by
  have hdl := hd.len
  have hl : M.length = d.length := by rw [h.len, hdl]
  have hb : ∀ t ∈ d, 0 ≤ t ∧ t < n := fun t ht => hd.mem.mp ht
  have hE := fun {p} (hp : p < n) t => ent_add (w := w) h hdl hb hp t
  have hlen : (addDeal M d w).length = n := by rw [addDeal_len hl, h.len]
  have bd : ∀ p, p < n → 0 ≤ d.getD p 0 ∧ d.getD p 0 < n := fun p hp => hb _ (by rw [getD_lt (show p < d.length by omega)]; exact List.getElem_mem _)
  refine ⟨hlen, fun r hr => ?_, fun p t => ?_, fun i hi => ?_, fun j hj => ?_⟩
  · obtain ⟨p, hp, e⟩ := mem_ent hlen hr
    rw [← e, List.getD_eq_getElem?_getD, addDeal_get hl (by rw [h.len]; exact hp)]
    show (addOne _ _ _).length = n
    rw [addOne_len]
    have hpm : p < M.length := by rw [h.len]; exact hp
    rw [getD_lt hpm]
    exact h.cols _ (List.getElem_mem hpm)
  · by_cases hp : p < n
    · rw [hE hp]
      by_cases e : (d.getD p 0).toNat = t
      · rw [if_pos e, ← e]; exact hw p hp
      · rw [if_neg e, Int.add_zero]; exact h.nn p t
    · unfold ent
      rw [show (addDeal M d w).getD p [] = [] by rw [List.getD_eq_getElem?_getD, List.getElem?_eq_none (by omega)]; rfl]
      exact Int.le_refl 0
  · rw [sm_congr (g := fun t => ent M i t + if decide ((d.getD i 0).toNat = t) = true then w else 0) fun t _ => by rw [hE hi]; simp, sm_add, h.row i hi, sm_one (p := (d.getD i 0).toNat) (by have := bd i hi; omega) (fun q _ => by rw [decide_eq_true_iff]; exact eq_comm)]
  · obtain ⟨p, hp, e, hu⟩ := pm_at hd hj
    rw [sm_congr (g := fun i => ent M i j + if decide ((d.getD i 0).toNat = j) = true then w else 0) fun t ht => by rw [hE ht]; simp, sm_add, h.col j hj, sm_one (p := p) hp (fun q hq => by
      rw [decide_eq_true_iff]
      exact ⟨hu q hq, fun z => by rw [z, e]; rfl⟩)]
theorem Reg.zero (n : Nat) : Reg n (List.replicate n (List.replicate n 0)) 0 := by
  have e : ∀ p t, ent (List.replicate n (List.replicate n 0)) p t = 0 := fun p t => by
    unfold ent
    by_cases hp : p < n
    · rw [show (List.replicate n (List.replicate n (0 : Int))).getD p [] = List.replicate n 0 by rw [getD_lt (by simpa using hp), List.getElem_replicate]]
      by_cases ht : t < n
      · rw [getD_lt (by simpa using ht), List.getElem_replicate]
      · rw [List.getD_eq_getElem?_getD, List.getElem?_eq_none (by simpa using ht)]; rfl
    · rw [show (List.replicate n (List.replicate n (0 : Int))).getD p [] = [] by rw [List.getD_eq_getElem?_getD, List.getElem?_eq_none (by simpa using hp)]; rfl]
      rfl
  refine ⟨by simp, fun r hr => by rw [(List.mem_replicate.mp hr).2]; simp, fun p t => by rw [e]; decide, fun i _ => ?_, fun j _ => ?_⟩
  · exact (sm_congr fun t _ => e i t).trans (sm_zero n)
  · exact (sm_congr fun t _ => e t j).trans (sm_zero n)
theorem Reg.regF {n : Nat} {M : List (List Int)} {R : Int} (h : Reg n M R) (hR : 0 < R) : RegF n (ent M) R := ⟨hR, h.nn, h.row, h.col⟩
/-! ### the first deal within -/
def within (M : List (List Int)) : Nat → List Int → Option (List Int)
  | 0, b => some b
  | k + 1, b => (List.range M.length).findSome? fun t => if ent M b.length t ≠ 0 ∧ (t : Int) ∉ b then within M k (b ++ [(t : Int)]) else none
theorem within_sound {M : List (List Int)} : ∀ {k : Nat} {b d : List Int}, within M k b = some d → b.Nodup → d.Nodup ∧ d.length = b.length + k ∧ (∀ j, j < b.length → d.getD j 0 = b.getD j 0) ∧ ∀ j, b.length ≤ j → j < b.length + k → ∃ t : Nat, t < M.length ∧ d.getD j 0 = (t : Int) ∧ ent M j t ≠ 0
  | 0, b, d, h, hb => by
    cases h
    exact ⟨hb, rfl, fun _ _ => rfl, fun j h1 h2 => by omega⟩
  | k + 1, b, d, h, hb => by
    obtain ⟨t, ht, e⟩ := List.exists_of_findSome?_eq_some h
    split at e
    · rename_i hc
      have hb' : (b ++ [(t : Int)]).Nodup := List.nodup_append.mpr ⟨hb, by simp, fun x hx y hy => by rw [List.mem_singleton.mp hy]; intro z; exact hc.2 (z ▸ hx)⟩
      obtain ⟨h1, h2, h3, h4⟩ := within_sound e hb'
      rw [List.length_append, List.length_singleton] at h2 h3 h4
      have hat : d.getD b.length 0 = (t : Int) := by
        rw [h3 b.length (by omega), List.getD_eq_getElem?_getD, List.getElem?_append_right (Nat.le_refl _), Nat.sub_self]
        rfl
      refine ⟨h1, by omega, fun j hj => ?_, fun j hj1 hj2 => ?_⟩
      · rw [h3 j (by omega), List.getD_eq_getElem?_getD, List.getElem?_append_left hj, ← List.getD_eq_getElem?_getD]
      · by_cases e2 : j = b.length
        · subst e2
          exact ⟨t, List.mem_range.mp ht, hat, hc.1⟩
        · exact h4 j (by omega) (by omega)
    · cases e
theorem within_some {M : List (List Int)} {f : Nat → Nat} (hf : ∀ j, j < M.length → f j < M.length ∧ ent M j (f j) ≠ 0) (hi : ∀ j j', j < M.length → j' < M.length → f j = f j' → j = j') : ∀ {k : Nat} {b : List Int}, b.length + k ≤ M.length → (∀ j, b.length ≤ j → j < b.length + k → (f j : Int) ∉ b) → (within M k b).isSome = true
  | 0, b, _, _ => rfl
  | k + 1, b, hl, hb => by
    unfold within
    rw [List.findSome?_isSome_iff]
    obtain ⟨h1, h2⟩ := hf b.length (by omega)
    refine ⟨f b.length, List.mem_range.mpr h1, ?_⟩
    rw [if_pos ⟨h2, hb b.length (Nat.le_refl _) (by omega)⟩]
    refine within_some hf hi (by rw [List.length_append, List.length_singleton]; omega) fun j hj1 hj2 z => ?_
    rw [List.length_append, List.length_singleton] at hj1 hj2
    rcases List.mem_append.mp z with z | z
    · exact hb j (by omega) (by omega) z
    · have := List.mem_singleton.mp z
      have := hi j b.length (by omega) (by omega) (by omega)
      omega
theorem pm_of {n : Nat} {d : List Int} (hl : d.length = n) (hn : d.Nodup) (hb : ∀ t ∈ d, 0 ≤ t ∧ t < n) : Pm n d := by
  unfold Pm
  have key : ∀ (m : Nat) (l : List Int) (r : List Int), l.length = m → r.length = m → l.Nodup → (∀ t ∈ l, t ∈ r) → l.Perm r := by
    intro m
    induction m with
    | zero => intro l r h1 h2 _ _; rw [List.length_eq_zero_iff.mp h1, List.length_eq_zero_iff.mp h2]
    | succ m ih =>
      intro l r h1 h2 hn h
      cases l with
      | nil => cases h1
      | cons a l =>
        have ha := h a List.mem_cons_self
        refine (List.Perm.cons a (ih l (r.erase a) (by simpa using h1) (by rw [List.length_erase_of_mem ha, h2]; rfl) (List.nodup_cons.mp hn).2 fun t ht => ?_)).trans (List.perm_cons_erase ha).symm
        exact (List.mem_erase_of_ne (show t ≠ a from fun z => (List.nodup_cons.mp hn).1 (z ▸ ht))).mpr (h t (List.mem_cons_of_mem _ ht))
  exact key n d (rng n) hl (rng_len n) hn fun t ht => mem_rng.mpr (hb t ht)
/-! ### one lot more -/
def valsM (M : List (List Int)) (d : List Int) : List Int := List.zipWith (fun r t => r.getD t.toNat 0) M d
def minGo (s : Int) (l : List Int) : Int := l.foldl (fun s p => if p < s then p else s) s
def minL (l : List Int) : Int := minGo (l.headD 0) l
theorem minGo_le : ∀ (l : List Int) (s : Int), minGo s l ≤ s ∧ (∀ x ∈ l, minGo s l ≤ x) ∧ (minGo s l = s ∨ minGo s l ∈ l)
  | [], s => ⟨Int.le_refl _, (fun _ h => nomatch h), .inl rfl⟩
  | a :: l, s => by
    obtain ⟨h1, h2, h3⟩ := minGo_le l (if a < s then a else s)
    have e : minGo s (a :: l) = minGo (if a < s then a else s) l := rfl
    rw [e]
    by_cases c : a < s
    · rw [if_pos c] at h1 h2 h3 ⊢
      refine ⟨by omega, fun x hx => ?_, .inr ?_⟩
      · rcases List.mem_cons.mp hx with z | z
        · rw [z]; exact h1
        · exact h2 x z
      · rcases h3 with z | z
        · rw [z]; exact List.mem_cons_self
        · exact List.mem_cons_of_mem _ z
    · rw [if_neg c] at h1 h2 h3 ⊢
      refine ⟨h1, fun x hx => ?_, ?_⟩
      · rcases List.mem_cons.mp hx with z | z
        · rw [z]; omega
        · exact h2 x z
      · rcases h3 with z | z
        · exact .inl z
        · exact .inr (List.mem_cons_of_mem _ z)
theorem minL_ok {l : List Int} (h : l ≠ []) : minL l ∈ l ∧ ∀ x ∈ l, minL l ≤ x := by
  cases l with
  | nil => exact absurd rfl h
  | cons a l =>
    obtain ⟨h1, h2, h3⟩ := minGo_le (a :: l) a
    refine ⟨?_, h2⟩
    rcases h3 with z | z
    · show minGo a (a :: l) ∈ _
      rw [z]; exact List.mem_cons_self
    · exact z
def dealOf (M : List (List Int)) : List Int := (within M M.length []).getD []
def wOf (M : List (List Int)) : Int := minL (valsM M (dealOf M))
theorem sm_one_le {n : Nat} {f : Nat → Int} (hf : ∀ i, 0 ≤ f i) : ∀ {i : Nat}, i < n → f i ≤ sm n f := by
  have nn : ∀ m, 0 ≤ sm m f := fun m => by
    have := sm_le (n := m) (f := fun _ => 0) (g := f) fun i _ => hf i
    rw [sm_zero] at this
    exact this
  induction n with
  | zero => intro i h; exact absurd h (Nat.not_lt_zero _)
  | succ n ih =>
    intro i h
    show f i ≤ sm n f + f n
    by_cases e : i = n
    · subst e; have := nn i; omega
    · have := ih (i := i) (by omega)
      have := hf n
      omega
structure StepOk (n : Nat) (M : List (List Int)) (R : Int) : Prop where
  some : within M n [] = some (dealOf M)
  pm : Pm n (dealOf M)
  ne : ∀ p, p < n → ent M p ((dealOf M).getD p 0).toNat ≠ 0
  le : ∀ p, p < n → wOf M ≤ ent M p ((dealOf M).getD p 0).toNat
  eq : ∃ p, p < n ∧ ent M p ((dealOf M).getD p 0).toNat = wOf M
  w1 : 1 ≤ wOf M
  wR : wOf M ≤ R
  reg : Reg n (addDeal M (dealOf M) (-wOf M)) (R - wOf M)
theorem valsM_get {n : Nat} {M : List (List Int)} {d : List Int} (hM : M.length = n) (hd : d.length = n) {p : Nat} (hp : p < n) : (valsM M d)[p]? = some (ent M p (d.getD p 0).toNat) := by
  unfold valsM ent
  rw [List.getElem?_zipWith, List.getElem?_eq_getElem (show p < M.length by omega), List.getElem?_eq_getElem (show p < d.length by omega), getD_lt (show p < M.length by omega), getD_lt (show p < d.length by omega)]
theorem Reg.step {n : Nat} {M : List (List Int)} {R : Int} (h : Reg n M R) (hR : 0 < R) (hn : 1 ≤ n) : StepOk n M R := by
  have hMl := h.len
  obtain ⟨f, f1, f2⟩ := deal_ex (h.regF hR)
  have hs := within_some (M := M) (f := f) (by rw [hMl]; exact f1) (by rw [hMl]; exact f2) (k := n) (b := []) (by simp [hMl]) fun j _ _ => List.not_mem_nil
  obtain ⟨d, hd⟩ := Option.isSome_iff_exists.mp hs
  have ed : dealOf M = d := by unfold dealOf; rw [hMl, hd]; rfl
  obtain ⟨s1, s2, s3, s4⟩ := within_sound hd List.nodup_nil
  rw [List.length_nil, Nat.zero_add] at s2 s4
  have hb : ∀ t ∈ d, 0 ≤ t ∧ t < n := fun t ht => by
    obtain ⟨j, hj, e⟩ := List.mem_iff_getElem.mp ht
    obtain ⟨t', h1, h2, _⟩ := s4 j (Nat.zero_le _) (by omega)
    rw [getD_lt hj, e] at h2
    omega
  have pm := pm_of s2 s1 hb
  have ne : ∀ p, p < n → ent M p (d.getD p 0).toNat ≠ 0 := fun p hp => by
    obtain ⟨t', h1, h2, h3⟩ := s4 p (Nat.zero_le _) hp
    rw [h2]
    exact h3
  have vne : valsM M d ≠ [] := fun z => by
    have := valsM_get hMl s2 (p := 0) (by omega)
    rw [z] at this
    cases this
  have vl : (valsM M d).length = n := by unfold valsM; simp [hMl, s2]
  obtain ⟨m1, m2⟩ := minL_ok vne
  have ew : wOf M = minL (valsM M d) := by unfold wOf; rw [ed]
  obtain ⟨p0, hp0, e0⟩ := List.mem_iff_getElem.mp m1
  have hp0n : p0 < n := by omega
  have eq0 : ent M p0 (d.getD p0 0).toNat = wOf M := by
    have := valsM_get hMl s2 hp0n
    rw [List.getElem?_eq_getElem hp0, e0] at this
    rw [ew]
    exact (Option.some.inj this).symm
  have le : ∀ p, p < n → wOf M ≤ ent M p (d.getD p 0).toNat := fun p hp => by
    rw [ew]
    exact m2 _ (List.mem_of_getElem? (valsM_get hMl s2 hp))
  have w1 : 1 ≤ wOf M := by
    have := ne p0 hp0n
    have := h.nn p0 (d.getD p0 0).toNat
    omega
  have wR : wOf M ≤ R := by
    rw [← eq0, ← h.row p0 hp0n]
    refine sm_one_le (fun i => h.nn p0 i) ?_
    have := hb (d.getD p0 0) (by rw [getD_lt (show p0 < d.length by omega)]; exact List.getElem_mem _)
    omega
  rw [← ed] at pm ne le eq0
  refine ⟨by rw [hd, ed], pm, ne, le, ⟨p0, hp0n, eq0⟩, w1, wR, ?_⟩
  have := h.add (w := -wOf M) pm fun p hp => by have := le p hp; omega
  rw [Int.sub_eq_add_neg]
  exact this
/-! ### lot by lot -/
def it (Z : List (List Int)) (T : Int) : Nat → List (List Int) × Int
  | 0 => (Z, T)
  | k + 1 => (addDeal (it Z T k).1 (dealOf (it Z T k).1) (-wOf (it Z T k).1), (it Z T k).2 - wOf (it Z T k).1)
def lotAt (Z : List (List Int)) (T : Int) (k : Nat) : Int × List Int := (wOf (it Z T k).1, dealOf (it Z T k).1)
def lotsL (Z : List (List Int)) (T : Int) (k : Nat) : List (Int × List Int) := (List.range k).map (lotAt Z T)
def pn (n : Nat) (M : List (List Int)) : Int := sm n fun p => (cnt n fun t => decide (ent M p t ≠ 0) : Nat)
structure ItOk (n : Nat) (Z : List (List Int)) (T : Int) (k : Nat) : Prop where
  reg : Reg n (it Z T k).1 (it Z T k).2
  r0 : 0 ≤ (it Z T k).2
  rT : (it Z T k).2 ≤ T
  lots : ∀ j, j < k → StepOk n (it Z T j).1 (it Z T j).2
  ent : ∀ p, p < n → ∀ t, ent Z p t = ent (it Z T k).1 p t + sm k fun j => if ((lotAt Z T j).2.getD p 0).toNat = t then (lotAt Z T j).1 else 0
  wts : sm k (fun j => (lotAt Z T j).1) = T - (it Z T k).2
  kill : ∀ j, j < k → ∃ p, p < n ∧ HM.ent (it Z T k).1 p ((lotAt Z T j).2.getD p 0).toNat = 0
  few : (it Z T k).2 ≠ 0 → pn n (it Z T k).1 + k ≤ pn n Z
  last : (it Z T k).2 = 0 → (k : Int) + n ≤ pn n Z + 1
  ap : ∀ i j, i < j → j < k → (lotAt Z T i).2 ≠ (lotAt Z T j).2
theorem cnt_lt {S S' : Nat → Bool} {c : Nat} : ∀ {n : Nat}, (∀ i, i < n → S i = true → S' i = true) → c < n → S' c = true → S c = false → cnt n S + 1 ≤ cnt n S' := by
  intro n h hc h1 h2
  have : cnt n (fun i => S i || i == c) = cnt n S + cnt n (fun i => i == c) := cnt_or_eq (fun i a b => by rw [eq_of_beq b, h2] at a; cases a) n
  have h3 : cnt n (fun i => S i || i == c) ≤ cnt n S' := cnt_mono fun i hi z => by
    rcases Bool.or_eq_true_iff.mp z with z | z
    · exact h i hi z
    · rw [eq_of_beq z]; exact h1
  have h4 := cnt_one c n
  rw [if_pos hc] at h4
  omega
theorem sm_lt {f g : Nat → Int} {c : Nat} : ∀ {n : Nat}, (∀ i, i < n → f i ≤ g i) → c < n → f c + 1 ≤ g c → sm n f + 1 ≤ sm n g := by
  intro n
  induction n with
  | zero => intro _ h _; exact absurd h (Nat.not_lt_zero _)
  | succ n ih =>
    intro h hc h1
    show sm n f + f n + 1 ≤ sm n g + g n
    by_cases e : c = n
    · subst e
      have := sm_le (n := c) fun i hi => h i (Nat.lt_succ_of_lt hi)
      omega
    · have := ih (fun i hi => h i (Nat.lt_succ_of_lt hi)) (by omega) h1
      have := h n (Nat.lt_succ_self n)
      omega
def Fin (Z : List (List Int)) (T : Int) (k : Nat) : Prop := (it Z T k).2 = 0 ∧ ∀ j, j < k → (it Z T j).2 ≠ 0
theorem Fin.uniq {Z : List (List Int)} {T : Int} {k k' : Nat} (h : Fin Z T k) (h' : Fin Z T k') : k = k' := by
  rcases Nat.lt_trichotomy k k' with z | z | z
  · exact absurd h.1 (h'.2 k z)
  · exact z
  · exact absurd h'.1 (h.2 k' z)
def accM (n : Nat) (Z : List (List Int)) (T : Int) : Nat → List (List Int)
  | 0 => List.replicate n (List.replicate n 0)
  | i + 1 => addDeal (accM n Z T i) (dealOf (it Z T i).1) (wOf (it Z T i).1)
end HM

namespace L2
open PySem PySem.Spec PyProof.Rows
/-! ### tables of sets: a free place is found -/
def stepI (mask i : Nat) : Nat := (i * 5 + 1) % (mask + 1)
def itI (mask : Nat) : Nat → Nat → Nat
  | 0, i => i
  | q + 1, i => itI mask q (stepI mask i)
theorem itI_add (mask : Nat) : ∀ (a b i : Nat), itI mask (a + b) i = itI mask b (itI mask a i)
  | 0, b, i => by rw [Nat.zero_add]; rfl
  | a + 1, b, i => by rw [Nat.add_right_comm]; exact itI_add mask a b (stepI mask i)
def orbI (mask : Nat) : Nat → Nat → List Nat
  | 0, _ => []
  | q + 1, i => i :: orbI mask q (stepI mask i)
theorem mem_orbI {mask e : Nat} : ∀ {q i : Nat}, e ∈ orbI mask q i → ∃ b, b < q ∧ itI mask b i = e
  | 0, _, h => nomatch h
  | q + 1, i, h => by
    rcases List.mem_cons.mp h with z | z
    · exact ⟨0, Nat.succ_pos _, z.symm⟩
    · obtain ⟨b, h1, h2⟩ := mem_orbI z
      exact ⟨b + 1, by omega, h2⟩
structure FullI (mask : Nat) : Prop where
  back : itI mask (mask + 1) 0 = 0
  all : ∀ e, e ≤ mask → e ∈ orbI mask (mask + 1) 0
theorem FullI.reach {mask : Nat} (F : FullI mask) {i e : Nat} (hi : i ≤ mask) (he : e ≤ mask) : ∃ q, q ≤ mask ∧ itI mask q i = e := by
  obtain ⟨a, ha, ea⟩ := mem_orbI (F.all i hi)
  obtain ⟨b, hb, eb⟩ := mem_orbI (F.all e he)
  by_cases h : a ≤ b
  · refine ⟨b - a, by omega, ?_⟩
    rw [← ea, ← itI_add, show a + (b - a) = b by omega, eb]
  · refine ⟨b + (mask + 1) - a, by omega, ?_⟩
    rw [← ea, ← itI_add, show a + (b + (mask + 1) - a) = (mask + 1) + b by omega, itI_add, F.back, eb]
/-- from place i with the rest pt of the hash, e is come to within m leaps -/
def Reach (mask e : Nat) : Nat → Nat → Nat → Prop
  | 0, i, _ => i = e
  | m + 1, i, pt => i = e ∨ Reach mask e m (SetTable.leap mask i pt).1 (SetTable.leap mask i pt).2
theorem Reach.up {mask e : Nat} : ∀ {m m' i pt : Nat}, Reach mask e m i pt → m ≤ m' → Reach mask e m' i pt
  | 0, 0, _, _, h, _ => h
  | 0, m' + 1, _, _, h, _ => .inl h
  | m + 1, 0, _, _, _, hm => absurd hm (Nat.not_succ_le_zero _)
  | m + 1, m' + 1, i, pt, h, hm => by
    rcases h with h | h
    · exact .inl h
    · exact .inr (h.up (Nat.le_of_succ_le_succ hm))
theorem leap_le (mask i pt : Nat) : (SetTable.leap mask i pt).1 ≤ mask := Nat.le_of_lt_succ (Nat.mod_lt _ (Nat.succ_pos _))
theorem reach_zero {mask e : Nat} : ∀ {q i : Nat}, itI mask q i = e → Reach mask e q i 0
  | 0, i, h => h
  | q + 1, i, h => .inr (reach_zero (q := q) (i := stepI mask i) h)
/-! the probing -/
def Near (t : SetTable) : Nat → SetTable.Probe → Prop
  | 0, p => t.slot p.j = .empty
  | m + 1, p => t.slot p.j = .empty ∨ Near t m (t.advance p)
theorem Near.up {t : SetTable} : ∀ {m m' : Nat} {p : SetTable.Probe}, Near t m p → m ≤ m' → Near t m' p
  | 0, 0, _, h, _ => h
  | 0, m' + 1, _, h, _ => .inl h
  | m + 1, 0, _, _, hm => absurd hm (Nat.not_succ_le_zero _)
  | m + 1, m' + 1, p, h, hm => by
    rcases h with h | h
    · exact .inl h
    · exact .inr (h.up (Nat.le_of_succ_le_succ hm))
def stP (mask i pt : Nat) (d : Option Nat) : SetTable.Probe := { j := i, more := SetTable.runEnd mask i - i, i, perturb := pt, dummy := d }
theorem near_run {t : SetTable} {m : Nat} : ∀ (r : Nat) (p : SetTable.Probe), p.more = r → Near t m (stP t.mask (SetTable.leap t.mask p.i p.perturb).1 (SetTable.leap t.mask p.i p.perturb).2 p.dummy) → Near t (m + r + 1) p
  | 0, p, hr, h => by
    refine .inr ?_
    unfold SetTable.advance
    rw [if_neg (by omega)]
    exact h
  | r + 1, p, hr, h => by
    refine .inr ?_
    unfold SetTable.advance
    rw [if_pos (by omega)]
    exact near_run r _ (by show p.more - 1 = r; omega) h
theorem run_le (mask i : Nat) : SetTable.runEnd mask i - i ≤ 9 := by
  unfold SetTable.runEnd
  split <;> omega
end L2
namespace L2
open PySem PySem.Spec PyProof.Rows
/-! laying the table anew -/
/-- k places are taken, by the numbers below k -/
structure OwnI (mask : Nat) (owner : Array (Option Nat)) (k : Nat) : Prop where
  size : owner.size = mask + 1
  cnt : (List.range (mask + 1)).countP (fun j => (owner.getD j none).isSome) = k
  lt : ∀ j v, owner.getD j none = some v → v < k
end L2
namespace L2
open PySem PySem.Spec PyProof.Rows
section
variable {prog : Program} {w : World} {A : Around} {E : Value → Shared → Prop} {s : Shared}
/-- a stored value is a tuple of whole numbers -/
def TupV (prog : Program) (w : World) (h : Heap) (k : List Int) (v : Value) : Prop := ∃ b, v = .ref b ∧ IsTupleKey (intKind prog w) h k b
end
end L2
namespace L2
open PySem PySem.Spec PyProof.Rows
structure TabQ (t : SetTable) (n : Nat) : Prop where
  mask : t.mask = 7 ∨ t.mask = 31 ∨ t.mask = 127
  dm : t.dummies = #[]
  sz : t.place.size = n
  room : n * 5 < t.mask * 3
theorem TabQ.fits {t : SetTable} {n : Nat} (T : TabQ t n) : t.fits n = true := by
  unfold SetTable.fits SetTable.fill
  rw [T.dm, T.sz]
  have := T.room
  simp
  omega
def SetQ (prog : Program) (w : World) (h : Heap) (a : Addr) (ks : List (List Int)) (n : Nat) : Prop :=
  ∃ o es ep t, h.get? a = some o ∧ o.ExactSet ∧ o.data = .set es ep t ∧ TabQ t es.size ∧ es.size = n ∧ ∀ e ∈ es.toList, ∃ k, TupV prog w h k e.2 ∧ k ∈ ks
theorem TupV.keeps {prog : Program} {w : World} {h h' : Heap} {k : List Int} {v : Value} {a : Addr} {o : Obj} {es ep t} (H : TupV prog w h k v) (ho : h.get? a = some o) (hd : o.data = .set es ep t) (sb : Heap.SameBut a h h') : TupV prog w h' k v := by
  obtain ⟨b, rfl, ob, items, n, h1, h2, h3, h4⟩ := H
  refine ⟨b, rfl, ob, items, n, ?_, h2, h3, h4⟩
  rw [sb.2 b fun z => ?_]
  · exact h1
  · subst z
    rw [ho] at h1
    cases h1
    rw [hd] at h3
    cases h3
section
variable {prog : Program} {w : World} {A : Around} {E : Value → Shared → Prop} {s : Shared}
end
end L2
namespace L2
open PySem PySem.Spec PyProof.Rows
theorem SetQ.congr {prog : Program} {w : World} {h h' : Heap} {a : Addr} {ks : List (List Int)} {n : Nat} (H : SetQ prog w h a ks n) (e : ∀ o, h.get? a = some o → h'.get? a = some o) (et : ∀ k b, k ∈ ks → IsTupleKey (intKind prog w) h k b → IsTupleKey (intKind prog w) h' k b) : SetQ prog w h' a ks n := by
  obtain ⟨o, es, ep, t, ho, hex, hd, T, hsz, hes⟩ := H
  refine ⟨o, es, ep, t, e o ho, hex, hd, T, hsz, fun x hx => ?_⟩
  obtain ⟨k, ⟨b, h1, h2⟩, h3⟩ := hes x hx
  exact ⟨k, ⟨b, h1, et k b h3 h2⟩, h3⟩
end L2
namespace L2
open PySem PySem.Spec PyProof.Rows
theorem items_of_vals {prog : Program} {w : World} : ∀ {r : List Int} {its : List Value}, Vals (r.map V.int) its → ItemsAre (intKind prog w) r its
  | [], [], _ => .nil
  | i :: r, v :: its, h => by
    cases h with
    | cons h1 h2 =>
      obtain ⟨t, rfl⟩ := h1
      exact .cons (beq_self_eq_true _) (items_of_vals h2)
theorem Inv.tupV {X : Cx} {pins : List (Addr × Obj)} {σ : St} {H : Hp} {s : Shared} (I : Inv X pins σ H s) {v : V} {u : Value} {r : List Int} (h : IsR X.K H v r) (rv : RelV v u) : TupV X.prog X.w s.heap r u := by
  obtain ⟨a, rfl, hq⟩ := h
  cases (show u = Value.ref a from rv)
  obtain ⟨its, rs, ⟨o, h1, h2, n, h3⟩, _⟩ := I.tuple hq
  exact ⟨a, rfl, o, its.toArray, n, h1, h2, h3, items_of_vals rs⟩
def tLenSet (K : PySem.W.Frag) (te : TE) : TE := fun σ H Q => te σ H fun x H1 => ∃ (l : Addr) (xs : List V) (Ks : List (List Int)), x = .ref l ∧ SqL K H1 l xs ∧ Paired (IsR K H1) xs Ks ∧ Ks.Nodup ∧ Ks.length ≤ 60 ∧ Q (.int (Ks.length : Nat)) H1
end L2

namespace L2
open PySem PySem.Spec PyProof.Rows
/-! ### lots of a table: promises -/
/-- a row of fractions as a list -/
def RwFL (K : PySem.W.Frag) (H : Hp) (T : Int) (v : V) (m : List Int) : Prop := ∃ a gs, v = .ref a ∧ SqL K H a gs ∧ Paired (IsF K H) gs (fr T m)
theorem RwFL.mono {K : PySem.W.Frag} {H H' : Hp} {T : Int} {v : V} {m : List Int} (e : Same H H') (h : RwFL K H T v m) : RwFL K H' T v m := by
  obtain ⟨a, gs, rfl, h1, h2⟩ := h
  exact ⟨a, gs, rfl, e.seq h1, fracs_mono e h2⟩
/-- the same, standing apart from lo -/
def RwFX (K : PySem.W.Frag) (H : Hp) (T : Int) (lo : Addr) (v : V) (m : List Int) : Prop := ∃ a gs, v = .ref a ∧ a ≠ lo ∧ H a = some (.lst gs) ∧ Paired (IsF K H) gs (fr T m)
theorem RwFX.fl {K : PySem.W.Frag} {H : Hp} {T : Int} {lo : Addr} {v : V} {m : List Int} (h : RwFX K H T lo v m) : RwFL K H T v m := by
  obtain ⟨a, gs, rfl, _, h1, h2⟩ := h
  exact ⟨a, gs, rfl, SqL.of h1, h2⟩
theorem RwFX.mono {K : PySem.W.Frag} {H H' : Hp} {T : Int} {lo : Addr} {v : V} {m : List Int} (e : Same H H') (h : RwFX K H T lo v m) : RwFX K H' T lo v m := by
  obtain ⟨a, gs, rfl, h0, h1, h2⟩ := h
  exact ⟨a, gs, rfl, h0, e _ _ h1, fracs_mono e h2⟩
theorem RwFX.over {K : PySem.W.Frag} {H : Hp} {T : Int} {lo : Addr} {ys zs : List V} {v : V} {m : List Int} (h : RwFX K H T lo v m) (hp : H lo = some (.lst ys)) : RwFX K (upd H lo (.lst zs)) T lo v m := by
  obtain ⟨a, gs, rfl, h0, h1, h2⟩ := h
  exact ⟨a, gs, rfl, h0, by rw [upd_ne h0]; exact h1, Paired.mapP h2 fun _ _ q => q.over hp⟩
theorem IsLot.over {K : PySem.W.Frag} {H : Hp} {T : Int} {v : V} {l : Lot} {p : Addr} {ys zs : List V} (h : IsLot K H T v l) (hp : H p = some (.lst ys)) : IsLot K (upd H p (.lst zs)) T v l := by
  obtain ⟨a, f, g, rfl, h1, h2, h3⟩ := h
  exact ⟨a, f, g, rfl, tup_over h1 hp, h2.over hp, tup_over h3 hp⟩
structure Sq31 (n : Nat) (T : Int) (M : List (List Int)) : Prop where
  lo : 1 ≤ n
  hi : n ≤ 6
  t0 : 0 < T
  t1 : T < 2 ^ 80
  len : M.length = n
  cols : ∀ r ∈ M, r.length = n
def spWithin (K : PySem.W.Frag) (m : Nat) : Sp := fun vs H Q _ => ∃ (l b : Addr) (rs : List V) (M : List (List Int)) (T : Int) (n k : Nat) (bs : List Int), vs = [.ref l, .ref b] ∧ SqL K H l rs ∧ Paired (RwFL K H T) rs M ∧ Sq31 n T M ∧ SqT K H b (bs.map V.int) ∧ bs.length + k = n ∧ k ≤ m ∧
  (HM.within M k bs = none → ∀ H', Same H H' → Q .non H') ∧ (∀ d, HM.within M k bs = some d → ∀ p H', Same H H' → SqT K H' p (d.map V.int) → Q (.ref p) H')
def spRowW (K : PySem.W.Frag) : Sp := fun vs H Q _ => ∃ (r w : Addr) (gs : List V) (m : List Int) (t T x : Int), vs = [.ref r, .int t, .ref w] ∧ SqL K H r gs ∧ Paired (IsF K H) gs (fr T m) ∧ IsF K H (.ref w) (FQ.red x T) ∧ (0 < T ∧ T < 2 ^ 80) ∧ (0 ≤ t ∧ t < m.length) ∧ m.length ≤ 6 ∧ (0 ≤ m.getD t.toNat 0 ∧ m.getD t.toNat 0 ≤ T) ∧ (0 ≤ x ∧ x ≤ T) ∧
  ∀ p gs' H', Same H H' → H p = none → H' p = some (.lst gs') → Paired (IsF K H') gs' (fr T (LM.addOne m t (-x))) → Q (.ref p) H'
/-- a table of equal sums -/
structure Tb31 (n : Nat) (T : Int) (Z : List (List Int)) : Prop where
  lo : 1 ≤ n
  hi : n ≤ 6
  t0 : 0 < T
  t1 : T < 2 ^ 80
  reg : HM.Reg n Z T
def spLotsOf (K : PySem.W.Frag) : Sp := fun vs H Q _ => ∃ (a : Addr) (us : List V) (Z : List (List Int)) (T : Int) (n : Nat), vs = [.ref a] ∧ SqL K H a us ∧ Paired (RwFT K H T) us Z ∧ Tb31 n T Z ∧
  ∀ k p ls H', HM.Fin Z T k → Same H H' → H p = none → H' p = some (.lst ls) → Paired (IsLot K H' T) ls (HM.lotsL Z T k) → Q (.ref p) H'
def spLotsHold (K : PySem.W.Frag) : Sp := fun vs H Q _ => ∃ (a l : Addr) (us ls : List V) (Z : List (List Int)) (T : Int) (n k : Nat), vs = [.ref a, .ref l] ∧ SqL K H a us ∧ Paired (RwFT K H T) us Z ∧ Tb31 n T Z ∧ HM.Fin Z T k ∧ SqL K H l ls ∧ Paired (IsLot K H T) ls (HM.lotsL Z T k) ∧
  ∀ H', Same H H' → Q (.bl true) H'
end L2

namespace L2
open PySem PySem.Spec PyProof.Rows
/-! ### pairs of tuples of whole numbers as keys -/
abbrev PKey := List Int × List Int
def IsPK (prog : Program) (w : World) (h : Heap) (k : PKey) (a : Addr) : Prop :=
  ∃ o n x y, h.get? a = some o ∧ o.cls = .type "tuple" ∧ o.data = .seq #[.ref x, .ref y] n ∧ IsTupleKey (intKind prog w) h k.1 x ∧ IsTupleKey (intKind prog w) h k.2 y
section
variable {prog : Program} {w : World} {A : Around} {E : Value → Shared → Prop} {s : Shared}
theorem IsPK.typeIs {k : PKey} {a : Addr} (x : IsPK prog w s.heap k a) : s.TypeIs (.ref a) "tuple" := let ⟨o, _, _, _, ho, hc, _⟩ := x; ⟨o, ho, hc⟩
def pkHash (prog : Program) (w : World) (k : PKey) : Int := reduceHash (Builtin.Tuple.tupleHashOf [tupleKeyHash (intKind prog w) k.1, tupleKeyHash (intKind prog w) k.2])
theorem pyHash_pk {k : PKey} {a : Addr} {Q : Int → Shared → Prop} (hu : A.units + 2 < cLine) (hk : IsPK prog w s.heap k a) (h : Q (pkHash prog w k) { s with toks := s.toks + ((k.1.length + 1) + (k.2.length + 1) + 1) }) : wpAny (model prog w) A (pyHash (.ref a)) Q E s := by
  have hT := hk.typeIs
  obtain ⟨o, n, x, y, ho, _, hd, h1, h2⟩ := hk
  unfold pyHash pyHashByItsType
  refine wpAny_bind (wpAny_cRoomFor_or (.inr (by omega)) ?_)
  refine wpAny_bind (wpAny_specialOf hT F.slot_tuple_hash.lookup ?_)
  show wpAny _ _ (if (some (Value.builtin "tuple.__hash__") == some Value.none) = true then _ else _) Q E s
  rw [if_neg (by rw [beq_builtin_none]; exact Bool.false_ne_true)]
  refine wpAny_bind (wpAny_specialOf hT F.slot_tuple_hash.lookup ?_)
  show wpAny _ _ (callSpecialIfBoundUnlessNone? (.ref a) "__hash__" _ >>= _) Q E s
  refine wpAny_bind (wpAny_callSpecialIfBoundUnlessNone?_slot hT F.slot_tuple_hash (wpAny_call_entry F.slot_tuple_hash hT F.entry_tuple_hash ?_ (F.args_tuple_hash_1 _)))
  show wpAny _ _ (Builtin.Tuple.tupleItemsOf (.ref a) >>= _) _ _ s
  refine wpAny_bind (wpAny_tupleItemsOf ho hd ?_)
  rw [← Array.forIn_toList, show #[Value.ref x, Value.ref y].toList = [Value.ref x, Value.ref y] from rfl]
  rw [List.forIn_cons, bind_assoc]
  refine wpAny_bind (wpAny_bind (wpAny_pyHash_tuple (show A.units + 1 < cLine by omega) h1 ?_))
  refine wpAny_pure ?_
  dsimp only
  rw [List.forIn_cons, bind_assoc]
  refine wpAny_bind (wpAny_bind (wpAny_pyHash_tuple (s := { s with toks := s.toks + (k.1.length + 1) }) (show A.units + 1 < cLine by omega) h2 ?_))
  refine wpAny_pure ?_
  dsimp only
  rw [List.forIn_nil]
  refine wpAny_bind (wpAny_pure ?_)
  refine wpAny_ret_mkInt ?_
  show wpAny _ _ (if (decide (-(2 : Int) ^ 63 ≤ Builtin.Tuple.tupleHashOf [tupleKeyHash (intKind prog w) k.1, tupleKeyHash (intKind prog w) k.2]) && decide (Builtin.Tuple.tupleHashOf [tupleKeyHash (intKind prog w) k.1, tupleKeyHash (intKind prog w) k.2] < 2 ^ 63)) = true then _ else _) Q E _
  unfold pkHash reduceHash at h
  split at h
  · rename_i hr
    rw [if_pos hr]
    exact wpAny_pure (by simpa [Nat.add_assoc] using h)
  · rename_i hr
    rw [if_neg hr]
    exact wpAny_bind (wpAny_rule (wpAny_pure (by simpa [Nat.add_assoc] using h)))
theorem IsPK.inj {h : Heap} {a : Addr} {k k' : PKey} (hx : IsPK prog w h k a) (hy : IsPK prog w h k' a) : k = k' := by
  obtain ⟨o, n, x, y, ho, _, hd, h1, h2⟩ := hx
  obtain ⟨o', n', x', y', ho', _, hd', h1', h2'⟩ := hy
  rw [ho] at ho'
  cases ho'
  rw [hd] at hd'
  injection hd' with e _
  have e' := congrArg Array.toList e
  simp only [List.cons.injEq, Value.ref.injEq, and_true] at e'
  obtain ⟨e1, e2⟩ := e'
  subst e1 e2
  exact Prod.ext (h1.inj h1') (h2.inj h2')
theorem IsPK.keeps {h h' : Heap} {k : PKey} {a d : Addr} {o : Obj} {es ep} (hx : IsPK prog w h k a) (ho : h.get? d = some o) (hd : o.data = .dict es ep) (hs : Heap.SameBut d h h') : IsPK prog w h' k a := by
  obtain ⟨o1, n, x, y, h0, hc, hdd, h1, h2⟩ := hx
  have hne : a ≠ d := by
    rintro rfl
    rw [ho] at h0
    cases h0
    rw [hd] at hdd
    cases hdd
  exact ⟨o1, n, x, y, (hs.2 a hne).trans h0, hc, hdd, h1.keeps ho hd hs, h2.keeps ho hd hs⟩
theorem eqBool_pk {k k' : PKey} {a b : Addr} {Q : Bool → Shared → Prop} (hu : A.units + 2 < cLine) (hx : IsPK prog w s.heap k a) (hy : IsPK prog w s.heap k' b) (h : Q (decide (k = k')) s) : wpAny (model prog w) A (eqBool (.ref a) (.ref b)) Q E s := by
  unfold eqBool
  try with_reducible refine wpAny_holding ?_
  show wpAny _ _ (if (Value.ref a == Value.ref b) = true then _ else _) Q E s
  by_cases hab : (Value.ref a == Value.ref b) = true
  · rw [if_pos hab]
    have e : a = b := by have := eq_of_beq hab; injection this
    subst e
    have e := hx.inj hy
    subst e
    exact wpAny_bind (wpAny_rule (wpAny_pure (by simpa using h)))
  · rw [if_neg hab]
    have hTa := hx.typeIs
    have hTb := hy.typeIs
    obtain ⟨o, n, x, y, ho, _, hd, h1, h2⟩ := hx
    obtain ⟨o', n', x', y', ho', _, hd', h1', h2'⟩ := hy
    refine wpAny_bind (wpAny_richCompare_same_room (op := .Eq) hTa hTb F.slot_tuple_eq (wpAny_call_entry F.slot_tuple_eq hTa F.entry_tuple_eq ?_ (F.args_tuple_eq_2 _ _)) (by omega))
    show wpAny _ _ (isInstance (.ref b) (.type "tuple") >>= _) _ _ s
    refine wpAny_bind (wpAny_isInstance hTb isSubtype_tuple_tuple ?_)
    simp only [Bool.not_true, Bool.false_eq_true, if_false]
    refine wpAny_bind (wpAny_tupleItemsOf ho hd ?_)
    refine wpAny_bind (wpAny_tupleItemsOf ho' hd' ?_)
    rw [show List.zip #[Value.ref x, Value.ref y].toList #[Value.ref x', Value.ref y'].toList = [(Value.ref x, Value.ref x'), (Value.ref y, Value.ref y')] from rfl]
    rw [List.forIn_cons, bind_assoc]
    refine wpAny_bind (wpAny_bind (wpAny_eqBool_tuple (show A.units + 1 < cLine by omega) h1 h1' ?_))
    by_cases e1 : k.1 = k'.1
    · rw [decide_eq_true e1]
      simp only [Bool.not_true, Bool.false_eq_true, if_false]
      refine wpAny_pure ?_
      dsimp only
      rw [List.forIn_cons, bind_assoc]
      refine wpAny_bind (wpAny_bind (wpAny_eqBool_tuple (show A.units + 1 < cLine by omega) h2 h2' ?_))
      by_cases e2 : k.2 = k'.2
      · rw [decide_eq_true e2]
        simp only [Bool.not_true, Bool.false_eq_true, if_false]
        refine wpAny_pure ?_
        dsimp only
        rw [List.forIn_nil]
        refine wpAny_bind (wpAny_pure (wpAny_pure ⟨_, rfl, (fun e => nomatch e), wpAny_truthy_bool ?_⟩))
        rw [decide_eq_true (Prod.ext e1 e2)] at h
        exact h
      · rw [decide_eq_false e2]
        simp only [Bool.not_false, if_true]
        rw [decide_eq_false (fun z => e2 (by rw [z]))] at h
        exact wpAny_bind (wpAny_pure (wpAny_pure (wpAny_bind (wpAny_pure (wpAny_pure ⟨_, rfl, (fun e => nomatch e), wpAny_truthy_bool h⟩)))))
    · rw [decide_eq_false e1]
      simp only [Bool.not_false, if_true]
      rw [decide_eq_false (fun z => e1 (by rw [z]))] at h
      exact wpAny_bind (wpAny_pure (wpAny_pure (wpAny_bind (wpAny_pure (wpAny_pure ⟨_, rfl, (fun e => nomatch e), wpAny_truthy_bool h⟩)))))
theorem quiet_in {f : Nat} {ks : List Int} {a : Addr} {Q : Bool → Shared → Prop} (hk : IsTupleKey (intKind prog w) s.heap ks a) (h : Q true s) : wpAny (model prog w) A (eqIsQuiet (f + 1) (.ref a)) Q E s := by
  have hT := hk.typeIs
  obtain ⟨o, items, n, ho, _, hd, hi⟩ := hk
  unfold eqIsQuiet
  refine wpAny_bind (wpAny_specialOf hT F.slot_tuple_eq.lookup ?_)
  show wpAny _ _ (isInstance (.ref a) (.type "tuple") >>= _) _ _ s
  refine wpAny_bind (wpAny_isInstance hT isSubtype_tuple_tuple ?_)
  simp only [Bool.not_true, Bool.false_eq_true, if_false]
  refine wpAny_bind (wpAny_seqItems ho hd ?_)
  refine wpAny_bind ?_
  show wpAny _ _ (forIn items _ _) _ _ s
  rw [← Array.forIn_toList]
  refine wpAny_forIn_list _ (fun rest r s' => r.1 = none ∧ s' = s ∧ ∀ v ∈ rest, carriedByValue v = true) _ ?_ ?_ _ _ ⟨rfl, rfl, hi.byValue⟩
  · rintro v rest r s' ⟨_, rfl, ha⟩
    rw [eqIsQuiet_byValue _ (ha v List.mem_cons_self)]
    refine wpAny_bind (wpAny_pure ?_)
    simp only [Bool.not_true, Bool.false_eq_true, if_false]
    exact wpAny_pure ⟨rfl, rfl, fun u hu' => ha u (List.mem_cons_of_mem _ hu')⟩
  · rintro ⟨r1, r2⟩ s' ⟨hr, rfl, _⟩
    simp only at hr
    subst hr
    exact wpAny_pure h
theorem quiet_pk {k : PKey} {a : Addr} {Q : Bool → Shared → Prop} (hk : IsPK prog w s.heap k a) (h : Q true s) : wpAny (model prog w) A (eqIsQuiet 8 (.ref a)) Q E s := by
  have hT := hk.typeIs
  obtain ⟨o, n, x, y, ho, _, hd, h1, h2⟩ := hk
  unfold eqIsQuiet
  refine wpAny_bind (wpAny_specialOf hT F.slot_tuple_eq.lookup ?_)
  show wpAny _ _ (isInstance (.ref a) (.type "tuple") >>= _) _ _ s
  refine wpAny_bind (wpAny_isInstance hT isSubtype_tuple_tuple ?_)
  simp only [Bool.not_true, Bool.false_eq_true, if_false]
  refine wpAny_bind (wpAny_seqItems ho hd ?_)
  show wpAny _ _ (forIn #[Value.ref x, Value.ref y] _ _ >>= _) _ _ s
  rw [← Array.forIn_toList, show #[Value.ref x, Value.ref y].toList = [Value.ref x, Value.ref y] from rfl, List.forIn_cons, bind_assoc]
  refine wpAny_bind (wpAny_bind (quiet_in h1 ?_))
  simp only [Bool.not_true, Bool.false_eq_true, if_false]
  refine wpAny_pure ?_
  dsimp only
  rw [List.forIn_cons, bind_assoc]
  refine wpAny_bind (wpAny_bind (quiet_in h2 ?_))
  simp only [Bool.not_true, Bool.false_eq_true, if_false]
  refine wpAny_pure ?_
  dsimp only
  rw [List.forIn_nil]
  exact wpAny_bind (wpAny_pure (wpAny_pure h))
end
def pairKind (prog : Program) (w : World) : HeapKind prog w PKey where
  is := IsPK prog w
  hash := pkHash prog w
  draws := fun k => (k.1.length + 1) + (k.2.length + 1) + 1
  room := fun A => A.units + 2 < cLine
  inj := fun hx hy => hx.inj hy
  keeps := fun x ho hd hs => x.keeps ho hd hs
  pyHash := fun hu hk h => pyHash_pk hu hk h
  eqBool := fun hu hx hy h => eqBool_pk hu hx hy h
  quiet := fun hk h => quiet_pk hk h
end L2
namespace L2
open PySem PySem.Spec PyProof.Rows
/-! ### dicts with such keys, of whole numbers -/
structure KW (κ : Type) [DecidableEq κ] where
  knd : (prog : Program) → (w : World) → HeapKind prog w κ
  at' : PySem.W.Frag → Hp → κ → Addr → Prop
  ok : ∀ {X : Cx} {pins : List (Addr × Obj)} {σ : St} {H : Hp} {s : Shared} {k : κ} {a : Addr}, Inv X pins σ H s → at' X.K H k a → (knd X.prog X.w).is s.heap k a
  map : ∀ {K : PySem.W.Frag} {H H' : Hp} {k : κ} {a : Addr}, (∀ b xs, SqT K H b xs → SqT K H' b xs) → at' K H k a → at' K H' k a
  room : ∀ {prog : Program} {w : World} {A : Around}, A.units + 3 < cLine → (knd prog w).room A.in1
  room' : ∀ {prog : Program} {w : World} {A : Around}, A.units + 3 < cLine → (knd prog w).room A
def DXe {P : Program} {w : World} {κ : Type} [DecidableEq κ] (knd : HeapKind P w κ) (xs : List (κ × Addr × Value)) (ep : Nat) (d : Addr) (h : Heap) : Prop :=
  (d == sysModules) = false ∧ ∃ o es, h.get? d = some o ∧ o.ExactDict ∧ o.data = .dict es ep ∧ es.toList = xs.map (entryOfKey knd) ∧ (xs.map (·.1)).Nodup
def DictE {κ : Type} [DecidableEq κ] (W : KW κ) (P : Program) (w : World) (K : PySem.W.Frag) (H : Hp) (d : Addr) (ep : Nat) (kvs : List (κ × Int)) : Prop :=
  ∃ xs, H d = some (.ext (DXe (W.knd P w) xs ep d)) ∧ Paired (fun (p : κ × Int) (q : κ × Addr × Value) => p.1 = q.1 ∧ (∃ t, q.2.2 = Value.int p.2 t) ∧ W.at' K H p.1 q.2.1) kvs xs
def DictI {κ : Type} [DecidableEq κ] (W : KW κ) (P : Program) (w : World) (K : PySem.W.Frag) (H : Hp) (d : Addr) (kvs : List (κ × Int)) : Prop := ∃ ep, DictE W P w K H d ep kvs
section
variable {κ : Type} [DecidableEq κ] {W : KW κ} {P : Program} {w : World} {K : PySem.W.Frag} {H H' : Hp} {d : Addr} {ep : Nat} {kvs : List (κ × Int)}
theorem DictE.mono (e : Same H H') (h : DictE W P w K H d ep kvs) : DictE W P w K H' d ep kvs := by
  obtain ⟨xs, h1, h2⟩ := h
  exact ⟨xs, e _ _ h1, Paired.mapP h2 fun _ _ ⟨a, b, c⟩ => ⟨a, b, W.map (fun _ _ q => e.tup q) c⟩⟩
theorem DictI.mono (e : Same H H') (h : DictI W P w K H d kvs) : DictI W P w K H' d kvs := by
  obtain ⟨ep, h⟩ := h
  exact ⟨ep, h.mono e⟩
theorem xtup_over {p a : Addr} {φ : Heap → Prop} {o : HO} {xs : List V} (h : SqT K H a xs) (hp : H p = some (.ext φ)) : SqT K (upd H p o) a xs := by
  rcases h with (h | ⟨u, h⟩) | h
  · exact .inl (.inl (by rw [upd_ne (fun z => by rw [z, hp] at h; cases h)]; exact h))
  · exact .inl (.inr ⟨u, by rw [upd_ne (fun z => by rw [z, hp] at h; cases h)]; exact h⟩)
  · exact .inr h
/-- another dict is changed -/
theorem DictE.overX {p : Addr} {φ : Heap → Prop} {o : HO} (h : DictE W P w K H d ep kvs) (hp : H p = some (.ext φ)) (hne : d ≠ p) : DictE W P w K (upd H p o) d ep kvs := by
  obtain ⟨xs, h1, h2⟩ := h
  exact ⟨xs, by rw [upd_ne hne]; exact h1, Paired.mapP h2 fun _ _ ⟨a, b, c⟩ => ⟨a, b, W.map (fun _ _ q => xtup_over q hp) c⟩⟩
theorem DXe.frame {knd : HeapKind P w κ} {xs : List (κ × Addr × Value)} {h1 h2 : Heap} (h : DXe knd xs ep d h1) (k : ∀ o, h1.get? d = some o → h2.get? d = some o) : DXe knd xs ep d h2 := by
  obtain ⟨a, o, es, b, c⟩ := h
  exact ⟨a, o, es, k o b, c⟩
theorem objOk_x {knd : HeapKind P w κ} {xs : List (κ × Addr × Value)} {h : Heap} (hx : DXe knd xs ep d h) : ObjOk P w H h d (.ext (DXe knd xs ep d)) :=
  ⟨hx, let ⟨_, o, _, b, _⟩ := hx; ⟨o, b⟩, fun _ _ a b => a.frame b⟩
end
section
variable {κ : Type} [DecidableEq κ] {W : KW κ} {X : Cx} {pins : List (Addr × Obj)} {σ : St} {H : Hp} {s : Shared} {d : Addr} {ep : Nat} {kvs : List (κ × Int)} {A : Around} {E : Value → Shared → Prop}
theorem Inv.dx (I : Inv X pins σ H s) (h : DictE W X.prog X.w X.K H d ep kvs) : ∃ xs, DXe (W.knd X.prog X.w) xs ep d s.heap ∧ s.heap.DictOfH (W.knd X.prog X.w) d xs ∧ Paired (fun (p : κ × Int) (q : κ × Addr × Value) => p.1 = q.1 ∧ (∃ t, q.2.2 = Value.int p.2 t) ∧ W.at' X.K H p.1 q.2.1) kvs xs := by
  obtain ⟨xs, h1, h2⟩ := h
  obtain ⟨hx, _, _⟩ := I.hok d _ h1
  obtain ⟨h3, o, es, a, b, c, e, f⟩ := id hx
  refine ⟨xs, hx, ⟨o, es, ep, a, b, c, e, fun q hq => ?_, f⟩, h2⟩
  obtain ⟨i, hi, eq⟩ := List.mem_iff_getElem.mp hq
  obtain ⟨p, hp, e1, _, e3⟩ := Paired.get h2 (List.getElem?_eq_getElem hi)
  rw [eq] at e1 e3
  rw [← e1]
  exact W.ok I e3
theorem paired_find {xs : List (κ × Addr × Value)} {K : PySem.W.Frag} {H : Hp} (k : κ) : ∀ {kvs : List (κ × Int)}, Paired (fun (p : κ × Int) (q : κ × Addr × Value) => p.1 = q.1 ∧ (∃ t, q.2.2 = Value.int p.2 t) ∧ W.at' K H p.1 q.2.1) kvs xs → (kvs.lookup k = none ∧ atKey xs k = none) ∨ ∃ n a t, kvs.lookup k = some n ∧ atKey xs k = some (a, Value.int n t) := by
  induction xs with
  | nil =>
    intro kvs h
    cases h
    exact .inl ⟨rfl, rfl⟩
  | cons q xs ih =>
    intro kvs h
    cases h with
    | @cons p _ ps _ hp hr =>
      obtain ⟨e1, ⟨t, e2⟩, _⟩ := hp
      obtain ⟨pk, pn⟩ := p
      obtain ⟨qk, qa, qv⟩ := q
      dsimp only at e1 e2
      subst e1 e2
      by_cases e : pk = k
      · subst e
        refine .inr ⟨pn, qa, t, ?_, ?_⟩
        · simp [List.lookup]
        · simp [atKey]
      · have h1 : ((pk, pn) :: ps).lookup k = ps.lookup k := by
          rw [List.lookup_cons, show (k == pk) = false from beq_false_of_ne (Ne.symm e)]
        have h2 : atKey ((pk, qa, Value.int pn t) :: xs) k = atKey xs k := by
          unfold atKey
          rw [List.find?_cons_of_neg (by simpa using e)]
        rw [h1, h2]
        exact ih hr
/-- d.get(key, n) -/
def tXGet (W : KW κ) (P : Program) (w : World) (K : PySem.W.Frag) (td ty tx : TE) : TE := fun σ H Q => td σ H fun x H1 => ∃ (d : Addr), x = .ref d ∧ (∃ kvs, DictI W P w K H1 d kvs) ∧ ty σ H1 fun y H2 => tx σ H2 fun z H3 => ∃ (a : Addr) (k : κ) (n : Int) (kvs : List (κ × Int)), y = .ref a ∧ z = .int n ∧ DictI W P w K H3 d kvs ∧ W.at' K H3 k a ∧ Q (.int ((kvs.lookup k).getD n)) H3
theorem pe_xget {P : Program} {w : World} {K : PySem.W.Frag} {o e f : Expr} {apos cpos : Pos} {td ty tx : TE} {j : Nat} (hP : X.prog = P) (hw : X.w = w) (hK : X.K = K) (hr : Room j X.A) (ho : PE X o td) (he : PE X e ty) (hf : PE X f tx) (hbase : attributeBase o "get" X.env (eval o X.env) = eval o X.env := by rfl)
    (hfew : ((backTo cpos (starEach [e, f] X.env)).all (fun x => !x.1) && (backToKw cpos (keywordEach [] X.env)).all (fun x => x.1.isSome) && decide (([e, f] : List Expr).length + ([] : List Keyword).length + (if ([] : List Keyword).isEmpty then 0 else 1) < 30)) = true := by rfl)
    (hline : (apos.endLine == cpos.line) = true := by rfl) (htrees : backTo cpos (starEach [e, f] X.env) = [(false, eval e X.env), (false, eval f X.env)] := by rfl) : PE X (.Call (.Attribute o "get" apos) [e, f] [] cpos) (tXGet W P w K td ty tx) := by
  subst hP hw hK
  intro pins s σ H Q I h
  refine wpAny_Call_method hbase hfew hline PySem.F.plainAttrs_dict PySem.F.slot_dict_get PySem.F.type_dict_get (thn (ho pins s σ H _ I h) fun u s1 ⟨x, H1, I1, rx, d, ex, ⟨kvs1, ep1, dd1⟩, q1⟩ => ?_)
  subst ex
  obtain rfl : u = Value.ref d := rx
  obtain ⟨xs1, ⟨hsys, o1, es1, g1, g2, _⟩, hd1, _⟩ := I1.dx dd1
  refine ⟨hd1.typeIs, fun b z => ?_, ?_⟩
  · cases z
    exact ⟨o1, g1, g2.2.1⟩
  rw [htrees]
  refine Calls.callWith_builtin rfl (Calls.evalArgs_plain (Calls.spliced_cons (thn (he pins s1 σ H1 _ I1 q1) fun iv s2 ⟨y, H2, I2, ry, q2⟩ => Calls.spliced_cons (thn (hf pins s2 σ H2 _ I2 q2) fun fv s3 ⟨z, H3, I3, rz, a, k, n, kvs, ey, ez, ⟨ep3, dd3⟩, hk, q3⟩ => Calls.spliced_nil ?_))))
  subst ey ez
  cases (show iv = Value.ref a from ry)
  obtain ⟨tn, rfl⟩ := rz
  obtain ⟨xs, ⟨hsys3, _⟩, hd3, rel⟩ := I3.dx dd3
  refine call_meetsIn PySem.F.slot_dict_get hd3.typeIs PySem.F.entry_dict_get (PySem.F.args_dict_get_3 _ _ _) (meetsH_dict_get_default (W.knd X.prog X.w) d a hsys3 (.int n tn)) ⟨W.room (by have := hr.units; omega), k, xs, W.ok I3 hk, hd3, ?_⟩
  refine ⟨_, H3, I3.tok _, ?_, q3⟩
  rcases paired_find k rel with ⟨e1, e2⟩ | ⟨m, b, t, e1, e2⟩
  · rw [e1, e2]; exact ⟨_, rfl⟩
  · rw [e1, e2]; exact ⟨_, rfl⟩
def putD (kvs : List (κ × Int)) (k : κ) (n : Int) : List (κ × Int) := if (kvs.lookup k).isSome = true then kvs.map (fun p => if p.1 = k then (p.1, n) else p) else kvs ++ [(k, n)]
theorem paired_put {K : PySem.W.Frag} {H H' : Hp} {xs : List (κ × Addr × Value)} {kvs : List (κ × Int)} {k : κ} {a : Addr} {n : Int} {t : Tok} (rel : Paired (fun (p : κ × Int) (q : κ × Addr × Value) => p.1 = q.1 ∧ (∃ t, q.2.2 = Value.int p.2 t) ∧ W.at' K H p.1 q.2.1) kvs xs)
    (up : ∀ (k' : κ) (b : Addr), W.at' K H k' b → W.at' K H' k' b) (hk : W.at' K H k a) : Paired (fun (p : κ × Int) (q : κ × Addr × Value) => p.1 = q.1 ∧ (∃ t, q.2.2 = Value.int p.2 t) ∧ W.at' K H' p.1 q.2.1) (putD kvs k n) (storedH xs k a (.int n t)) := by
  unfold putD
  rcases paired_find k rel with ⟨e1, e2⟩ | ⟨m, b, t', e1, e2⟩
  · rw [e1, storedH_new e2]
    exact Paired.app (Paired.mapP rel fun _ _ ⟨x1, x2, x3⟩ => ⟨x1, x2, up _ _ x3⟩) (.cons ⟨rfl, ⟨t, rfl⟩, up _ _ hk⟩ .nil)
  · rw [e1, storedH_old e2]
    show Paired _ (kvs.map fun p => if p.1 = k then (p.1, n) else p) (xs.map (putAt k (.int n t)))
    clear e1 e2
    induction rel with
    | nil => exact .nil
    | @cons p q ps qs h _ ih =>
      obtain ⟨x1, x2, x3⟩ := h
      refine .cons ?_ ih
      unfold putAt
      dsimp only
      by_cases e : p.1 = k
      · rw [if_pos e, if_pos (x1 ▸ e)]
        exact ⟨x1, ⟨t, rfl⟩, up _ _ x3⟩
      · rw [if_neg e, if_neg (fun z => e (x1.trans z))]
        exact ⟨x1, x2, up _ _ x3⟩
/-- d[key] = n -/
def rSetX (W : KW κ) (P : Program) (w : World) (K : PySem.W.Frag) : V → V → V → Hp → (Hp → Prop) → Prop := fun o i v H Q => ∃ (d a : Addr) (k : κ) (n : Int) (kvs : List (κ × Int)), o = .ref d ∧ i = .ref a ∧ v = .int n ∧ DictI W P w K H d kvs ∧ W.at' K H k a ∧ kvs.length ≤ 1000000 ∧
  ∀ H', (∃ φ φ', H d = some (.ext φ) ∧ H' = upd H d (.ext φ')) → DictI W P w K H' d (putD kvs k n) → Q H'
theorem set_x {P : Program} {w : World} {K : PySem.W.Frag} {j : Nat} (hP : X.prog = P) (hw : X.w = w) (hK : X.K = K) (hr : Room j X.A) : PSet X (rSetX W P w K) := by
  subst hP hw hK
  intro pins s σ H o i v ov iv u Q I ro ri rv h
  obtain ⟨d, a, k, n, kvs, rfl, rfl, rfl, ⟨ep, dd⟩, hk, hl, q⟩ := h
  cases ro
  cases ri
  obtain ⟨t, rfl⟩ := rv
  obtain ⟨xs, ⟨hsys, o1, es1, g1, g2, g3, _⟩, hd, rel⟩ := I.dx dd
  have hxl := Paired.len rel
  refine wpAny_setItem_heap (W.room (by have := hr.units; omega)) (W.ok I hk) hd (fun h' hd' sb => ?_) (Nat.le_trans (show xs.length ≤ 1000000 by omega) (by decide))
  obtain ⟨o2, es2, ep2, a1, a2, a3, a4, a5, a6⟩ := hd'
  obtain ⟨xs0, h1, h2⟩ := dd
  have nx : DXe (W.knd X.prog X.w) (storedH xs k a (.int n t)) ep2 d h' := ⟨hsys, o2, es2, a1, a2, a3, a4, a6⟩
  have I2 := I.write (t' := s.toks + (W.knd X.prog X.w).draws k) (x := d) (e := d) (o := .ext (DXe (W.knd X.prog X.w) (storedH xs k a (.int n t)) ep2 d)) (by rw [h1]; trivial) (.inl rfl) (fun b ob hb qq => (sb.2 b hb).trans qq) ⟨o2, a1⟩ (objOk_x nx)
  refine ⟨_, I2, q _ ⟨_, _, h1, rfl⟩ ⟨ep2, storedH xs k a (.int n t), upd_same, ?_⟩⟩
  have up : ∀ (k' : κ) (b : Addr), W.at' X.K H k' b → W.at' X.K (upd H d (.ext (DXe (W.knd X.prog X.w) (storedH xs k a (.int n t)) ep2 d))) k' b := fun k' b hb => W.map (fun _ _ qq => xtup_over qq h1) hb
  generalize upd H d (.ext (DXe (W.knd X.prog X.w) (storedH xs k a (.int n t)) ep2 d)) = Hn at up
  exact paired_put rel up hk
end
end L2
namespace L2
open PySem PySem.Spec PyProof.Rows
section
variable {κ : Type} [DecidableEq κ] {W : KW κ} {X : Cx}
theorem Inv.bigS {pins : List (Addr × Obj)} {σ : St} {H : Hp} {s : Shared} (I : Inv X pins σ H s) : sysModules < s.heap.objs.size := Nat.lt_trans (by decide) ((I.mod.glob.keeps I.bk).lt)
theorem dxe_new {P : Program} {w : World} (knd : HeapKind P w κ) (h : Heap) (hb : sysModules < h.objs.size) : DXe knd [] 0 h.objs.size (h.push { cls := .type "dict", data := .dict #[] }) :=
  ⟨beq_eq_false_iff_ne.mpr (Ne.symm (Nat.ne_of_lt hb)), _, #[], Heap.get?_push_size _ rfl, ⟨rfl, rfl, rfl⟩, rfl, rfl, List.nodup_nil⟩
/-- {} -/
def tXNew (W : KW κ) (P : Program) (w : World) (K : PySem.W.Frag) : TE := fun _ H Q => ∀ d H', H d = none → (∃ φ, H' = upd H d (.ext φ)) → DictI W P w K H' d [] → Q (.ref d) H'
theorem pe_xnew {P : Program} {w : World} {K : PySem.W.Frag} {pos : Pos} (hP : X.prog = P) (hw : X.w = w) (hK : X.K = K) : PE X (.Dict [] [] pos) (tXNew W P w K) := by
  subst hP hw hK
  exact fun pins s σ H Q I h => wpAny_Dict_empty ⟨.ref s.heap.objs.size, _, I.laid (a := s.heap.objs.size) (o := .ext (DXe (W.knd X.prog X.w) [] 0 s.heap.objs.size)) (t' := s.toks) (fun _ _ q => Heap.get?_push_of_some _ q) (Nat.le_refl _) (objOk_x (dxe_new _ s.heap I.bigS)), rfl,
    h _ _ (I.hok.fresh (Nat.le_refl _)) ⟨_, rfl⟩ ⟨0, [], upd_same, .nil⟩⟩
/-- {key: n} -/
def tXNew1 (W : KW κ) (P : Program) (w : World) (K : PySem.W.Frag) (tk tv : TE) : TE := fun σ H Q => ∀ d H1, H d = none → (∃ φ, H1 = upd H d (.ext φ)) → DictI W P w K H1 d [] → tk σ H1 fun x H2 => tv σ H2 fun y H3 => ∃ (a : Addr) (k : κ) (n : Int), x = .ref a ∧ y = .int n ∧ W.at' K H3 k a ∧ DictI W P w K H3 d [] ∧
  ∀ H', (∃ φ φ', H3 d = some (.ext φ) ∧ H' = upd H3 d (.ext φ')) → DictI W P w K H' d [(k, n)] → Q (.ref d) H'
theorem pe_xnew1 {P : Program} {w : World} {K : PySem.W.Frag} {j : Nat} {ke ve : Expr} {pos : Pos} {tk tv : TE} (hP : X.prog = P) (hw : X.w = w) (hK : X.K = K) (hr : Room j X.A) (hk : PE X ke tk) (hv : PE X ve tv) : PE X (.Dict [some ke] [ve] pos) (tXNew1 W P w K tk tv) := by
  subst hP hw hK
  intro pins s σ H Q I h
  have I1 := I.laid (a := s.heap.objs.size) (o := .ext (DXe (W.knd X.prog X.w) [] 0 s.heap.objs.size)) (t' := s.toks) (h' := s.heap.push { cls := .type "dict", data := .dict #[] }) (fun _ _ q => Heap.get?_push_of_some _ q) (Nat.le_refl _) (objOk_x (dxe_new _ s.heap I.bigS))
  have q0 := h s.heap.objs.size _ (I.hok.fresh (Nat.le_refl _)) ⟨_, rfl⟩ ⟨0, [], upd_same, .nil⟩
  refine wpAny_Dict_any rfl rfl (by simp) (by show 1 ≤ 15; decide) ?_
  refine pairTrees_cons_walk (thn (hk pins _ σ _ _ I1 q0) fun u s1 ⟨x, H2, I2, rx, q2⟩ => thn (hv pins s1 σ H2 _ I2 q2) fun v s2 ⟨y, H3, I3, ry, a, k, n, ex, ey, ha, ⟨ep, dd⟩, q3⟩ => pairTrees_nil_walk ?_)
  subst ex ey
  cases (show u = Value.ref a from rx)
  obtain ⟨t, rfl⟩ := ry
  obtain ⟨xs, ⟨hsys, _⟩, hd, rel⟩ := I3.dx dd
  cases rel
  unfold storeAll
  rw [List.forIn_cons]
  refine wpAny_bind (wpAny_bind (wpAny_dictSet_heap (hsz := Nat.zero_le _) (W.room' (by have := hr.units; omega)) (W.ok I3 ha) hd fun h' hd' sb => wpAny_pure ?_))
  dsimp only
  rw [List.forIn_nil]
  refine wpAny_pure ?_
  obtain ⟨o2, es2, ep2, a1, a2, a3, a4, a5, a6⟩ := hd'
  obtain ⟨xs0, h1, h2⟩ := dd
  have nx : DXe (W.knd X.prog X.w) (storedH [] k a (.int n t)) ep2 s.heap.objs.size h' := ⟨hsys, o2, es2, a1, a2, a3, a4, a6⟩
  have I4 := I3.write (t' := s2.toks + (W.knd X.prog X.w).draws k) (x := s.heap.objs.size) (e := s.heap.objs.size) (o := .ext (DXe (W.knd X.prog X.w) (storedH [] k a (.int n t)) ep2 s.heap.objs.size)) (by rw [h1]; trivial) (.inl rfl) (fun b ob hb qq => (sb.2 b hb).trans qq) ⟨o2, a1⟩ (objOk_x nx)
  refine ⟨.ref s.heap.objs.size, _, I4, rfl, q3 _ ⟨_, _, h1, rfl⟩ ⟨ep2, storedH [] k a (.int n t), upd_same, ?_⟩⟩
  exact .cons ⟨rfl, ⟨t, rfl⟩, W.map (fun _ _ qq => xtup_over qq h1) ha⟩ .nil
end
end L2
namespace L2
open PySem PySem.Spec PyProof.Rows
/-! ### a dict's pairs, one by one -/
def RawD (h : Heap) (d : Addr) (es : Array DictEntry) (ep : Nat) : Prop := ∃ o, h.get? d = some o ∧ o.ExactDict ∧ o.data = .dict es ep
section
variable {prog : Program} {w : World} {A : Around} {E : Value → Shared → Prop} {s : Shared}
theorem RawD.ty {d : Addr} {es : Array DictEntry} {ep : Nat} (r : RawD s.heap d es ep) : s.TypeIs (.ref d) "dict" := let ⟨o, a, b, _⟩ := r; ⟨o, a, b.1⟩
theorem meets_itemsR (d : Addr) (hs : (d == sysModules) = false) : MeetsIn prog w (Builtin.«dict.items» ⟨[.ref d], []⟩) (fun _ R s => (∃ es ep, RawD s.heap d es ep) ∧ R (.ok (.ret (.ref s.heap.objs.size))) { s with heap := s.heap.push { cls := .type "dict_items", data := .fields #[.ref d] } }) :=
  .of_wp fun A R s ⟨⟨es, ep, r⟩, h⟩ => by
    unfold Builtin.«dict.items» Builtin.Dict.noArgs Builtin.Dict.showsAll
    refine wpAny_bind (wpAny_bind (wpAny_notOrdered_dict r.ty (wpAny_pure ?_)))
    rw [if_neg (by rw [hs]; exact Bool.false_ne_true)]
    exact wpAny_bind (wpAny_pure (wpAny_bind (wpAny_newObj_type (wpAny_pure ⟨_, rfl, h⟩))))
theorem iter_itemsR {v d : Addr} {es : Array DictEntry} {ep : Nat} {Q : Value → Shared → Prop} (hv : s.heap.IsItemsView v d) (r : RawD s.heap d es ep)
    (hQ : Q (.ref s.heap.objs.size) { s with heap := s.heap.push { cls := .type "dict_itemiterator", data := .fields #[.none, .bool false, .ref d, .int 0 0, .int es.size 0, .int ep 0, .none, .none] } }) : wpAny (model prog w) A (pyIter (.ref v)) Q E s := by
  obtain ⟨ov, k1, k2, k3⟩ := id hv
  obtain ⟨o, r1, r2, r3⟩ := id r
  refine wpAny_pyIter_slot hv.typeIs F.slot_dict_items_iter (wpAny_call_entry F.slot_dict_items_iter hv.typeIs F.entry_dict_items_iter ?_ (F.args_dict_items_iter_1 _))
  unfold Builtin.«dict_items.__iter__» Builtin.Dict_items.dictOf Builtin.Dict_items.newIterator
  refine wpAny_bind (wpAny_pure (wpAny_bind (wpAny_bind (wpAny_field k1 k3 (x := .ref d) rfl (wpAny_pure ?_)))))
  refine wpAny_bind (wpAny_bind (wpAny_dictEntries r1 r3 (wpAny_bind (wpAny_dictEpoch r1 r3 ?_))))
  have hown : Builtin.Dict_items.ownsTuple "dict_itemiterator" = true := by decide
  simp only [hown, if_true]
  refine wpAny_newObj_type (wpAny_pure ⟨_, rfl, "dict_itemiterator", _, ⟨_, Heap.get?_push_size _ rfl, rfl⟩, F.slot_dict_itemiterator_next.lookup, ?_⟩) (by simp only [sizeOk, Builtin.Dict_items.ownedTupleFields, List.size_toArray, List.length_append, List.length_cons, List.length_nil, sizeLine_eq]; omega)
  simpa [rawInt, Builtin.Dict_items.ownedTupleFields] using hQ
theorem next_itemsR {it d : Addr} {i ep : Nat} {es : Array DictEntry} {ok ov : Value} {Q : Option Value → Shared → Prop} (hit : IsItemIter s.heap it d i es.size ep ok ov) (r : RawD s.heap d es ep) (hlt : i < es.size)
    (hQ : ∀ h', IsItemIterOut h' it d (i + 1) es.size ep es[i].key es[i].val s.heap.objs.size → h'.get? s.heap.objs.size = some { cls := .type "tuple", data := .seq #[es[i].key, es[i].val] } → h'.objs.size = s.heap.objs.size + 1 →
      (∀ b o, b ≠ it → s.heap.get? b = some o → h'.get? b = some o) → Q (some (.ref s.heap.objs.size)) { s with heap := h' }) : wpAny (model prog w) A (pyNext (.ref it)) Q E s := by
  obtain ⟨hp, g, dr, tk, os⟩ := s
  obtain ⟨o, r1, r2, r3⟩ := id r
  have ht : Shared.TypeIs ⟨hp, g, dr, tk, os⟩ (.ref it) "dict_itemiterator" := ⟨_, hit, rfl⟩
  unfold pyNext
  refine wpAny_bind (wpAny_attempt (wpAny_callSpecial?_slot (name := Str.ofString "__next__") ht F.slot_dict_itemiterator_next (wpAny_call_entry F.slot_dict_itemiterator_next ht F.entry_dict_itemiterator_next ?_ (F.args_dict_itemiterator_next_1 _))))
  refine wpAny_bind (wpAny_pure (wpAny_bind (wpAny_bind ?_)))
  first | refine wpAny_bind (wpAny_typeNameOfWhole_itemiter ht (wpAny_pure ?_)) | refine wpAny_bind (wpAny_typeNameOf_itemiter ht (wpAny_pure ?_))
  refine wpAny_bind (wpAny_fieldsOf hit rfl ?_)
  have hown : Builtin.Dict_items.ownsTuple "dict_itemiterator" = true := by decide
  simp only [hown, if_true]
  show wpAny _ _ (if (Value.ref d == Value.none) = true then _ else _) _ _ _
  rw [if_neg (show ¬ ((Value.ref d == Value.none) = true) from Bool.false_ne_true)]
  refine wpAny_bind (wpAny_pure (wpAny_bind (wpAny_dictEntries r1 r3 ?_)))
  rw [if_neg (by simp)]
  refine wpAny_bind (wpAny_pure (wpAny_bind (wpAny_dictEpoch r1 r3 ?_)))
  rw [if_neg (by simp)]
  refine wpAny_pure ?_
  simp only [show ¬ ((i : Int) < 0) from by omega, if_false, Int.toNat_natCast, Array.getElem?_eq_getElem hlt]
  refine wpAny_bind ?_
  first | refine wpAny_bind (wpAny_typeNameOfWhole_itemiter ht (wpAny_pure ?_)) | refine wpAny_bind (wpAny_typeNameOf_itemiter ht (wpAny_pure ?_))
  refine wpAny_bind (wpAny_isOneOf_itemiter ht ?_)
  show wpAny _ _ (setField (.ref it) 3 (rawInt ((i : Int) + 1)) >>= _) _ _ ⟨hp, g, dr, tk, os⟩
  refine wpAny_bind (wpAny_setField_rec hit (by simp) fun h1 e1 s1 => ?_)
  replace s1 : Heap.SameBut it hp h1 := s1
  replace e1 : IsItemIter h1 it d (i + 1) es.size ep ok ov := by
    have e : ((i + 1 : Nat) : Int) = (i : Int) + 1 := by omega
    unfold IsItemIter; rw [e]; simpa [rawInt] using e1
  have ht1 : Shared.TypeIs ⟨h1, g, dr, tk, os⟩ (.ref it) "dict_itemiterator" := ⟨_, e1, rfl⟩
  refine wpAny_bind (wpAny_holding (wpAny_bind (wpAny_isOneOf_itemiter ht1 (wpAny_bind (wpAny_isOneOf_itemiter ht1 ?_)))))
  show wpAny _ _ (Builtin.Dict_items.pairFromOwner (.ref it) 6 es[i].key es[i].val) _ _ ⟨h1, g, dr, tk, os⟩
  generalize es[i].key = ky at *
  generalize es[i].val = vl at *
  unfold Builtin.Dict_items.pairFromOwner Builtin.Dict_items.ownedTupleIsFree
  refine wpAny_bind (wpAny_newTuple ?_)
  have e2 : IsItemIter (h1.push { cls := .type "tuple", data := .seq #[ky, vl] }) it d (i + 1) es.size ep ok ov := Heap.get?_push_of_some _ e1
  have z1 : h1.objs.size = hp.objs.size := s1.1
  have t2 : (h1.push { cls := .type "tuple", data := .seq #[ky, vl] }).get? hp.objs.size = some { cls := .type "tuple", data := .seq #[ky, vl] } := by rw [← z1]; exact Heap.get?_push_size _ rfl
  have z2 : (h1.push { cls := .type "tuple", data := .seq #[ky, vl] }).objs.size = hp.objs.size + 1 := by rw [Heap.size_push, z1]
  have k2 : ∀ b o, b ≠ it → hp.get? b = some o → (h1.push { cls := .type "tuple", data := .seq #[ky, vl] }).get? b = some o := fun b o hb e => Heap.get?_push_of_some _ (s1.extBut b o hb e)
  have il : it ≠ hp.objs.size := Nat.ne_of_lt (Heap.lt_size hit)
  show wpAny _ _ _ _ _ ⟨h1.push { cls := .type "tuple", data := .seq #[ky, vl] }, g, dr, tk, os⟩
  rw [z1]
  generalize h1.push { cls := .type "tuple", data := .seq #[ky, vl] } = h2 at e2 t2 z2 k2
  clear e1 s1 ht1 z1
  refine wpAny_bind (wpAny_bind (wpAny_field e2 rfl (x := .none) rfl (wpAny_pure ?_)))
  simp only [if_true]
  refine wpAny_bind (wpAny_field e2 rfl (x := ok) rfl (wpAny_bind (wpAny_field e2 rfl (x := ov) rfl ?_)))
  refine wpAny_bind (wpAny_setField_rec e2 (by simp) fun h3 e3 s3 => ?_)
  replace s3 : Heap.SameBut it h2 h3 := s3
  replace e3 : IsItemIter h3 it d (i + 1) es.size ep ky ov := e3
  refine wpAny_bind (wpAny_setField_rec e3 (by simp) fun h4 e4 s4 => ?_)
  replace s4 : Heap.SameBut it h3 h4 := s4
  replace e4 : IsItemIter h4 it d (i + 1) es.size ep ky vl := e4
  refine wpAny_bind (wpAny_setField_rec e4 (by simp) fun h5 e5 s5 => ?_)
  replace s5 : Heap.SameBut it h4 h5 := s5
  replace e5 : IsItemIterOut h5 it d (i + 1) es.size ep ky vl hp.objs.size := e5
  refine wpAny_bind (wpAny_setField_rec e5 (by simp) fun h6 e6 s6 => ?_)
  replace s6 : Heap.SameBut it h5 h6 := s6
  replace e6 : IsItemIterOut h6 it d (i + 1) es.size ep ky vl hp.objs.size := e6
  have kk : ∀ b o, b ≠ it → h2.get? b = some o → h6.get? b = some o := fun b o hb e => s6.extBut b o hb (s5.extBut b o hb (s4.extBut b o hb (s3.extBut b o hb e)))
  refine wpAny_bind (wpAny_letGo (wpAny_pure (wpAny_pure ⟨_, rfl, wpAny_pure (hQ h6 e6 (kk _ _ (Ne.symm il) t2) ?_ fun b o hb e => kk b o hb (k2 b o hb e))⟩)))
  show h6.objs.size = hp.objs.size + 1
  rw [s6.1, s5.1, s4.1, s3.1, z2]
theorem end_itemsR {it d : Addr} {i ep : Nat} {es : Array DictEntry} {ok ov : Value} {Q : Option Value → Shared → Prop} (hh : A.handled = none) (hit : IsItemIter s.heap it d i es.size ep ok ov) (r : RawD s.heap d es ep) (hge : es.size ≤ i)
    (hQ : ∀ h', Heap.ExtBut it s.heap h' → Q none { s with heap := h' }) : wpAny (model prog w) A (pyNext (.ref it)) Q E s := by
  obtain ⟨o, r1, r2, r3⟩ := id r
  have ht : s.TypeIs (.ref it) "dict_itemiterator" := ⟨_, hit, rfl⟩
  unfold pyNext
  refine wpAny_bind (wpAny_attempt (wpAny_callSpecial?_slot (name := Str.ofString "__next__") ht F.slot_dict_itemiterator_next (wpAny_call_entry F.slot_dict_itemiterator_next ht F.entry_dict_itemiterator_next ?_ (F.args_dict_itemiterator_next_1 _))))
  refine wpAny_bind (wpAny_pure (wpAny_bind (wpAny_bind ?_)))
  first | refine wpAny_bind (wpAny_typeNameOfWhole_itemiter ht (wpAny_pure ?_)) | refine wpAny_bind (wpAny_typeNameOf_itemiter ht (wpAny_pure ?_))
  refine wpAny_bind (wpAny_fieldsOf hit rfl ?_)
  have hown : Builtin.Dict_items.ownsTuple "dict_itemiterator" = true := by decide
  simp only [hown, if_true]
  show wpAny _ _ (if (Value.ref d == Value.none) = true then _ else _) _ _ s
  rw [if_neg (show ¬ ((Value.ref d == Value.none) = true) from Bool.false_ne_true)]
  refine wpAny_bind (wpAny_pure (wpAny_bind (wpAny_dictEntries r1 r3 ?_)))
  rw [if_neg (by simp)]
  refine wpAny_bind (wpAny_pure (wpAny_bind (wpAny_dictEpoch r1 r3 ?_)))
  rw [if_neg (by simp)]
  refine wpAny_pure ?_
  simp only [show ¬ ((i : Int) < 0) from by omega, if_false, Int.toNat_natCast, Array.getElem?_eq_none hge]
  refine wpAny_bind ?_
  first | refine wpAny_bind (wpAny_typeNameOfWhole_itemiter ht (wpAny_pure ?_)) | refine wpAny_bind (wpAny_typeNameOf_itemiter ht (wpAny_pure ?_))
  show wpAny _ _ (setField (.ref it) 2 .none >>= _) _ _ s
  refine wpAny_bind (wpAny_setField hit rfl (by simp) ?_)
  show wpAny _ _ (newExc (.type "StopIteration") [] >>= _) _ _ _
  refine wpAny_bind ?_
  simp only [newExc, newTuple]
  refine wpAny_bind (wpAny_newObj_type ?_ (by size_fits))
  refine wpAny_bind (m := firstArgMember _ _) (wpAny_of_eq (a := Value.none) (by first | rfl | (simp only [firstArgMember]; rfl)) ?_)
  refine wpAny_newObj_type ?_ (by size_fits)
  simp only [raiseNew]
  refine wpAny_bind (wpAny_handled ?_)
  rw [show A.in1.handled = none from hh]
  refine wpAny_bind (wpAny_pure (wpAny_throw ?_))
  refine wpAny_bind (wpAny_isInstance (T := "StopIteration") (b := true) ⟨_, Heap.get?_push_size _ rfl, rfl⟩ isSubtype_stop ?_)
  exact wpAny_pure (hQ _ (((Heap.SameBut.update ..).extBut.push _).push _))
end
end L2
namespace L2
open PySem PySem.Spec PyProof.Rows
section
variable {κ : Type} [DecidableEq κ]
def Itm (W : KW κ) (P : Program) (w : World) (K : PySem.W.Frag) (d : Addr) (ep n : Nat) : It :=
  ⟨fun i H => ∃ kvs k m, DictE W P w K H d ep kvs ∧ kvs.length = n ∧ kvs[i]? = some (k, m),
   fun i H v H' => ∃ a k m t, (∀ kvs, DictE W P w K H d ep kvs → kvs[i]? = some (k, m)) ∧ W.at' K H k a ∧ v = .ref t ∧ H t = none ∧ H' = upd H t (.tup [.ref a, .int m]),
   fun i H => ∃ kvs, DictE W P w K H d ep kvs ∧ kvs.length = n ∧ n ≤ i⟩
theorem Inv.dx_inj {W : KW κ} {X : Cx} {pins : List (Addr × Obj)} {σ : St} {H : Hp} {s : Shared} {d : Addr} {ep : Nat} {kvs kvs' : List (κ × Int)} (I : Inv X pins σ H s) (h : DictE W X.prog X.w X.K H d ep kvs) (h' : DictE W X.prog X.w X.K H d ep kvs') : kvs = kvs' := by
  obtain ⟨xs, ⟨_, o, es, a1, a2, a3, a4, _⟩, hd, rel⟩ := I.dx h
  obtain ⟨xs', ⟨_, o', es', b1, b2, b3, b4, _⟩, hd', rel'⟩ := I.dx h'
  rw [a1] at b1
  cases b1
  rw [a3] at b3
  injection b3 with e1 _
  subst e1
  rw [a4] at b4
  have l1 := Paired.len rel
  have l2 := Paired.len rel'
  have l3 := congrArg List.length b4
  rw [List.length_map, List.length_map] at l3
  refine List.ext_getElem (by omega) fun i h1 h2 => ?_
  obtain ⟨q, hq, r1, ⟨t1, r2⟩, r3⟩ := Paired.get' (i := i) rel (List.getElem?_eq_getElem h1)
  obtain ⟨q', hq', r1', ⟨t1', r2'⟩, r3'⟩ := Paired.get' (i := i) rel' (List.getElem?_eq_getElem h2)
  have e := congrArg (fun l : List DictEntry => l[i]?) b4
  simp only [List.getElem?_map, hq, hq', Option.map_some] at e
  have e := Option.some.inj e
  unfold entryOfKey at e
  injection e with _ e2 e3
  injection e2 with e2
  have k1 := W.ok I r3
  have k2 := W.ok I r3'
  rw [e2] at k1
  have ek := (W.knd X.prog X.w).inj k1 k2
  rw [r2, r2'] at e3
  injection e3 with e4 _
  exact Prod.ext ek e4
theorem entry_items_self : entryFor table "dict_itemiterator.__iter__" = some Builtin.«dict_keyiterator.__iter__» := entryFor_alias (id' := "dict_keyiterator.__iter__") rfl rfl (by decide +kernel) rfl
theorem iter_selfR {P : Program} {w : World} {A : Around} {E : Value → Shared → Prop} {s : Shared} {it d : Addr} {i n ep : Nat} {ok ov : Value} {Q : Value → Shared → Prop} (hit : IsItemIter s.heap it d i n ep ok ov) (h : Q (.ref it) s) : wpAny (model P w) A (pyIter (.ref it)) Q E s := by
  have ht : s.TypeIs (.ref it) "dict_itemiterator" := ⟨_, hit, rfl⟩
  refine wpAny_pyIter_slot ht F.slot_dict_itemiterator_iter (wpAny_call_entry F.slot_dict_itemiterator_iter ht entry_items_self ?_ (F.args_dict_itemiterator_iter_1 _))
  exact wpAny_bind (wpAny_pure (wpAny_pure ⟨_, rfl, "dict_itemiterator", _, ht, F.slot_dict_itemiterator_next.lookup, h⟩))
theorem turn_items {W : KW κ} {P : Program} {w : World} {K : PySem.W.Frag} {elts : List Expr} {x1 : Nat} {pos : Pos} (d it : Addr) (ep n : Nat) : Turn P w K (.Tuple elts x1 pos) (Itm W P w K d ep n) [it] it (fun i h => ∃ ok ov, IsItemIter h it d i n ep ok ov) where
  mem := by simp
  obj := fun i h st b hb => by
    obtain ⟨ok, ov, q⟩ := st
    rw [List.mem_singleton.mp hb]
    exact ⟨_, q, fun v z => by cases z⟩
  keep := fun i h h' st k => by
    obtain ⟨ok, ov, q⟩ := st
    exact ⟨ok, ov, k it (by simp) _ q⟩
  item := by
    intro X hP hw hK hc i pins s σ H E I hf st hg
    subst hP hw hK
    obtain ⟨kvs, k, m, dd, hln, hk⟩ := hg
    obtain ⟨xs, ⟨_, o, es, a1, a2, a3, a4, _⟩, hd, rel⟩ := I.dx dd
    obtain ⟨ok, ov, hit⟩ := st
    have hes : es.size = n := by
      have := congrArg List.length a4
      have := Paired.len rel
      simp at *
      omega
    subst hes
    have hi : i < es.size := by have := (List.getElem?_eq_some_iff.mp hk).1; omega
    obtain ⟨q, hq, r1, ⟨t1, r2⟩, r3⟩ := Paired.get' rel hk
    have ee : es[i] = entryOfKey (W.knd X.prog X.w) q := by
      have e := congrArg (fun l : List DictEntry => l[i]?) a4
      simp only [List.getElem?_map, hq, Option.map_some, Array.getElem?_toList, Array.getElem?_eq_getElem hi] at e
      exact Option.some.inj e
    refine next_itemsR hit ⟨o, a1, a2, a3⟩ hi fun h' so ht hsz kk => ?_
    rw [ee] at so ht
    obtain ⟨qk, qa, qv⟩ := q
    dsimp only at r1 r2 r3
    subst r1 r2
    dsimp only [entryOfKey] at so ht
    have li : it ≠ s.heap.objs.size := Nat.ne_of_lt (Heap.lt_size hit)
    have hn : H s.heap.objs.size = none := I.hok.fresh (Nat.le_refl _)
    have I0 : Inv X pins σ (upd H s.heap.objs.size (.tup [.ref qa, .int m])) { s with heap := s.heap.push { cls := .type "tuple", data := .seq #[.ref qa, .int m t1] }, toks := s.toks } :=
      I.laid (t' := s.toks) (fun b o q => Heap.get?_push_of_some _ q) (Nat.le_refl _) ⟨by show 2 ≤ sizeLine; decide, [.ref qa, .int m t1], .cons rfl (.cons ⟨_, rfl⟩ .nil), ⟨_, Heap.get?_push_size _ rfl, rfl, _, rfl⟩⟩
    have hf' : ∀ b ∈ [it], FpOk X pins (upd H s.heap.objs.size (.tup [.ref qa, .int m])) b := fun b hb => by
      have q := hf b hb
      refine ⟨?_, q.2⟩
      rw [upd_ne (by rw [List.mem_singleton.mp hb]; exact li)]
      exact q.1
    have I1 : Inv X pins σ (upd H s.heap.objs.size (.tup [.ref qa, .int m])) { s with heap := h', toks := s.toks } :=
      Inv.turnedL (s := { s with heap := s.heap.push { cls := .type "tuple", data := .seq #[.ref qa, .int m t1] }, toks := s.toks }) I0 (fp := [it]) (t' := s.toks) (fun b o hb q => by
        rcases get?_push_cases q rfl with q | ⟨rfl, rfl⟩
        · exact kk b o (fun z => hb (by simp [z])) q
        · exact ht) hf'
    refine ⟨_, rfl, wpAny_letOwnedTupleGo_items (s := { s with heap := h' }) so fun h2 se sb => ?_⟩
    have I2 : Inv X pins σ (upd H s.heap.objs.size (.tup [.ref qa, .int m])) { s with heap := h2, toks := s.toks } :=
      Inv.turnedL (s := { s with heap := h', toks := s.toks }) I1 (fp := [it]) (t' := s.toks) (fun b o hb q => (sb.2 b (fun z => hb (by simp [z]))).trans q) hf'
    exact ⟨.ref s.heap.objs.size, _, I2, rfl, ⟨qa, k, m, _, fun kvs' h => by rw [I.dx_inj h dd]; exact hk, r3, rfl, hn, rfl⟩, ⟨_, _, se⟩, fun b hb => (hf' b hb).1⟩
  done := by
    intro X hP hw hK hc i pins s σ H E I hf st hg
    subst hP hw hK
    obtain ⟨kvs, dd, hln, hge⟩ := hg
    obtain ⟨xs, ⟨_, o, es, a1, a2, a3, a4, _⟩, hd, rel⟩ := I.dx dd
    obtain ⟨ok, ov, hit⟩ := st
    have hes : es.size = n := by
      have := congrArg List.length a4
      have := Paired.len rel
      simp at *
      omega
    subst hes
    exact end_itemsR (I.ok.hd hc) hit ⟨o, a1, a2, a3⟩ hge fun h' eb => ⟨rfl, I.turnedL (fp := [it]) (t' := s.toks) (fun b o hb q => eb b o (fun z => hb (by simp [z])) q) hf⟩
  self := fun _ _ _ _ _ st h => by
    obtain ⟨ok, ov, hit⟩ := st
    exact iter_selfR hit h
/-- for k, v in d.items() -/
def iItems (W : KW κ) (P : Program) (w : World) (K : PySem.W.Frag) (td : TE) : TI := fun σ H R => td σ H fun x H1 => ∃ (d : Addr) (ep : Nat) (kvs : List (κ × Int)), x = .ref d ∧ DictE W P w K H1 d ep kvs ∧ R (Itm W P w K d ep kvs.length) H1
theorem pi_items {W : KW κ} {X : Cx} {P : Program} {w : World} {K : PySem.W.Frag} {elts : List Expr} {x1 : Nat} {tpos apos cpos : Pos} {o : Expr} {td : TE} (hP : X.prog = P) (hw : X.w = w) (hK : X.K = K) (ho : PE X o td) (hbase : attributeBase o "items" X.env (eval o X.env) = eval o X.env := by rfl) (hline : (apos.endLine == cpos.line) = true := by rfl) :
    PI X (.Tuple elts x1 tpos) (.Call (.Attribute o "items" apos) [] [] cpos) (iItems W P w K td) := by
  subst hP hw hK
  intro pins s σ H R I h
  refine wpAny_Call_method0_late hbase hline (thn (ho pins s σ H _ I h) fun v s1 ⟨x, H1, I1, r1, d, ep, kvs, ex, dd, q⟩ => ?_)
  subst ex
  obtain rfl : v = Value.ref d := r1
  obtain ⟨xs, ⟨hsys, od, es, a1, a2, a3, a4, _⟩, hd, rel⟩ := I1.dx dd
  have hes : es.size = kvs.length := by
    have := congrArg List.length a4
    have := Paired.len rel
    simp at *
    omega
  refine ⟨"dict", _, PySem.F.plainAttrs_dict, PySem.F.slot_dict_items, PySem.F.type_dict_items, hd.typeIs, fun b z => by cases z; exact ⟨od, a1, a2.2.1⟩, Calls.callWith_builtin rfl (PySem.evalArgs_none ?_)⟩
  refine call_meetsIn PySem.F.slot_dict_items hd.typeIs PySem.F.entry_dict_items (PySem.F.args_dict_items_1 _) (meets_itemsR d hsys) ⟨⟨es, ep, od, a1, a2, a3⟩, ?_⟩
  have up : ∀ b o, s1.heap.get? b = some o → (s1.heap.push { cls := .type "dict_items", data := .fields #[.ref d] }).get? b = some o := fun b o z => Heap.get?_push_of_some _ z
  have I2 : Inv X pins σ H1 { s1 with heap := s1.heap.push { cls := .type "dict_items", data := .fields #[.ref d] } } := I1.kept (t' := s1.toks) up
  refine iter_itemsR (s := { s1 with heap := s1.heap.push { cls := .type "dict_items", data := .fields #[.ref d] } }) ⟨_, Heap.get?_push_size _ rfl, rfl, rfl⟩ ⟨od, up _ _ a1, a2, a3⟩ ?_
  rw [hes]
  have I3 := I2.kept (t' := s1.toks) (h' := (s1.heap.push { cls := .type "dict_items", data := .fields #[.ref d] }).push { cls := .type "dict_itemiterator", data := .fields #[.none, .bool false, .ref d, .int 0 0, .int kvs.length 0, .int ep 0, .none, .none] }) fun b o z => Heap.get?_push_of_some _ z
  refine ⟨_, [(s1.heap.push { cls := .type "dict_items", data := .fields #[.ref d] }).objs.size], _, _, H1, rfl, I3, turn_items d _ ep kvs.length, ⟨_, _, Heap.get?_push_size _ rfl⟩, fun b hb => ?_, q⟩
  rw [List.mem_singleton.mp hb]
  exact I2.fpOk (Nat.le_refl _) (I2.hok.fresh (Nat.le_refl _))
theorem for_items {W : KW κ} {P : Program} {w : World} {K : PySem.W.Frag} {d : Addr} {ep : Nat} {kvs : List (κ × Int)} {g : TG} {tb : TS} {D : Ends} {σ : St} {H : Hp} (Pv : Nat → St → Hp → Prop) (h0 : Pv 0 σ H) (hl : ∀ i σ H, i ≤ kvs.length → Pv i σ H → DictE W P w K H d ep kvs)
    (hs : ∀ i k m a σ H t, kvs[i]? = some (k, m) → W.at' K H k a → H t = none → Pv i σ H → g (.ref t) σ (upd H t (.tup [.ref a, .int m])) fun σ2 H2 => tb { D with nx := Pv (i + 1), ct := Pv (i + 1), bk := D.nx } σ2 H2) (hd : ∀ σ H, Pv kvs.length σ H → D.nx σ H) :
    ∃ Wv : Nat → Nat → St → Hp → Prop, (∃ m, Wv 0 m σ H) ∧ ∀ i m σ H, Wv i m σ H → ((Itm W P w K d ep kvs.length).stop i H ∧ D.nx σ H) ∨
      ((Itm W P w K d ep kvs.length).go i H ∧ ∃ N : St → Hp → Prop, (∀ σ' H', N σ' H' → ∃ m', m' < m ∧ Wv (i + 1) m' σ' H') ∧ ∀ x H', (Itm W P w K d ep kvs.length).yld i H x H' → g x σ H' fun σ2 H2 => tb { D with nx := N, ct := N, bk := D.nx } σ2 H2) := by
  refine ⟨fun i m σ H => m = kvs.length - i ∧ i ≤ kvs.length ∧ Pv i σ H, ⟨kvs.length, by simp, Nat.zero_le _, h0⟩, ?_⟩
  rintro i m σ H ⟨rfl, hi, p⟩
  have q := hl i σ H hi p
  by_cases hlt : i < kvs.length
  · refine .inr ⟨⟨kvs, _, _, q, rfl, List.getElem?_eq_getElem hlt⟩, Pv (i + 1), fun σ' H' p' => ⟨kvs.length - (i + 1), by omega, rfl, hlt, p'⟩, fun x H' y => ?_⟩
    obtain ⟨a, k, m, t, h1, h2, rfl, h3, rfl⟩ := y
    exact hs i k m a σ H t (h1 kvs q) h2 h3 p
  · have e : i = kvs.length := by omega
    subst e
    exact .inl ⟨⟨kvs, q, rfl, Nat.le_refl _⟩, hd σ H p⟩
end
/-- keys: tuples of whole numbers -/
def keyR : KW (List Int) where
  knd := fun prog w => tupleKind (intKind prog w)
  at' := fun K H k a => SqT K H a (k.map V.int)
  ok := fun {X pins σ H s k a} I h => by
    obtain ⟨b, e, hb⟩ := I.tupV (v := .ref a) (u := .ref a) ⟨a, rfl, h⟩ rfl
    cases e
    exact hb
  map := fun f h => f _ _ h
  room := fun h => by show _ + 1 < cLine; omega
  room' := fun h => by show _ < cLine; omega
/-- keys: pairs of such tuples -/
def keyP : KW PKey where
  knd := pairKind
  at' := fun K H k a => ∃ x y, SqT K H a [.ref x, .ref y] ∧ SqT K H x (k.1.map V.int) ∧ SqT K H y (k.2.map V.int)
  ok := fun {X pins σ H s k a} I h => by
    obtain ⟨x, y, h1, h2, h3⟩ := h
    obtain ⟨b1, e1, k1⟩ := I.tupV (v := .ref x) (u := .ref x) ⟨x, rfl, h2⟩ rfl
    obtain ⟨b2, e2, k2⟩ := I.tupV (v := .ref y) (u := .ref y) ⟨y, rfl, h3⟩ rfl
    cases e1
    cases e2
    obtain ⟨its, rs, ⟨o, q1, q2, n, q3⟩, _⟩ := I.tuple h1
    cases rs with
    | cons r1 rs =>
      cases rs with
      | cons r2 rs =>
        cases rs
        cases r1
        cases r2
        exact ⟨o, n, x, y, q1, q2, q3, k1, k2⟩
  map := fun f h => by
    obtain ⟨x, y, h1, h2, h3⟩ := h
    exact ⟨x, y, f _ _ h1, f _ _ h2, f _ _ h3⟩
  room := fun h => by show _ + 1 + 2 < cLine; omega
  room' := fun h => by show _ + 2 < cLine; omega
end L2

namespace TM
open LM LN
/-! ### rising lists -/
def Srt (l : List Int) : Prop := l.Pairwise (· ≤ ·)
theorem srt_uniq : ∀ {l m : List Int}, l.Perm m → Srt l → Srt m → l = m
  | [], m, h, _, _ => (List.nil_perm.mp h).symm
  | a :: l, [], h, _, _ => by have := h.length_eq; simp at this
  | a :: l, b :: m, h, h1, h2 => by
    have e : a = b := by
      have ha := List.mem_cons.mp (h.mem_iff.mp (List.mem_cons_self (a := a)))
      have hb := List.mem_cons.mp (h.mem_iff.mpr (List.mem_cons_self (a := b)))
      obtain ⟨h1a, _⟩ := List.pairwise_cons.mp h1
      obtain ⟨h2a, _⟩ := List.pairwise_cons.mp h2
      rcases ha with z | z
      · exact z
      · rcases hb with y | y
        · exact y.symm
        · have := h1a b y
          have := h2a a z
          omega
    subst e
    rw [srt_uniq (List.perm_cons a |>.mp h) (List.pairwise_cons.mp h1).2 (List.pairwise_cons.mp h2).2]
def insI (x : Int) : List Int → List Int
  | [] => [x]
  | a :: l => if x ≤ a then x :: a :: l else a :: insI x l
def srt : List Int → List Int
  | [] => []
  | a :: l => insI a (srt l)
theorem insI_perm (x : Int) : ∀ l, (insI x l).Perm (x :: l)
  | [] => List.Perm.refl _
  | a :: l => by
    unfold insI
    split
    · exact List.Perm.refl _
    · exact ((insI_perm x l).cons a).trans (List.Perm.swap x a l)
theorem insI_srt (x : Int) : ∀ {l}, Srt l → Srt (insI x l)
  | [], _ => List.pairwise_cons.mpr ⟨(fun _ h => nomatch h), List.Pairwise.nil⟩
  | a :: l, h => by
    unfold insI
    obtain ⟨h1, h2⟩ := List.pairwise_cons.mp h
    split
    · rename_i c
      exact List.pairwise_cons.mpr ⟨fun b hb => by
        rcases List.mem_cons.mp hb with z | z
        · omega
        · have := h1 b z; omega, h⟩
    · rename_i c
      refine List.pairwise_cons.mpr ⟨fun b hb => ?_, insI_srt x h2⟩
      rcases List.mem_cons.mp ((insI_perm x l).mem_iff.mp hb) with z | z
      · omega
      · exact h1 b z
theorem srt_perm : ∀ l, (srt l).Perm l
  | [] => List.Perm.refl _
  | a :: l => (insI_perm a (srt l)).trans ((srt_perm l).cons a)
theorem srt_srt : ∀ l, Srt (srt l)
  | [] => List.Pairwise.nil
  | a :: l => insI_srt a (srt_srt l)
theorem srt_eq {l m : List Int} (h : m.Perm l) (hs : Srt m) : m = srt l := srt_uniq (h.trans (srt_perm l).symm) hs (srt_srt l)
theorem srt_snoc (l : List Int) (x : Int) : srt (srt l ++ [x]) = srt (l ++ [x]) := srt_eq ((srt_perm _).trans ((srt_perm l).append_right [x])) (srt_srt _)
theorem mem_srt {l : List Int} {x : Int} : x ∈ srt l ↔ x ∈ l := (srt_perm l).mem_iff
/-! ### all beginnings -/
def freeP (n : Nat) (π : List Int) : List Int := (rng n).filter fun p => !decide (p ∈ π)
def exts (n : Nat) (π : List Int) : List (List Int) := (freeP n π).map fun p => π ++ [p]
def pre (n : Nat) : Nat → List (List Int)
  | 0 => [[]]
  | k + 1 => (pre n k).flatMap (exts n)
structure PreOk (n k : Nat) (π : List Int) : Prop where
  len : π.length = k
  nd : π.Nodup
  bd : ∀ p ∈ π, 0 ≤ p ∧ p < n
theorem pre_ok {n : Nat} : ∀ {k : Nat} {π : List Int}, π ∈ pre n k → PreOk n k π
  | 0, π, h => by
    rw [List.mem_singleton.mp h]
    exact ⟨rfl, List.nodup_nil, fun _ h => nomatch h⟩
  | k + 1, π, h => by
    obtain ⟨ρ, h1, h2⟩ := List.mem_flatMap.mp h
    obtain ⟨p, h3, rfl⟩ := List.mem_map.mp h2
    obtain ⟨h4, h5⟩ := List.mem_filter.mp h3
    have I := pre_ok h1
    have h6 : p ∉ ρ := by simpa using h5
    refine ⟨by rw [List.length_append, I.len]; rfl, List.nodup_append.mpr ⟨I.nd, by simp, fun x hx y hy z => h6 (by rw [List.mem_singleton.mp hy] at z; rw [← z]; exact hx)⟩, fun q hq => ?_⟩
    rcases List.mem_append.mp hq with z | z
    · exact I.bd q z
    · rw [List.mem_singleton.mp z]; exact mem_rng.mp h4
theorem free_len {n k : Nat} {π : List Int} (h : PreOk n k π) : (freeP n π).length + k = n := by
  have key : ∀ (l m : List Int), l.Nodup → m.Nodup → (∀ x ∈ m, x ∈ l) → (l.filter fun p => !decide (p ∈ m)).length + m.length = l.length := by
    intro l m hl hm hs
    have hp : (l.filter fun p => decide (p ∈ m)).Perm m := by
      refine (List.perm_ext_iff_of_nodup (hl.filter _) hm).mpr fun x => ?_
      rw [List.mem_filter]
      exact ⟨fun z => of_decide_eq_true z.2, fun z => ⟨hs x z, decide_eq_true z⟩⟩
    have h1 := List.length_eq_countP_add_countP (p := fun p => decide (p ∈ m)) (l := l)
    rw [List.countP_eq_length_filter, List.countP_eq_length_filter, hp.length_eq] at h1
    have e : (l.filter fun a => decide (¬ decide (a ∈ m) = true)) = l.filter fun p => !decide (p ∈ m) := List.filter_congr fun x _ => by by_cases z : x ∈ m <;> simp [z]
    rw [e] at h1
    omega
  have := key (rng n) π (rng_nodup n) h.nd fun x hx => mem_rng.mpr (h.bd x hx)
  rw [rng_len, h.len] at this
  exact this
def smL {α : Type} (l : List α) (f : α → Int) : Int := (l.map f).sum
theorem smL_nil {α : Type} (f : α → Int) : smL [] f = 0 := rfl
theorem smL_cons {α : Type} (a : α) (l : List α) (f : α → Int) : smL (a :: l) f = f a + smL l f := by unfold smL; simp
theorem smL_app {α : Type} (l m : List α) (f : α → Int) : smL (l ++ m) f = smL l f + smL m f := by unfold smL; simp
theorem smL_congr {α : Type} {l : List α} {f g : α → Int} (h : ∀ x ∈ l, f x = g x) : smL l f = smL l g := by unfold smL; rw [List.map_congr_left h]
theorem smL_flat {α β : Type} (g : α → List β) (f : β → Int) : ∀ l : List α, smL (l.flatMap g) f = smL l fun x => smL (g x) f
  | [] => rfl
  | a :: l => by rw [List.flatMap_cons, smL_app, smL_cons, smL_flat g f l]
theorem smL_map {α β : Type} (g : α → β) (f : β → Int) (l : List α) : smL (l.map g) f = smL l fun x => f (g x) := by unfold smL; rw [List.map_map]; rfl
theorem smL_add {α : Type} (f g : α → Int) : ∀ l : List α, smL l (fun x => f x + g x) = smL l f + smL l g
  | [] => rfl
  | a :: l => by rw [smL_cons, smL_cons, smL_cons, smL_add f g l]; omega
theorem smL_mul {α : Type} (c : Int) (f : α → Int) : ∀ l : List α, smL l (fun x => c * f x) = c * smL l f
  | [] => by show (0 : Int) = c * 0; rw [Int.mul_zero]
  | a :: l => by rw [smL_cons, smL_cons, smL_mul c f l, Int.mul_add]
theorem smL_const {α : Type} (c : Int) : ∀ l : List α, smL l (fun _ => c) = c * l.length
  | [] => by show (0 : Int) = c * 0; rw [Int.mul_zero]
  | a :: l => by rw [smL_cons, smL_const c l, List.length_cons]; push_cast; rw [Int.mul_add, Int.mul_one, Int.add_comm]
theorem smL_zero {α : Type} (l : List α) : smL l (fun _ => 0) = 0 := by rw [smL_const, Int.zero_mul]
theorem smL_swap {α β : Type} (f : α → β → Int) (m : List β) : ∀ l : List α, smL l (fun x => smL m (f x)) = smL m fun y => smL l fun x => f x y
  | [] => (smL_zero m).symm
  | a :: l => by rw [smL_cons, smL_swap f m l, ← smL_add]; exact smL_congr fun y _ => (smL_cons a l fun x => f x y).symm
/-! each beginning goes on in so many ways -/
def fct : Nat → Int
  | 0 => 1
  | k + 1 => fct k * ((k : Int) + 1)
theorem sum_take {n : Nat} (g : List Int → Int) {j : Nat} : ∀ d, j + d ≤ n → fct (n - (j + d)) * smL (pre n (j + d)) (fun o => g (o.take j)) = fct (n - j) * smL (pre n j) fun o => g (o.take j)
  | 0, _ => rfl
  | d + 1, h => by
    have ih := sum_take (n := n) g (j := j) d (by omega)
    rw [← ih]
    have e : smL (pre n (j + (d + 1))) (fun o => g (o.take j)) = ((n - (j + d) : Nat) : Int) * smL (pre n (j + d)) fun o => g (o.take j) := by
      show smL ((pre n (j + d)).flatMap (exts n)) _ = _
      rw [smL_flat, ← smL_mul]
      refine smL_congr fun π hπ => ?_
      have I := pre_ok hπ
      have hl := free_len I
      unfold exts
      rw [smL_map, smL_congr (g := fun _ => g (π.take j)) fun p _ => by rw [List.take_append_of_le_length (by rw [I.len]; omega)], smL_const, Int.mul_comm, show ((freeP n π).length : Int) = ((n - (j + d) : Nat) : Int) by omega]
    rw [e, ← Int.mul_assoc]
    congr 1
    obtain ⟨m, hm⟩ : ∃ m, n - (j + d) = m + 1 := ⟨n - (j + d) - 1, by omega⟩
    rw [hm, show n - (j + (d + 1)) = m by omega]
    show fct m * ((m + 1 : Nat) : Int) = fct m * ((m : Int) + 1)
    push_cast
    rfl
theorem sum_pre {n : Nat} (g : List Int → Int) {j : Nat} (hj : j ≤ n) : smL (pre n n) (fun o => g (o.take j)) = fct (n - j) * smL (pre n j) g := by
  have := sum_take (n := n) g (j := j) (n - j) (by omega)
  rw [show j + (n - j) = n by omega, Nat.sub_self] at this
  rw [show fct 0 = 1 from rfl, Int.one_mul] at this
  rw [this, smL_congr (g := g) fun o ho => by rw [List.take_of_length_le (by rw [(pre_ok ho).len]; exact Nat.le_refl _)]]
end TM

namespace L2
open PySem PySem.Spec PyProof.Rows
open TM
/-! ### the table by turns: counts over all orders -/
theorem bestF_congr {w ts us : List Int} (h : ∀ t, t ∈ ts ↔ t ∈ us) : bestF w ts = bestF w us := by
  unfold bestF leftIn
  rw [List.filter_congr (q := fun t => !decide (t ∈ us)) fun t _ => by simp only [decide_eq_decide.mpr (h t)]]
theorem tk_take (W : List (List Int)) (o : List Int) {j : Nat} : ∀ k, k ≤ j → tk W (o.take j) k = tk W o k
  | 0, _ => rfl
  | k + 1, h => by
    show tk W (o.take j) k ++ [_] = tk W o k ++ [_]
    rw [tk_take W o k (by omega), show (o.take j).getD k 0 = o.getD k 0 by rw [List.getD_eq_getElem?_getD, List.getD_eq_getElem?_getD, List.getElem?_take_of_lt (by omega)]]
theorem bt_take (W : List (List Int)) (o : List Int) {j k : Nat} (h : k < j) : bt W (o.take j) k = bt W o k := by
  unfold bt
  rw [tk_take W o k (by omega), show (o.take j).getD k 0 = o.getD k 0 by rw [List.getD_eq_getElem?_getD, List.getD_eq_getElem?_getD, List.getElem?_take_of_lt h]]
/-- what has been taken behind a beginning -/
def tkA (W : List (List Int)) (π : List Int) : List Int := tk W π π.length
def bestP (W : List (List Int)) (p : Int) (ts : List Int) : Int := bestF (W.getD p.toNat []) ts
theorem tkA_snoc (W : List (List Int)) (π : List Int) (p : Int) : tkA W (π ++ [p]) = tkA W π ++ [bestP W p (tkA W π)] := by
  unfold tkA bestP
  rw [List.length_append, show π.length + ([p] : List Int).length = π.length + 1 from rfl]
  have e : tk W (π ++ [p]) π.length = tk W π π.length := by
    have := tk_take W (π ++ [p]) (j := π.length) π.length (Nat.le_refl _)
    rw [List.take_append_of_le_length (Nat.le_refl _), List.take_length] at this
    exact this.symm
  show tk W (π ++ [p]) π.length ++ [bestF (W.getD ((π ++ [p]).getD π.length 0).toNat []) (tk W (π ++ [p]) π.length)] = _
  rw [e, show (π ++ [p]).getD π.length 0 = p by rw [List.getD_eq_getElem?_getD, List.getElem?_append_right (Nat.le_refl _), Nat.sub_self]; rfl]
def keyOf (W : List (List Int)) (π : List Int) : PKey := (srt π, srt (tkA W π))
def turnsK (n : Nat) (W : List (List Int)) (k : PKey) : List (Int × Int) := (freeP n k.1).map fun p => (p, bestP W p k.2)
def nextK (k : PKey) (pt : Int × Int) : PKey := (srt (k.1 ++ [pt.1]), srt (k.2 ++ [pt.2]))
theorem turnsK_key (n : Nat) (W : List (List Int)) (π : List Int) : turnsK n W (keyOf W π) = (freeP n π).map fun p => (p, bestP W p (tkA W π)) := by
  unfold turnsK keyOf freeP
  rw [List.filter_congr (q := fun p => !decide (p ∈ π)) fun p _ => by simp only [decide_eq_decide.mpr (mem_srt (l := π) (x := p))]]
  exact List.map_congr_left fun p _ => by unfold bestP; rw [bestF_congr fun t => mem_srt]
theorem nextK_key (W : List (List Int)) (π : List Int) (p : Int) : nextK (keyOf W π) (p, bestP W p (tkA W π)) = keyOf W (π ++ [p]) := by
  unfold nextK keyOf
  rw [srt_snoc, srt_snoc, tkA_snoc]
/-! ### dicts as sums -/
section
variable {κ : Type} [DecidableEq κ]
def wsum (F : κ → Int) (kvs : List (κ × Int)) : Int := smL kvs fun p => p.2 * F p.1
def KN (kvs : List (κ × Int)) : Prop := (kvs.map Prod.fst).Nodup
theorem lookup_none {k : κ} : ∀ {kvs : List (κ × Int)}, kvs.lookup k = none ↔ k ∉ kvs.map Prod.fst
  | [] => by simp [List.lookup]
  | (a, m) :: kvs => by
    rw [List.lookup_cons]
    by_cases e : k = a
    · subst e; simp
    · rw [show (k == a) = false from beq_false_of_ne e]
      show kvs.lookup k = none ↔ _
      rw [lookup_none, List.map_cons, List.mem_cons]
      simp [e]
theorem put_new {kvs : List (κ × Int)} {k : κ} (h : kvs.lookup k = none) (x : Int) : putD kvs k x = kvs ++ [(k, x)] := by unfold putD; rw [h]; rfl
theorem put_old {kvs : List (κ × Int)} {k : κ} {m : Int} (h : kvs.lookup k = some m) (x : Int) : putD kvs k x = kvs.map fun p => if p.1 = k then (p.1, x) else p := by unfold putD; rw [h]; rfl
theorem put_kn {kvs : List (κ × Int)} (h : KN kvs) (k : κ) (x : Int) : KN (putD kvs k x) := by
  cases e : kvs.lookup k with
  | none =>
    rw [put_new e]
    unfold KN
    rw [List.map_append]
    exact List.nodup_append.mpr ⟨h, by simp, fun a ha b hb z => lookup_none.mp e (by have hb' : b = k := List.mem_singleton.mp hb; rw [← hb', ← z]; exact ha)⟩
  | some m =>
    rw [put_old e]
    unfold KN
    rw [List.map_map, show (Prod.fst ∘ fun p : κ × Int => if p.1 = k then (p.1, x) else p) = Prod.fst from funext fun p => by show (if p.1 = k then (p.1, x) else p).1 = p.1; split <;> rfl]
    exact h
theorem put_len (kvs : List (κ × Int)) (k : κ) (x : Int) : (putD kvs k x).length ≤ kvs.length + 1 := by
  unfold putD
  split
  · rw [List.length_map]; omega
  · rw [List.length_append]; exact Nat.le_refl _
theorem wsum_old (F : κ → Int) {k : κ} {m x : Int} : ∀ {kvs : List (κ × Int)}, KN kvs → kvs.lookup k = some m → wsum F (kvs.map fun p => if p.1 = k then (p.1, x) else p) = wsum F kvs + (x - m) * F k
  | [], _, h => by simp [List.lookup] at h
  | (a, y) :: kvs, hn, h => by
    have hn' := List.nodup_cons.mp (show ((a :: kvs.map Prod.fst) : List κ).Nodup from hn)
    rw [List.lookup_cons] at h
    unfold wsum
    rw [List.map_cons, smL_cons, smL_cons]
    by_cases e : k = a
    · subst e
      rw [beq_self_eq_true] at h
      have h : y = m := Option.some.inj h
      subst h
      have same : kvs.map (fun p : κ × Int => if p.1 = k then (p.1, x) else p) = kvs := by
        have : ∀ p ∈ kvs, (if p.1 = k then (p.1, x) else p) = p := fun p hp => if_neg (show ¬ p.1 = k from fun z => hn'.1 (z ▸ List.mem_map.mpr ⟨p, hp, rfl⟩))
        rw [List.map_congr_left this]
        simp
      rw [same]
      show (if k = k then (k, x) else (k, y)).2 * F (if k = k then (k, x) else (k, y)).1 + _ = _
      rw [if_pos rfl]
      show x * F k + _ = y * F k + _ + _
      rw [Int.sub_mul]
      omega
    · rw [show (k == a) = false from beq_false_of_ne e] at h
      have ih := wsum_old F (x := x) hn'.2 h
      unfold wsum at ih
      rw [ih]
      show (if a = k then (a, x) else (a, y)).2 * F (if a = k then (a, x) else (a, y)).1 + _ = _
      rw [if_neg (Ne.symm e)]
      omega
/-- d[k] = d.get(k, 0) + x -/
def addD (kvs : List (κ × Int)) (k : κ) (x : Int) : List (κ × Int) := putD kvs k ((kvs.lookup k).getD 0 + x)
theorem wsum_add (F : κ → Int) {kvs : List (κ × Int)} (h : KN kvs) (k : κ) (x : Int) : wsum F (addD kvs k x) = wsum F kvs + x * F k := by
  unfold addD
  cases e : kvs.lookup k with
  | none =>
    rw [put_new e]
    unfold wsum
    rw [smL_app, smL_cons, smL_nil]
    show _ + ((0 + x) * F k + 0) = _
    rw [Int.zero_add]
    omega
  | some m =>
    rw [put_old e, wsum_old F h e]
    show wsum F kvs + (m + x - m) * F k = _
    rw [show m + x - m = x by omega]
theorem wsum_at {kvs : List (κ × Int)} (h : KN kvs) (k : κ) : (kvs.lookup k).getD 0 = wsum (fun a => if a = k then 1 else 0) kvs := by
  induction kvs with
  | nil => rfl
  | cons p kvs ih =>
    obtain ⟨a, m⟩ := p
    have hn' := List.nodup_cons.mp (show ((a :: kvs.map Prod.fst) : List κ).Nodup from h)
    unfold wsum at ih ⊢
    rw [smL_cons, List.lookup_cons]
    by_cases e : k = a
    · subst e
      rw [beq_self_eq_true]
      have z : smL kvs (fun p => p.2 * if p.1 = k then 1 else 0) = 0 := (smL_congr (g := fun _ => 0) fun p hp => by rw [if_neg (show ¬ p.1 = k from fun z => hn'.1 (z ▸ List.mem_map.mpr ⟨p, hp, rfl⟩)), Int.mul_zero]).trans (smL_zero _)
      rw [z]
      show m = m * (if k = k then 1 else 0) + 0
      rw [if_pos rfl]
      omega
    · rw [show (k == a) = false from beq_false_of_ne e]
      show (kvs.lookup k).getD 0 = m * (if a = k then 1 else 0) + _
      rw [if_neg (Ne.symm e), ih hn'.2]
      omega
end
/-! ### the two countings agree -/
def ind (p t : Int) (q u : Int) : Int := if q = p ∧ u = t then 1 else 0
/-- what the counting by beginnings comes to -/
def cnt42 (n : Nat) (W : List (List Int)) (F : List Int → Int) : Nat → Int
  | 0 => 0
  | k + 1 => cnt42 n W F k + fct (n - (k + 1)) * smL (pre n k) fun π => smL (freeP n π) fun p => F [p, bestP W p (tkA W π)]
/-- what the counting by whole orders comes to -/
def cntO (W : List (List Int)) (n : Nat) (o : List Int) (p t : Int) : Int := HM.sm n fun j => ind p t (o.getD j 0) (bt W o j)
theorem smL_sm {α : Type} (f : α → Nat → Int) (l : List α) : ∀ n, smL l (fun x => HM.sm n (f x)) = HM.sm n fun j => smL l fun x => f x j
  | 0 => smL_zero l
  | n + 1 => by
    show smL l (fun x => HM.sm n (f x) + f x n) = HM.sm n _ + _
    rw [smL_add, smL_sm f l n]
theorem cnt_agree {n : Nat} (W : List (List Int)) (p t : Int) : ∀ k, k ≤ n → cnt42 n W (fun l => ind p t (l.getD 0 0) (l.getD 1 0)) k = HM.sm k fun j => smL (pre n n) fun o => ind p t (o.getD j 0) (bt W o j)
  | 0, _ => rfl
  | k + 1, hk => by
    show cnt42 n W _ k + _ = HM.sm k _ + _
    rw [cnt_agree W p t k (by omega)]
    congr 1
    have e : smL (pre n n) (fun o => ind p t (o.getD k 0) (bt W o k)) = smL (pre n n) fun o => (fun o => ind p t (o.getD k 0) (bt W o k)) (o.take (k + 1)) := smL_congr fun o _ => by
      show _ = ind p t ((o.take (k + 1)).getD k 0) (bt W (o.take (k + 1)) k)
      rw [bt_take W o (Nat.lt_succ_self k), show (o.take (k + 1)).getD k 0 = o.getD k 0 by rw [List.getD_eq_getElem?_getD, List.getD_eq_getElem?_getD, List.getElem?_take_of_lt (Nat.lt_succ_self k)]]
    show _ = smL (pre n n) fun o => ind p t (o.getD k 0) (bt W o k)
    rw [e, sum_pre (fun o => ind p t (o.getD k 0) (bt W o k)) hk]
    congr 1
    show _ = smL ((pre n k).flatMap (exts n)) _
    rw [smL_flat]
    refine smL_congr fun π hπ => ?_
    have I := pre_ok hπ
    unfold exts
    rw [smL_map]
    refine smL_congr fun q _ => ?_
    have e1 : (π ++ [q]).getD k 0 = q := by rw [← I.len, List.getD_eq_getElem?_getD, List.getElem?_append_right (Nat.le_refl _), Nat.sub_self]; rfl
    have e2 : bt W (π ++ [q]) k = bestP W q (tkA W π) := by
      unfold bt bestP tkA
      rw [e1, ← I.len]
      have := tk_take W (π ++ [q]) (j := π.length) π.length (Nat.le_refl _)
      rw [List.take_append_of_le_length (Nat.le_refl _), List.take_length] at this
      rw [this]
    rw [e1, e2]
    rfl
theorem counts_eq {n : Nat} (W : List (List Int)) (p t : Int) : cnt42 n W (fun l => ind p t (l.getD 0 0) (l.getD 1 0)) n = smL (pre n n) fun o => cntO W n o p t := by
  rw [cnt_agree W p t n (Nat.le_refl _)]
  unfold cntO
  rw [smL_sm]
/-! ### turn by turn -/
structure CI (n : Nat) (W : List (List Int)) (k : Nat) (C : List (List Int × Int)) : Prop where
  kn : KN C
  sum : ∀ F, wsum F C = cnt42 n W F k
  len : C.length ≤ k * 46656
structure BI (n : Nat) (W : List (List Int)) (k : Nat) (B : List (PKey × Int)) : Prop where
  kn : KN B
  sum : ∀ F, wsum F B = smL (pre n k) fun π => F (keyOf W π)
  len : B.length ≤ 6 ^ k
  key : ∀ p ∈ B, ∃ π ∈ pre n k, p.1 = keyOf W π
def phiC (n : Nat) (W : List (List Int)) (F : List Int → Int) (key : PKey) : Int := smL (turnsK n W key) fun pt => F [pt.1, pt.2]
def phiL (n : Nat) (W : List (List Int)) (G : PKey → Int) (key : PKey) : Int := smL (turnsK n W key) fun pt => G (nextK key pt)
structure TJ (n : Nat) (W : List (List Int)) (k : Nat) (B : List (PKey × Int)) (i : Nat) (key : PKey) (num : Int) (j : Nat) (C : List (List Int × Int)) (L : List (PKey × Int)) : Prop where
  ck : KN C
  lk : KN L
  cs : ∀ F, wsum F C = cnt42 n W F k + fct (n - (k + 1)) * (smL (B.take i) (fun e => e.2 * phiC n W F e.1) + num * smL ((turnsK n W key).take j) fun pt => F [pt.1, pt.2])
  ls : ∀ G, wsum G L = smL (B.take i) (fun e => e.2 * phiL n W G e.1) + num * smL ((turnsK n W key).take j) fun pt => G (nextK key pt)
  cl : C.length ≤ k * 46656 + i * 6 + j
  ll : L.length ≤ i * 6 + j
  lv : ∀ p ∈ L, ∃ π ∈ pre n (k + 1), p.1 = keyOf W π
abbrev TI0 (n : Nat) (W : List (List Int)) (k : Nat) (B : List (PKey × Int)) (i : Nat) (C : List (List Int × Int)) (L : List (PKey × Int)) : Prop := ∀ key num, TJ n W k B i key num 0 C L
section
variable {n : Nat} {W : List (List Int)} {k : Nat} {B : List (PKey × Int)} {C : List (List Int × Int)} {L : List (PKey × Int)}
theorem CI.zero : CI n W 0 [] := ⟨List.nodup_nil, fun _ => rfl, Nat.zero_le _⟩
theorem BI.zero : BI n W 0 [(([], []), 1)] := ⟨by unfold KN; simp, fun F => by
    show smL [(([], []), 1)] (fun p : PKey × Int => p.2 * F p.1) = smL [[]] _
    rw [smL_cons, smL_nil, smL_cons, smL_nil]
    show 1 * F ([], []) + 0 = F (keyOf W []) + 0
    rw [Int.one_mul]
    rfl, Nat.le_refl _, fun p hp => ⟨[], List.mem_singleton.mpr rfl, by rw [List.mem_singleton.mp hp]; rfl⟩⟩
theorem TI0.start (h : CI n W k C) : TI0 n W k B 0 C [] := fun key num => ⟨h.kn, List.nodup_nil, fun F => by
    rw [h.sum F, List.take_zero, List.take_zero, smL_nil, smL_nil, Int.mul_zero]
    omega, fun G => by
    rw [List.take_zero, List.take_zero, smL_nil, smL_nil, Int.mul_zero]
    rfl, by have := h.len; omega, Nat.zero_le _, fun _ h => nomatch h⟩
theorem TJ.step {i j : Nat} {key : PKey} {num : Int} {pt : Int × Int} (h : TJ n W k B i key num j C L) (hp : (turnsK n W key)[j]? = some pt) (hv : ∃ π ∈ pre n (k + 1), nextK key pt = keyOf W π) :
    TJ n W k B i key num (j + 1) (addD C [pt.1, pt.2] (num * fct (n - (k + 1)))) (addD L (nextK key pt) num) := by
  refine ⟨put_kn h.ck _ _, put_kn h.lk _ _, fun F => ?_, fun G => ?_, ?_, ?_, fun p hp' => ?_⟩
  · rw [wsum_add F h.ck, h.cs F, List.take_add_one, hp, smL_app]
    show _ + num * fct (n - (k + 1)) * F [pt.1, pt.2] = _ + _ * (_ + num * (_ + smL [pt] _))
    rw [smL_cons, smL_nil, Int.add_zero, show num * fct (n - (k + 1)) * F [pt.1, pt.2] = fct (n - (k + 1)) * (num * F [pt.1, pt.2]) by ac_rfl, Int.add_assoc, ← Int.mul_add, Int.add_assoc, ← Int.mul_add]
  · rw [wsum_add G h.lk, h.ls G, List.take_add_one, hp, smL_app]
    show _ + num * G (nextK key pt) = _ + num * (_ + smL [pt] _)
    rw [smL_cons, smL_nil, Int.mul_add, Int.mul_add, Int.mul_zero, Int.add_zero]
    omega
  · unfold addD
    exact Nat.le_trans (put_len _ _ _) (by have := h.cl; omega)
  · unfold addD
    exact Nat.le_trans (put_len _ _ _) (by have := h.ll; omega)
  · unfold addD putD at hp'
    split at hp'
    · obtain ⟨q, hq, e⟩ := List.mem_map.mp hp'
      obtain ⟨π, h1, h2⟩ := h.lv q hq
      refine ⟨π, h1, ?_⟩
      rw [← e, ← h2]
      split <;> rfl
    · rcases List.mem_append.mp hp' with z | z
      · exact h.lv p z
      · rw [List.mem_singleton.mp z]
        exact hv
theorem TJ.done {i : Nat} {key : PKey} {num : Int} (hB : B[i]? = some (key, num)) (hl : (turnsK n W key).length ≤ 6) (h : TJ n W k B i key num (turnsK n W key).length C L) : TI0 n W k B (i + 1) C L := fun key' num' => by
  refine ⟨h.ck, h.lk, fun F => ?_, fun G => ?_, ?_, ?_, h.lv⟩
  · rw [h.cs F, List.take_length, List.take_zero, smL_nil, Int.mul_zero, Int.add_zero, List.take_add_one, hB, smL_app]
    show _ + _ * (_ + _) = _ + _ * (_ + smL [(key, num)] _)
    rw [smL_cons, smL_nil, Int.add_zero]
    rfl
  · rw [h.ls G, List.take_length, List.take_zero, smL_nil, Int.mul_zero, Int.add_zero, List.take_add_one, hB, smL_app]
    show _ + _ = _ + smL [(key, num)] _
    rw [smL_cons, smL_nil, Int.add_zero]
    rfl
  · have := h.cl; omega
  · have := h.ll; omega
theorem TI0.finish (hB : BI n W k B) (hk : k < 6) (h : TI0 n W k B B.length C L) : CI n W (k + 1) C ∧ BI n W (k + 1) L := by
  have h0 := h ([], []) 0
  have hb : B.length ≤ 7776 := Nat.le_trans hB.len (by
    have : 6 ^ k ≤ 6 ^ 5 := Nat.pow_le_pow_right (by decide) (by omega)
    simpa using this)
  refine ⟨⟨h0.ck, fun F => ?_, by have := h0.cl; omega⟩, ⟨h0.lk, fun G => ?_, ?_, h0.lv⟩⟩
  · rw [h0.cs F, List.take_length, List.take_zero, smL_nil, Int.mul_zero, Int.add_zero]
    show _ + _ * wsum (phiC n W F) B = cnt42 n W F k + _
    rw [hB.sum]
    congr 2
    refine smL_congr fun π _ => ?_
    unfold phiC
    rw [turnsK_key, smL_map]
  · rw [h0.ls G, List.take_length, List.take_zero, smL_nil, Int.mul_zero, Int.add_zero]
    show wsum (phiL n W G) B = smL ((pre n k).flatMap (exts n)) _
    rw [hB.sum, smL_flat]
    refine smL_congr fun π _ => ?_
    unfold phiL exts
    rw [turnsK_key, smL_map, smL_map]
    exact smL_congr fun p _ => by rw [nextK_key]
  · have := h0.ll
    have := hB.len
    rw [Nat.pow_succ]
    omega
end
/-! ### promises -/
def spBestFS (K : PySem.W.Frag) : Sp := fun vs H Q _ => ∃ (w l : Addr) (row ts : List Int), vs = [.ref w, .ref l] ∧ SqT K H w (row.map V.int) ∧ (SqL K H l (ts.map V.int) ∨ SqT K H l (ts.map V.int)) ∧ row.length ≤ 63 ∧ (∃ t ∈ row, t ∉ ts) ∧ ∀ H', Same H H' → Q (.int (bestF row ts)) H'
def spWithOne (K : PySem.W.Frag) : Sp := fun vs H Q _ => ∃ (a : Addr) (ns : List Int) (x : Int), vs = [.ref a, .int x] ∧ SqT K H a (ns.map V.int) ∧ ns.length ≤ 60 ∧ ∀ p H', Same H H' → SqT K H' p ((srt (ns ++ [x])).map V.int) → Q (.ref p) H'
def spTurnsF (K : PySem.W.Frag) : Sp := fun vs H Q _ => ∃ (a g t : Addr) (ws : List V) (W : List (List Int)) (n : Nat) (key : PKey), vs = [.ref a, .ref g, .ref t] ∧ SqL K H a ws ∧ Paired (IsR K H) ws W ∧ Ws41 n W ∧ SqT K H g (key.1.map V.int) ∧ SqT K H t (key.2.map V.int) ∧ key.2.length < n ∧
  ∀ p ls H', Same H H' → H p = none → H' p = some (.lst ls) → Paired (IsF K H') ls (turnsK n W key) → Q (.ref p) H'
def spOrdersOf : Sp := fun vs H Q _ => ∃ k : Nat, vs = [.int k] ∧ k ≤ 6 ∧ Q (.int (fct k)) H
def spCounts (P : Program) (w : World) (K : PySem.W.Frag) : Sp := fun vs H Q _ => ∃ (a : Addr) (ws : List V) (W : List (List Int)) (n : Nat), vs = [.ref a] ∧ SqL K H a ws ∧ Paired (IsR K H) ws W ∧ Ws41 n W ∧
  ∀ d C H', Same H H' → DictI keyR P w K H' d C → CI n W n C → Q (.ref d) H'
def shareR (n : Nat) (W : List (List Int)) (p : Int) : List (Int × Int) := (List.range n).map fun (t : Nat) => FQ.red (cnt42 n W (fun l => ind p t (l.getD 0 0) (l.getD 1 0)) n) (fct n)
def spShares (P : Program) (w : World) (K : PySem.W.Frag) : Sp := fun vs H Q _ => ∃ (d : Addr) (C : List (List Int × Int)) (W : List (List Int)) (n : Nat) (p : Int), vs = [.ref d, .int p, .int n] ∧ DictI keyR P w K H d C ∧ CI n W n C ∧ n ≤ 6 ∧
  ∀ q gs H', Same H H' → H q = none → H' q = some (.tup gs) → Paired (IsF K H') gs (shareR n W p) → Q (.ref q) H'
def RwG (K : PySem.W.Frag) (H : Hp) (v : V) (r : List (Int × Int)) : Prop := ∃ a gs, v = .ref a ∧ SqT K H a gs ∧ Paired (IsF K H) gs r
theorem RwG.mono {K : PySem.W.Frag} {H H' : Hp} {v : V} {r : List (Int × Int)} (e : Same H H') (h : RwG K H v r) : RwG K H' v r := by
  obtain ⟨a, gs, rfl, h1, h2⟩ := h
  exact ⟨a, gs, rfl, e.tup h1, fracs_mono e h2⟩
def tabT (n : Nat) (W : List (List Int)) : List (List (Int × Int)) := (List.range n).map fun (p : Nat) => shareR n W p
def spByTurns (K : PySem.W.Frag) : Sp := fun vs H Q _ => ∃ (a : Addr) (ws : List V) (W : List (List Int)) (n : Nat), vs = [.ref a] ∧ SqL K H a ws ∧ Paired (IsR K H) ws W ∧ Ws41 n W ∧
  ∀ q us H', Same H H' → H q = none → H' q = some (.lst us) → Paired (RwG K H') us (tabT n W) → Q (.ref q) H'
def spOrders42 (K : PySem.W.Frag) : Sp := fun vs H Q _ => ∃ n : Nat, vs = [.int n] ∧ 1 ≤ n ∧ n ≤ 6 ∧ ∀ q os H', Same H H' → H q = none → H' q = some (.lst os) → Paired (IsR K H') os (pre n n) → Q (.ref q) H'
/-! ### what stays while dicts are changed -/
structure KX (bad : List Addr) (H H' : Hp) : Prop where
  keep : ∀ b o, b ∉ bad → H b = some o → H' b = some o
  was : ∀ b ∈ bad, ∃ φ, H b = some (.ext φ)
  is : ∀ b ∈ bad, ∃ φ, H' b = some (.ext φ)
section
variable {bad : List Addr} {H H' H'' : Hp} {K : PySem.W.Frag}
theorem KX.refl (h : ∀ b ∈ bad, ∃ φ, H b = some (.ext φ)) : KX bad H H := ⟨fun _ _ _ e => e, h, h⟩
theorem KX.trans (a : KX bad H H') (b : KX bad H' H'') : KX bad H H'' := ⟨fun c o hc e => b.keep c o hc (a.keep c o hc e), a.was, b.is⟩
theorem KX.of (e : Same H H') (h : ∀ b ∈ bad, ∃ φ, H b = some (.ext φ)) : KX bad H H' := ⟨fun _ _ _ q => e _ _ q, h, fun b hb => by obtain ⟨φ, q⟩ := h b hb; exact ⟨φ, e _ _ q⟩⟩
theorem KX.put {d : Addr} (h : ∀ b ∈ bad, ∃ φ, H b = some (.ext φ)) (hd : d ∈ bad) (e : ∃ φ φ', H d = some (.ext φ) ∧ H' = upd H d (.ext φ')) : KX bad H H' := by
  obtain ⟨φ, φ', h1, rfl⟩ := e
  refine ⟨fun b o hb q => by rw [upd_ne (show b ≠ d from fun z => hb (by rw [z]; exact hd))]; exact q, h, fun b hb => ?_⟩
  by_cases z : b = d
  · subst z; exact ⟨φ', upd_same⟩
  · rw [upd_ne z]; exact h b hb
theorem KX.get (a : KX bad H H') {b : Addr} {o : HO} (h : H b = some o) (hn : ∀ φ, o ≠ .ext φ) : H' b = some o := a.keep b o (fun z => by obtain ⟨φ, q⟩ := a.was b z; rw [h] at q; exact hn φ (Option.some.inj q)) h
theorem KX.tup (a : KX bad H H') {b : Addr} {xs : List V} (h : SqT K H b xs) : SqT K H' b xs := by
  rcases h with (h | ⟨u, h⟩) | h
  · exact .inl (.inl (a.get h fun _ z => by cases z))
  · exact .inl (.inr ⟨u, a.get h fun _ z => by cases z⟩)
  · exact .inr h
theorem KX.lst (a : KX bad H H') {b : Addr} {xs : List V} (h : H b = some (.lst xs)) : H' b = some (.lst xs) := a.get h fun _ z => by cases z
theorem KX.same {H0 : Hp} (a : KX bad H H') (e : Same H0 H) (hf : ∀ b ∈ bad, H0 b = none) : Same H0 H' := fun b o q => a.keep b o (fun z => by rw [hf b z] at q; cases q) (e b o q)
theorem KX.dict {κ : Type} [DecidableEq κ] {W : KW κ} {P : Program} {w : World} {d : Addr} {ep : Nat} {kvs : List (κ × Int)} (a : KX bad H H') (h : DictE W P w K H d ep kvs) (hd : d ∉ bad) : DictE W P w K H' d ep kvs := by
  obtain ⟨xs, h1, h2⟩ := h
  exact ⟨xs, a.keep _ _ hd h1, Paired.mapP h2 fun _ _ ⟨x1, x2, x3⟩ => ⟨x1, x2, W.map (fun _ _ q => a.tup q) x3⟩⟩
theorem DictI.ext {κ : Type} [DecidableEq κ] {W : KW κ} {P : Program} {w : World} {d : Addr} {kvs : List (κ × Int)} (h : DictI W P w K H d kvs) : ∃ φ, H d = some (.ext φ) := by
  obtain ⟨ep, xs, h1, _⟩ := h
  exact ⟨_, h1⟩
end
theorem fct_le {m : Nat} (h : m ≤ 6) : 0 < TM.fct m ∧ TM.fct m ≤ 720 :=
  (show ∀ m ∈ List.range 7, 0 < TM.fct m ∧ TM.fct m ≤ 720 by decide) m (List.mem_range.mpr (by omega))
theorem srt_len (l : List Int) : (TM.srt l).length = l.length := (TM.srt_perm l).length_eq
theorem key_next {n k : Nat} {W : List (List Int)} {π : List Int} {pt : Int × Int} (hπ : π ∈ TM.pre n k) (hp : pt ∈ turnsK n W (keyOf W π)) : ∃ ρ ∈ TM.pre n (k + 1), nextK (keyOf W π) pt = keyOf W ρ := by
  rw [turnsK_key] at hp
  obtain ⟨p, h1, rfl⟩ := List.mem_map.mp hp
  exact ⟨π ++ [p], List.mem_flatMap.mpr ⟨π, hπ, List.mem_map.mpr ⟨p, h1, rfl⟩⟩, nextK_key W π p⟩
/-! ### tables of whole numbers, by a function -/
def tabI (n : Nat) (f : Nat → Nat → Int) : List (List Int) := (List.range n).map fun p => (List.range n).map fun t => f p t
theorem row_at {n : Nat} {g : Nat → Int} {t : Nat} (ht : t < n) : ((List.range n).map g)[t]? = some (g t) := by rw [List.getElem?_map, List.getElem?_range ht]; rfl
/-! ### the first that is free -/
/-! ### rows of fractions, by their lists -/
theorem RwG.rep {K : PySem.W.Frag} {H : Hp} {v : V} {r : List (Int × Int)} (h : RwG K H v r) (hl : r.length ≤ 1000) : Rep K H v (.tuple (r.map dF)) := by
  obtain ⟨a, gs, rfl, h1, h2⟩ := h
  have := Paired.len h2
  exact .tup h1 (Reps.of_fracs h2) (by omega)
theorem Reps.of_grows {K : PySem.W.Frag} {H : Hp} : ∀ {xs : List V} {Z : List (List (Int × Int))}, Paired (RwG K H) xs Z → (∀ r ∈ Z, r.length ≤ 1000) → Reps K H xs (Z.map fun m => .tuple (m.map dF))
  | _, _, .nil, _ => .nil
  | _, _, .cons h t, hl => .cons (h.rep (hl _ List.mem_cons_self)) (Reps.of_grows t fun r hr => hl r (List.mem_cons_of_mem _ hr))
theorem okD_grows (Z : List (List (Int × Int))) : okD 3 (.list (Z.map fun m => .tuple (m.map dF))) = true := by
  show (Z.map fun m : List (Int × Int) => PyData.tuple (m.map dF)).all (okD 2) = true
  rw [List.all_eq_true]
  intro d hd
  obtain ⟨m, _, rfl⟩ := List.mem_map.mp hd
  show (m.map dF).all (okD 1) = true
  rw [List.all_eq_true]
  intro d hd
  obtain ⟨p, _, rfl⟩ := List.mem_map.mp hd
  exact okD_dF p
theorem tabT_len (n : Nat) (W : List (List Int)) : (tabT n W).length = n := by unfold tabT; simp
theorem shareR_len (n : Nat) (W : List (List Int)) (p : Int) : (shareR n W p).length = n := by unfold shareR; simp
theorem tabT_rows {n : Nat} {W : List (List Int)} {r : List (Int × Int)} (h : r ∈ tabT n W) : r.length = n := by
  unfold tabT at h
  obtain ⟨p, _, rfl⟩ := List.mem_map.mp h
  exact shareR_len n W p
/-- the whole counting, as the law has it -/
def allC (n : Nat) (W : List (List Int)) (p t : Nat) : Int := TM.smL (TM.pre n n) fun o => cntO W n o p t
theorem share_all {n : Nat} {W : List (List Int)} {p : Nat} : shareR n W p = (List.range n).map fun (t : Nat) => FQ.red (allC n W p t) (TM.fct n) := by
  unfold shareR allC
  exact List.map_congr_left fun t _ => by rw [counts_eq]
/-- what stands at a key, or nothing -/
def getD0 {κ : Type} [DecidableEq κ] (kvs : List (κ × Int)) (k : κ) : Int := (kvs.lookup k).getD 0
theorem ind_pair (C : List (List Int × Int)) (h : KN C) (n : Nat) (W : List (List Int)) (hs : ∀ F, wsum F C = cnt42 n W F n) (p t : Int) : getD0 C [p, t] = cnt42 n W (fun l => ind p t (l.getD 0 0) (l.getD 1 0)) n := by
  have e1 := wsum_at h [p, t]
  have e2 : cnt42 n W (fun a => if a = [p, t] then 1 else 0) n = cnt42 n W (fun l => ind p t (l.getD 0 0) (l.getD 1 0)) n := by
    have key : ∀ k, cnt42 n W (fun a => if a = [p, t] then 1 else 0) k = cnt42 n W (fun l => ind p t (l.getD 0 0) (l.getD 1 0)) k := by
      intro k
      induction k with
      | zero => rfl
      | succ k ih =>
        show cnt42 n W _ k + _ = cnt42 n W _ k + _
        rw [ih]
        congr 2
        exact TM.smL_congr fun π _ => TM.smL_congr fun q _ => by
          show (if [q, bestP W q (tkA W π)] = [p, t] then (1 : Int) else 0) = ind p t q (bestP W q (tkA W π))
          unfold ind
          simp
    exact key n
  rw [← e2, ← hs]
  exact e1
/-! ### rows that lie, when another list changes -/
theorem RowsAt.off {H0 H : Hp} {L r : Addr} {rs : List Addr} {M : List (List Int)} {o : HO} (R : RowsAt H0 H L rs M) (h1 : r ∉ rs) (h2 : r ≠ L) : RowsAt H0 (L2.upd H r o) L rs M :=
  ⟨by rw [upd_ne (fun z => h2 z.symm)]; exact R.lst, paired_keep R.rows h1, R.nd, R.fr, R.frL, R.nL⟩
theorem RowsAt.fresh {H0 H : Hp} {L r : Addr} {rs : List Addr} {M : List (List Int)} (R : RowsAt H0 H L rs M) (h : H r = none) : r ∉ rs ∧ r ≠ L :=
  ⟨(fun z => by
    obtain ⟨i, hi, e⟩ := List.mem_iff_getElem.mp z
    obtain ⟨m, _, h2⟩ := Paired.get' R.rows (show rs[i]? = some r by rw [List.getElem?_eq_getElem hi, e])
    rw [h] at h2
    cases h2), (fun z => by
    rw [z, R.lst] at h
    cases h)⟩
theorem pre_pm {n : Nat} {o : List Int} (h : o ∈ TM.pre n n) : LN.Pm n o := by
  have I := TM.pre_ok h
  have hl := TM.free_len I
  have he : TM.freeP n o = [] := List.eq_nil_of_length_eq_zero (by omega)
  refine (List.perm_ext_iff_of_nodup I.nd (LM.rng_nodup n)).mpr fun x => ⟨fun hx => LM.mem_rng.mpr (I.bd x hx), fun hx => ?_⟩
  refine Classical.byContradiction fun z => ?_
  have : x ∈ TM.freeP n o := List.mem_filter.mpr ⟨hx, by simpa using z⟩
  rw [he] at this
  cases this
theorem sum_le6 : ∀ l : List Nat, (∀ x ∈ l, x ≤ 6) → l.sum ≤ 6 * l.length
  | [], _ => Nat.le_refl _
  | a :: l, h => by
    have h1 := h a List.mem_cons_self
    have h2 := sum_le6 l fun x hx => h x (List.mem_cons_of_mem _ hx)
    rw [List.sum_cons, List.length_cons]
    omega
theorem exts_len {n : Nat} (hn : n ≤ 6) (π : List Int) : (TM.exts n π).length ≤ 6 := by
  unfold TM.exts TM.freeP
  rw [List.length_map]
  have h1 := List.length_filter_le (fun p => !decide (p ∈ π)) (LM.rng n)
  rw [LM.rng_len] at h1
  omega
end L2

namespace L2
open TM
/-! ### the table by turns is a table; whoever tells other wishes gains nothing -/
theorem sm_one {n c : Nat} (hc : c < n) (x : Int) : HM.sm n (fun i => if i = c then x else 0) = x := by
  have h := HM.sm_cnt (fun i => i == c) x n
  rw [HM.cnt_one, if_pos hc] at h
  rw [HM.sm_congr (g := fun i => if (i == c) = true then x else 0) fun i _ => by by_cases e : i = c <;> simp [e], h]
  simp
theorem bt_ok {n : Nat} {W : List (List Int)} {o : List Int} (ok : Ws41 n W) (ho : LN.Pm n o) {k : Nat} (hk : k < n) : 0 ≤ bt W o k ∧ bt W o k < n ∧ bt W o k ∉ tk W o k := by
  have hol := ho.len
  have hob := ho.mem.mp (show o.getD k 0 ∈ o by rw [HM.getD_lt (by omega)]; exact List.getElem_mem _)
  have hwk : (o.getD k 0).toNat < W.length := by have := ok.len; omega
  have hpm := ok.pm _ (List.getElem_mem hwk)
  unfold bt
  rw [HM.getD_lt hwk]
  have hb := bestF_get (free_ex (ts := tk W o k) hpm (by rw [tk_len]; exact hk))
  have := hpm.mem.mp hb.2.1
  exact ⟨this.1, this.2, hb.2.2⟩
theorem tk_at (W : List (List Int)) (o : List Int) {n j : Nat} (hj : j < n) : (tk W o n).getD j 0 = bt W o j := by
  rw [tk_eq, List.getD_eq_getElem?_getD, List.getElem?_map, List.getElem?_range hj]; rfl
/-- the place of a person in an order -/
theorem cntO_at {n : Nat} (W : List (List Int)) {o : List Int} (ho : LN.Pm n o) {p : Nat} (hp : p < n) : ∃ j, j < n ∧ o.getD j 0 = (p : Int) ∧ (∀ i, i < n → o.getD i 0 = (p : Int) → i = j) ∧ ∀ V t, cntO V n o p t = if bt V o j = t then 1 else 0 := by
  obtain ⟨j, hj, e, hu⟩ := HM.pm_at ho hp
  refine ⟨j, hj, e, fun i hi ei => hu i hi (by rw [ei]; rfl), fun V t => ?_⟩
  unfold cntO
  rw [HM.sm_congr (g := fun i => if i = j then (if bt V o j = t then 1 else 0) else 0) fun i hi => ?_, sm_one hj]
  unfold ind
  by_cases c : i = j
  · subst c
    rw [if_pos rfl]
    by_cases c2 : bt V o i = t
    · rw [if_pos c2, if_pos ⟨e, c2⟩]
    · rw [if_neg c2, if_neg fun z => c2 z.2]
  · rw [if_neg c, if_neg fun z => c (hu i hi (by rw [z.1]; rfl))]
theorem smL_le {α : Type} {l : List α} {f g : α → Int} (h : ∀ x ∈ l, f x ≤ g x) : smL l f ≤ smL l g := by
  induction l with
  | nil => exact Int.le_refl _
  | cons a l ih =>
    rw [smL_cons, smL_cons]
    have := h a List.mem_cons_self
    have := ih fun x hx => h x (List.mem_cons_of_mem _ hx)
    omega
/-! other wishes told -/
theorem tk_other {W V : List (List Int)} {o : List Int} {i : Nat} (h : ∀ q, q ≠ i → W.getD q [] = V.getD q []) : ∀ k, (∀ j, j < k → (o.getD j 0).toNat ≠ i) → tk W o k = tk V o k
  | 0, _ => rfl
  | k + 1, hk => by
    have ih := tk_other h k fun j hj => hk j (by omega)
    show tk W o k ++ [bestF (W.getD (o.getD k 0).toNat []) (tk W o k)] = tk V o k ++ [bestF (V.getD (o.getD k 0).toNat []) (tk V o k)]
    rw [ih, h _ (hk k (by omega))]
theorem best_take {ts : List Int} {b : Int} : ∀ {row : List Int} {k : Nat}, b ∈ row.take k → b ∉ ts → bestF row ts ∈ row.take k
  | [], k, h, _ => by simp at h
  | a :: r, 0, h, _ => by simp at h
  | a :: r, k + 1, h, hb => by
    rw [List.take_succ_cons] at h ⊢
    unfold bestF leftIn
    by_cases c : a ∈ ts
    · rw [List.filter_cons_of_neg (by simpa using c)]
      rcases List.mem_cons.mp h with e | e
      · rw [e] at hb; exact absurd c hb
      · exact List.mem_cons_of_mem _ (best_take e hb)
    · rw [List.filter_cons_of_pos (by simpa using c)]
      exact List.mem_cons_self
structure Told (n i : Nat) (W V : List (List Int)) (row : List Int) : Prop where
  okW : Ws41 n W
  okV : Ws41 n V
  hi : i < n
  row : W.getD i [] = row
  oth : ∀ q, q ≠ i → W.getD q [] = V.getD q []
theorem Told.at {n i : Nat} {W V : List (List Int)} {row o : List Int} (h : Told n i W V row) (ho : LN.Pm n o) : ∃ j, j < n ∧ o.getD j 0 = (i : Int) ∧ (∀ U t, cntO U n o i t = if bt U o j = t then 1 else 0) ∧ bt W o j = bestF row (tk W o j) ∧ bt V o j ∈ row ∧ bt V o j ∉ tk W o j := by
  obtain ⟨j, hj, e, hu, hc⟩ := cntO_at W ho h.hi
  have hol := ho.len
  have hn : ∀ j', j' < j → (o.getD j' 0).toNat ≠ i := fun j' hj' z => by
    have hb := ho.mem.mp (show o.getD j' 0 ∈ o by rw [HM.getD_lt (by omega)]; exact List.getElem_mem _)
    have := hu j' (by omega) (by omega)
    omega
  have et := tk_other h.oth j hn
  obtain ⟨b0, b1, b2⟩ := bt_ok h.okV ho hj
  have hil : i < W.length := by have := h.okW.len; have := h.hi; omega
  have hpm := h.okW.pm _ (List.getElem_mem hil)
  rw [← HM.getD_lt (d := []) hil, h.row] at hpm
  refine ⟨j, hj, e, hc, ?_, hpm.mem.mpr ⟨b0, b1⟩, et ▸ b2⟩
  unfold bt
  rw [e, show ((i : Int)).toNat = i from rfl, h.row]
theorem ind_sum (b : Int) : ∀ {l : List Int}, l.Nodup → smL l (fun t => if b = t then (1 : Int) else 0) = if b ∈ l then 1 else 0
  | [], _ => by simp [smL]
  | a :: l, h => by
    obtain ⟨h1, h2⟩ := List.nodup_cons.mp h
    rw [smL_cons, ind_sum b h2]
    by_cases c : b = a
    · subst c
      simp [h1]
    · simp [c]
theorem acc_all {n i : Nat} {W : List (List Int)} {w : List Int} (hw : LN.Pm n w) (k : Nat) : (((w.take k).map fun t => ((List.range n).map fun t => allC n W i t).getD t.toNat 0).sum) = smL (pre n n) fun o => smL (w.take k) fun t => cntO W n o i t := by
  rw [smL_swap]
  unfold smL
  congr 1
  refine List.map_congr_left fun t ht => ?_
  have hb := hw.mem.mp (List.mem_of_mem_take ht)
  rw [List.getD_eq_getElem?_getD, row_at (by omega)]
  show allC n W i t.toNat = _
  unfold allC smL
  rw [show ((t.toNat : Nat) : Int) = t by omega]
theorem Told.acc {n i : Nat} {W V : List (List Int)} {row : List Int} (h : Told n i W V row) (k : Nat) :
    (((row.take k).map fun t => ((List.range n).map fun t => allC n V i t).getD t.toNat 0).sum) ≤ (((row.take k).map fun t => ((List.range n).map fun t => allC n W i t).getD t.toNat 0).sum) := by
  have hil : i < W.length := by have := h.okW.len; have := h.hi; omega
  have hpm := h.okW.pm _ (List.getElem_mem hil)
  rw [← HM.getD_lt (d := []) hil, h.row] at hpm
  rw [acc_all hpm, acc_all hpm]
  refine smL_le fun o ho => ?_
  obtain ⟨j, hj, e, hc, eb, hm, hf⟩ := h.at (pre_pm ho)
  have hnd : (row.take k).Nodup := hpm.nodup.sublist (List.take_sublist _ _)
  rw [smL_congr (g := fun t => if bt V o j = t then 1 else 0) fun t _ => hc V t, smL_congr (f := fun t => cntO W n o i t) (g := fun t => if bt W o j = t then 1 else 0) fun t _ => hc W t, ind_sum _ hnd, ind_sum _ hnd]
  by_cases c : bt V o j ∈ row.take k
  · rw [if_pos c, if_pos (by rw [eb]; exact best_take c hf)]
    exact Int.le_refl _
  · rw [if_neg c]
    split <;> decide
end L2

namespace L2
open TM
/-! ### names turned about -/
def rx (X : List Int) (t : Int) : Int := X.getD t.toNat 0
structure Ren (n : Nat) (W V : List (List Int)) (P X : List Int) : Prop where
  pP : LN.Pm n P
  pX : LN.Pm n X
  wW : EM.Ws n W
  wV : EM.Ws n V
  at' : ∀ p, p < n → V.getD (P.getD p 0).toNat [] = (W.getD p []).map (rx X)
section
variable {n : Nat} {X : List Int}
theorem rx_bd (h : LN.Pm n X) {t : Int} (h0 : 0 ≤ t) (h1 : t < n) : 0 ≤ rx X t ∧ rx X t < n := by
  have hl := h.len
  refine h.mem.mp ?_
  unfold rx
  rw [HM.getD_lt (by omega)]
  exact List.getElem_mem _
theorem rx_inj (h : LN.Pm n X) {t u : Int} (h0 : 0 ≤ t) (h1 : t < n) (k0 : 0 ≤ u) (k1 : u < n) (e : rx X t = rx X u) : t = u := by
  have hl := h.len
  have ht : t.toNat < X.length := by omega
  have hu : u.toNat < X.length := by omega
  unfold rx at e
  rw [HM.getD_lt ht, HM.getD_lt hu] at e
  have := (List.getElem_inj h.nodup).mp e
  omega
theorem rx_onto (h : LN.Pm n X) {u : Int} (k0 : 0 ≤ u) (k1 : u < n) : ∃ t : Int, 0 ≤ t ∧ t < n ∧ rx X t = u := by
  obtain ⟨i, hi, e⟩ := List.mem_iff_getElem.mp (h.mem.mpr ⟨k0, k1⟩)
  have hl := h.len
  refine ⟨i, by omega, by omega, ?_⟩
  unfold rx
  rw [show ((i : Nat) : Int).toNat = i from rfl, HM.getD_lt hi, e]
theorem rx_mem (h : LN.Pm n X) {t : Int} (h0 : 0 ≤ t) (h1 : t < n) {l : List Int} (hl : ∀ u ∈ l, 0 ≤ u ∧ u < n) : rx X t ∈ l.map (rx X) ↔ t ∈ l := by
  constructor
  · intro z
    obtain ⟨u, hu, e⟩ := List.mem_map.mp z
    have := rx_inj h (hl u hu).1 (hl u hu).2 h0 h1 e
    rw [← this]; exact hu
  · exact fun z => List.mem_map.mpr ⟨t, z, rfl⟩
theorem rx_count (h : LN.Pm n X) {t : Int} (h0 : 0 ≤ t) (h1 : t < n) : ∀ {l : List Int}, (∀ u ∈ l, 0 ≤ u ∧ u < n) → (l.map (rx X)).count (rx X t) = l.count t
  | [], _ => rfl
  | a :: l, hl => by
    have ih := rx_count h h0 h1 (l := l) fun u hu => hl u (List.mem_cons_of_mem _ hu)
    rw [List.map_cons, List.count_cons, List.count_cons, ih]
    have ha := hl a List.mem_cons_self
    by_cases c : a = t
    · subst c; simp
    · have : rx X a ≠ rx X t := fun z => c (rx_inj h ha.1 ha.2 h0 h1 z)
      simp [c, this]
theorem rx_nodup (h : LN.Pm n X) : ∀ {l : List Int}, (∀ u ∈ l, 0 ≤ u ∧ u < n) → l.Nodup → (l.map (rx X)).Nodup
  | [], _, _ => List.nodup_nil
  | a :: l, hl, hn => by
    obtain ⟨h1, h2⟩ := List.nodup_cons.mp hn
    have ha := hl a List.mem_cons_self
    have hl' : ∀ u ∈ l, 0 ≤ u ∧ u < n := fun u hu => hl u (List.mem_cons_of_mem _ hu)
    rw [List.map_cons]
    exact List.nodup_cons.mpr ⟨fun z => h1 ((rx_mem h ha.1 ha.2 hl').mp z), rx_nodup h hl' h2⟩
end
/-- what stands about at the renamed places is the same, in another order -/
theorem perm_at {n : Nat} {P : List Int} (h : LN.Pm n P) {l m : List Int} (hl : l.length = n) (hm : m.length = n) (e : ∀ p, p < n → l.getD (P.getD p 0).toNat 0 = m.getD p 0) : l.Perm m := by
  have e1 : l = (LM.rng n).map fun q => l.getD q.toNat 0 := by
    refine List.ext_getElem? fun i => ?_
    by_cases hi : i < n
    · rw [List.getElem?_map, EM.rng_get hi]
      show l[i]? = some (l.getD ((i : Int)).toNat 0)
      rw [show ((i : Int)).toNat = i from rfl, HM.getD_lt (by omega), List.getElem?_eq_getElem (by omega)]
    · rw [List.getElem?_eq_none (by omega), List.getElem?_eq_none (by rw [List.length_map, LM.rng_len]; omega)]
  have e2 : P.map (fun q => l.getD q.toNat 0) = m := by
    have hP := h.len
    refine List.ext_getElem? fun i => ?_
    by_cases hi : i < n
    · have e3 := e i hi
      rw [HM.getD_lt (l := P) (by omega), HM.getD_lt (l := m) (by omega)] at e3
      rw [List.getElem?_map, List.getElem?_eq_getElem (by omega), List.getElem?_eq_getElem (l := m) (by omega), ← e3]
      rfl
    · rw [List.getElem?_eq_none (by rw [List.length_map]; omega), List.getElem?_eq_none (by omega)]
  rw [e1, ← e2]
  exact (List.Perm.map _ h).symm
theorem best_ren {n : Nat} {X w ms ms' : List Int} (hw : ∀ t ∈ w, 0 ≤ t ∧ t < (n : Int)) (hex : ∃ t ∈ w, EM.at0 ms t ≠ 0) (h : ∀ t : Int, 0 ≤ t → t < n → (EM.at0 ms' (rx X t) ≠ 0 ↔ EM.at0 ms t ≠ 0)) : EM.best ms' (w.map (rx X)) = rx X (EM.best ms w) := by
  unfold EM.best
  rw [List.filter_map]
  rw [List.filter_congr (q := fun t => decide (EM.at0 ms t ≠ 0)) fun t ht => by
    show decide (EM.at0 ms' (rx X t) ≠ 0) = decide (EM.at0 ms t ≠ 0)
    exact decide_eq_decide.mpr (h t (hw t ht).1 (hw t ht).2)]
  obtain ⟨t, h1, h2⟩ := hex
  have hm : t ∈ w.filter fun t => decide (EM.at0 ms t ≠ 0) := List.mem_filter.mpr ⟨h1, decide_eq_true h2⟩
  cases hf : w.filter fun t => decide (EM.at0 ms t ≠ 0) with
  | nil => rw [hf] at hm; cases hm
  | cons a r => rfl
structure Sim (n : Nat) (X : List Int) (s s' : EM.Sta) : Prop where
  ms : ∀ t : Int, 0 ≤ t → t < n → EM.at0 s'.ms (rx X t) * s.D = EM.at0 s.ms t * s'.D
  T : s'.T * s.D = s.T * s'.D
theorem Sim.nz {n : Nat} {X : List Int} {s s' : EM.Sta} (h : Sim n X s s') (hD : 0 < s.D) (hD' : 0 < s'.D) {t : Int} (h0 : 0 ≤ t) (h1 : t < n) : EM.at0 s'.ms (rx X t) ≠ 0 ↔ EM.at0 s.ms t ≠ 0 := by
  have e := h.ms t h0 h1
  constructor
  · intro z y
    rw [y, Int.zero_mul] at e
    rcases Int.mul_eq_zero.mp e with a | a
    · exact z a
    · omega
  · intro z y
    rw [y, Int.zero_mul] at e
    rcases Int.mul_eq_zero.mp e.symm with a | a
    · exact z a
    · omega
theorem Sim.sum {n : Nat} {X : List Int} {s s' : EM.Sta} (h : Sim n X s s') (hX : LN.Pm n X) (S : EM.St n s.D s.ms s.T s.G) (S' : EM.St n s'.D s'.ms s'.T s'.G) : s'.ms.sum = 0 ↔ s.ms.sum = 0 := by
  have hn := S.len
  have hn' := S'.len
  constructor
  · intro z
    refine Classical.byContradiction fun y => ?_
    obtain ⟨t, h0, h1, h2⟩ := EM.some_left y
    rw [hn] at h1
    have hb := rx_bd hX h0 h1
    exact ((h.nz S.pos S'.pos h0 h1).mpr h2) (EM.sum_zero S'.nn z _ (EM.at0_mem hb.1 (by omega)))
  · intro z
    refine Classical.byContradiction fun y => ?_
    obtain ⟨u, h0, h1, h2⟩ := EM.some_left y
    rw [hn'] at h1
    obtain ⟨t, t0, t1, rfl⟩ := rx_onto hX h0 h1
    exact ((h.nz S.pos S'.pos t0 t1).mp h2) (EM.sum_zero S.nn z _ (EM.at0_mem t0 (by omega)))
section
variable {n : Nat} {W V : List (List Int)} {P X : List Int} {s s' : EM.Sta}
theorem dish_at (hR : Ren n W V P X) (h : Sim n X s s') (S : EM.St n s.D s.ms s.T s.G) (S' : EM.St n s'.D s'.ms s'.T s'.G) (hs : s.ms.sum ≠ 0) {p : Nat} (hp : p < n) :
    (EM.dishes V s'.ms).getD (P.getD p 0).toNat 0 = rx X ((EM.dishes W s.ms).getD p 0) := by
  have hPl := hR.pP.len
  have hWl := hR.wW.len
  have hVl := hR.wV.len
  have hb := hR.pP.mem.mp (show P.getD p 0 ∈ P by rw [HM.getD_lt (by omega)]; exact List.getElem_mem _)
  have hq : (P.getD p 0).toNat < V.length := by omega
  have hpw : p < W.length := by omega
  have e := hR.at' p hp
  unfold EM.dishes
  rw [HM.getD_lt (by rw [List.length_map]; exact hq), HM.getD_lt (l := W.map _) (by rw [List.length_map]; exact hpw), List.getElem_map, List.getElem_map]
  rw [HM.getD_lt hq, HM.getD_lt hpw] at e
  rw [e]
  have hpm := hR.wW.pm _ (List.getElem_mem hpw)
  obtain ⟨t, t0, t1, t2⟩ := EM.some_left hs
  rw [S.len] at t1
  exact best_ren (n := n) (fun t ht => LN.Pm.mem (n := n) hpm |>.mp ht) ⟨t, (LN.Pm.mem (n := n) hpm).mpr ⟨t0, t1⟩, t2⟩ fun t h0 h1 => h.nz S.pos S'.pos h0 h1
theorem dish_perm (hR : Ren n W V P X) (h : Sim n X s s') (S : EM.St n s.D s.ms s.T s.G) (S' : EM.St n s'.D s'.ms s'.T s'.G) (hs : s.ms.sum ≠ 0) : (EM.dishes V s'.ms).Perm ((EM.dishes W s.ms).map (rx X)) := by
  refine perm_at hR.pP (by unfold EM.dishes; rw [List.length_map]; exact hR.wV.len) (by unfold EM.dishes; rw [List.length_map, List.length_map]; exact hR.wW.len) fun p hp => ?_
  rw [dish_at hR h S S' hs hp]
  have hl : p < (EM.dishes W s.ms).length := by unfold EM.dishes; rw [List.length_map, hR.wW.len]; exact hp
  rw [HM.getD_lt hl, HM.getD_lt (by rw [List.length_map]; exact hl), List.getElem_map]
theorem cnt_ren (hR : Ren n W V P X) (h : Sim n X s s') (S : EM.St n s.D s.ms s.T s.G) (S' : EM.St n s'.D s'.ms s'.T s'.G) (hs : s.ms.sum ≠ 0) {t : Int} (h0 : 0 ≤ t) (h1 : t < n) : EM.cnt (EM.dishes V s'.ms) (rx X t) = EM.cnt (EM.dishes W s.ms) t := by
  unfold EM.cnt
  rw [(dish_perm hR h S S' hs).count_eq, rx_count hR.pX h0 h1 fun u hu => (EM.dish_ok S hR.wW.pm hs hu).1]
/-- what is eaten until the next stop, by worth -/
theorem pick_ren (hR : Ren n W V P X) (h : Sim n X s s') (S : EM.St n s.D s.ms s.T s.G) (S' : EM.St n s'.D s'.ms s'.T s'.G) (hs : s.ms.sum ≠ 0) :
    (EM.cs V s').m * EM.cn W s * s.D = (EM.cs W s).m * EM.cn V s' * s'.D := by
  have hs' : s'.ms.sum ≠ 0 := fun z => hs ((h.sum hR.pX S S').mp z)
  have hne : EM.dishes W s.ms ≠ [] := fun z => by
    have := hR.wW.len
    have h1 := hR.wW.n1
    unfold EM.dishes at z
    rw [List.map_eq_nil_iff] at z
    rw [z] at this
    simp at this
    omega
  have hne' : EM.dishes V s'.ms ≠ [] := fun z => by
    have := hR.wV.len
    have h1 := hR.wV.n1
    unfold EM.dishes at z
    rw [List.map_eq_nil_iff] at z
    rw [z] at this
    simp at this
    omega
  obtain ⟨p1, p2⟩ := EM.pick_spec (ms := s.ms) hne
  obtain ⟨q1, q2⟩ := EM.pick_spec (ms := s'.ms) hne'
  have b1 := (EM.dish_ok S hR.wW.pm hs p1).1
  have hp := dish_perm hR h S S' hs
  obtain ⟨u, u1, u2⟩ := List.mem_map.mp (hp.mem_iff.mp q1)
  have b2 := (EM.dish_ok S hR.wW.pm hs u1).1
  have c1 := p2 u u1
  have c2 := q2 (rx X (EM.pick (EM.dishes W s.ms) s.ms)) (hp.mem_iff.mpr (List.mem_map.mpr ⟨_, p1, rfl⟩))
  have n1 := cnt_ren hR h S S' hs b1.1 b1.2
  have n2 := cnt_ren hR h S S' hs b2.1 b2.2
  have m1 := h.ms _ b1.1 b1.2
  have m2 := h.ms _ b2.1 b2.2
  have k1 := EM.cnt_pos p1
  have k2 := EM.cnt_pos u1
  rw [n1] at c2
  rw [u2] at n2 m2
  rw [n2] at c2
  show EM.at0 s'.ms (EM.pick (EM.dishes V s'.ms) s'.ms) * EM.cnt (EM.dishes W s.ms) (EM.pick (EM.dishes W s.ms) s.ms) * s.D = EM.at0 s.ms (EM.pick (EM.dishes W s.ms) s.ms) * EM.cnt (EM.dishes V s'.ms) (EM.pick (EM.dishes V s'.ms) s'.ms) * s'.D
  rw [n2]
  generalize EM.at0 s'.ms (EM.pick (EM.dishes V s'.ms) s'.ms) = a' at *
  generalize EM.at0 s.ms (EM.pick (EM.dishes W s.ms) s.ms) = a at *
  generalize EM.at0 s'.ms (rx X (EM.pick (EM.dishes W s.ms) s.ms)) = b' at *
  generalize EM.at0 s.ms u = b at *
  generalize EM.cnt (EM.dishes W s.ms) (EM.pick (EM.dishes W s.ms) s.ms) = c at *
  generalize EM.cnt (EM.dishes W s.ms) u = d at *
  have hD := S.pos
  have hD' := S'.pos
  -- a * d ≤ b * c, a' * c ≤ b' * d, b' * D = a * D', a' * D = b * D'
  have e1 : a * d * s'.D ≤ b * c * s'.D := Int.mul_le_mul_of_nonneg_right c1 (Int.le_of_lt hD')
  have e2 : a' * c * s.D ≤ b' * d * s.D := Int.mul_le_mul_of_nonneg_right c2 (Int.le_of_lt hD)
  have f1 : b * c * s'.D = a' * c * s.D := by grind
  have f2 : b' * d * s.D = a * d * s'.D := by grind
  omega
theorem Sim.next (hR : Ren n W V P X) (h : Sim n X s s') (S : EM.St n s.D s.ms s.T s.G) (S' : EM.St n s'.D s'.ms s'.T s'.G) (hs : s.ms.sum ≠ 0) : Sim n X (EM.nxt W s) (EM.nxt V s') := by
  have hpk := pick_ren hR h S S' hs
  refine ⟨fun t h0 h1 => ?_, ?_⟩
  · have hb := rx_bd hR.pX h0 h1
    have e := h.ms t h0 h1
    have hc := cnt_ren hR h S S' hs h0 h1
    show EM.at0 (EM.nextMs (EM.dishes V s'.ms) s'.ms) (rx X t) * (s.D * EM.cn W s) = EM.at0 (EM.nextMs (EM.dishes W s.ms) s.ms) t * (s'.D * EM.cn V s')
    rw [EM.at0_next hb.1 (by rw [S'.len]; exact hb.2), EM.at0_next h0 (by rw [S.len]; exact h1), hc]
    show (EM.at0 s'.ms (rx X t) * EM.cn V s' - EM.cnt (EM.dishes W s.ms) t * (EM.cs V s').m) * (s.D * EM.cn W s) = (EM.at0 s.ms t * EM.cn W s - EM.cnt (EM.dishes W s.ms) t * (EM.cs W s).m) * (s'.D * EM.cn V s')
    generalize EM.at0 s'.ms (rx X t) = m' at *
    generalize EM.at0 s.ms t = m at *
    generalize (EM.cs V s').m = a' at *
    generalize (EM.cs W s).m = a at *
    generalize EM.cn V s' = c' at *
    generalize EM.cn W s = c at *
    generalize EM.cnt (EM.dishes W s.ms) t = k at *
    grind
  · have e := h.T
    show (s'.T * EM.cn V s' + (EM.cs V s').m) * (s.D * EM.cn W s) = (s.T * EM.cn W s + (EM.cs W s).m) * (s'.D * EM.cn V s')
    generalize (EM.cs V s').m = a' at *
    generalize (EM.cs W s).m = a at *
    generalize EM.cn V s' = c' at *
    generalize EM.cn W s = c at *
    grind
theorem gone_ren (hR : Ren n W V P X) (h : Sim n X s s') (S : EM.St n s.D s.ms s.T s.G) (S' : EM.St n s'.D s'.ms s'.T s'.G) (hs : s.ms.sum ≠ 0) (Sn : EM.St n (EM.nxt W s).D (EM.nxt W s).ms (EM.nxt W s).T (EM.nxt W s).G) (Sn' : EM.St n (EM.nxt V s').D (EM.nxt V s').ms (EM.nxt V s').T (EM.nxt V s').G) :
    srt ((EM.cs W s).gone.map (rx X)) = (EM.cs V s').gone := by
  have hx := h.next hR S S' hs
  have hp := dish_perm hR h S S' hs
  symm
  refine srt_eq ?_ (EM.goneOf_sorted _ _)
  have hb : ∀ t ∈ (EM.cs W s).gone, 0 ≤ t ∧ t < (n : Int) := fun t ht => by
    have := EM.goneOf_mem (show t ∈ EM.goneOf (EM.dishes W s.ms) (EM.nextMs (EM.dishes W s.ms) s.ms) from ht)
    rw [EM.next_len, S.len] at this
    exact this
  refine (List.perm_ext_iff_of_nodup (EM.goneOf_nodup _ _) (rx_nodup hR.pX hb (EM.goneOf_nodup _ _))).mpr fun u => ?_
  have hz : ∀ t : Int, 0 ≤ t → t < n → (EM.at0 (EM.nxt V s').ms (rx X t) = 0 ↔ EM.at0 (EM.nxt W s).ms t = 0) := fun t h0 h1 => by
    have := hx.nz Sn.pos Sn'.pos h0 h1
    exact ⟨fun a => Classical.byContradiction fun b => this.mpr b a, fun a => Classical.byContradiction fun b => this.mp b a⟩
  constructor
  · intro hu
    have hu2 : u ∈ EM.goneOf (EM.dishes V s'.ms) (EM.nextMs (EM.dishes V s'.ms) s'.ms) := hu
    obtain ⟨h1, h2⟩ := List.mem_filter.mp hu2
    have hub := LM.mem_rng.mp h1
    rw [EM.next_len, S'.len] at hub
    obtain ⟨t, t0, t1, rfl⟩ := rx_onto hR.pX hub.1 hub.2
    rw [Bool.and_eq_true] at h2
    have k1 := of_decide_eq_true h2.1
    have k2 : EM.at0 (EM.nxt V s').ms (rx X t) = 0 := of_decide_eq_true h2.2
    refine List.mem_map.mpr ⟨t, ?_, rfl⟩
    show t ∈ EM.goneOf (EM.dishes W s.ms) (EM.nextMs (EM.dishes W s.ms) s.ms)
    refine List.mem_filter.mpr ⟨LM.mem_rng.mpr (by rw [EM.next_len, S.len]; exact ⟨t0, t1⟩), ?_⟩
    rw [Bool.and_eq_true]
    exact ⟨decide_eq_true ((rx_mem hR.pX t0 t1 fun u hu => (EM.dish_ok S hR.wW.pm hs hu).1).mp (hp.mem_iff.mp k1)), decide_eq_true ((hz t t0 t1).mp k2)⟩
  · intro hu
    obtain ⟨t, ht, rfl⟩ := List.mem_map.mp hu
    have tb := hb t ht
    have ht2 : t ∈ EM.goneOf (EM.dishes W s.ms) (EM.nextMs (EM.dishes W s.ms) s.ms) := ht
    obtain ⟨_, h2⟩ := List.mem_filter.mp ht2
    rw [Bool.and_eq_true] at h2
    have k1 := of_decide_eq_true h2.1
    have k2 : EM.at0 (EM.nxt W s).ms t = 0 := of_decide_eq_true h2.2
    show rx X t ∈ EM.goneOf (EM.dishes V s'.ms) (EM.nextMs (EM.dishes V s'.ms) s'.ms)
    have xb := rx_bd hR.pX tb.1 tb.2
    refine List.mem_filter.mpr ⟨LM.mem_rng.mpr (by rw [EM.next_len, S'.len]; exact xb), ?_⟩
    rw [Bool.and_eq_true]
    exact ⟨decide_eq_true (hp.mem_iff.mpr (List.mem_map.mpr ⟨t, k1, rfl⟩)), decide_eq_true ((hz t tb.1 tb.2).mpr k2)⟩
end
section
variable {n : Nat} {W V : List (List Int)} {P X : List Int}
theorem rep_at {n : Nat} {t : Int} (h0 : 0 ≤ t) (h1 : t < n) : EM.at0 (List.replicate n (1 : Int)) t = 1 := by
  unfold EM.at0
  rw [HM.getD_lt (by rw [List.length_replicate]; omega), List.getElem_replicate]
theorem sim_all (hR : Ren n W V P X) : ∀ i, EM.Upto W n i → Sim n X (EM.st W n i) (EM.st V n i) ∧ EM.Upto V n i
  | 0, _ => ⟨⟨fun t h0 h1 => by
      have hb := rx_bd hR.pX h0 h1
      show EM.at0 (List.replicate n 1) (rx X t) * 1 = EM.at0 (List.replicate n 1) t * 1
      rw [rep_at hb.1 hb.2, rep_at h0 h1], rfl⟩, fun i hi => absurd hi (Nat.not_lt_zero _)⟩
  | i + 1, hu => by
    obtain ⟨h, hv⟩ := sim_all hR i (hu.mono (Nat.le_succ i))
    have hs := hu i (Nat.lt_succ_self i)
    have S := (EM.st_ok hR.wW i (hu.mono (Nat.le_succ i))).1
    have S' := (EM.st_ok hR.wV i hv).1
    exact ⟨h.next hR S S' hs, hv.snoc fun z => hs ((h.sum hR.pX S S').mp z)⟩
theorem stops_ren (hR : Ren n W V P X) {N : Nat} (hN : EM.Stops W n N) : EM.Stops V n N := by
  obtain ⟨h, hv⟩ := sim_all hR N hN.up
  exact ⟨hv, (h.sum hR.pX (EM.st_ok hR.wW N hN.up).1 (EM.st_ok hR.wV N hv).1).mpr hN.last⟩
theorem time_ren (hR : Ren n W V P X) {N : Nat} (hN : EM.Stops W n N) {i : Nat} (hi : i < N) : (EM.st V n (i + 1)).T * (EM.st W n (i + 1)).D = (EM.st W n (i + 1)).T * (EM.st V n (i + 1)).D :=
  (sim_all hR (i + 1) (hN.up.mono hi)).1.T
theorem goneS_ren (hR : Ren n W V P X) {N : Nat} (hN : EM.Stops W n N) {i : Nat} (hi : i < N) : srt ((EM.cs W (EM.st W n i)).gone.map (rx X)) = (EM.cs V (EM.st V n i)).gone := by
  obtain ⟨h, hv⟩ := sim_all hR i (hN.up.mono (Nat.le_of_lt hi))
  obtain ⟨_, hv'⟩ := sim_all hR (i + 1) (hN.up.mono hi)
  exact gone_ren hR h (EM.st_ok hR.wW i (hN.up.mono (Nat.le_of_lt hi))).1 (EM.st_ok hR.wV i hv).1 (hN.up i hi) (EM.st_ok hR.wW (i + 1) (hN.up.mono hi)).1 (EM.st_ok hR.wV (i + 1) hv').1
theorem et_ren (hR : Ren n W V P X) {p : Nat} (hp : p < n) {t : Int} (h0 : 0 ≤ t) (h1 : t < n) : ∀ i, EM.Upto W n i → EM.et V n i (P.getD p 0).toNat (rx X t) * (EM.st W n i).D = EM.et W n i p t * (EM.st V n i).D
  | 0, _ => by show (0 : Int) * 1 = 0 * 1; rfl
  | i + 1, hu => by
    have ih := et_ren hR hp h0 h1 i (hu.mono (Nat.le_succ i))
    obtain ⟨h, hv⟩ := sim_all hR i (hu.mono (Nat.le_succ i))
    have hs := hu i (Nat.lt_succ_self i)
    have S := (EM.st_ok hR.wW i (hu.mono (Nat.le_succ i))).1
    have S' := (EM.st_ok hR.wV i hv).1
    have hpk := pick_ren hR h S S' hs
    have hd := dish_at hR h S S' hs hp
    have hdb : 0 ≤ (EM.dishes W (EM.st W n i).ms).getD p 0 ∧ (EM.dishes W (EM.st W n i).ms).getD p 0 < n := by
      have hl : p < (EM.dishes W (EM.st W n i).ms).length := by unfold EM.dishes; rw [List.length_map, hR.wW.len]; exact hp
      rw [HM.getD_lt hl]
      exact (EM.dish_ok S hR.wW.pm hs (List.getElem_mem hl)).1
    show (EM.et V n i (P.getD p 0).toNat (rx X t) * EM.cn V (EM.st V n i) + if (EM.dishes V (EM.st V n i).ms).getD (P.getD p 0).toNat 0 = rx X t then (EM.cs V (EM.st V n i)).m else 0) * ((EM.st W n i).D * EM.cn W (EM.st W n i)) = (EM.et W n i p t * EM.cn W (EM.st W n i) + if (EM.dishes W (EM.st W n i).ms).getD p 0 = t then (EM.cs W (EM.st W n i)).m else 0) * ((EM.st V n i).D * EM.cn V (EM.st V n i))
    rw [hd]
    generalize EM.et V n i (P.getD p 0).toNat (rx X t) = e' at *
    generalize EM.et W n i p t = e at *
    generalize (EM.cs V (EM.st V n i)).m = a' at *
    generalize (EM.cs W (EM.st W n i)).m = a at *
    generalize EM.cn V (EM.st V n i) = c' at *
    generalize EM.cn W (EM.st W n i) = c at *
    generalize (EM.st V n i).D = D' at *
    generalize (EM.st W n i).D = D at *
    by_cases q : (EM.dishes W (EM.st W n i).ms).getD p 0 = t
    · rw [if_pos q, if_pos (by rw [q])]
      grind
    · rw [if_neg q, if_neg fun z => q (rx_inj hR.pX hdb.1 hdb.2 h0 h1 z)]
      grind
end
/-! ### turns, renamed -/
theorem pre_all {n : Nat} : ∀ {k : Nat} {π : List Int}, PreOk n k π → π ∈ pre n k
  | 0, π, h => by rw [List.eq_nil_of_length_eq_zero h.len]; exact List.mem_singleton.mpr rfl
  | k + 1, π, h => by
    have hl := h.len
    have hne : π ≠ [] := fun z => by rw [z] at hl; cases hl
    have e : π.dropLast ++ [π.getLast hne] = π := List.dropLast_concat_getLast hne
    have hnd : (π.dropLast ++ [π.getLast hne]).Nodup := by rw [e]; exact h.nd
    obtain ⟨n1, _, n3⟩ := List.nodup_append.mp hnd
    have hb : ∀ p ∈ π.dropLast, 0 ≤ p ∧ p < n := fun p hp => h.bd p (List.dropLast_subset π hp)
    refine List.mem_flatMap.mpr ⟨π.dropLast, pre_all ⟨by rw [List.length_dropLast, hl]; rfl, n1, hb⟩, List.mem_map.mpr ⟨π.getLast hne, ?_, e⟩⟩
    refine List.mem_filter.mpr ⟨LM.mem_rng.mpr (h.bd _ (List.getLast_mem hne)), ?_⟩
    have : π.getLast hne ∉ π.dropLast := fun z => n3 _ z _ (List.mem_singleton.mpr rfl) rfl
    simpa using this
theorem pre_nodup (n : Nat) : ∀ k, (pre n k).Nodup
  | 0 => by show ([[]] : List (List Int)).Nodup; simp
  | k + 1 => by
    show ((pre n k).flatMap (exts n)).Nodup
    unfold List.Nodup
    rw [List.pairwise_flatMap]
    refine ⟨fun π _ => ?_, ?_⟩
    · show (exts n π).Nodup
      unfold exts
      refine List.Pairwise.map _ (R := (· ≠ ·)) (fun a b hab z => hab ?_) ((LM.rng_nodup n).filter _)
      have := List.append_cancel_left z
      simpa using this
    · refine (pre_nodup n k).imp_of_mem fun {π ρ} hπ hρ hne => ?_
      intro x hx y hy z
      obtain ⟨p, _, rfl⟩ := List.mem_map.mp hx
      obtain ⟨q, _, rfl⟩ := List.mem_map.mp hy
      have l1 := (pre_ok hπ).len
      have l2 := (pre_ok hρ).len
      exact hne (List.append_inj_left z (by omega))
theorem smL_perm {α : Type} {l m : List α} (h : l.Perm m) (f : α → Int) : smL l f = smL m f := by
  induction h with
  | nil => rfl
  | cons x _ ih => rw [smL_cons, smL_cons, ih]
  | swap x y l => rw [smL_cons, smL_cons, smL_cons, smL_cons]; omega
  | trans _ _ h1 h2 => rw [h1, h2]
section
variable {n : Nat} {P X : List Int}
theorem ren_ok (h : LN.Pm n P) {o : List Int} (ho : PreOk n n o) : PreOk n n (o.map (rx P)) :=
  ⟨by rw [List.length_map]; exact ho.len, rx_nodup h ho.bd ho.nd, fun q hq => by
    obtain ⟨p, hp, rfl⟩ := List.mem_map.mp hq
    exact rx_bd h (ho.bd p hp).1 (ho.bd p hp).2⟩
theorem map_inj (h : LN.Pm n P) : ∀ {o q : List Int}, (∀ p ∈ o, 0 ≤ p ∧ p < n) → (∀ p ∈ q, 0 ≤ p ∧ p < n) → o.map (rx P) = q.map (rx P) → o = q
  | [], [], _, _, _ => rfl
  | [], _ :: _, _, _, e => by simp at e
  | _ :: _, [], _, _, e => by simp at e
  | a :: o, b :: q, h1, h2, e => by
    rw [List.map_cons, List.map_cons] at e
    obtain ⟨e1, e2⟩ := List.cons.inj e
    have ha := h1 a List.mem_cons_self
    have hb := h2 b List.mem_cons_self
    rw [rx_inj h ha.1 ha.2 hb.1 hb.2 e1, map_inj h (fun p hp => h1 p (List.mem_cons_of_mem _ hp)) (fun p hp => h2 p (List.mem_cons_of_mem _ hp)) e2]
theorem pigeonL {α : Type} [DecidableEq α] : ∀ (l m : List α), l.Nodup → (∀ t ∈ l, t ∈ m) → m.length ≤ l.length → ∀ t ∈ m, t ∈ l
  | [], m, _, _, hl, t, ht => by
    have : m = [] := List.eq_nil_of_length_eq_zero (by simpa using hl)
    rw [this] at ht; cases ht
  | a :: l, m, hn, h, hl, t, ht => by
    have ha := h a List.mem_cons_self
    by_cases c : t = a
    · rw [c]; exact List.mem_cons_self
    · refine List.mem_cons_of_mem _ (pigeonL l (m.erase a) (List.nodup_cons.mp hn).2 (fun u hu => ?_) ?_ t ((List.mem_erase_of_ne c).mpr ht))
      · exact (List.mem_erase_of_ne (show u ≠ a from fun z => (List.nodup_cons.mp hn).1 (z ▸ hu))).mpr (h u (List.mem_cons_of_mem _ hu))
      · rw [List.length_erase_of_mem ha]
        rw [List.length_cons] at hl
        omega
theorem pre_ren (h : LN.Pm n P) : ((pre n n).map fun o => o.map (rx P)).Perm (pre n n) := by
  have hnd : ((pre n n).map fun o => o.map (rx P)).Nodup := by
    refine List.pairwise_map.mpr ((pre_nodup n n).imp_of_mem fun {a b} ha hb hab z => hab (map_inj h (pre_ok ha).bd (pre_ok hb).bd z))
  have hsub : ∀ t ∈ (pre n n).map (fun o => o.map (rx P)), t ∈ pre n n := fun t ht => by
    obtain ⟨o, ho, rfl⟩ := List.mem_map.mp ht
    exact pre_all (ren_ok h (pre_ok ho))
  exact (List.perm_ext_iff_of_nodup hnd (pre_nodup n n)).mpr fun t => ⟨hsub t, pigeonL _ _ hnd hsub (by rw [List.length_map]; exact Nat.le_refl _) t⟩
theorem bestF_ren (h : LN.Pm n X) {row ts : List Int} (hr : ∀ t ∈ row, 0 ≤ t ∧ t < (n : Int)) (ht : ∀ t ∈ ts, 0 ≤ t ∧ t < (n : Int)) (hex : ∃ t ∈ row, t ∉ ts) : bestF (row.map (rx X)) (ts.map (rx X)) = rx X (bestF row ts) := by
  have hb := (bestF_get hex).1
  unfold bestF leftIn at hb ⊢
  rw [List.filter_map, List.filter_congr (q := fun t => !decide (t ∈ ts)) fun t htr => by
    show (!decide (rx X t ∈ ts.map (rx X))) = !decide (t ∈ ts)
    rw [decide_eq_decide.mpr (rx_mem h (hr t htr).1 (hr t htr).2 ht)]]
  rw [List.getD_eq_getElem?_getD, List.getElem?_map, hb]
  rfl
end
section
variable {n : Nat} {W V : List (List Int)} {P X : List Int}
theorem Ren.w41 (hR : Ren n W V P X) : Ws41 n W := ⟨hR.wW.n1, hR.wW.n6, hR.wW.len, hR.wW.pm⟩
theorem Ren.v41 (hR : Ren n W V P X) : Ws41 n V := ⟨hR.wV.n1, hR.wV.n6, hR.wV.len, hR.wV.pm⟩
theorem tk_ren (hR : Ren n W V P X) {o : List Int} (ho : LN.Pm n o) : ∀ k, k ≤ n → tk V (o.map (rx P)) k = (tk W o k).map (rx X)
  | 0, _ => rfl
  | k + 1, hk => by
    have ih := tk_ren hR ho k (by omega)
    have hol := ho.len
    have hko : k < o.length := by omega
    have hob := ho.mem.mp (List.getElem_mem hko)
    have e1 : (o.map (rx P)).getD k 0 = rx P (o.getD k 0) := by rw [HM.getD_lt (by rw [List.length_map]; exact hko), List.getElem_map, HM.getD_lt hko]
    have e2 : V.getD (rx P (o.getD k 0)).toNat [] = (W.getD (o.getD k 0).toNat []).map (rx X) := hR.at' (o.getD k 0).toNat (by rw [HM.getD_lt hko]; omega)
    have hwk : (o.getD k 0).toNat < W.length := by rw [hR.wW.len, HM.getD_lt hko]; omega
    have hpm : LN.Pm n (W.getD (o.getD k 0).toNat []) := by rw [HM.getD_lt hwk]; exact hR.wW.pm _ (List.getElem_mem hwk)
    have htb : ∀ t ∈ tk W o k, 0 ≤ t ∧ t < (n : Int) := fun t ht => by
      rw [tk_eq] at ht
      obtain ⟨j, hj, rfl⟩ := List.mem_map.mp ht
      have := bt_ok hR.w41 ho (k := j) (by have := List.mem_range.mp hj; omega)
      exact ⟨this.1, this.2.1⟩
    show tk V (o.map (rx P)) k ++ [bestF (V.getD ((o.map (rx P)).getD k 0).toNat []) (tk V (o.map (rx P)) k)] = (tk W o k ++ [bestF (W.getD (o.getD k 0).toNat []) (tk W o k)]).map (rx X)
    rw [ih, e1, e2, bestF_ren hR.pX (fun t ht => hpm.mem.mp ht) htb (free_ex hpm (by rw [tk_len]; omega)), List.map_append]
    rfl
theorem bt_ren (hR : Ren n W V P X) {o : List Int} (ho : LN.Pm n o) {k : Nat} (hk : k < n) : bt V (o.map (rx P)) k = rx X (bt W o k) := by
  have e := tk_ren hR ho n (Nat.le_refl _)
  have e1 := tk_at V (o.map (rx P)) hk
  rw [e] at e1
  have hl : k < (tk W o n).length := by rw [tk_len]; exact hk
  rw [HM.getD_lt (by rw [List.length_map]; exact hl), List.getElem_map, ← HM.getD_lt (d := 0) hl, tk_at W o hk] at e1
  exact e1.symm
theorem cntO_ren (hR : Ren n W V P X) {o : List Int} (ho : LN.Pm n o) {p t : Int} (p0 : 0 ≤ p) (p1 : p < n) (h0 : 0 ≤ t) (h1 : t < n) : cntO V n (o.map (rx P)) (rx P p) (rx X t) = cntO W n o p t := by
  unfold cntO
  refine HM.sm_congr fun j hj => ?_
  have hol := ho.len
  have hko : j < o.length := by omega
  have hob := ho.mem.mp (List.getElem_mem hko)
  have hbt := bt_ok hR.w41 ho hj
  rw [bt_ren hR ho hj, show (o.map (rx P)).getD j 0 = rx P (o.getD j 0) by rw [HM.getD_lt (by rw [List.length_map]; exact hko), List.getElem_map, HM.getD_lt hko]]
  unfold ind
  by_cases c : o.getD j 0 = p ∧ bt W o j = t
  · rw [if_pos c, if_pos ⟨by rw [c.1], by rw [c.2]⟩]
  · rw [if_neg c, if_neg fun z => c ⟨rx_inj hR.pP (by rw [HM.getD_lt hko]; exact hob.1) (by rw [HM.getD_lt hko]; exact hob.2) p0 p1 z.1, rx_inj hR.pX hbt.1 hbt.2.1 h0 h1 z.2⟩]
theorem allC_ren (hR : Ren n W V P X) {p t : Nat} (hp : p < n) (ht : t < n) : allC n V (P.getD p 0).toNat (X.getD t 0).toNat = allC n W p t := by
  have b1 := rx_bd hR.pP (t := (p : Int)) (by omega) (by omega)
  have b2 := rx_bd hR.pX (t := (t : Int)) (by omega) (by omega)
  have e1 : (((P.getD p 0).toNat : Nat) : Int) = rx P p := by unfold rx at b1 ⊢; rw [show ((p : Int)).toNat = p from rfl] at b1 ⊢; omega
  have e2 : (((X.getD t 0).toNat : Nat) : Int) = rx X t := by unfold rx at b2 ⊢; rw [show ((t : Int)).toNat = t from rfl] at b2 ⊢; omega
  unfold allC
  rw [← smL_perm (pre_ren hR.pP), smL_map]
  refine smL_congr fun o ho => ?_
  rw [e1, e2]
  exact cntO_ren hR (pre_pm ho) (by omega) (by omega) (by omega) (by omega)
end
/-! ### tables, renamed -/
def renRow (X : List Int) (n : Nat) (r : List (Int × Int)) : List (Int × Int) := (List.range n).map fun (u : Nat) => r.getD (X.idxOf (u : Int)) (0, 1)
def renT (P X : List Int) (n : Nat) (Z : List (List (Int × Int))) : List (List (Int × Int)) := (List.range n).map fun (q : Nat) => renRow X n (Z.getD (P.idxOf (q : Int)) [])
def tabF (n : Nat) (f : Nat → Nat → Int × Int) : List (List (Int × Int)) := (List.range n).map fun p => (List.range n).map fun t => f p t
def renW (P X : List Int) (n : Nat) (W : List (List Int)) : List (List Int) := (List.range n).map fun (q : Nat) => (W.getD (P.idxOf (q : Int)) []).map (rx X)
theorem idx_at {n : Nat} {P : List Int} (h : LN.Pm n P) {q : Nat} (hq : q < n) : P.idxOf (q : Int) < n ∧ (P.getD (P.idxOf (q : Int)) 0).toNat = q ∧ P.getD (P.idxOf (q : Int)) 0 = q := by
  have hm : (q : Int) ∈ P := h.mem.mpr ⟨by omega, by omega⟩
  have hl := List.idxOf_lt_length_iff.mpr hm
  have e : P.getD (P.idxOf (q : Int)) 0 = q := by rw [HM.getD_lt hl]; exact List.getElem_idxOf hl
  exact ⟨by rw [← h.len]; exact hl, by rw [e]; rfl, e⟩
theorem idx_of {n : Nat} {P : List Int} (h : LN.Pm n P) {p : Nat} (hp : p < n) : P.idxOf (P.getD p 0) = p := by
  have hl : p < P.length := by rw [h.len]; exact hp
  rw [HM.getD_lt hl]
  exact h.nodup.idxOf_getElem p hl
theorem pm_get {n : Nat} {P : List Int} (h : LN.Pm n P) {p : Nat} (hp : p < n) : 0 ≤ P.getD p 0 ∧ P.getD p 0 < n ∧ (((P.getD p 0).toNat : Nat) : Int) = P.getD p 0 := by
  have hl : p < P.length := by rw [h.len]; exact hp
  have := h.mem.mp (List.getElem_mem hl)
  rw [HM.getD_lt hl]
  omega
theorem renT_tab {n : Nat} {P X : List Int} (hP : LN.Pm n P) (hX : LN.Pm n X) {f f' : Nat → Nat → Int × Int} (h : ∀ p, p < n → ∀ t, t < n → f' (P.getD p 0).toNat (X.getD t 0).toNat = f p t) : tabF n f' = renT P X n (tabF n f) := by
  unfold tabF renT renRow
  refine List.map_congr_left fun q hq => List.map_congr_left fun u hu => ?_
  have hq' := List.mem_range.mp hq
  have hu' := List.mem_range.mp hu
  obtain ⟨a1, a2, _⟩ := idx_at hP hq'
  obtain ⟨b1, b2, _⟩ := idx_at hX hu'
  have := h _ a1 _ b1
  rw [a2, b2] at this
  rw [this]
  have e : ((List.range n).map fun p => (List.range n).map fun t => f p t).getD (P.idxOf (q : Int)) [] = (List.range n).map fun t => f (P.idxOf (q : Int)) t := by
    rw [List.getD_eq_getElem?_getD, List.getElem?_map, List.getElem?_range a1]; rfl
  rw [e, List.getD_eq_getElem?_getD, List.getElem?_map, List.getElem?_range b1]
  rfl
theorem ren_ws {n : Nat} {P X : List Int} {W : List (List Int)} (hP : LN.Pm n P) (hX : LN.Pm n X) (hW : EM.Ws n W) : Ren n W (renW P X n W) P X := by
  have hl : (renW P X n W).length = n := by unfold renW; simp
  have hg : ∀ q, q < n → (renW P X n W)[q]? = some ((W.getD (P.idxOf (q : Int)) []).map (rx X)) := fun q hq => by
    unfold renW; rw [List.getElem?_map, List.getElem?_range hq]; rfl
  refine ⟨hP, hX, hW, ⟨hW.n1, hW.n6, hl, fun w hw => ?_⟩, fun p hp => ?_⟩
  · unfold renW at hw
    obtain ⟨q, hq, rfl⟩ := List.mem_map.mp hw
    obtain ⟨a1, _, _⟩ := idx_at hP (List.mem_range.mp hq)
    have hl : P.idxOf (q : Int) < W.length := by rw [hW.len]; exact a1
    rw [HM.getD_lt hl]
    have hpm := hW.pm _ (List.getElem_mem hl)
    refine (List.Perm.map (rx X) hpm).trans ?_
    have e : (LM.rng n).map (rx X) = X := by
      have hXl := hX.len
      refine List.ext_getElem? fun i => ?_
      by_cases hi : i < n
      · rw [List.getElem?_map, EM.rng_get hi]
        show some (rx X (i : Int)) = _
        unfold rx
        rw [show ((i : Int)).toNat = i from rfl, HM.getD_lt (by omega), List.getElem?_eq_getElem (by omega)]
      · rw [List.getElem?_eq_none (by rw [List.length_map, LM.rng_len]; omega), List.getElem?_eq_none (by omega)]
    rw [e]
    exact hX
  · obtain ⟨b0, b1, b2⟩ := pm_get hP hp
    rw [List.getD_eq_getElem?_getD, hg _ (by omega), b2, idx_of hP hp]
    rfl
end L2

namespace L2
open PySem PySem.Spec PyProof.Rows
/-! ### names turned about: promises -/
theorem RwG.over {K : PySem.W.Frag} {H : Hp} {v : V} {p : Addr} {ys zs : List V} {r : List (Int × Int)} (h : RwG K H v r) (hp : H p = some (.lst ys)) : RwG K (upd H p (.lst zs)) v r := by
  obtain ⟨a, gs, rfl, h1, h2⟩ := h
  exact ⟨a, gs, rfl, tup_over h1 hp, Paired.mapP h2 fun _ _ h => h.over hp⟩
theorem grows_of {K : PySem.W.Frag} {H : Hp} {T : Int} : ∀ {Z : List (List Int)} {us : List V}, Paired (RwFT K H T) us Z → Paired (RwG K H) us (Z.map (fr T))
  | [], _, .nil => .nil
  | _ :: _, _, .cons h t => .cons h (grows_of t)
def spRenamed (K : PySem.W.Frag) : Sp := fun vs H Q _ => ∃ (r p t : Addr) (us : List V) (Z : List (List (Int × Int))) (P X : List Int) (n : Nat), vs = [.ref r, .ref p, .ref t] ∧ SqL K H r us ∧ Paired (RwG K H) us Z ∧ Z.length = n ∧ (∀ z ∈ Z, z.length = n) ∧
  SqT K H p (P.map V.int) ∧ SqT K H t (X.map V.int) ∧ LN.Pm n P ∧ LN.Pm n X ∧ n ≤ 6 ∧ ∀ q us' H', Same H H' → H' q = some (.lst us') → Paired (RwG K H') us' (renT P X n Z) → Q (.ref q) H'
theorem eat_tab (W : List (List Int)) (n N : Nat) (D : Int) : (eatRows W n N).map (fr D) = tabF n fun p t => FQ.red (EM.et W n N p t) D := by
  unfold eatRows tabF eatRow fr LM.rng
  rw [List.map_map]
  refine List.map_congr_left fun p _ => ?_
  show (((List.range n).map _).map _).map _ = _
  rw [List.map_map, List.map_map]
  rfl
theorem turn_tab (n : Nat) (W : List (List Int)) : tabT n W = tabF n fun p t => FQ.red (allC n W p t) (TM.fct n) := by
  unfold tabT tabF
  exact List.map_congr_left fun p _ => share_all
theorem eat_ren {n N : Nat} {W V : List (List Int)} {P X : List Int} (hR : Ren n W V P X) (hN : EM.Stops W n N) : (eatRows V n N).map (fr (EM.st V n N).D) = renT P X n ((eatRows W n N).map (fr (EM.st W n N).D)) := by
  rw [eat_tab, eat_tab]
  refine renT_tab hR.pP hR.pX fun p hp t ht => ?_
  obtain ⟨b0, b1, b2⟩ := pm_get hR.pX ht
  have e := et_ren hR hp (t := (t : Int)) (by omega) (by omega) N hN.up
  have hD := (EM.st_ok hR.wW N hN.up).1.pos
  have hD' := (EM.st_ok hR.wV N (stops_ren hR hN).up).1.pos
  rw [b2]
  exact FQ.red_eq (by omega) (by omega) e
theorem turn_ren {n : Nat} {W V : List (List Int)} {P X : List Int} (hR : Ren n W V P X) : tabT n V = renT P X n (tabT n W) := by
  rw [turn_tab, turn_tab]
  refine renT_tab hR.pP hR.pX fun p hp t ht => ?_
  rw [allC_ren hR hp ht]
/-- the stops, renamed -/
def stopR (X : List Int) (W : List (List Int)) (n i : Nat) : Stop := ⟨(EM.st W n (i + 1)).T, (EM.st W n (i + 1)).D, TM.srt ((EM.cs W (EM.st W n i)).gone.map (rx X))⟩
def dStop (s : Stop) : PyData := .tuple [dF (FQ.red s.T s.D), .tuple (s.g.map PyData.int)]
theorem stop_ren {n N : Nat} {W V : List (List Int)} {P X : List Int} (hR : Ren n W V P X) (hN : EM.Stops W n N) : (stopsOf V n N).map dStop = ((List.range N).map (stopR X W n)).map dStop := by
  unfold stopsOf
  rw [List.map_map, List.map_map]
  refine List.map_congr_left fun i hi => ?_
  have hi' := List.mem_range.mp hi
  have hD := (EM.st_ok hR.wW (i + 1) (hN.up.mono hi')).1.pos
  have hD' := (EM.st_ok hR.wV (i + 1) ((stops_ren hR hN).up.mono hi')).1.pos
  show dStop (stopAt V n i) = dStop (stopR X W n i)
  unfold dStop stopAt stopR
  show PyData.tuple [dF (FQ.red (EM.st V n (i + 1)).T (EM.st V n (i + 1)).D), .tuple ((EM.cs V (EM.st V n i)).gone.map PyData.int)] = PyData.tuple [dF (FQ.red (EM.st W n (i + 1)).T (EM.st W n (i + 1)).D), .tuple ((TM.srt ((EM.cs W (EM.st W n i)).gone.map (rx X))).map PyData.int)]
  rw [goneS_ren hR hN hi', FQ.red_eq (by omega) (by omega) (time_ren hR hN hi')]
theorem okD_stopsD (Z : List Stop) : okD 3 (.list (Z.map dStop)) = true := by
  show (Z.map dStop).all (okD 2) = true
  rw [List.all_eq_true]
  intro d hd
  obtain ⟨s, _, rfl⟩ := List.mem_map.mp hd
  show [dF (FQ.red s.T s.D), PyData.tuple (s.g.map PyData.int)].all (okD 1) = true
  rw [List.all_eq_true]
  intro d hd
  rcases List.mem_cons.mp hd with e | e
  · rw [e]; exact okD_dF _
  · rw [List.mem_singleton.mp e]
    show (s.g.map PyData.int).all (okD 0) = true
    rw [List.all_eq_true]
    exact okD_ints 0 s.g
theorem renT_rows {P X : List Int} {n : Nat} {Z : List (List (Int × Int))} : (renT P X n Z).length = n ∧ ∀ r ∈ renT P X n Z, r.length = n := by
  unfold renT
  refine ⟨by simp, fun r hr => ?_⟩
  obtain ⟨q, _, rfl⟩ := List.mem_map.mp hr
  unfold renRow
  simp
theorem gone_len {n : Nat} {W : List (List Int)} (h : EM.Ws n W) {i : Nat} (hu : EM.Upto W n i) : (∀ t ∈ (EM.cs W (EM.st W n i)).gone, 0 ≤ t ∧ t < (n : Int)) ∧ (EM.cs W (EM.st W n i)).gone.length ≤ 6 := by
  have S := (EM.st_ok h i hu).1
  have hb : ∀ t ∈ (EM.cs W (EM.st W n i)).gone, 0 ≤ t ∧ t < (n : Int) := fun t ht => by
    have := EM.goneOf_mem (show t ∈ EM.goneOf (EM.dishes W (EM.st W n i).ms) (EM.nextMs (EM.dishes W (EM.st W n i).ms) (EM.st W n i).ms) from ht)
    rw [EM.next_len, S.len] at this
    exact this
  exact ⟨hb, Nat.le_trans (EM.nodup_len n (EM.goneOf_nodup _ _) hb) h.n6⟩
end L2

namespace Nk64
open PySem PySem.Spec PyProof.Rows L2
def top (i : Nat) : Stmt := PySem.Challenge.pw_wishlots_k64_whole_names_turned_about.main.body.getD i (.Pass ⟨0, 0, 0, 0⟩)
structure Md (K : PySem.W.Frag) (mg : Str → Option Value) (x : Xs) : Prop where
  f_is_whole : Def K mg "is_whole" (top 6)
  f_common_divisor : Def K mg "common_divisor" (top 7)
  f_fraction : Def K mg "fraction" (top 8)
  f_plus : Def K mg "plus" (top 9)
  f_minus : Def K mg "minus" (top 10)
  f_times : Def K mg "times" (top 11)
  f_before : Def K mg "before" (top 12)
  f_total : Def K mg "total" (top 13)
  f_least : Def K mg "least" (top 14)
  f_best_left : Def K mg "best_left" (top 16)
  f_time_to_stop : Def K mg "time_to_stop" (top 17)
  f_left_behind : Def K mg "left_behind" (top 18)
  f_courses_of : Def K mg "courses_of" (top 19)
  f_eaten_of : Def K mg "eaten_of" (top 20)
  f_eaten_by : Def K mg "eaten_by" (top 21)
  f_eaten : Def K mg "eaten" (top 22)
  f_stops : Def K mg "stops" (top 23)
  f_best_free : Def K mg "best_free" (top 25)
  f_with_one : Def K mg "with_one" (top 26)
  f_turns_from : Def K mg "turns_from" (top 27)
  f_orders_of : Def K mg "orders_of" (top 28)
  f_counts_of : Def K mg "counts_of" (top 29)
  f_shares_by_turns : Def K mg "shares_by_turns" (top 30)
  f_by_turns : Def K mg "by_turns" (top 31)
  f__law_cell_at : Def K mg "_law_cell_at" (top 33)
  f__law_mixed : Def K mg "_law_mixed" (top 34)
  f__law_order : Def K mg "_law_order" (top 35)
  f__law_wishes : Def K mg "_law_wishes" (top 36)
  f__law_renamed : Def K mg "_law_renamed" (top 37)
  f_law : Def K mg "law" (top 38)
  b_isinstance : mg "isinstance" = none
  b_int : mg "int" = none
  b_bool : mg "bool" = none
  b_str : mg "str" = none
  b_list : mg "list" = none
  b_tuple : mg "tuple" = none
  b_abs : mg "abs" = none
  b_len : mg "len" = none
  b_range : mg "range" = none
  b_sorted : mg "sorted" = none
  b_set : mg "set" = none
  b_enumerate : mg "enumerate" = none
  c_NOTHING : GTup K mg "NOTHING" [.int 0, .int 1]
  c_WHOLE : GTup K mg "WHOLE" [.int 1, .int 1]
  x_WishError : XCls K mg "WishError" x.WishError
  x_NoFraction : XCls K mg "NoFraction" x.NoFraction
theorem sc_is_whole : FnScope ["value"] ["value"] (defScope (top 6)) := ⟨rfl, rfl, rfl, by decide +kernel, rfl, by decide +kernel, by decide +kernel⟩
set_option maxHeartbeats 4000000 in
theorem d_is_whole {P : Program} {w : World} {K : PySem.W.Frag} {mg : Str → Option Value} {base : Heap} {x : Xs} (M : Md K mg x) : Dn P w K mg base CX0 1 "is_whole" ["value"] (spWhole) := by
  have nd := (sc_is_whole).nd
  refine M.f_is_whole.ok sc_is_whole (fun vs H Q E h => ?_) (fun _ _ _ _ _ _ us hl => match us, hl with | [_], _ => rfl) (fun f cdv A outer s H vs Q E hr h => ?_)
  · obtain ⟨i, rfl, q⟩ := h
    rfl
  obtain ⟨i, rfl, q⟩ := h
  refine ⟨_, (pss_one (ps_ret (pe_and (pe_callB call_isT rfl M.b_isinstance Boot.«isinstance» (pa_cons (pv 0) (pa_cons (pe_ty rfl M.b_int Boot.«int») pa_nil))) (pe_one (pe_not (pe_callB call_isT rfl M.b_isinstance Boot.«isinstance» (pa_cons (pv 0) (pa_cons (pe_ty rfl M.b_bool Boot.«bool») pa_nil)))))))), ?_⟩
  refine ⟨_, rfl, .int i, "int", "int", rfl, by decide, rfl, _, rfl, ?_⟩
  refine iteT ⟨_, rfl, .int i, "bool", "int", rfl, by decide, rfl, _, rfl, q⟩
theorem sc_common_divisor : FnScope ["one", "two", "greater", "smaller", "rest"] ["one", "two"] (defScope (top 7)) := ⟨rfl, rfl, rfl, by decide +kernel, rfl, by decide +kernel, by decide +kernel⟩
set_option maxHeartbeats 4000000 in
theorem d_common_divisor {P : Program} {w : World} {K : PySem.W.Frag} {mg : Str → Option Value} {base : Heap} {x : Xs} (M : Md K mg x) : Dn P w K mg base CX0 1 "common_divisor" ["one", "two"] (spGcd) := by
  have nd := (sc_common_divisor).nd
  refine M.f_common_divisor.ok sc_common_divisor (fun vs H Q E h => ?_) (fun _ _ _ _ _ _ us hl => match us, hl with | [_, _], _ => rfl) (fun f cdv A outer s H vs Q E hr h => ?_)
  · obtain ⟨i, j, rfl, q⟩ := h
    rfl
  obtain ⟨i, j, rfl, q⟩ := h
  refine ⟨_, (pss_cons (ps_set (i := 2) nd rfl (Or.inl rfl) (pe_callB call_abs rfl M.b_abs Boot.«abs» (pa_cons (pv 0) pa_nil)))
      (pss_cons (ps_set (i := 3) nd rfl (Or.inl rfl) (pe_callB call_abs rfl M.b_abs Boot.«abs» (pa_cons (pv 1) pa_nil)))
      (pss_cons (ps_while PassesOwn.never (pt_cmpR op_ne (pv 3) pe_int (nomark _)) (pss_cons (ps_set (i := 4) nd rfl (Or.inl rfl) (pe_op op_mod (pv 2) (pv 3)))
      (pss_cons (ps_set (i := 2) nd rfl (Or.inl rfl) (pv 3))
      (pss_one (ps_set (i := 3) nd rfl (Or.inl rfl) (pv 4))))))
      (pss_one (ps_ret (pv 2)))))), ?_⟩
  refine ⟨_, rfl, i, rfl, _, rfl, j, rfl, ?_⟩
  refine while_of (fun m σ H' => H' = H ∧ ∃ (a b : Int) (r : Option V), σ = [some (.int i), some (.int j), some (.int a), some (.int b), r] ∧ 0 ≤ a ∧ 0 ≤ b ∧ Int.gcd a b = Int.gcd i j ∧ m = b.toNat)
    ⟨_, rfl, _, _, _, rfl, ?_, ?_, ?_, rfl⟩ (fun m σ H' hP => ?_) (fun σ H' Q1 Q2 hQ h => ?_)
  · split <;> omega
  · split <;> omega
  · split <;> split <;> simp
  · obtain ⟨rfl, a, b, r, rfl, ha, hb, hg, rfl⟩ := hP
    refine ⟨_, rfl, rfl, _, rfl, ?_⟩
    refine ite2 (fun c => ?_) (fun c => ?_)
    · have hb0 : b ≠ 0 := fun z => by subst z; simp at c
      refine ⟨_, rfl, _, rfl, a, b, rfl, rfl, by show (0 : Int) < b; omega, _, rfl, _, rfl, ?_⟩
      refine ⟨(a % b).toNat, ?_, rfl, b, a % b, _, rfl, hb, Int.emod_nonneg _ hb0, ?_, rfl⟩
      · have := Int.emod_lt_of_pos a (show 0 < b by omega)
        have := Int.emod_nonneg a hb0
        omega
      · rw [FQ.gcd_turn, hg]
    · have hb0 : b = 0 := by
        by_cases z : b = 0
        · exact z
        · exact absurd (by simpa using z) c
      subst hb0
      refine ⟨_, rfl, ?_⟩
      have e : (a : Int) = (Int.gcd i j : Int) := by rw [← hg]; simp; omega
      rw [e]
      exact q
  · obtain ⟨v, e, sc, k, ek, q⟩ := h
    exact ⟨v, e, sc, k, ek, hQ _ _ q⟩
theorem sc_fraction : FnScope ["top", "bottom", "divisor"] ["top", "bottom"] (defScope (top 8)) := ⟨rfl, rfl, rfl, by decide +kernel, rfl, by decide +kernel, by decide +kernel⟩
set_option maxHeartbeats 4000000 in
theorem d_fraction {P : Program} {w : World} {K : PySem.W.Frag} {mg : Str → Option Value} {base : Heap} {x : Xs} (M : Md K mg x)
    (Gis_whole : Dn P w K mg base CX0 1 "is_whole" ["value"] (spWhole))
    (Gcommon_divisor : Dn P w K mg base CX0 1 "common_divisor" ["one", "two"] (spGcd)) : Dn P w K mg base (CXE P w) 2 "fraction" ["top", "bottom"] (spFractionE x) := by
  have nd := (sc_fraction).nd
  refine M.f_fraction.okE sc_fraction (fun vs H Q E h => ?_) (fun _ _ _ _ _ _ us hl => match us, hl with | [_, _], _ => rfl) (fun f cdv A outer s H vs Q E hr h => ?_)
  · obtain ⟨t, b, rfl, hE, q⟩ := h
    rfl
  obtain ⟨t, b, rfl, hE, q⟩ := h
  refine ⟨_, (pss_cons (ps_if (PW.pt (pw_or (pt_not (pt_val (pe_fn Gis_whole hr (by decide) rfl pass0 (pa_cons (pv 0) pa_nil)))) (pw_or (pt_not (pt_val (pe_fn Gis_whole hr (by decide) rfl pass0 (pa_cons (pv 1) pa_nil)))) (pw_or1 (pt_cmpR op_eq (pv 1) pe_int (nomark _)))))) (pss_one (ps_raise M.x_NoFraction rfl (pa_cons pe_str pa_nil))) pss_nil)
      (pss_cons (ps_set (i := 2) nd rfl (Or.inl rfl) (pe_fn Gcommon_divisor hr (by decide) rfl pass0 (pa_cons (pv 0) (pa_cons (pv 1) pa_nil))))
      (pss_cons (ps_if (pt_cmpR op_lt (pv 1) pe_int (nomark _)) (pss_one (ps_set (i := 2) nd rfl (Or.inl rfl) (pe_un un_neg (pv 2)))) pss_nil)
      (pss_one (ps_ret (pe_tup (pa_cons (pe_op op_divB (pv 0) (pv 2)) (pa_cons (pe_op op_divB (pv 1) (pv 2)) pa_nil)))))))), ?_⟩
  refine ⟨_, rfl, t, rfl, _, rfl, iteF ⟨_, rfl, b, rfl, _, rfl, iteF ⟨_, rfl, rfl, _, rfl, iteD2 (fun c => ?_) (fun c => ?_)⟩⟩⟩
  · exact ⟨by show 1 ≤ sizeLine; decide, hE (Veq c)⟩
  have hb : b ≠ 0 := fun z => c (by rw [z])
  obtain ⟨hz, q⟩ := q hb
  refine ⟨_, rfl, _, rfl, t, b, rfl, ?_⟩
  refine ⟨_, rfl, b, 0, rfl, rfl, _, rfl, ?_⟩
  have hs := fraction_div (t := t) hb hz
  refine ite2 (fun c => ?_) (fun c => ?_)
  · have hneg : b < 0 := of_decide_eq_true c
    have e := hs.1 hneg
    refine ⟨_, rfl, _, rfl, ?_⟩
    refine ⟨_, rfl, _, rfl, t, _, rfl, rfl, e.1, _, rfl, _, rfl, b, _, rfl, rfl, e.1, by show 2 ≤ sizeLine; decide, fun p hp => q p _ (same_new hp _) ?_⟩
    rw [upd_same]
    show some (HO.tup [V.int (t.fdiv _), V.int (b.fdiv _)]) = _
    rw [e.2.1, e.2.2]
    rfl
  · have hpos : ¬ b < 0 := of_decide_eq_false (Bool.eq_false_iff.mpr c)
    have e := hs.2 hpos
    refine ⟨_, rfl, _, rfl, t, _, rfl, rfl, e.1, _, rfl, _, rfl, b, _, rfl, rfl, e.1, by show 2 ≤ sizeLine; decide, fun p hp => q p _ (same_new hp _) ?_⟩
    rw [upd_same]
    show some (HO.tup [V.int (t.fdiv _), V.int (b.fdiv _)]) = _
    rw [e.2.1, e.2.2]
    rfl
theorem sc_plus : FnScope ["one", "two"] ["one", "two"] (defScope (top 9)) := ⟨rfl, rfl, rfl, by decide +kernel, rfl, by decide +kernel, by decide +kernel⟩
set_option maxHeartbeats 4000000 in
theorem d_plus {P : Program} {w : World} {K : PySem.W.Frag} {mg : Str → Option Value} {base : Heap} {x : Xs} (M : Md K mg x)
    (Gfraction : Dn P w K mg base (CXE P w) 2 "fraction" ["top", "bottom"] (spFractionE x)) : Dn P w K mg base CX0 3 "plus" ["one", "two"] (sp2F fAdd K) := by
  have nd := (sc_plus).nd
  refine M.f_plus.ok sc_plus (fun vs H Q E h => ?_) (fun _ _ _ _ _ _ us hl => match us, hl with | [_, _], _ => rfl) (fun f cdv A outer s H vs Q E hr h => ?_)
  · obtain ⟨a, b, x, y, rfl, ha, hb, bx, b_y, q⟩ := h
    rfl
  obtain ⟨a, b, x, y, rfl, ha, hb, bx, b_y, q⟩ := h
  refine ⟨_, (pss_one (ps_ret (pe_fn Gfraction hr (by decide) rfl passN (pa_cons (pe_op op_add (pe_op op_mulB (pe_ix ix_tup (pv 0) pe_int (fun _ _ => rfl)) (pe_ix ix_tup (pv 1) pe_int (fun _ _ => rfl))) (pe_op op_mulB (pe_ix ix_tup (pv 1) pe_int (fun _ _ => rfl)) (pe_ix ix_tup (pv 0) pe_int (fun _ _ => rfl)))) (pa_cons (pe_op op_mulB (pe_ix ix_tup (pv 0) pe_int (fun _ _ => rfl)) (pe_ix ix_tup (pv 1) pe_int (fun _ _ => rfl))) pa_nil))))), ?_⟩
  obtain ⟨x1, x2, x0⟩ := bx
  obtain ⟨y1, y2, y0⟩ := b_y
  refine ⟨_, rfl, a, _, 0, _, rfl, rfl, ha, rfl, ?_⟩
  refine ⟨_, rfl, b, _, 1, _, rfl, rfl, hb, rfl, ?_⟩
  refine ⟨_, _, rfl, rfl, mul4 x1 y2, ?_⟩
  refine ⟨_, rfl, b, _, 0, _, rfl, rfl, hb, rfl, ?_⟩
  refine ⟨_, rfl, a, _, 1, _, rfl, rfl, ha, rfl, ?_⟩
  refine ⟨_, _, rfl, rfl, mul4 y1 x2, ?_⟩
  refine ⟨_, _, rfl, rfl, ?_⟩
  refine ⟨_, rfl, a, _, 1, _, rfl, rfl, ha, rfl, ?_⟩
  refine ⟨_, rfl, b, _, 1, _, rfl, rfl, hb, rfl, ?_⟩
  refine ⟨_, _, rfl, rfl, mul4 x2 y2, ?_⟩
  exact ⟨_, _, rfl, fun z => absurd z (Int.mul_ne_zero x0 y0), fun _ => ⟨bot4 x2 y2, q⟩⟩
theorem sc_minus : FnScope ["one", "two"] ["one", "two"] (defScope (top 10)) := ⟨rfl, rfl, rfl, by decide +kernel, rfl, by decide +kernel, by decide +kernel⟩
set_option maxHeartbeats 4000000 in
theorem d_minus {P : Program} {w : World} {K : PySem.W.Frag} {mg : Str → Option Value} {base : Heap} {x : Xs} (M : Md K mg x)
    (Gfraction : Dn P w K mg base (CXE P w) 2 "fraction" ["top", "bottom"] (spFractionE x)) : Dn P w K mg base CX0 3 "minus" ["one", "two"] (sp2F fSub K) := by
  have nd := (sc_minus).nd
  refine M.f_minus.ok sc_minus (fun vs H Q E h => ?_) (fun _ _ _ _ _ _ us hl => match us, hl with | [_, _], _ => rfl) (fun f cdv A outer s H vs Q E hr h => ?_)
  · obtain ⟨a, b, x, y, rfl, ha, hb, bx, b_y, q⟩ := h
    rfl
  obtain ⟨a, b, x, y, rfl, ha, hb, bx, b_y, q⟩ := h
  refine ⟨_, (pss_one (ps_ret (pe_fn Gfraction hr (by decide) rfl passN (pa_cons (pe_op op_sub (pe_op op_mulB (pe_ix ix_tup (pv 0) pe_int (fun _ _ => rfl)) (pe_ix ix_tup (pv 1) pe_int (fun _ _ => rfl))) (pe_op op_mulB (pe_ix ix_tup (pv 1) pe_int (fun _ _ => rfl)) (pe_ix ix_tup (pv 0) pe_int (fun _ _ => rfl)))) (pa_cons (pe_op op_mulB (pe_ix ix_tup (pv 0) pe_int (fun _ _ => rfl)) (pe_ix ix_tup (pv 1) pe_int (fun _ _ => rfl))) pa_nil))))), ?_⟩
  obtain ⟨x1, x2, x0⟩ := bx
  obtain ⟨y1, y2, y0⟩ := b_y
  refine ⟨_, rfl, a, _, 0, _, rfl, rfl, ha, rfl, ?_⟩
  refine ⟨_, rfl, b, _, 1, _, rfl, rfl, hb, rfl, ?_⟩
  refine ⟨_, _, rfl, rfl, mul4 x1 y2, ?_⟩
  refine ⟨_, rfl, b, _, 0, _, rfl, rfl, hb, rfl, ?_⟩
  refine ⟨_, rfl, a, _, 1, _, rfl, rfl, ha, rfl, ?_⟩
  refine ⟨_, _, rfl, rfl, mul4 y1 x2, ?_⟩
  refine ⟨_, _, rfl, rfl, ?_⟩
  refine ⟨_, rfl, a, _, 1, _, rfl, rfl, ha, rfl, ?_⟩
  refine ⟨_, rfl, b, _, 1, _, rfl, rfl, hb, rfl, ?_⟩
  refine ⟨_, _, rfl, rfl, mul4 x2 y2, ?_⟩
  exact ⟨_, _, rfl, fun z => absurd z (Int.mul_ne_zero x0 y0), fun _ => ⟨bot4 x2 y2, q⟩⟩
theorem sc_times : FnScope ["one", "two"] ["one", "two"] (defScope (top 11)) := ⟨rfl, rfl, rfl, by decide +kernel, rfl, by decide +kernel, by decide +kernel⟩
set_option maxHeartbeats 4000000 in
theorem d_times {P : Program} {w : World} {K : PySem.W.Frag} {mg : Str → Option Value} {base : Heap} {x : Xs} (M : Md K mg x)
    (Gfraction : Dn P w K mg base (CXE P w) 2 "fraction" ["top", "bottom"] (spFractionE x)) : Dn P w K mg base CX0 3 "times" ["one", "two"] (sp2F fMul K) := by
  have nd := (sc_times).nd
  refine M.f_times.ok sc_times (fun vs H Q E h => ?_) (fun _ _ _ _ _ _ us hl => match us, hl with | [_, _], _ => rfl) (fun f cdv A outer s H vs Q E hr h => ?_)
  · obtain ⟨a, b, x, y, rfl, ha, hb, bx, b_y, q⟩ := h
    rfl
  obtain ⟨a, b, x, y, rfl, ha, hb, bx, b_y, q⟩ := h
  refine ⟨_, (pss_one (ps_ret (pe_fn Gfraction hr (by decide) rfl passN (pa_cons (pe_op op_mulB (pe_ix ix_tup (pv 0) pe_int (fun _ _ => rfl)) (pe_ix ix_tup (pv 1) pe_int (fun _ _ => rfl))) (pa_cons (pe_op op_mulB (pe_ix ix_tup (pv 0) pe_int (fun _ _ => rfl)) (pe_ix ix_tup (pv 1) pe_int (fun _ _ => rfl))) pa_nil))))), ?_⟩
  obtain ⟨x1, x2, x0⟩ := bx
  obtain ⟨y1, y2, y0⟩ := b_y
  refine ⟨_, rfl, a, _, 0, _, rfl, rfl, ha, rfl, ?_⟩
  refine ⟨_, rfl, b, _, 0, _, rfl, rfl, hb, rfl, ?_⟩
  refine ⟨_, _, rfl, rfl, mul4 x1 y1, ?_⟩
  refine ⟨_, rfl, a, _, 1, _, rfl, rfl, ha, rfl, ?_⟩
  refine ⟨_, rfl, b, _, 1, _, rfl, rfl, hb, rfl, ?_⟩
  refine ⟨_, _, rfl, rfl, mul4 x2 y2, ?_⟩
  exact ⟨_, _, rfl, fun z => absurd z (Int.mul_ne_zero x0 y0), fun _ => ⟨bot4 x2 y2, q⟩⟩
theorem sc_before : FnScope ["one", "two"] ["one", "two"] (defScope (top 12)) := ⟨rfl, rfl, rfl, by decide +kernel, rfl, by decide +kernel, by decide +kernel⟩
set_option maxHeartbeats 4000000 in
theorem d_before {P : Program} {w : World} {K : PySem.W.Frag} {mg : Str → Option Value} {base : Heap} {x : Xs} (M : Md K mg x) : Dn P w K mg base CX0 1 "before" ["one", "two"] (spBefore K) := by
  have nd := (sc_before).nd
  refine M.f_before.ok sc_before (fun vs H Q E h => ?_) (fun _ _ _ _ _ _ us hl => match us, hl with | [_, _], _ => rfl) (fun f cdv A outer s H vs Q E hr h => ?_)
  · obtain ⟨a, b, x, y, rfl, ha, hb, bx, b_y, q⟩ := h
    rfl
  obtain ⟨a, b, x, y, rfl, ha, hb, bx, b_y, q⟩ := h
  refine ⟨_, (pss_one (ps_ret (pe_cmpR op_lt (pe_op op_mulB (pe_ix ix_tup (pv 0) pe_int (fun _ _ => rfl)) (pe_ix ix_tup (pv 1) pe_int (fun _ _ => rfl))) (pe_op op_mulB (pe_ix ix_tup (pv 1) pe_int (fun _ _ => rfl)) (pe_ix ix_tup (pv 0) pe_int (fun _ _ => rfl))) (nomark _)))), ?_⟩
  obtain ⟨x1, x2, x0⟩ := bx
  obtain ⟨y1, y2, y0⟩ := b_y
  refine ⟨_, rfl, a, _, 0, _, rfl, rfl, ha, rfl, ?_⟩
  refine ⟨_, rfl, b, _, 1, _, rfl, rfl, hb, rfl, ?_⟩
  refine ⟨_, _, rfl, rfl, mul4 x1 y2, ?_⟩
  refine ⟨_, rfl, b, _, 0, _, rfl, rfl, hb, rfl, ?_⟩
  refine ⟨_, rfl, a, _, 1, _, rfl, rfl, ha, rfl, ?_⟩
  exact ⟨_, _, rfl, rfl, mul4 y1 x2, _, _, rfl, rfl, q⟩
theorem sc_total : FnScope ["parts", "so_far", "part"] ["parts"] (defScope (top 13)) := ⟨rfl, rfl, rfl, by decide +kernel, rfl, by decide +kernel, by decide +kernel⟩
set_option maxHeartbeats 4000000 in
theorem d_total {P : Program} {w : World} {K : PySem.W.Frag} {mg : Str → Option Value} {base : Heap} {x : Xs} (M : Md K mg x)
    (Gplus : Dn P w K mg base CX0 3 "plus" ["one", "two"] (sp2F fAdd K)) : Dn P w K mg base CX0 4 "total" ["parts"] (spTotF K) := by
  have nd := (sc_total).nd
  refine M.f_total.ok sc_total (fun vs H Q E h => ?_) (fun _ _ _ _ _ _ us hl => match us, hl with | [_], _ => rfl) (fun f cdv A outer s H vs Q E hr h => ?_)
  · obtain ⟨a, gs, ps, rfl, hq, hg, hz, hl, q⟩ := h
    rfl
  obtain ⟨a, gs, ps, rfl, hq, hg, hz, hl, q⟩ := h
  refine ⟨_, (pss_cons (ps_set (i := 1) nd rfl (Or.inl rfl) (pe_gtup M.c_NOTHING))
      (pss_cons (ps_for PassesOwn.never rfl (pi_list (pv 0)) (pg_name (i := 2) nd rfl (Or.inl rfl)) (pss_one (ps_set (i := 1) nd rfl (Or.inl rfl) (pe_fn Gplus hr (by decide) rfl pass0 (pa_cons (pv 1) (pa_cons (pv 2) pa_nil))))))
      (pss_one (ps_ret (pv 1))))), ?_⟩
  refine fun c0 hc0 => ?_
  refine ⟨_, rfl, a, rfl, ⟨_, hq⟩, ?_⟩
  refine for_list (xs := gs) (fun i σ H' => Same H H' ∧ ∃ sf r, σ = [some (.ref a), some sf, r] ∧ IsF K H' sf (totF (ps.take i)))
    ⟨Same.refl _, .ref c0, _, rfl, c0, rfl, hc0 _⟩ (fun i σ H' _ hP => hP.1.seq hq) (fun i v σ H' hx hP => ?_) (fun σ H' hP => ?_)
  · obtain ⟨S1, sf, r, rfl, hsf⟩ := hP
    obtain ⟨y, hy, hv⟩ := Paired.get' hg hx
    obtain ⟨sfa, rfl, hsf⟩ := hsf
    obtain ⟨va, rfl, hv⟩ := hv
    have b1 : Sz 4000 (totF (ps.take i)) := totF_ok (by rw [List.length_take]; omega) fun p hp => hz p (List.mem_of_mem_take hp)
    have b2 := (hz y (List.mem_of_getElem? hy)).up (n := 4000) (by decide)
    refine ⟨_, rfl, _, rfl, sfa, va, totF (ps.take i), y, rfl, hsf, S1.tup hv, b1, b2, fun p H2 S2 hp => ?_⟩
    refine ⟨S1.trans S2, .ref p, _, rfl, p, rfl, ?_⟩
    rw [List.take_add_one, hy]
    show SqT K H2 p [.int (totF (ps.take i ++ [y])).1, .int (totF (ps.take i ++ [y])).2]
    rw [totF_snoc]
    exact SqT.of hp
  · obtain ⟨S1, sf, r, rfl, hsf⟩ := hP
    have hgl := Paired.len hg
    rw [hgl, List.take_length] at hsf
    exact ⟨_, rfl, q sf H' S1 hsf⟩
theorem sc_least : FnScope ["parts", "smallest", "part"] ["parts"] (defScope (top 14)) := ⟨rfl, rfl, rfl, by decide +kernel, rfl, by decide +kernel, by decide +kernel⟩
set_option maxHeartbeats 4000000 in
theorem d_least {P : Program} {w : World} {K : PySem.W.Frag} {mg : Str → Option Value} {base : Heap} {x : Xs} (M : Md K mg x)
    (Gbefore : Dn P w K mg base CX0 1 "before" ["one", "two"] (spBefore K)) : Dn P w K mg base CX0 2 "least" ["parts"] (spLeast K) := by
  have nd := (sc_least).nd
  refine M.f_least.ok sc_least (fun vs H Q E h => ?_) (fun _ _ _ _ _ _ us hl => match us, hl with | [_], _ => rfl) (fun f cdv A outer s H vs Q E hr h => ?_)
  · obtain ⟨a, gs, ps, rfl, hq, hg, hne, hl, hz, q⟩ := h
    rfl
  obtain ⟨a, gs, ps, rfl, hq, hg, hne, hl, hz, q⟩ := h
  refine ⟨_, (pss_cons (ps_set (i := 1) nd rfl (Or.inl rfl) (pe_ix ix_list (pv 0) pe_int (fun _ _ => rfl)))
      (pss_cons (ps_for PassesOwn.never rfl (pi_list (pv 0)) (pg_name (i := 2) nd rfl (Or.inl rfl)) (pss_one (ps_if (pt_val (pe_fn Gbefore hr (by decide) rfl pass0 (pa_cons (pv 2) (pa_cons (pv 1) pa_nil)))) (pss_one (ps_set (i := 1) nd rfl (Or.inl rfl) (pv 2))) pss_nil)))
      (pss_one (ps_ret (pv 1))))), ?_⟩
  obtain ⟨p0, hp0⟩ : ∃ p, ps[0]? = some p := by
    cases ps with
    | nil => exact absurd rfl hne
    | cons p r => exact ⟨p, rfl⟩
  have hhd : ps.headD (0, 1) = p0 := by
    cases ps with
    | nil => exact absurd rfl hne
    | cons p r => exact Option.some.inj hp0
  have sz : ∀ i, Sz 4000 (leastGo p0 (ps.take i)) := fun i => by
    have : ∀ (l : List (Int × Int)) (s : Int × Int), Sz 4000 s → (∀ p ∈ l, Sz 4000 p) → Sz 4000 (leastGo s l) := by
      intro l
      induction l with
      | nil => intro s hs _; exact hs
      | cons x r ih =>
        intro s hs hl
        refine ih _ ?_ fun p hp => hl p (List.mem_cons_of_mem _ hp)
        show Sz 4000 (if lessF x s = true then x else s)
        split
        · exact hl x List.mem_cons_self
        · exact hs
    exact this _ _ (hz _ (List.mem_of_getElem? hp0)) fun p hp => hz p (List.mem_of_mem_take hp)
  obtain ⟨v0, hv0, hF0⟩ := Paired.get hg hp0
  refine ⟨_, rfl, a, gs, 0, v0, rfl, rfl, hq, atI_nat hv0, ?_⟩
  refine ⟨_, rfl, a, rfl, ⟨_, hq⟩, ?_⟩
  refine for_list (xs := gs) (fun i σ H' => H' = H ∧ ∃ sf r, σ = [some (.ref a), some sf, r] ∧ IsF K H sf (leastGo p0 (ps.take i)))
    ⟨rfl, v0, _, rfl, hF0⟩ (fun i σ H' _ hP => by rw [hP.1]; exact hq) (fun i v σ H' hx hP => ?_) (fun σ H' hP => ?_)
  · obtain ⟨rfl, sf, r, rfl, hsf⟩ := hP
    obtain ⟨y, hy, hv⟩ := Paired.get' hg hx
    have e : leastGo p0 (ps.take (i + 1)) = if lessF y (leastGo p0 (ps.take i)) = true then y else leastGo p0 (ps.take i) := by
      rw [List.take_add_one, hy]
      unfold leastGo
      rw [List.foldl_append]
      rfl
    obtain ⟨sfa, rfl, hsf'⟩ := id hsf
    obtain ⟨va, rfl, hv'⟩ := id hv
    refine ⟨_, rfl, _, rfl, va, sfa, y, leastGo p0 (ps.take i), rfl, hv', hsf', hz y (List.mem_of_getElem? hy), sz i, _, rfl, ?_⟩
    rw [e]
    show if lessF y (leastGo p0 (ps.take i)) = true then _ else _
    refine ite2 (fun c => ?_) (fun c => ?_)
    · refine ⟨_, rfl, rfl, .ref va, _, rfl, ?_⟩
      rw [if_pos c]
      exact hv
    · refine ⟨rfl, .ref sfa, _, rfl, ?_⟩
      rw [if_neg c]
      exact hsf
  · obtain ⟨rfl, sf, r, rfl, hsf⟩ := hP
    have hgl := Paired.len hg
    rw [hgl, List.take_length] at hsf
    refine ⟨_, rfl, q sf ?_⟩
    unfold leastF
    rw [hhd]
    exact hsf
theorem sc_best_left : FnScope ["wish", "left"] ["wish", "left"] (defScope (top 16)) := ⟨rfl, rfl, rfl, by decide +kernel, rfl, by decide +kernel, by decide +kernel⟩
set_option maxHeartbeats 4000000 in
theorem d_best_left {P : Program} {w : World} {K : PySem.W.Frag} {mg : Str → Option Value} {base : Heap} {x : Xs} (M : Md K mg x) : Dn P w K mg base CX0 1 "best_left" ["wish", "left"] (spBestL K) := by
  have nd := (sc_best_left).nd
  refine M.f_best_left.ok sc_best_left (fun vs H Q E h => ?_) (fun _ _ _ _ _ _ us hl => match us, hl with | [_, _], _ => rfl) (fun f cdv A outer s H vs Q E hr h => ?_)
  · obtain ⟨w, l, row, ms, D, gs, rfl, hw, hl, hg, hD, hrow, h63, hex, q⟩ := h
    rfl
  obtain ⟨w, l, row, ms, D, gs, rfl, hw, hl, hg, hD, hrow, h63, hex, q⟩ := h
  refine ⟨_, (pss_one (ps_ret (pe_ix ix_list (pe_comp rfl (N := ["thing", "left"]) (caps := [none, some 1]) (CompOk.of (by kernel_rfl)) (gk_name rfl) (pi_tup (pv 0)) (fun _ _ _ _ => (pg_name (i := 0) (show (["thing", "left"] : List Str).Nodup by decide +kernel) rfl (Or.inl rfl) (Or.inr rfl))) (fun _ _ _ _ => (pts_one (pt_cmpR (op_neDK (K := K) rfl hr) (pe_ix (ix_listK (K := K) rfl) (pv 1) (pv 0) (fun _ _ => rfl)) (pe_gtupK (K := K) rfl M.c_NOTHING) (nomark _)))) (fun _ _ _ _ => (pv 0))) pe_int (fun _ _ => rfl)))), ?_⟩
  refine ⟨_, rfl, w, rfl, ⟨_, hw⟩, ?_⟩
  refine comp_tup (xs := row.map V.int) (fun i ys H' => H' = H ∧ ys = ((row.take i).filter fun t => decide (EM.at0 ms t ≠ 0)).map V.int)
    ⟨rfl, rfl⟩ (fun i ys H' _ hP => by rw [hP.1]; exact hw) (fun i x ys H' hx hP => ?_) (fun ys H' hP Dd hDd => ?_)
  · obtain ⟨rfl, rfl⟩ := hP
    rw [List.getElem?_map] at hx
    cases hri : row[i]? with
    | none => rw [hri] at hx; cases hx
    | some t =>
      rw [hri] at hx
      have hx' : V.int t = x := Option.some.inj hx
      subst hx'
      have htb := hrow t (List.mem_of_getElem? hri)
      have htn : t.toNat < ms.length := by omega
      have hfr : (fr D ms)[t.toNat]? = some (FQ.red (EM.at0 ms t) D) := by
        unfold fr EM.at0
        rw [List.getElem?_map, List.getD_eq_getElem?_getD, List.getElem?_eq_getElem htn]
        rfl
      obtain ⟨v, hv, hF⟩ := Paired.get hg hfr
      refine ⟨_, rfl, _, rfl, l, gs, t, v, rfl, rfl, hl, atI_ok htb.1 hv, fun c0 hc0 => ?_⟩
      refine ⟨dF (FQ.red (EM.at0 ms t) D), dF (0, 1), hF.rep, IsF.rep ⟨c0, rfl, hc0 _⟩, shaped_dF _, shaped_dF _, _, rfl, ?_⟩
      rw [eqv_dF2, List.take_add_one, hri, List.filter_append, List.map_append]
      have hlen : (((row.take i).filter fun t => decide (EM.at0 ms t ≠ 0)).map V.int).length < sizeLine := by
        rw [List.length_map]
        have h1 := List.length_filter_le (fun t => decide (EM.at0 ms t ≠ 0)) (row.take i)
        rw [List.length_take] at h1
        exact small1000 (by omega)
      refine iteN2 (fun c => ?_) (fun c => ?_)
      · have hn : EM.at0 ms t ≠ 0 := fun z => c ((red_nothing (by omega)).mpr z)
        refine ⟨_, rfl, hlen, rfl, ?_⟩
        simp [hn]
      · have hn : EM.at0 ms t = 0 := (red_nothing (by omega)).mp c
        refine ⟨rfl, ?_⟩
        simp [hn]
  · obtain ⟨rfl, rfl⟩ := hP
    rw [List.length_map, List.take_length]
    obtain ⟨t, ht, hn⟩ := hex
    have hm : t ∈ row.filter fun t => decide (EM.at0 ms t ≠ 0) := List.mem_filter.mpr ⟨ht, decide_eq_true hn⟩
    have hh : (row.filter fun t => decide (EM.at0 ms t ≠ 0))[0]? = some (EM.best ms row) := by
      unfold EM.best
      cases hf : row.filter fun t => decide (EM.at0 ms t ≠ 0) with
      | nil => rw [hf] at hm; cases hm
      | cons a r => rfl
    refine ⟨Dd, _, 0, _, rfl, rfl, SqL.of upd_same, atI_nat (by rw [List.getElem?_map, hh]; rfl), q _ (same_new hDd _)⟩
theorem sc_time_to_stop : FnScope ["dishes", "left"] ["dishes", "left"] (defScope (top 17)) := ⟨rfl, rfl, rfl, by decide +kernel, rfl, by decide +kernel, by decide +kernel⟩
set_option maxHeartbeats 4000000 in
theorem d_time_to_stop {P : Program} {w : World} {K : PySem.W.Frag} {mg : Str → Option Value} {base : Heap} {x : Xs} (M : Md K mg x)
    (Gtimes : Dn P w K mg base CX0 3 "times" ["one", "two"] (sp2F fMul K))
    (Gleast : Dn P w K mg base CX0 2 "least" ["parts"] (spLeast K)) : Dn P w K mg base CX0 4 "time_to_stop" ["dishes", "left"] (spTimeS K) := by
  have nd := (sc_time_to_stop).nd
  refine M.f_time_to_stop.ok sc_time_to_stop (fun vs H Q E h => ?_) (fun _ _ _ _ _ _ us hl => match us, hl with | [_, _], _ => rfl) (fun f cdv A outer s H vs Q E hr h => ?_)
  · obtain ⟨d, l, ds, ms, D, gs, rfl, hd, hl, hg, hD, hD2, hne, hd6, hrow, hms, q⟩ := h
    rfl
  obtain ⟨d, l, ds, ms, D, gs, rfl, hd, hl, hg, hD, hD2, hne, hd6, hrow, hms, q⟩ := h
  refine ⟨_, (pss_one (ps_ret (pe_fn Gleast hr (by decide) rfl pass0 (pa_cons (pe_comp rfl (N := ["thing", "dishes", "left"]) (caps := [none, some 0, some 1]) (CompOk.of (by kernel_rfl)) (gk_name rfl) (pi_list (pv 0)) (fun _ _ _ _ => (pg_name (i := 0) (show (["thing", "dishes", "left"] : List Str).Nodup by decide +kernel) rfl (Or.inl rfl) (Or.inr rfl))) (fun _ _ _ _ => pts_nil) (fun _ _ _ _ => (pe_fn Gtimes hr (by decide) rfl pass0 (pa_cons (pe_ix (ix_listK (K := K) rfl) (pv 2) (pv 0) (fun _ _ => rfl)) (pa_cons (pe_tup (pa_cons pe_int (pa_cons (pe_bmK (K := K) rfl PySem.F.plainAttrs_list PySem.F.slot_list_count PySem.F.type_list_count (mt_countK (K := K) rfl) (pv 1) (pa_cons (pv 0) pa_nil)) pa_nil))) pa_nil))))) pa_nil)))), ?_⟩
  refine ⟨_, rfl, d, rfl, ⟨_, hd⟩, ?_⟩
  refine comp_list1 (xs := ds.map V.int) (fun i ys H' => Same H H' ∧ Paired (IsF K H') ys ((ds.take i).map (dishT D ds ms)))
    ⟨Same.refl _, .nil⟩ (fun i ys H' _ hP => hP.1.seq hd) (fun i x ys H' hx hP => ?_) (fun ys H' hP Dd hDd => ?_)
  · obtain ⟨S1, hys⟩ := hP
    rw [List.getElem?_map] at hx
    cases hri : ds[i]? with
    | none => rw [hri] at hx; cases hx
    | some t =>
      rw [hri] at hx
      have hx' : V.int t = x := Option.some.inj hx
      subst hx'
      have htm := List.mem_of_getElem? hri
      have htb := hrow t htm
      have htn : t.toNat < ms.length := by omega
      have hfr : (fr D ms)[t.toNat]? = some (FQ.red (EM.at0 ms t) D) := by
        unfold fr EM.at0
        rw [List.getElem?_map, List.getD_eq_getElem?_getD, List.getElem?_eq_getElem htn]
        rfl
      have hmt := hms _ (EM.at0_mem (ms := ms) htb.1 htb.2)
      have hc0 := EM.cnt_pos htm
      have hc6 := EM.cnt_le ds t
      obtain ⟨v, hv, va, rfl, hF⟩ := Paired.get hg hfr
      refine ⟨_, rfl, _, rfl, l, gs, t, _, rfl, rfl, S1.seq hl, atI_ok htb.1 hv, ?_⟩
      refine ⟨_, rfl, .inl ⟨rfl, _, S1.seq hd⟩, _, rfl, d, ds, t, rfl, rfl, S1.seq hd, by show 2 ≤ sizeLine; decide, fun p hp => ?_⟩
      have S2 : Same H' (upd H' p (.tup [.int 1, .int (ds.count t : Nat)])) := same_new hp _
      have hpt : upd H' p (.tup [.int 1, .int (ds.count t : Nat)]) p = some (.tup [.int 1, .int (ds.count t : Nat)]) := upd_same
      generalize upd H' p (.tup [.int 1, .int (ds.count t : Nat)]) = H2 at S2 hpt ⊢
      have hyl := Paired.len hys
      rw [List.length_map, List.length_take] at hyl
      have hD0 : D ≠ 0 := by omega
      have hcc : EM.cnt ds t = (ds.count t : Nat) := rfl
      refine ⟨va, p, FQ.red (EM.at0 ms t) D, (1, EM.cnt ds t), rfl, (S1.trans S2).tup hF, SqT.of hpt, (Sz_redN (n := 30) hD0 (by omega) (by omega)).up (by decide), Sz.up (m := 30) ⟨by show (1 : Int).natAbs < 2 ^ 30; decide, by show (EM.cnt ds t).natAbs < 2 ^ 30; omega, by show EM.cnt ds t ≠ 0; omega⟩ (by decide), fun pf H3 S3 hpf => ⟨small1000 (by omega), S1.trans (S2.trans S3), ?_⟩⟩
      rw [List.take_add_one, hri, List.map_append]
      refine Paired.app (fracs_mono (S2.trans S3) hys) (.cons ⟨pf, rfl, ?_⟩ .nil)
      have e : dishT D ds ms t = fMul (FQ.red (EM.at0 ms t) D) (1, EM.cnt ds t) := by
        unfold dishT
        rw [fMul_wt (wt_red hD0) (wt_pair (a := 1) (D := EM.cnt ds t) (by omega)), Int.mul_one]
      rw [e]
      exact SqT.of hpf
  · obtain ⟨S1, hys⟩ := hP
    rw [List.length_map, List.take_length] at hys
    have hyl := Paired.len hys
    rw [List.length_map] at hyl
    have S2 : Same H' (upd H' Dd (.lst ys)) := same_new hDd _
    refine ⟨Dd, ys, ds.map (dishT D ds ms), rfl, SqL.of upd_same, fracs_mono S2 hys, by simpa using hne, by rw [List.length_map]; omega, fun p hp => ?_, fun v hv => ?_⟩
    · obtain ⟨t, ht, rfl⟩ := List.mem_map.mp hp
      have htb := hrow t ht
      have hmt := hms _ (EM.at0_mem (ms := ms) htb.1 htb.2)
      have hc0 := EM.cnt_pos ht
      have hc6 := EM.cnt_le ds t
      have h1 : 0 < D * EM.cnt ds t := Int.mul_pos hD hc0
      have h2 : D * EM.cnt ds t ≤ 262144 * 6 := Int.mul_le_mul hD2 (by omega) (by omega) (by decide)
      exact (Sz_redN (n := 30) (by omega) (by omega) (by omega)).up (by decide)
    · rw [least_pick hD hne] at hv
      exact q v _ (S1.trans S2) hv
theorem sc_left_behind : FnScope ["dishes", "left", "length"] ["dishes", "left", "length"] (defScope (top 18)) := ⟨rfl, rfl, rfl, by decide +kernel, rfl, by decide +kernel, by decide +kernel⟩
set_option maxHeartbeats 4000000 in
theorem d_left_behind {P : Program} {w : World} {K : PySem.W.Frag} {mg : Str → Option Value} {base : Heap} {x : Xs} (M : Md K mg x)
    (Gminus : Dn P w K mg base CX0 3 "minus" ["one", "two"] (sp2F fSub K))
    (Gtimes : Dn P w K mg base CX0 3 "times" ["one", "two"] (sp2F fMul K)) : Dn P w K mg base CX0 4 "left_behind" ["dishes", "left", "length"] (spLeftB K) := by
  have nd := (sc_left_behind).nd
  refine M.f_left_behind.ok sc_left_behind (fun vs H Q E h => ?_) (fun _ _ _ _ _ _ us hl => match us, hl with | [_, _, _], _ => rfl) (fun f cdv A outer s H vs Q E hr h => ?_)
  · obtain ⟨d, l, p, ds, ms, D, c, m, gs, rfl, hd, hl, hg, hp, hD, hD2, hc0, hc6, hm0, hmD, hd6, hm6, hms, q⟩ := h
    rfl
  obtain ⟨d, l, p, ds, ms, D, c, m, gs, rfl, hd, hl, hg, hp, hD, hD2, hc0, hc6, hm0, hmD, hd6, hm6, hms, q⟩ := h
  refine ⟨_, (pss_one (ps_ret (pe_comp rfl (N := ["thing", "part", "dishes", "length"]) (caps := [none, none, some 0, some 2]) (CompOk.of (by kernel_rfl)) (gk_tup (gks_cons gName_mono (gk_name rfl) (gks_cons gName_mono (gk_name rfl) gks_nil))) (pi_enum rfl M.b_enumerate (pa_cons (pv 1) pa_nil)) (fun _ _ _ _ => (pg_tupK (K := K) rfl 2 rfl (pgs_cons (pg_name (i := 0) (show (["thing", "part", "dishes", "length"] : List Str).Nodup by decide +kernel) rfl (Or.inl rfl) (Or.inr rfl)) (pgs_cons (pg_name (i := 1) (show (["thing", "part", "dishes", "length"] : List Str).Nodup by decide +kernel) rfl (Or.inl rfl) (Or.inr rfl)) pgs_nil)))) (fun _ _ _ _ => pts_nil) (fun _ _ _ _ => (pe_fn Gminus hr (by decide) rfl pass0 (pa_cons (pv 1) (pa_cons (pe_fn Gtimes hr (by decide) rfl pass0 (pa_cons (pe_tup (pa_cons (pe_bmK (K := K) rfl PySem.F.plainAttrs_list PySem.F.slot_list_count PySem.F.type_list_count (mt_countK (K := K) rfl) (pv 2) (pa_cons (pv 0) pa_nil)) (pa_cons pe_int pa_nil))) (pa_cons (pv 3) pa_nil))) pa_nil))))))), ?_⟩
  have hgl := Paired.len hg
  unfold fr at hgl
  rw [List.length_map] at hgl
  have hD0 : D ≠ 0 := by omega
  have hE1 : 0 < D * c := Int.mul_pos hD hc0
  have hE2 : D * c ≤ 262144 * 6 := Int.mul_le_mul hD2 (by omega) (by omega) (by decide)
  refine ⟨_, rfl, l, rfl, ⟨_, hl⟩, ?_⟩
  refine comp_enum1 (xs := gs) (fun i ys H' => Same H H' ∧ Paired (IsF K H') ys (fr (D * c) (((LM.rng ms.length).take i).map fun j => EM.at0 ms j * c - EM.cnt ds j * m)))
    ⟨Same.refl _, .nil⟩ (fun i ys H' _ hP => hP.1.seq hl) (fun i x ys H' t hx ht hP => ?_) (fun ys H' hP Dd hDd => ?_)
  · obtain ⟨S1, hys⟩ := hP
    have hil : i < gs.length := (List.getElem?_eq_some_iff.mp hx).1
    obtain ⟨y, hy, xa, rfl, hF⟩ := Paired.get' hg hx
    have hrg := EM.rng_get (n := ms.length) (k := i) (by omega)
    have hfr : (fr D ms)[i]? = some (FQ.red (EM.at0 ms (i : Int)) D) := by
      unfold fr EM.at0
      rw [List.getElem?_map, List.getD_eq_getElem?_getD, Int.toNat_natCast, List.getElem?_eq_getElem (by omega)]
      rfl
    rw [hfr] at hy
    cases hy
    have hmt := hms _ (EM.at0_mem (ms := ms) (t := (i : Int)) (by omega) (by omega))
    have hcn := EM.cnt_nn ds (i : Int)
    have hcl := EM.cnt_le ds (i : Int)
    have S2 : Same H' (upd H' t (.tup [.int i, .ref xa])) := same_new ht _
    have htt : upd H' t (.tup [.int i, .ref xa]) t = some (.tup [.int i, .ref xa]) := upd_same
    generalize upd H' t (.tup [.int i, .ref xa]) = H2 at S2 htt ⊢
    have S12 := S1.trans S2
    refine ⟨t, _, rfl, SqT.of htt, rfl, _, _, rfl, _, _, rfl, rfl, ?_⟩
    refine ⟨_, rfl, _, rfl, .inl ⟨rfl, _, S12.seq hd⟩, _, rfl, d, ds, (i : Int), rfl, rfl, S12.seq hd, by show 2 ≤ sizeLine; decide, fun pc hpc => ?_⟩
    have S3 : Same H2 (upd H2 pc (.tup [.int (ds.count (i : Int) : Nat), .int 1])) := same_new hpc _
    have hpt : upd H2 pc (.tup [.int (ds.count (i : Int) : Nat), .int 1]) pc = some (.tup [.int (ds.count (i : Int) : Nat), .int 1]) := upd_same
    generalize upd H2 pc (.tup [.int (ds.count (i : Int) : Nat), .int 1]) = H3 at S3 hpt ⊢
    have S13 := S12.trans S3
    obtain ⟨_, e0, hp'⟩ := hp
    cases e0
    refine ⟨_, rfl, pc, p, (EM.cnt ds (i : Int), 1), FQ.red m (D * c), rfl, SqT.of hpt, S13.tup hp', Sz.up (m := 30) ⟨by show (EM.cnt ds (i : Int)).natAbs < 2 ^ 30; omega, by show (1 : Int).natAbs < 2 ^ 30; decide, by show (1 : Int) ≠ 0; decide⟩ (by decide), (Sz_redN (n := 30) (by omega) (by omega) (by omega)).up (by decide), fun pm H4 S4 hpm => ?_⟩
    have em : fMul (EM.cnt ds (i : Int), 1) (FQ.red m (D * c)) = FQ.red (EM.cnt ds (i : Int) * m) (D * c) := by
      rw [fMul_wt (wt_pair (a := EM.cnt ds (i : Int)) (D := 1) (by decide)) (wt_red (by omega)), Int.one_mul]
    rw [em] at hpm
    have hcm0 : 0 ≤ EM.cnt ds (i : Int) * m := Int.mul_nonneg hcn hm0
    have hcm : EM.cnt ds (i : Int) * m ≤ 6 * 262144 := Int.mul_le_mul (by omega) (by omega) hm0 (by decide)
    have hyl := Paired.len hys
    unfold fr at hyl
    rw [List.length_map, List.length_map, List.length_take, LM.rng_len] at hyl
    refine ⟨xa, pm, FQ.red (EM.at0 ms (i : Int)) D, FQ.red (EM.cnt ds (i : Int) * m) (D * c), rfl, (S13.trans S4).tup hF, SqT.of hpm, (Sz_redN (n := 30) hD0 (by omega) (by omega)).up (by decide), (Sz_redN (n := 30) (by omega) (by omega) (by omega)).up (by decide), fun pf H5 S5 hpf => ⟨small1000 (by omega), S13.trans (S4.trans S5), ?_⟩⟩
    rw [fSub_next hD0 (by omega)] at hpf
    rw [List.take_add_one, hrg]
    unfold fr
    rw [List.map_append, List.map_append]
    exact Paired.app (fracs_mono (S2.trans (S3.trans (S4.trans S5))) hys) (.cons ⟨pf, rfl, SqT.of hpf⟩ .nil)
  · obtain ⟨S1, hys⟩ := hP
    rw [hgl, List.take_of_length_le (by rw [LM.rng_len]; exact Nat.le_refl _)] at hys
    exact q Dd ys _ (S1.trans (same_new hDd _)) (S1.free hDd) upd_same (fracs_mono (same_new hDd _) hys)
theorem sc_courses_of : FnScope ["wishes", "left", "courses", "dishes", "length", "gone"] ["wishes"] (defScope (top 19)) := ⟨rfl, rfl, rfl, by decide +kernel, rfl, by decide +kernel, by decide +kernel⟩
set_option maxHeartbeats 4000000 in
theorem d_courses_of {P : Program} {w : World} {K : PySem.W.Frag} {mg : Str → Option Value} {base : Heap} {x : Xs} (M : Md K mg x)
    (Gtotal : Dn P w K mg base CX0 4 "total" ["parts"] (spTotF K))
    (Gbest_left : Dn P w K mg base CX0 1 "best_left" ["wish", "left"] (spBestL K))
    (Gtime_to_stop : Dn P w K mg base CX0 4 "time_to_stop" ["dishes", "left"] (spTimeS K))
    (Gleft_behind : Dn P w K mg base CX0 4 "left_behind" ["dishes", "left", "length"] (spLeftB K)) : Dn P w K mg base CX0 5 "courses_of" ["wishes"] (spCourses K) := by
  have nd := (sc_courses_of).nd
  refine M.f_courses_of.ok sc_courses_of (fun vs H Q E h => ?_) (fun _ _ _ _ _ _ us hl => match us, hl with | [_], _ => rfl) (fun f cdv A outer s H vs Q E hr h => ?_)
  · obtain ⟨a, ws, W, n, rfl, hA, hW, ok, q⟩ := h
    rfl
  obtain ⟨a, ws, W, n, rfl, hA, hW, ok, q⟩ := h
  refine ⟨_, (pss_cons (ps_set (i := 1) nd rfl (Or.inr rfl) (pe_comp rfl (N := ["wish"]) (caps := [none]) (CompOk.of (by kernel_rfl)) (gk_name rfl) (pi_list (pv 0)) (fun _ _ _ _ => (pg_name (i := 0) (show (["wish"] : List Str).Nodup by decide +kernel) rfl (Or.inl rfl) (Or.inr rfl))) (fun _ _ _ _ => pts_nil) (fun _ _ _ _ => (pe_gtupK (K := K) rfl M.c_WHOLE))))
      (pss_cons (ps_set (i := 2) nd rfl (Or.inl rfl) (pe_lst pa_nil))
      (pss_cons (ps_while PassesOwn.never (pt_cmpR (op_neD hr) (pe_fn Gtotal hr (by decide) rfl pass0 (pa_cons (pv 1) pa_nil)) (pe_gtup M.c_NOTHING) (nomark _)) (pss_cons (ps_setComp (i := 3) nd rfl rfl rfl rfl (N := ["wish", "left"]) (caps := [none, some 1]) (CompOk.of (by kernel_rfl)) (gk_name rfl) (pi_list (pv 0)) (fun _ _ _ _ => (pg_name (i := 0) (show (["wish", "left"] : List Str).Nodup by decide +kernel) rfl (Or.inl rfl) (Or.inr rfl))) (fun _ _ _ _ => pts_nil) (fun _ _ _ _ => (pe_fn Gbest_left hr (by decide) rfl pass0 (pa_cons (pv 0) (pa_cons (pv 1) pa_nil)))))
      (pss_cons (ps_set (i := 4) nd rfl (Or.inl rfl) (pe_fn Gtime_to_stop hr (by decide) rfl pass0 (pa_cons (pv 3) (pa_cons (pv 1) pa_nil))))
      (pss_cons (ps_set (i := 1) nd rfl (Or.inr rfl) (pe_fn Gleft_behind hr (by decide) rfl pass0 (pa_cons (pv 3) (pa_cons (pv 1) (pa_cons (pv 4) pa_nil)))))
      (pss_cons (ps_setComp (i := 5) nd rfl rfl rfl rfl (N := ["thing", "left"]) (caps := [none, some 1]) (CompOk.of (by kernel_rfl)) (gk_name rfl) (pi_list (pe_sortedSet rfl rfl M.b_sorted rfl M.b_set (pv 3))) (fun _ _ _ _ => (pg_name (i := 0) (show (["thing", "left"] : List Str).Nodup by decide +kernel) rfl (Or.inl rfl) (Or.inr rfl))) (fun _ _ _ _ => (pts_one (pt_cmpR (op_eqDK (K := K) rfl hr) (pe_ix (ix_listK (K := K) rfl) (pv 1) (pv 0) (fun _ _ => rfl)) (pe_gtupK (K := K) rfl M.c_NOTHING) (nomark _)))) (fun _ _ _ _ => (pv 0)))
      (pss_one (ps_expr (pe_bm PySem.F.plainAttrs_list PySem.F.slot_list_append PySem.F.type_list_append mt_append (pv 2) (pa_cons (pe_tup (pa_cons (pv 4) (pa_cons (pv 3) (pa_cons (pe_callTy call_tuple_of rfl M.b_tuple Boot.«tuple» (pa_cons (pv 5) pa_nil)) pa_nil)))) pa_nil)))))))))
      (pss_one (ps_ret (pv 2)))))), ?_⟩
  have hwl := Paired.len hW
  have hn := ok.len
  have hn1 := ok.n1
  have hn6 := ok.n6
  have small0 : (0 : Nat) ≤ sizeLine := by decide
  refine ⟨_, rfl, a, rfl, ⟨_, hA⟩, ?_⟩
  refine comp_list1 (xs := ws) (fun i ys H' => H' = H ∧ Paired (IsF K H) ys (fr 1 (List.replicate i 1)))
    ⟨rfl, .nil⟩ (fun i ys H' _ hP => by rw [hP.1]; exact hA) (fun i x ys H' hx hP => ?_) (fun ys H' hP l0 hl0 => ?_)
  · obtain ⟨rfl, hys⟩ := hP
    have hil : i < ws.length := (List.getElem?_eq_some_iff.mp hx).1
    have hyl := Paired.len hys
    unfold fr at hyl
    rw [List.length_map, List.length_replicate] at hyl
    refine fun c hc => ⟨small1000 (by omega), rfl, ?_⟩
    rw [List.replicate_succ']
    unfold fr
    rw [List.map_append]
    exact Paired.app hys (.cons ⟨c, rfl, hc _⟩ .nil)
  obtain ⟨rfl, hys⟩ := hP
  rw [hwl, hn] at hys
  refine ⟨small0, fun pc hpc => ?_⟩
  have hpc0 : H' pc = none := (same_new hl0 _).free hpc
  refine ⟨fun m σ H1 => ∃ (i : Nat) (l : Addr) (gs cs : List V) (r3 r4 r5 : Option V), m = n - i ∧ σ = [some (.ref a), some (.ref l), some (.ref pc), r3, r4, r5] ∧ Same H' H1 ∧ EM.Upto W n i ∧ H1 l = some (.lst gs) ∧ Paired (IsF K H1) gs (fr (EM.st W n i).D (EM.st W n i).ms) ∧ l ≠ pc ∧
      H1 pc = some (.lst cs) ∧ Paired (IsC K pc H1) cs (courses W n i),
    ⟨_, 0, l0, ys, [], _, _, _, rfl, rfl, (same_new hl0 _).trans (same_new hpc _), (fun i hi => absurd hi (Nat.not_lt_zero _)), same_new hpc _ _ _ upd_same, fracs_mono ((same_new hl0 _).trans (same_new hpc _)) hys, (fun z => by rw [z, upd_same] at hpc; cases hpc), upd_same, .nil⟩, fun m σ H1 hP => ?_⟩
  obtain ⟨i, l, gs, cs, r3, r4, r5, rfl, rfl, S1, up, hl, hg, hlp, hc, hcs⟩ := hP
  obtain ⟨St, _⟩ := EM.st_ok ok i up
  have hD := St.pos
  have hD2 := EM.D_le St hn6
  have hD0 : (EM.st W n i).D ≠ 0 := by omega
  have hml := St.len
  have hmb : ∀ m ∈ (EM.st W n i).ms, 0 ≤ m ∧ m ≤ (EM.st W n i).D := fun m hm => ⟨St.nn m hm, St.le m hm⟩
  have hgl := Paired.len hg
  unfold fr at hgl
  rw [List.length_map] at hgl
  have hcl := Paired.len hcs
  unfold courses at hcl
  rw [List.length_map, List.length_range] at hcl
  have hin := EM.upto_le ok up
  refine ⟨_, rfl, l, gs, fr (EM.st W n i).D (EM.st W n i).ms, rfl, SqL.of hl, hg, fun p hp => ?_, by unfold fr; rw [List.length_map]; omega, fun v H2 S2 hv => fun c0 hc0 => ?_⟩
  · unfold fr at hp
    obtain ⟨x, hx, rfl⟩ := List.mem_map.mp hp
    have := hmb x hx
    exact Sz_redN hD0 (by omega) (by omega)
  refine ⟨_, _, hv.rep, IsF.rep (p := (0, 1)) ⟨c0, rfl, hc0 _⟩, shaped_dF _, shaped_dF _, _, rfl, ?_⟩
  rw [eqv_dF2, totF_fr hD0]
  by_cases hs : (EM.st W n i).ms.sum = 0
  · rw [decide_eq_true ((red_nothing hD0).mpr hs)]
    exact ⟨_, rfl, q pc cs i H2 (S1.trans S2) hpc0 (S2 _ _ hc) ⟨up, hs⟩ (Paired.mapP hcs fun _ _ h => h.mono S2)⟩
  rw [decide_eq_false (fun z => hs ((red_nothing hD0).mp z))]
  refine ⟨_, (fun σ' H' z => z), ?_⟩
  have sp := EM.step_of ok up hs
  have S12 := S1.trans S2
  have hl2 := S2 _ _ hl
  have hg2 := fracs_mono S2 hg
  have hc2 := S2 _ _ hc
  have hcs2 := Paired.mapP hcs fun _ _ (h : IsC K pc H1 _ _) => h.mono S2
  clear hl hg hc hcs hv
  have eC : EM.cs W (EM.st W n i) = ⟨EM.at0 (EM.st W n i).ms (EM.pick (EM.dishes W (EM.st W n i).ms) (EM.st W n i).ms), (EM.st W n i).D * EM.cnt (EM.dishes W (EM.st W n i).ms) (EM.pick (EM.dishes W (EM.st W n i).ms) (EM.st W n i).ms), EM.dishes W (EM.st W n i).ms, EM.goneOf (EM.dishes W (EM.st W n i).ms) (EM.nextMs (EM.dishes W (EM.st W n i).ms) (EM.st W n i).ms)⟩ := rfl
  have eN : EM.st W n (i + 1) = EM.nxt W (EM.st W n i) := rfl
  -- the dishes
  refine ⟨_, rfl, a, rfl, ⟨_, S12.seq hA⟩, ?_⟩
  refine comp_list1 (xs := ws) (fun j ys H3 => Same H2 H3 ∧ ys = ((W.take j).map (EM.best (EM.st W n i).ms)).map V.int)
    ⟨Same.refl _, rfl⟩ (fun j ys H3 _ hP => (S12.trans hP.1).seq hA) (fun j x ys H3 hx hP => ?_) (fun ys H3 hP pd hpd => ?_)
  · obtain ⟨S3, rfl⟩ := hP
    obtain ⟨row, hr, wa, rfl, hwa⟩ := Paired.get' hW hx
    have hrm := List.mem_of_getElem? hr
    have hpm := ok.pm row hrm
    have hjw : j < W.length := (List.getElem?_eq_some_iff.mp hr).1
    obtain ⟨t, ht0, ht1, htn⟩ := EM.some_left hs
    refine ⟨_, rfl, _, rfl, wa, l, row, (EM.st W n i).ms, (EM.st W n i).D, gs, rfl, (S12.trans S3).tup hwa, SqL.of (S3 _ _ hl2), fracs_mono S3 hg2, hD, fun t ht => by rw [hml]; exact LM.mem_rng.mp (hpm.mem_iff.mp ht), by rw [hpm.length_eq, LM.rng_len]; omega, ⟨t, hpm.mem_iff.mpr (LM.mem_rng.mpr ⟨ht0, by omega⟩), htn⟩, fun H4 S4 => ⟨small1000 (by rw [List.length_map, List.length_map, List.length_take]; omega), S3.trans S4, ?_⟩⟩
    rw [List.take_add_one, hr, List.map_append, List.map_append]
    rfl
  obtain ⟨S3, rfl⟩ := hP
  rw [hwl, List.take_length]
  have eD : W.map (EM.best (EM.st W n i).ms) = EM.dishes W (EM.st W n i).ms := rfl
  rw [eD]
  have hpd2 : pd ≠ pc := fun z => by rw [z, S3 _ _ hc2] at hpd; cases hpd
  have S24 : Same H2 (upd H3 pd (.lst ((EM.dishes W (EM.st W n i).ms).map V.int))) := S3.trans (same_new hpd _)
  have hd4 : upd H3 pd (.lst ((EM.dishes W (EM.st W n i).ms).map V.int)) pd = some (.lst ((EM.dishes W (EM.st W n i).ms).map V.int)) := upd_same
  generalize upd H3 pd (.lst ((EM.dishes W (EM.st W n i).ms).map V.int)) = H4 at S24 hd4 ⊢
  have hdl := sp.dl
  have hdm := sp.dm
  have hm0 : 0 < EM.at0 (EM.st W n i).ms (EM.pick (EM.dishes W (EM.st W n i).ms) (EM.st W n i).ms) := sp.m0
  have hmD : EM.at0 (EM.st W n i).ms (EM.pick (EM.dishes W (EM.st W n i).ms) (EM.st W n i).ms) ≤ (EM.st W n i).D := sp.mD
  have hcc0 : 0 < EM.cnt (EM.dishes W (EM.st W n i).ms) (EM.pick (EM.dishes W (EM.st W n i).ms) (EM.st W n i).ms) := sp.c0
  have hcc6 : EM.cnt (EM.dishes W (EM.st W n i).ms) (EM.pick (EM.dishes W (EM.st W n i).ms) (EM.st W n i).ms) ≤ 6 := sp.c6
  have hne : EM.dishes W (EM.st W n i).ms ≠ [] := fun z => by rw [z] at hdl; simp at hdl; omega
  -- the time
  refine ⟨_, rfl, _, rfl, pd, l, EM.dishes W (EM.st W n i).ms, (EM.st W n i).ms, (EM.st W n i).D, gs, rfl, SqL.of hd4, SqL.of (S24 _ _ hl2), fracs_mono S24 hg2, hD, hD2, hne, by omega, fun t ht => by rw [hml]; exact (hdm t ht).1, hmb, fun v5 H5 S5 hv5 => ?_⟩
  obtain ⟨pl, rfl, hpl⟩ := hv5
  have S25 := S24.trans S5
  -- what is left
  refine ⟨_, rfl, _, rfl, _, rfl, pd, l, pl, EM.dishes W (EM.st W n i).ms, (EM.st W n i).ms, (EM.st W n i).D, _, _, gs, rfl, SqL.of (S5 _ _ hd4), SqL.of (S25 _ _ hl2), fracs_mono S25 hg2, ⟨pl, rfl, hpl⟩, hD, hD2, hcc0, hcc6, Int.le_of_lt hm0, hmD, by omega, by omega, hmb, fun l6 gs6 H6 S6 hl60 hl6 hg6 => ?_⟩
  have S26 := S25.trans S6
  have hl6p : l6 ≠ pc := fun z => by rw [z, S25 _ _ hc2] at hl60; cases hl60
  change Paired (IsF K H6) gs6 (fr (EM.st W n (i + 1)).D (EM.st W n (i + 1)).ms) at hg6
  have St' := sp.S'
  rw [← eN] at St'
  have hms' : (EM.st W n (i + 1)).ms.length = n := St'.len
  have hD' : (EM.st W n (i + 1)).D ≠ 0 := by have := St'.pos; omega
  have hd6 := S6 _ _ (S5 _ _ hd4)
  -- what is gone
  refine ⟨_, rfl, pd, EM.dishes W (EM.st W n i).ms, rfl, SqL.of hd6, fun t ht => by have := (hdm t ht).1; omega, fun ls ns hls hmem hnd hsort => ⟨ls, rfl, ⟨_, SqL.of upd_same⟩, ?_⟩⟩
  have S67 : Same H6 (upd H6 ls (.lst (ns.map V.int))) := same_new hls _
  have hls7 : upd H6 ls (.lst (ns.map V.int)) ls = some (.lst (ns.map V.int)) := upd_same
  generalize upd H6 ls (.lst (ns.map V.int)) = H7 at S67 hls7 ⊢
  have hnl : ns.length ≤ 6 := EM.nodup_len 6 hnd fun t ht => by have := (hdm t ((hmem t).mp ht)).1; omega
  refine comp_list (xs := ns.map V.int) (fun j ys H8 => H8 = H7 ∧ ys = ((ns.take j).filter fun t => decide (EM.at0 (EM.st W n (i + 1)).ms t = 0)).map V.int)
    ⟨rfl, rfl⟩ (fun j ys H8 _ hP => by rw [hP.1]; exact SqL.of hls7) (fun j x ys H8 hx hP => ?_) (fun ys H8 hP pg hpg => ?_)
  · obtain ⟨rfl, rfl⟩ := hP
    rw [List.getElem?_map] at hx
    cases hri : ns[j]? with
    | none => rw [hri] at hx; cases hx
    | some t =>
      rw [hri] at hx
      have hx' : V.int t = x := Option.some.inj hx
      subst hx'
      have htb := (hdm t ((hmem t).mp (List.mem_of_getElem? hri))).1
      have htn : t.toNat < (EM.st W n (i + 1)).ms.length := by omega
      have hfr : (fr (EM.st W n (i + 1)).D (EM.st W n (i + 1)).ms)[t.toNat]? = some (FQ.red (EM.at0 (EM.st W n (i + 1)).ms t) (EM.st W n (i + 1)).D) := by
        unfold fr EM.at0
        rw [List.getElem?_map, List.getD_eq_getElem?_getD, List.getElem?_eq_getElem htn]
        rfl
      obtain ⟨v, hv, hF⟩ := Paired.get hg6 hfr
      refine ⟨_, rfl, _, rfl, l6, gs6, t, v, rfl, rfl, SqL.of (S67 _ _ hl6), atI_ok htb.1 hv, fun c1 hc1 => ?_⟩
      refine ⟨_, _, (hF.mono S67).rep, IsF.rep (p := (0, 1)) ⟨c1, rfl, hc1 _⟩, shaped_dF _, shaped_dF _, _, rfl, ?_⟩
      rw [eqv_dF2, List.take_add_one, hri, List.filter_append, List.map_append]
      have hlen : (((ns.take j).filter fun t => decide (EM.at0 (EM.st W n (i + 1)).ms t = 0)).map V.int).length < sizeLine := by
        rw [List.length_map]
        have h1 := List.length_filter_le (fun t => decide (EM.at0 (EM.st W n (i + 1)).ms t = 0)) (ns.take j)
        rw [List.length_take] at h1
        exact small1000 (by omega)
      refine iteD2 (fun c => ?_) (fun c => ?_)
      · have hz : EM.at0 (EM.st W n (i + 1)).ms t = 0 := (red_nothing hD').mp c
        refine ⟨_, rfl, hlen, rfl, ?_⟩
        simp [hz]
      · have hz : EM.at0 (EM.st W n (i + 1)).ms t ≠ 0 := fun z => c ((red_nothing hD').mpr z)
        refine ⟨rfl, ?_⟩
        simp [hz]
  obtain ⟨rfl, rfl⟩ := hP
  rw [List.length_map, List.take_length, EM.gone_eq hmem hnd hsort (fun d hd => by rw [hms']; exact (hdm d hd).1)]
  have eG : EM.goneOf (EM.dishes W (EM.st W n i).ms) (EM.st W n (i + 1)).ms = (EM.cs W (EM.st W n i)).gone := rfl
  rw [eG]
  have S78 : Same H8 (upd H8 pg (.lst ((EM.cs W (EM.st W n i)).gone.map V.int))) := same_new hpg _
  have hpg8 : upd H8 pg (.lst ((EM.cs W (EM.st W n i)).gone.map V.int)) pg = some (.lst ((EM.cs W (EM.st W n i)).gone.map V.int)) := upd_same
  generalize upd H8 pg (.lst ((EM.cs W (EM.st W n i)).gone.map V.int)) = H9 at S78 hpg8 ⊢
  have S29 := S26.trans (S67.trans S78)
  refine ⟨_, rfl, .inl ⟨rfl, _, SqL.of (S29 _ _ hc2)⟩, _, rfl, _, rfl, _, rfl, pg, _, rfl, .inl ⟨SqL.of hpg8, fun pt hpt => ?_⟩⟩
  refine ⟨by show 3 ≤ sizeLine; decide, fun pr hpr => ?_⟩
  have S9b : Same H9 (upd (upd H9 pt (.tup ((EM.cs W (EM.st W n i)).gone.map V.int))) pr (.tup [.ref pl, .ref pd, .ref pt])) := (same_new hpt _).trans (same_new hpr _)
  have hptb : upd (upd H9 pt (.tup ((EM.cs W (EM.st W n i)).gone.map V.int))) pr (.tup [.ref pl, .ref pd, .ref pt]) pt = some (.tup ((EM.cs W (EM.st W n i)).gone.map V.int)) := same_new hpr _ _ _ upd_same
  have hprb : upd (upd H9 pt (.tup ((EM.cs W (EM.st W n i)).gone.map V.int))) pr (.tup [.ref pl, .ref pd, .ref pt]) pr = some (.tup [.ref pl, .ref pd, .ref pt]) := upd_same
  generalize upd (upd H9 pt (.tup ((EM.cs W (EM.st W n i)).gone.map V.int))) pr (.tup [.ref pl, .ref pd, .ref pt]) = HB at S9b hptb hprb ⊢
  have S2B := S29.trans S9b
  have S6B : Same H6 HB := S67.trans (S78.trans S9b)
  have hcB := S2B _ _ hc2
  refine ⟨pc, cs, _, rfl, rfl, hcB, small1000 (by omega), ?_⟩
  have up' := up.snoc hs
  have hin' := EM.upto_le ok up'
  refine ⟨n - (i + 1), by omega, i + 1, l6, gs6, cs ++ [.ref pr], _, _, _, rfl, rfl, (S12.trans S2B).over hpc0 _, up', by rw [upd_ne hl6p]; exact S6B _ _ hl6, Paired.mapP hg6 (fun _ _ h => (h.mono S6B).over hcB), hl6p, upd_same, ?_⟩
  unfold courses
  rw [List.range_succ, List.map_append]
  refine Paired.app (Paired.mapP hcs2 fun _ _ h => (h.mono S2B).over hcB) (.cons (IsC.over ?_ hcB) .nil)
  refine ⟨pr, pl, pd, pt, rfl, SqT.of hprb, ⟨pl, rfl, (S6.trans S6B).tup hpl⟩, S6B _ _ hd6, SqT.of hptb, hpd2⟩
theorem sc_eaten_of : FnScope ["courses", "person", "thing"] ["courses", "person", "thing"] (defScope (top 20)) := ⟨rfl, rfl, rfl, by decide +kernel, rfl, by decide +kernel, by decide +kernel⟩
set_option maxHeartbeats 4000000 in
theorem d_eaten_of {P : Program} {w : World} {K : PySem.W.Frag} {mg : Str → Option Value} {base : Heap} {x : Xs} (M : Md K mg x)
    (Gtotal : Dn P w K mg base CX0 4 "total" ["parts"] (spTotF K)) : Dn P w K mg base CX0 5 "eaten_of" ["courses", "person", "thing"] (spEatenOf K) := by
  have nd := (sc_eaten_of).nd
  refine M.f_eaten_of.ok sc_eaten_of (fun vs H Q E h => ?_) (fun _ _ _ _ _ _ us hl => match us, hl with | [_, _, _], _ => rfl) (fun f cdv A outer s H vs Q E hr h => ?_)
  · obtain ⟨c, cs, W, n, N, p, t, rfl, hc, ok, up, hcs, hp, q⟩ := h
    rfl
  obtain ⟨c, cs, W, n, N, p, t, rfl, hc, ok, up, hcs, hp, q⟩ := h
  refine ⟨_, (pss_one (ps_ret (pe_fn Gtotal hr (by decide) rfl pass0 (pa_cons (pe_comp rfl (N := ["length", "dishes", "gone", "person", "thing"]) (caps := [none, none, none, some 1, some 2]) (CompOk.of (by kernel_rfl)) (gk_tup (gks_cons gName_mono (gk_name rfl) (gks_cons gName_mono (gk_name rfl) (gks_cons gName_mono (gk_name rfl) gks_nil)))) (pi_list (pv 0)) (fun _ _ _ _ => (pg_tupK (K := K) rfl 3 rfl (pgs_cons (pg_name (i := 0) (show (["length", "dishes", "gone", "person", "thing"] : List Str).Nodup by decide +kernel) rfl (Or.inl rfl) (Or.inr rfl)) (pgs_cons (pg_name (i := 1) (show (["length", "dishes", "gone", "person", "thing"] : List Str).Nodup by decide +kernel) rfl (Or.inl rfl) (Or.inr rfl)) (pgs_cons (pg_name (i := 2) (show (["length", "dishes", "gone", "person", "thing"] : List Str).Nodup by decide +kernel) rfl (Or.inl rfl) (Or.inr rfl)) pgs_nil))))) (fun _ _ _ _ => (pts_one (pt_cmpR op_eq (pe_ix (ix_listK (K := K) rfl) (pv 1) (pv 3) (fun _ _ => rfl)) (pv 4) (nomark _)))) (fun _ _ _ _ => (pv 0))) pa_nil)))), ?_⟩
  have hcl := Paired.len hcs
  unfold courses at hcl
  rw [List.length_map, List.length_range] at hcl
  have hNn := EM.upto_le ok up
  have hn6 := ok.n6
  refine ⟨_, rfl, c, rfl, ⟨_, SqL.of hc⟩, ?_⟩
  refine comp_list (xs := cs) (fun i ys H' => H' = H ∧ i ≤ N ∧ ∃ ps, Paired (IsF K H) ys ps ∧ (∀ p ∈ ps, Sz 30 p) ∧ ps.length ≤ i ∧ totF ps = FQ.red (EM.et W n i p t) (EM.st W n i).D)
    ⟨rfl, Nat.zero_le _, [], .nil, (fun _ z => nomatch z), Nat.zero_le _, by show ((0 : Int), (1 : Int)) = FQ.red 0 1; exact (red_zero (by decide)).symm⟩ (fun i ys H' _ hP => by rw [hP.1]; exact SqL.of hc) (fun i x ys H' hx hP => ?_) (fun ys H' hP Dd hDd => ?_)
  · obtain ⟨rfl, _, ps, hps, hsz, hpl, htot⟩ := hP
    obtain ⟨co, hco, hx'⟩ := Paired.get' hcs hx
    obtain ⟨hi, rfl⟩ := courses_at hco
    obtain ⟨xa, l, d, g, rfl, h1, h2, h3, h4, _⟩ := hx'
    have s := EM.step_of ok (up.mono (Nat.le_of_lt hi)) (up i hi)
    have hD := s.S.pos
    have hD2 := EM.D_le s.S hn6
    have hD0 : (EM.st W n i).D ≠ 0 := by omega
    have hc0 := s.c0
    have hc6 := s.c6
    have hE1 : 0 < (EM.st W n i).D * EM.cn W (EM.st W n i) := Int.mul_pos hD hc0
    have hE2 : (EM.st W n i).D * EM.cn W (EM.st W n i) ≤ 262144 * 6 := Int.mul_le_mul hD2 hc6 (by omega) (by decide)
    have hm0 := s.m0
    have hmD := s.mD
    have hdl : (EM.cs W (EM.st W n i)).ds.length = n := s.dl
    have hcD : (EM.cs W (EM.st W n i)).D = (EM.st W n i).D * EM.cn W (EM.st W n i) := rfl
    have hds : (EM.cs W (EM.st W n i)).ds = EM.dishes W (EM.st W n i).ms := rfl
    have eE : EM.et W n (i + 1) p t = EM.et W n i p t * EM.cn W (EM.st W n i) + if (EM.dishes W (EM.st W n i).ms).getD p 0 = t then (EM.cs W (EM.st W n i)).m else 0 := rfl
    have eD : (EM.st W n (i + 1)).D = (EM.st W n i).D * EM.cn W (EM.st W n i) := rfl
    have hyl := Paired.len hps
    refine ⟨xa, _, rfl, h1, rfl, _, _, rfl, _, _, rfl, _, _, rfl, rfl, ?_⟩
    refine ⟨_, rfl, _, rfl, d, _, _, _, rfl, rfl, SqL.of h3, atI_nat (map_int_get (by omega)), _, rfl, rfl, _, rfl, iteD2 (fun e => ?_) (fun e => ?_)⟩
    · have e' : (EM.dishes W (EM.st W n i).ms).getD p 0 = t := Veq e
      refine ⟨_, rfl, small1000 (by omega), rfl, hi, ps ++ [FQ.red (EM.cs W (EM.st W n i)).m (EM.cs W (EM.st W n i)).D], Paired.app hps (.cons h2 .nil), fun z hz => ?_, by rw [List.length_append]; simp; omega, ?_⟩
      · rcases List.mem_append.mp hz with y | y
        · exact hsz z y
        · rw [List.mem_singleton.mp y, hcD]
          exact Sz_redN (by omega) (by omega) (by omega)
      · rw [totF_snoc, htot, hcD, fAdd_next hD0 (by omega), eE, if_pos e', eD]
    · have e' : ¬ (EM.dishes W (EM.st W n i).ms).getD p 0 = t := fun z => e (by show V.int ((EM.dishes W (EM.st W n i).ms).getD p 0) = V.int t; rw [z])
      refine ⟨rfl, hi, ps, hps, hsz, by omega, ?_⟩
      rw [htot, eE, if_neg e', Int.add_zero, eD, red_scale hD0 (by omega)]
  · obtain ⟨rfl, _, ps, hps, hsz, hpl, htot⟩ := hP
    rw [hcl] at hpl htot
    refine ⟨Dd, ys, ps, rfl, SqL.of upd_same, fracs_mono (same_new hDd _) hps, hsz, by omega, fun v H2 S2 hv => q v H2 ((same_new hDd _).trans S2) ?_⟩
    rw [← htot]
    exact hv
theorem sc_eaten_by : FnScope ["courses", "person", "count"] ["courses", "person", "count"] (defScope (top 21)) := ⟨rfl, rfl, rfl, by decide +kernel, rfl, by decide +kernel, by decide +kernel⟩
set_option maxHeartbeats 4000000 in
theorem d_eaten_by {P : Program} {w : World} {K : PySem.W.Frag} {mg : Str → Option Value} {base : Heap} {x : Xs} (M : Md K mg x)
    (Geaten_of : Dn P w K mg base CX0 5 "eaten_of" ["courses", "person", "thing"] (spEatenOf K)) : Dn P w K mg base CX0 6 "eaten_by" ["courses", "person", "count"] (spEatenBy K) := by
  have nd := (sc_eaten_by).nd
  refine M.f_eaten_by.ok sc_eaten_by (fun vs H Q E h => ?_) (fun _ _ _ _ _ _ us hl => match us, hl with | [_, _, _], _ => rfl) (fun f cdv A outer s H vs Q E hr h => ?_)
  · obtain ⟨c, cs, W, n, N, p, rfl, hc, ok, up, hcs, hp, q⟩ := h
    rfl
  obtain ⟨c, cs, W, n, N, p, rfl, hc, ok, up, hcs, hp, q⟩ := h
  refine ⟨_, (pss_one (ps_ret (pe_callTy call_tuple_of rfl M.b_tuple Boot.«tuple» (pa_cons (pe_comp rfl (N := ["thing", "courses", "person"]) (caps := [none, some 0, some 1]) (CompOk.of (by kernel_rfl)) (gk_name rfl) (pi_range1 rfl M.b_range (pa_cons (pv 2) pa_nil)) (fun _ _ _ _ => (pg_name (i := 0) (show (["thing", "courses", "person"] : List Str).Nodup by decide +kernel) rfl (Or.inl rfl) (Or.inr rfl))) (fun _ _ _ _ => pts_nil) (fun _ _ _ _ => (pe_fn Geaten_of hr (by decide) rfl pass0 (pa_cons (pv 1) (pa_cons (pv 2) (pa_cons (pv 0) pa_nil)))))) pa_nil)))), ?_⟩
  have hn6 := ok.n6
  refine ⟨_, rfl, (n : Int), rfl, by omega, by omega, ?_⟩
  refine comp_range1 (n := n) (fun j ys H' => Same H H' ∧ Paired (IsF K H') ys (fr (EM.st W n N).D (((LM.rng n).take j).map (EM.et W n N p))))
    ⟨Same.refl _, .nil⟩ (fun j ys H' hj hP => ?_) (fun ys H' hP Dd hDd => ?_)
  · obtain ⟨S1, hys⟩ := hP
    have hyl := Paired.len hys
    unfold fr at hyl
    rw [List.length_map, List.length_map, List.length_take, LM.rng_len] at hyl
    refine ⟨_, rfl, _, rfl, _, rfl, c, cs, W, n, N, p, (j : Int), by rw [Int.zero_add]; rfl, S1 _ _ hc, ok, up, Paired.mapP hcs (fun _ _ h => h.mono S1), hp, fun v H2 S2 hv => ⟨small1000 (by omega), S1.trans S2, ?_⟩⟩
    rw [List.take_add_one, EM.rng_get hj]
    unfold fr
    rw [List.map_append, List.map_append]
    exact Paired.app (fracs_mono S2 hys) (.cons hv .nil)
  · obtain ⟨S1, hys⟩ := hP
    rw [List.take_of_length_le (by rw [LM.rng_len]; exact Nat.le_refl _)] at hys
    refine ⟨Dd, ys, rfl, .inl ⟨SqL.of upd_same, fun pt hpt => q (.ref pt) _ (S1.trans ((same_new hDd _).trans (same_new hpt _))) ⟨pt, ys, rfl, SqT.of upd_same, ?_⟩⟩⟩
    exact fracs_mono ((same_new hDd _).trans (same_new hpt _)) hys
theorem sc_eaten : FnScope ["wishes", "courses"] ["wishes"] (defScope (top 22)) := ⟨rfl, rfl, rfl, by decide +kernel, rfl, by decide +kernel, by decide +kernel⟩
set_option maxHeartbeats 4000000 in
theorem d_eaten {P : Program} {w : World} {K : PySem.W.Frag} {mg : Str → Option Value} {base : Heap} {x : Xs} (M : Md K mg x)
    (Gcourses_of : Dn P w K mg base CX0 5 "courses_of" ["wishes"] (spCourses K))
    (Geaten_by : Dn P w K mg base CX0 6 "eaten_by" ["courses", "person", "count"] (spEatenBy K)) : Dn P w K mg base CX0 7 "eaten" ["wishes"] (spEaten K) := by
  have nd := (sc_eaten).nd
  refine M.f_eaten.ok sc_eaten (fun vs H Q E h => ?_) (fun _ _ _ _ _ _ us hl => match us, hl with | [_], _ => rfl) (fun f cdv A outer s H vs Q E hr h => ?_)
  · obtain ⟨a, ws, W, n, rfl, hA, hW, ok, q⟩ := h
    rfl
  obtain ⟨a, ws, W, n, rfl, hA, hW, ok, q⟩ := h
  refine ⟨_, (pss_cons (ps_set (i := 1) nd rfl (Or.inr rfl) (pe_fn Gcourses_of hr (by decide) rfl pass0 (pa_cons (pv 0) pa_nil)))
      (pss_one (ps_ret (pe_comp rfl (N := ["person", "wishes", "courses"]) (caps := [none, some 0, some 1]) (CompOk.of (by kernel_rfl)) (gk_name rfl) (pi_range1 rfl M.b_range (pa_cons (pe_callB call_len_seq rfl M.b_len PySem.boot_len (pa_cons (pv 0) pa_nil)) pa_nil)) (fun _ _ _ _ => (pg_name (i := 0) (show (["person", "wishes", "courses"] : List Str).Nodup by decide +kernel) rfl (Or.inl rfl) (Or.inr rfl))) (fun _ _ _ _ => pts_nil) (fun _ _ _ _ => (pe_fn Geaten_by hr (by decide) rfl pass0 (pa_cons (pv 2) (pa_cons (pv 0) (pa_cons (pe_callB (call_len_seqK (K := K) rfl) rfl M.b_len PySem.boot_len (pa_cons (pv 1) pa_nil)) pa_nil))))))))), ?_⟩
  have hn6 := ok.n6
  have hwl := Paired.len hW
  have hn := ok.len
  refine ⟨_, rfl, a, ws, W, n, rfl, hA, hW, ok, fun c cs N H1 S1 hc0 hc hN hcs => ?_⟩
  refine ⟨_, rfl, a, _, rfl, .inl (S1.seq hA), (ws.length : Int), rfl, by omega, by omega, ?_⟩
  have eN : ((ws.length : Nat) : Int).toNat = n := by omega
  rw [eN]
  refine comp_range1 (n := n) (fun j ys H' => Same H1 H' ∧ Paired (RwFT K H' (EM.st W n N).D) ys ((List.range j).map (eatRow W n N)))
    ⟨Same.refl _, .nil⟩ (fun j ys H' hj hP => ?_) (fun ys H' hP Dd hDd => ?_)
  · obtain ⟨S2, hys⟩ := hP
    have hyl := Paired.len hys
    rw [List.length_map, List.length_range] at hyl
    refine ⟨_, rfl, _, rfl, _, rfl, a, _, rfl, .inl ((S1.trans S2).seq hA), c, cs, W, n, N, j, by rw [Int.zero_add, show ws.length = n by omega]; rfl, S2 _ _ hc, ok, hN.up, Paired.mapP hcs (fun _ _ h => h.mono S2), hj, fun v H3 S3 hv => ⟨small1000 (by omega), S2.trans S3, ?_⟩⟩
    rw [List.range_succ, List.map_append]
    exact Paired.app (Paired.mapP hys fun _ _ h => h.mono S3) (.cons hv .nil)
  · obtain ⟨S2, hys⟩ := hP
    exact q Dd ys N _ (S1.trans (S2.trans (same_new hDd _))) ((S1.trans S2).free hDd) upd_same hN (Paired.mapP hys fun _ _ h => h.mono (same_new hDd _))
theorem sc_stops : FnScope ["wishes", "told", "moment", "length", "dishes", "gone"] ["wishes"] (defScope (top 23)) := ⟨rfl, rfl, rfl, by decide +kernel, rfl, by decide +kernel, by decide +kernel⟩
set_option maxHeartbeats 4000000 in
theorem d_stops {P : Program} {w : World} {K : PySem.W.Frag} {mg : Str → Option Value} {base : Heap} {x : Xs} (M : Md K mg x)
    (Gcourses_of : Dn P w K mg base CX0 5 "courses_of" ["wishes"] (spCourses K))
    (Gplus : Dn P w K mg base CX0 3 "plus" ["one", "two"] (sp2F fAdd K)) : Dn P w K mg base CX0 6 "stops" ["wishes"] (spStops K) := by
  have nd := (sc_stops).nd
  refine M.f_stops.ok sc_stops (fun vs H Q E h => ?_) (fun _ _ _ _ _ _ us hl => match us, hl with | [_], _ => rfl) (fun f cdv A outer s H vs Q E hr h => ?_)
  · obtain ⟨a, ws, W, n, rfl, hA, hW, ok, q⟩ := h
    rfl
  obtain ⟨a, ws, W, n, rfl, hA, hW, ok, q⟩ := h
  refine ⟨_, (pss_cons (ps_set (i := 1) nd rfl (Or.inl rfl) (pe_lst pa_nil))
      (pss_cons (ps_set (i := 2) nd rfl (Or.inl rfl) (pe_gtup M.c_NOTHING))
      (pss_cons (ps_for PassesOwn.never rfl (pi_list (pe_fn Gcourses_of hr (by decide) rfl pass0 (pa_cons (pv 0) pa_nil))) (pg_tup rfl (pgs_cons (pg_name (i := 3) nd rfl (Or.inl rfl)) (pgs_cons (pg_name (i := 4) nd rfl (Or.inl rfl)) (pgs_cons (pg_name (i := 5) nd rfl (Or.inl rfl)) pgs_nil)))) (pss_cons (ps_set (i := 2) nd rfl (Or.inl rfl) (pe_fn Gplus hr (by decide) rfl pass0 (pa_cons (pv 2) (pa_cons (pv 3) pa_nil))))
      (pss_one (ps_expr (pe_bm PySem.F.plainAttrs_list PySem.F.slot_list_append PySem.F.type_list_append mt_append (pv 1) (pa_cons (pe_tup (pa_cons (pv 2) (pa_cons (pv 5) pa_nil))) pa_nil))))))
      (pss_one (ps_ret (pv 1)))))), ?_⟩
  have hn6 := ok.n6
  have small0 : (0 : Nat) ≤ sizeLine := by decide
  refine ⟨small0, fun pt hpt => ?_⟩
  refine fun c0 hc0 => ?_
  have S1 : Same H (upd H pt (.lst [])) := same_new hpt _
  have hpt1 : upd H pt (.lst []) pt = some (.lst []) := upd_same
  generalize upd H pt (.lst []) = H1 at S1 hpt1 ⊢
  refine ⟨_, rfl, a, ws, W, n, rfl, S1.seq hA, Paired.mapP hW (fun _ _ h => h.mono S1), ok, fun c cs N H2 S2 hc0' hc hN hcs => ⟨c, rfl, ⟨_, SqL.of hc⟩, ?_⟩⟩
  have hcl := Paired.len hcs
  unfold courses at hcl
  rw [List.length_map, List.length_range] at hcl
  have hNn := EM.upto_le ok hN.up
  have hcp : c ≠ pt := fun z => by rw [z, hpt1] at hc0'; cases hc0'
  refine for_list (xs := cs) (fun i σ H' => i ≤ N ∧ Same H H' ∧ H' c = some (.lst cs) ∧ Paired (IsC2 K H') cs (courses W n N) ∧ ∃ (ts : List V) (mo : V) (r3 r4 r5 : Option V), σ = [some (.ref a), some (.ref pt), some mo, r3, r4, r5] ∧ H' pt = some (.lst ts) ∧ Paired (IsStop K H') ts (stopsOf W n i) ∧
      IsF K H' mo (FQ.red (EM.st W n i).T (EM.st W n i).D))
    ⟨Nat.zero_le _, S1.trans S2, hc, Paired.mapP hcs (fun _ _ h => h.two), [], .ref c0, _, _, _, rfl, S2 _ _ hpt1, .nil, c0, rfl, by show SqT K H2 c0 [.int (FQ.red 0 1).1, .int (FQ.red 0 1).2]; rw [red_zero (by decide)]; exact hc0 _⟩ (fun i σ H' _ hP => SqL.of hP.2.2.1) (fun i x σ H' hx hP => ?_) (fun σ H' hP => ?_)
  · obtain ⟨_, S3, hc3, hcs3, ts, mo, r3, r4, r5, rfl, hp3, hts, hmo⟩ := hP
    obtain ⟨co, hco, hx'⟩ := Paired.get' hcs3 hx
    obtain ⟨hi, rfl⟩ := courses_at hco
    obtain ⟨xa, l, d, g, rfl, h1, h2, h4⟩ := hx'
    have up := hN.up.mono (Nat.le_of_lt hi)
    have s := EM.step_of ok up (hN.up i hi)
    have hD := s.S.pos
    have hD2 := EM.D_le s.S hn6
    have hD0 : (EM.st W n i).D ≠ 0 := by omega
    have hc0 := s.c0
    have hc6 := s.c6
    have hE1 : 0 < (EM.st W n i).D * EM.cn W (EM.st W n i) := Int.mul_pos hD hc0
    have hE2 : (EM.st W n i).D * EM.cn W (EM.st W n i) ≤ 262144 * 6 := Int.mul_le_mul hD2 hc6 (by omega) (by decide)
    have hm0 := s.m0
    have hmD := s.mD
    have hT0 := s.S.T0
    have hT := EM.T_le s.S ok.n1
    have hcD : (EM.cs W (EM.st W n i)).D = (EM.st W n i).D * EM.cn W (EM.st W n i) := rfl
    have htl := Paired.len hts
    unfold stopsOf at htl
    rw [List.length_map, List.length_range] at htl
    refine ⟨xa, _, rfl, h1, rfl, _, _, rfl, _, _, rfl, _, _, rfl, rfl, ?_⟩
    obtain ⟨moa, rfl, hmo'⟩ := hmo
    obtain ⟨_, e0, h2'⟩ := id h2
    cases e0
    refine ⟨_, rfl, _, rfl, moa, l, _, _, rfl, hmo', h2', (Sz_redN (n := 30) hD0 (by omega) (by omega)).up (by decide), (Sz_redN (n := 30) (by omega) (by omega) (by omega)).up (by decide), fun p4 H4 S4 hp4 => ?_⟩
    rw [hcD, fAdd_next hD0 (by omega)] at hp4
    refine ⟨_, rfl, .inl ⟨rfl, _, SqL.of (S4 _ _ hp3)⟩, _, rfl, _, rfl, by show 2 ≤ sizeLine; decide, fun pr hpr => ?_⟩
    have S5 : Same H4 (upd H4 pr (.tup [.ref p4, .ref g])) := same_new hpr _
    have hpr5 : upd H4 pr (.tup [.ref p4, .ref g]) pr = some (.tup [.ref p4, .ref g]) := upd_same
    generalize upd H4 pr (.tup [.ref p4, .ref g]) = H5 at S5 hpr5 ⊢
    have S45 := S4.trans S5
    have hp5 := S45 _ _ hp3
    refine ⟨pt, ts, _, rfl, rfl, hp5, small1000 (by omega), ?_⟩
    have hF5 : IsF K H5 (.ref p4) (FQ.red (EM.st W n (i + 1)).T (EM.st W n (i + 1)).D) := ⟨p4, rfl, SqT.of (S5 _ _ hp4)⟩
    refine ⟨hi, (S3.trans S45).over hpt _, by rw [upd_ne hcp]; exact S45 _ _ hc3, Paired.mapP hcs3 (fun _ _ h => (h.mono S45).over hp5), ts ++ [.ref pr], .ref p4, _, _, _, rfl, upd_same, ?_, hF5.over hp5⟩
    unfold stopsOf
    rw [List.range_succ, List.map_append]
    refine Paired.app (Paired.mapP hts fun _ _ h => (h.mono S45).over hp5) (.cons (IsStop.over ?_ hp5) .nil)
    exact ⟨pr, p4, g, rfl, SqT.of hpr5, hF5, S45.tup h4⟩
  · obtain ⟨_, S3, hc3, hcs3, ts, mo, r3, r4, r5, rfl, hp3, hts, hmo⟩ := hP
    rw [hcl] at hts
    exact ⟨_, rfl, q pt ts N H' S3 hpt hp3 hN hts⟩
theorem sc_best_free : FnScope ["wish", "taken"] ["wish", "taken"] (defScope (top 25)) := ⟨rfl, rfl, rfl, by decide +kernel, rfl, by decide +kernel, by decide +kernel⟩
set_option maxHeartbeats 4000000 in
theorem d_best_free {P : Program} {w : World} {K : PySem.W.Frag} {mg : Str → Option Value} {base : Heap} {x : Xs} (M : Md K mg x) : Dn P w K mg base CX0 1 "best_free" ["wish", "taken"] (spBestFS K) := by
  have nd := (sc_best_free).nd
  refine M.f_best_free.ok sc_best_free (fun vs H Q E h => ?_) (fun _ _ _ _ _ _ us hl => match us, hl with | [_, _], _ => rfl) (fun f cdv A outer s H vs Q E hr h => ?_)
  · obtain ⟨w, l, row, ts, rfl, hw, hl, h63, hex, q⟩ := h
    rfl
  obtain ⟨w, l, row, ts, rfl, hw, hl, h63, hex, q⟩ := h
  refine ⟨_, (pss_one (ps_ret (pe_ix ix_list (pe_comp rfl (N := ["thing", "taken"]) (caps := [none, some 1]) (CompOk.of (by kernel_rfl)) (gk_name rfl) (pi_tup (pv 0)) (fun _ _ _ _ => (pg_name (i := 0) (show (["thing", "taken"] : List Str).Nodup by decide +kernel) rfl (Or.inl rfl) (Or.inr rfl))) (fun _ _ _ _ => (pts_one (pt_cmpR (op_notIn_seqK (K := K) rfl) (pv 0) (pv 1) (by with_unfolding_all rfl)))) (fun _ _ _ _ => (pv 0))) pe_int (fun _ _ => rfl)))), ?_⟩
  refine ⟨_, rfl, w, rfl, ⟨_, hw⟩, ?_⟩
  refine comp_tup (xs := row.map V.int) (fun j ys H' => H' = H ∧ ys = (leftIn (row.take j) ts).map V.int)
    ⟨rfl, rfl⟩ (fun j ys H' _ hP => by rw [hP.1]; exact hw) (fun j y ys H' hy hP => ?_) (fun ys H' hP pl hpl => ?_)
  · obtain ⟨rfl, rfl⟩ := hP
    rw [List.getElem?_map] at hy
    cases hri : row[j]? with
    | none => rw [hri] at hy; cases hy
    | some u =>
      rw [hri] at hy
      have hy' : V.int u = y := Option.some.inj hy
      subst hy'
      refine ⟨_, rfl, _, rfl, l, _, rfl, hl, rfl, flat_ints _, _, rfl, ?_⟩
      have hlen : ((leftIn (row.take j) ts).map V.int).length < sizeLine := by
        rw [List.length_map]
        have h1 := List.length_filter_le (fun t => !decide (t ∈ ts)) (row.take j)
        rw [List.length_take] at h1
        exact small1000 (by unfold leftIn; omega)
      show if (!inV (.int u) (ts.map V.int)) = true then _ else _
      unfold leftIn at hlen ⊢
      rw [inV_int, List.take_add_one, hri, List.filter_append, List.map_append]
      refine iteN2 (fun c => ?_) (fun c => ?_)
      · refine ⟨_, rfl, hlen, rfl, ?_⟩
        simp [c]
      · refine ⟨rfl, ?_⟩
        simp [c]
  · obtain ⟨rfl, rfl⟩ := hP
    rw [List.length_map, List.take_length]
    exact ⟨pl, _, 0, _, rfl, rfl, SqL.of upd_same, atI_ok (by decide) (by show _ = _; rw [show (0 : Int).toNat = 0 from rfl]; rw [List.getElem?_map, (bestF_get hex).1]; rfl), q _ (same_new hpl _)⟩
theorem sc_with_one : FnScope ["numbers", "number"] ["numbers", "number"] (defScope (top 26)) := ⟨rfl, rfl, rfl, by decide +kernel, rfl, by decide +kernel, by decide +kernel⟩
set_option maxHeartbeats 4000000 in
theorem d_with_one {P : Program} {w : World} {K : PySem.W.Frag} {mg : Str → Option Value} {base : Heap} {x : Xs} (M : Md K mg x) : Dn P w K mg base CX0 1 "with_one" ["numbers", "number"] (spWithOne K) := by
  have nd := (sc_with_one).nd
  refine M.f_with_one.ok sc_with_one (fun vs H Q E h => ?_) (fun _ _ _ _ _ _ us hl => match us, hl with | [_, _], _ => rfl) (fun f cdv A outer s H vs Q E hr h => ?_)
  · obtain ⟨a, ns, x, rfl, hA, h60, q⟩ := h
    rfl
  obtain ⟨a, ns, x, rfl, hA, h60, q⟩ := h
  refine ⟨_, (pss_one (ps_ret (pe_callTy call_tuple_of rfl M.b_tuple Boot.«tuple» (pa_cons (pe_callB (call_sorted) rfl M.b_sorted Boot.«sorted» (pa_cons (pe_op op_catE (pv 0) (pe_tup (pa_cons (pv 1) pa_nil))) pa_nil)) pa_nil)))), ?_⟩
  refine ⟨_, rfl, _, rfl, by show 1 ≤ sizeLine; decide, fun t1 ht1 => ?_⟩
  have S1 : Same H (upd H t1 (.tup [.int x])) := same_new ht1 _
  have h1 : SqT K (upd H t1 (.tup [.int x])) t1 (([x] : List Int).map V.int) := SqT.of upd_same
  generalize upd H t1 (.tup [.int x]) = H1 at S1 h1 ⊢
  refine cat_i (S1.tup hA) h1 (by simp; omega) fun p2 H2 S2 h2 => ?_
  refine ⟨p2, ns ++ [x], rfl, .inr h2, by simp; omega, fun l ns' hl hp hs => ?_⟩
  refine ⟨l, _, rfl, .inl ⟨SqL.of upd_same, fun p hp' => q p _ (S1.trans (S2.trans ((same_new hl _).trans (same_new hp' _)))) ?_⟩⟩
  rw [TM.srt_eq hp hs]
  exact SqT.of upd_same
theorem sc_turns_from : FnScope ["wishes", "gone", "taken", "people"] ["wishes", "gone", "taken"] (defScope (top 27)) := ⟨rfl, rfl, rfl, by decide +kernel, rfl, by decide +kernel, by decide +kernel⟩
set_option maxHeartbeats 4000000 in
theorem d_turns_from {P : Program} {w : World} {K : PySem.W.Frag} {mg : Str → Option Value} {base : Heap} {x : Xs} (M : Md K mg x)
    (Gbest_free : Dn P w K mg base CX0 1 "best_free" ["wish", "taken"] (spBestFS K)) : Dn P w K mg base CX0 2 "turns_from" ["wishes", "gone", "taken"] (spTurnsF K) := by
  have nd := (sc_turns_from).nd
  refine M.f_turns_from.ok sc_turns_from (fun vs H Q E h => ?_) (fun _ _ _ _ _ _ us hl => match us, hl with | [_, _, _], _ => rfl) (fun f cdv A outer s H vs Q E hr h => ?_)
  · obtain ⟨a, g, t, ws, W, n, key, rfl, hA, hW, ok, hg, ht, hkl, q⟩ := h
    rfl
  obtain ⟨a, g, t, ws, W, n, key, rfl, hA, hW, ok, hg, ht, hkl, q⟩ := h
  refine ⟨_, (pss_cons (ps_setComp (i := 3) nd rfl rfl rfl rfl (N := ["person", "gone"]) (caps := [none, some 1]) (CompOk.of (by kernel_rfl)) (gk_name rfl) (pi_range1 rfl M.b_range (pa_cons (pe_callB call_len_seq rfl M.b_len PySem.boot_len (pa_cons (pv 0) pa_nil)) pa_nil)) (fun _ _ _ _ => (pg_name (i := 0) (show (["person", "gone"] : List Str).Nodup by decide +kernel) rfl (Or.inl rfl) (Or.inr rfl))) (fun _ _ _ _ => (pts_one (pt_cmpR (op_notIn_seqK (K := K) rfl) (pv 0) (pv 1) (by with_unfolding_all rfl)))) (fun _ _ _ _ => (pv 0)))
      (pss_one (ps_ret (pe_comp rfl (N := ["person", "wishes", "taken"]) (caps := [none, some 0, some 2]) (CompOk.of (by kernel_rfl)) (gk_name rfl) (pi_list (pv 3)) (fun _ _ _ _ => (pg_name (i := 0) (show (["person", "wishes", "taken"] : List Str).Nodup by decide +kernel) rfl (Or.inl rfl) (Or.inr rfl))) (fun _ _ _ _ => pts_nil) (fun _ _ _ _ => (pe_tup (pa_cons (pv 0) (pa_cons (pe_fn Gbest_free hr (by decide) rfl pass0 (pa_cons (pe_ix (ix_listK (K := K) rfl) (pv 1) (pv 0) (fun _ _ => rfl)) (pa_cons (pv 2) pa_nil))) pa_nil)))))))), ?_⟩
  have hwl := Paired.len hW
  have hn1 := ok.lo
  have hn6 := ok.hi
  have hWn := ok.len
  have hwn : ws.length = n := by omega
  refine ⟨_, rfl, a, ws, rfl, .inl hA, _, rfl, by omega, by omega, ?_⟩
  refine comp_range (n := ws.length) (fun i ys H1 => H1 = H ∧ ys = (((LM.rng n).take i).filter fun p => !decide (p ∈ key.1)).map V.int) ⟨rfl, rfl⟩ (fun i ys H1 hi hP => ?_) (fun ys H1 hP D hD => ?_)
  · obtain ⟨rfl, rfl⟩ := hP
    have hri : (LM.rng n)[i]? = some (i : Int) := by unfold LM.rng; rw [List.getElem?_map, List.getElem?_range (by omega)]; rfl
    have hlen : ((((LM.rng n).take i).filter fun p => !decide (p ∈ key.1)).map V.int).length < sizeLine := by
      rw [List.length_map]
      have h1 := List.length_filter_le (fun p => !decide (p ∈ key.1)) ((LM.rng n).take i)
      rw [List.length_take] at h1
      exact small1000 (by omega)
    refine ⟨_, rfl, _, rfl, g, _, rfl, .inr hg, rfl, flat_ints _, _, rfl, ?_⟩
    show if (!inV (.int (0 + (i : Int))) (key.1.map V.int)) = true then _ else _
    rw [Int.zero_add, inV_int, List.take_add_one, hri, List.filter_append, List.map_append]
    refine iteN2 (fun c => ?_) (fun c => ?_)
    · refine ⟨_, rfl, hlen, rfl, ?_⟩
      simp [c]
    · refine ⟨rfl, ?_⟩
      simp [c]
  obtain ⟨rfl, rfl⟩ := hP
  rw [List.take_of_length_le (by rw [LM.rng_len]; omega), show List.filter (fun p => !decide (p ∈ key.1)) (LM.rng n) = TM.freeP n key.1 from rfl]
  have S2 : Same H1 (upd H1 D (.lst ((TM.freeP n key.1).map V.int))) := same_new hD _
  have hD2 : SqL K (upd H1 D (.lst ((TM.freeP n key.1).map V.int))) D ((TM.freeP n key.1).map V.int) := SqL.of upd_same
  generalize upd H1 D (.lst ((TM.freeP n key.1).map V.int)) = H2 at S2 hD2 ⊢
  refine ⟨_, rfl, D, rfl, ⟨_, hD2⟩, ?_⟩
  refine comp_list1 (xs := (TM.freeP n key.1).map V.int) (fun j ys H3 => Same H2 H3 ∧ Paired (IsF K H3) ys ((turnsK n W key).take j)) ⟨Same.refl _, by rw [List.take_zero]; exact .nil⟩ (fun j ys H3 _ hP => hP.1.seq hD2) (fun j y ys H3 hy hP => ?_) (fun ys H3 hP De hDe => ?_)
  · obtain ⟨S3, hys⟩ := hP
    have hj : j < (TM.freeP n key.1).length := by have := (List.getElem?_eq_some_iff.mp hy).1; rw [List.length_map] at this; exact this
    obtain ⟨p, hp⟩ : ∃ p, (TM.freeP n key.1)[j]? = some p := ⟨_, List.getElem?_eq_getElem hj⟩
    rw [List.getElem?_map, hp] at hy
    cases hy
    have hpm := LM.mem_rng.mp (List.mem_filter.mp (List.mem_of_getElem? hp)).1
    have hpw : p.toNat < W.length := by omega
    have hwpm := ok.pm _ (List.getElem_mem hpw)
    have eW : W.getD p.toNat [] = W[p.toNat] := HM.getD_lt hpw
    obtain ⟨wv, hwv, hwR⟩ := Paired.get hW (List.getElem?_eq_getElem hpw)
    obtain ⟨wa, rfl, hwa⟩ := hwR.mono (S2.trans S3)
    have hyl := Paired.len hys
    rw [List.length_take] at hyl
    have hfl : (TM.freeP n key.1).length ≤ n := by
      have h1 := List.length_filter_le (fun p => !decide (p ∈ key.1)) (LM.rng n)
      rw [LM.rng_len] at h1
      exact h1
    have et : (turnsK n W key)[j]? = some (p, bestF W[p.toNat] key.2) := by
      unfold turnsK
      rw [List.getElem?_map, hp]
      show some (p, bestP W p key.2) = _
      unfold bestP
      rw [eW]
    have hwlen := hwpm.len
    generalize W[p.toNat] = row at hwa hwpm et hwlen
    refine ⟨_, rfl, _, rfl, _, rfl, a, ws, _, _, rfl, rfl, (S2.trans S3).seq hA, atI_ok hpm.1 hwv, _, rfl, wa, t, row, key.2, rfl, hwa, .inr ((S2.trans S3).tup ht), by omega, free_ex hwpm hkl, fun H4 S4 => ⟨by show 2 ≤ sizeLine; decide, fun pt hpt => ⟨small1000 (by omega), S3.trans (S4.trans (same_new hpt _)), ?_⟩⟩⟩
    rw [List.take_add_one, et]
    exact Paired.app (fracs_mono (S4.trans (same_new hpt _)) hys) (.cons ⟨pt, rfl, SqT.of upd_same⟩ .nil)
  · obtain ⟨S3, hys⟩ := hP
    rw [List.take_of_length_le (by unfold turnsK; rw [List.length_map, List.length_map]; exact Nat.le_refl _)] at hys
    exact q De ys _ (S2.trans (S3.trans (same_new hDe _))) ((S2.trans S3).free hDe) upd_same (fracs_mono (same_new hDe _) hys)
theorem sc_orders_of : FnScope ["count", "orders", "number"] ["count"] (defScope (top 28)) := ⟨rfl, rfl, rfl, by decide +kernel, rfl, by decide +kernel, by decide +kernel⟩
set_option maxHeartbeats 4000000 in
theorem d_orders_of {P : Program} {w : World} {K : PySem.W.Frag} {mg : Str → Option Value} {base : Heap} {x : Xs} (M : Md K mg x) : Dn P w K mg base CX0 1 "orders_of" ["count"] (spOrdersOf) := by
  have nd := (sc_orders_of).nd
  refine M.f_orders_of.ok sc_orders_of (fun vs H Q E h => ?_) (fun _ _ _ _ _ _ us hl => match us, hl with | [_], _ => rfl) (fun f cdv A outer s H vs Q E hr h => ?_)
  · obtain ⟨k, rfl, hk, q⟩ := h
    rfl
  obtain ⟨k, rfl, hk, q⟩ := h
  refine ⟨_, (pss_cons (ps_set (i := 1) nd rfl (Or.inl rfl) pe_int)
      (pss_cons (ps_for PassesOwn.never rfl (pi_range2 rfl M.b_range (pa_cons pe_int (pa_cons (pe_op op_add (pv 0) pe_int) pa_nil))) (pg_name (i := 2) nd rfl (Or.inl rfl)) (pss_one (ps_set (i := 1) nd rfl (Or.inl rfl) (pe_op op_mulB (pv 1) (pv 2)))))
      (pss_one (ps_ret (pv 1))))), ?_⟩
  refine ⟨_, rfl, _, _, rfl, rfl, _, _, rfl, ⟨by omega, by omega, by omega, by omega⟩, ?_⟩
  have e : ((k : Int) + 1 - 1).toNat = k := by omega
  show ∃ _, _
  rw [e]
  refine for_range (n := k) (fun i σ H' => H' = H ∧ ∃ r, σ = [some (.int k), some (.int (TM.fct i)), r]) ⟨rfl, _, rfl⟩ (fun i σ H' hi hP => ?_) (fun σ H' hP => ?_)
  · obtain ⟨rfl, r, rfl⟩ := hP
    refine ⟨_, rfl, _, rfl, _, _, rfl, rfl, mulR (by omega), rfl, some (.int (1 + (i : Int))), ?_⟩
    rw [show TM.fct (i + 1) = TM.fct i * (1 + (i : Int)) by show TM.fct i * ((i : Int) + 1) = _; rw [Int.add_comm (i : Int) 1]]
    rfl
  · obtain ⟨rfl, r, rfl⟩ := hP
    exact ⟨_, rfl, q⟩
theorem sc_counts_of : FnScope ["wishes", "counts", "beginnings", "turn", "endings", "longer", "beginning", "number", "person", "thing", "state"] ["wishes"] (defScope (top 29)) := ⟨rfl, rfl, rfl, by decide +kernel, rfl, by decide +kernel, by decide +kernel⟩
set_option maxHeartbeats 4000000 in
theorem d_counts_of {P : Program} {w : World} {K : PySem.W.Frag} {mg : Str → Option Value} {base : Heap} {x : Xs} (M : Md K mg x)
    (Gorders_of : Dn P w K mg base CX0 1 "orders_of" ["count"] (spOrdersOf))
    (Gturns_from : Dn P w K mg base CX0 2 "turns_from" ["wishes", "gone", "taken"] (spTurnsF K))
    (Gwith_one : Dn P w K mg base CX0 1 "with_one" ["numbers", "number"] (spWithOne K)) : Dn P w K mg base CX0 3 "counts_of" ["wishes"] (spCounts P w K) := by
  have nd := (sc_counts_of).nd
  refine M.f_counts_of.ok sc_counts_of (fun vs H Q E h => ?_) (fun _ _ _ _ _ _ us hl => match us, hl with | [_], _ => rfl) (fun f cdv A outer s H vs Q E hr h => ?_)
  · obtain ⟨a, ws, W, n, rfl, hA, hW, ok, q⟩ := h
    rfl
  obtain ⟨a, ws, W, n, rfl, hA, hW, ok, q⟩ := h
  refine ⟨_, (pss_cons (ps_set (i := 1) nd rfl (Or.inl rfl) (pe_xnew (W := keyR) (P := P) (w := w) (K := K) rfl rfl rfl))
      (pss_cons (ps_set (i := 2) nd rfl (Or.inl rfl) (pe_xnew1 (W := keyP) (P := P) (w := w) (K := K) rfl rfl rfl hr (pe_tup (pa_cons (pe_tup pa_nil) (pa_cons (pe_tup pa_nil) pa_nil))) pe_int))
      (pss_cons (ps_for PassesOwn.never rfl (pi_range1 rfl M.b_range (pa_cons (pe_callB call_len_seq rfl M.b_len PySem.boot_len (pa_cons (pv 0) pa_nil)) pa_nil)) (pg_name (i := 3) nd rfl (Or.inl rfl)) (pss_cons (ps_set (i := 4) nd rfl (Or.inl rfl) (pe_fn Gorders_of hr (by decide) rfl pass0 (pa_cons (pe_op op_sub (pe_op op_sub (pe_callB call_len_seq rfl M.b_len PySem.boot_len (pa_cons (pv 0) pa_nil)) (pv 3)) pe_int) pa_nil)))
      (pss_cons (ps_set (i := 5) nd rfl (Or.inl rfl) (pe_xnew (W := keyP) (P := P) (w := w) (K := K) rfl rfl rfl))
      (pss_cons (ps_for PassesOwn.never rfl (pi_items (W := keyP) (P := P) (w := w) (K := K) rfl rfl rfl (pv 2)) (pg_tup rfl (pgs_cons (pg_name (i := 6) nd rfl (Or.inl rfl)) (pgs_cons (pg_name (i := 7) nd rfl (Or.inl rfl)) pgs_nil))) (pss_one (ps_for PassesOwn.never rfl (pi_list (pe_fn Gturns_from hr (by decide) rfl pass0 (pa_cons (pv 0) (pa_cons (pe_ix ix_tup (pv 6) pe_int (fun _ _ => rfl)) (pa_cons (pe_ix ix_tup (pv 6) pe_int (fun _ _ => rfl)) pa_nil))))) (pg_tup rfl (pgs_cons (pg_name (i := 8) nd rfl (Or.inl rfl)) (pgs_cons (pg_name (i := 9) nd rfl (Or.inl rfl)) pgs_nil))) (pss_cons (ps_asg (pe_op op_add (pe_xget (W := keyR) (P := P) (w := w) (K := K) rfl rfl rfl hr (pv 1) (pe_tup (pa_cons (pv 8) (pa_cons (pv 9) pa_nil))) pe_int) (pe_op op_mulB (pv 7) (pv 4))) (pg_sub (pv 1) (pe_tup (pa_cons (pv 8) (pa_cons (pv 9) pa_nil))) (set_x (W := keyR) (P := P) (w := w) (K := K) rfl rfl rfl hr)))
      (pss_cons (ps_set (i := 10) nd rfl (Or.inl rfl) (pe_tup (pa_cons (pe_fn Gwith_one hr (by decide) rfl pass0 (pa_cons (pe_ix ix_tup (pv 6) pe_int (fun _ _ => rfl)) (pa_cons (pv 8) pa_nil))) (pa_cons (pe_fn Gwith_one hr (by decide) rfl pass0 (pa_cons (pe_ix ix_tup (pv 6) pe_int (fun _ _ => rfl)) (pa_cons (pv 9) pa_nil))) pa_nil))))
      (pss_one (ps_asg (pe_op op_add (pe_xget (W := keyP) (P := P) (w := w) (K := K) rfl rfl rfl hr (pv 5) (pv 10) pe_int) (pv 7)) (pg_sub (pv 5) (pv 10) (set_x (W := keyP) (P := P) (w := w) (K := K) rfl rfl rfl hr)))))))))
      (pss_one (ps_set (i := 2) nd rfl (Or.inl rfl) (pv 5)))))))
      (pss_one (ps_ret (pv 1)))))), ?_⟩
  have hwl := Paired.len hW
  have hn1 := ok.lo
  have hn6 := ok.hi
  have hWn := ok.len
  have hwn : ws.length = n := by omega
  have small0 : (0 : Nat) ≤ sizeLine := by decide
  have small2 : (2 : Nat) ≤ sizeLine := by decide
  refine fun c H1 hc0 hφ1 hC0 => ?_
  have S1 : Same H H1 := by obtain ⟨φ, rfl⟩ := hφ1; exact same_new hc0 _
  clear hφ1
  refine fun bg H2 hb0 hφ2 hB0 => ?_
  have hb00 : H bg = none := S1.free hb0
  have S2 : Same H1 H2 := by obtain ⟨φ, rfl⟩ := hφ2; exact same_new hb0 _
  have hcb : c ≠ bg := fun z => by obtain ⟨φ, e⟩ := hC0.ext; rw [z, hb0] at e; cases e
  clear hφ2
  refine ⟨small0, fun p1 hp1 => ⟨small0, fun p2 hp2 => ⟨small2, fun p3 hp3 => ?_⟩⟩⟩
  have S3 : Same H2 (upd (upd (upd H2 p1 (.tup [])) p2 (.tup [])) p3 (.tup [.ref p1, .ref p2])) := (same_new hp1 _).trans ((same_new hp2 _).trans (same_new hp3 _))
  have h31 : SqT K (upd (upd (upd H2 p1 (.tup [])) p2 (.tup [])) p3 (.tup [.ref p1, .ref p2])) p3 [.ref p1, .ref p2] := SqT.of upd_same
  have h32 : SqT K (upd (upd (upd H2 p1 (.tup [])) p2 (.tup [])) p3 (.tup [.ref p1, .ref p2])) p1 (([] : List Int).map V.int) := SqT.of (same_new hp3 _ _ _ (same_new hp2 _ _ _ upd_same))
  have h33 : SqT K (upd (upd (upd H2 p1 (.tup [])) p2 (.tup [])) p3 (.tup [.ref p1, .ref p2])) p2 (([] : List Int).map V.int) := SqT.of (same_new hp3 _ _ _ upd_same)
  generalize upd (upd (upd H2 p1 (.tup [])) p2 (.tup [])) p3 (.tup [.ref p1, .ref p2]) = H3 at S3 h31 h32 h33 ⊢
  refine ⟨p3, ([], []), 1, rfl, rfl, ⟨p1, p2, h31, h32, h33⟩, hB0.mono S3, fun H4 hφ4 hB4 => ?_⟩
  have hb3 := (hB0.mono S3).ext
  have X4 : KX [bg] H3 H4 := KX.put (fun b hb => by rw [List.mem_singleton.mp hb]; exact hb3) (List.mem_singleton.mpr rfl) hφ4
  have S04 : Same H H4 := X4.same (S1.trans (S2.trans S3)) fun b hb => by rw [List.mem_singleton.mp hb]; exact hb00
  have hC4 : DictI keyR P w K H4 c [] := by
    obtain ⟨ep, hC⟩ := hC0
    exact ⟨ep, X4.dict (hC.mono (S2.trans S3)) (fun z => hcb (List.mem_singleton.mp z))⟩
  clear X4 hφ4 hb3 S3 h31 h32 h33 hB0 hC0 S1 S2 hp1 hp2 hp3 hb0
  refine ⟨_, rfl, a, ws, rfl, .inl (S04.seq hA), _, rfl, by omega, by omega, ?_⟩
  refine for_range (n := ws.length) (fun k σ H5 => Same H H5 ∧ ∃ (bg : Addr) (C : List (List Int × Int)) (B : List (PKey × Int)) (r3 r4 r5 r6 r7 r8 r9 r10 : Option V), σ = [some (.ref a), some (.ref c), some (.ref bg), r3, r4, r5, r6, r7, r8, r9, r10] ∧ H bg = none ∧ c ≠ bg ∧
      DictI keyR P w K H5 c C ∧ CI n W k C ∧ DictI keyP P w K H5 bg B ∧ BI n W k B)
    ⟨S04, bg, [], _, _, _, _, _, _, _, _, _, rfl, hb00, hcb, hC4, CI.zero, hB4, BI.zero⟩ (fun k σ H5 hk hP => ?_) (fun σ H5 hP => ?_)
  · clear S04 hC4 hB4 hcb hb00
    obtain ⟨S5, bg, C, B, r3, r4, r5, r6, r7, r8, r9, r10, rfl, hb0, hcb, hC, hCI, hB, hBI⟩ := hP
    have hkn : k < n := by omega
    refine ⟨_, rfl, a, ws, rfl, .inl (S5.seq hA), _, rfl, _, _, rfl, rfl, _, _, rfl, rfl, n - (k + 1), by show [V.int _] = [V.int _]; rw [show (ws.length : Int) - (0 + (k : Int)) - 1 = ((n - (k + 1) : Nat) : Int) by omega], by omega, ?_⟩
    have hft := fct_le (show n - (k + 1) ≤ 6 by omega)
    refine fun lg H6 hl0 hφ6 hL0 => ?_
    have hlH : H lg = none := S5.free hl0
    have S6 : Same H5 H6 := by obtain ⟨φ, rfl⟩ := hφ6; exact same_new hl0 _
    have hcl : c ≠ lg := fun z => by obtain ⟨φ, e⟩ := hC.ext; rw [z, hl0] at e; cases e
    have hbl : bg ≠ lg := fun z => by obtain ⟨φ, e⟩ := hB.ext; rw [z, hl0] at e; cases e
    clear hφ6
    obtain ⟨ep, hBe⟩ := hB.mono S6
    have hbad : bg ∉ [c, lg] := fun z => by
      rcases List.mem_cons.mp z with z | z
      · exact hcb z.symm
      · exact hbl (List.mem_singleton.mp z)
    have hfr : ∀ b ∈ [c, lg], H b = none := fun b hb => by
      rcases List.mem_cons.mp hb with z | z
      · rw [z]; exact hc0
      · rw [List.mem_singleton.mp z]; exact hlH
    have exts : ∀ {H' : Hp} {C : List (List Int × Int)} {L : List (PKey × Int)}, DictI keyR P w K H' c C → DictI keyP P w K H' lg L → ∀ b ∈ [c, lg], ∃ φ, H' b = some (.ext φ) := fun h1 h2 b hb => by
      rcases List.mem_cons.mp hb with z | z
      · rw [z]; exact h1.ext
      · rw [List.mem_singleton.mp z]; exact h2.ext
    refine ⟨_, rfl, bg, ep, B, rfl, hBe, ?_⟩
    refine for_items (kvs := B) (fun i σ H7 => Same H H7 ∧ DictE keyP P w K H7 bg ep B ∧ ∃ (C' : List (List Int × Int)) (L : List (PKey × Int)) (r6 r7 r8 r9 r10 : Option V), σ = [some (.ref a), some (.ref c), some (.ref bg), some (.int (0 + (k : Int))), some (.int (TM.fct (n - (k + 1)))), some (.ref lg), r6, r7, r8, r9, r10] ∧
        DictI keyR P w K H7 c C' ∧ DictI keyP P w K H7 lg L ∧ TI0 n W k B i C' L)
      ⟨S5.trans S6, hBe, C, [], _, _, _, _, _, rfl, hC.mono S6, hL0, TI0.start hCI⟩ (fun i σ H7 _ hP => hP.2.1) (fun i key num ka σ H7 t hkv hka ht hP => ?_) (fun σ H7 hP => ?_)
    · obtain ⟨S7, hBe7, C', L, r6', r7', r8', r9', r10', rfl, hC7, hL7, hT⟩ := hP
      obtain ⟨kx, ky, h71, h72, h73⟩ := hka
      obtain ⟨π, hπ, ekey⟩ := hBI.key _ (List.mem_of_getElem? hkv)
      have I := TM.pre_ok hπ
      have hk1 : key.1.length = k := by rw [show key = keyOf W π from ekey]; show (TM.srt π).length = k; rw [srt_len, I.len]
      have hk2 : key.2.length = k := by rw [show key = keyOf W π from ekey]; show (TM.srt (tkA W π)).length = k; rw [srt_len]; unfold tkA; rw [tk_len, I.len]
      have S8 : Same H7 (upd H7 t (.tup [.ref ka, .int num])) := same_new ht _
      have htt : upd H7 t (.tup [.ref ka, .int num]) t = some (.tup [.ref ka, .int num]) := upd_same
      generalize upd H7 t (.tup [.ref ka, .int num]) = H8 at S8 htt ⊢
      refine ⟨t, _, rfl, SqT.of htt, rfl, _, _, rfl, _, _, rfl, rfl, ?_⟩
      refine ⟨_, rfl, _, rfl, ka, _, 0, _, rfl, rfl, S8.tup h71, rfl, _, rfl, ka, _, 1, _, rfl, rfl, S8.tup h71, rfl, a, kx, ky, ws, W, n, key, rfl, (S7.trans S8).seq hA, Paired.mapP hW (fun _ _ h => h.mono (S7.trans S8)), ok, S8.tup h72, S8.tup h73, by omega, fun tl ls H9 S9 htl0 htl hls => ?_⟩
      have S79 := S8.trans S9
      have hll := Paired.len hls
      have htn6 : (turnsK n W key).length ≤ 6 := by
        unfold turnsK TM.freeP
        rw [List.length_map]
        have h1 := List.length_filter_le (fun p => !decide (p ∈ key.1)) (LM.rng n)
        rw [LM.rng_len] at h1
        omega
      have ex9 := exts (hC7.mono S79) (hL7.mono S79)
      refine ⟨tl, rfl, ⟨_, SqL.of htl⟩, ?_⟩
      refine for_list (xs := ls) (fun j σ HA => KX [c, lg] H9 HA ∧ ∃ (C' : List (List Int × Int)) (L : List (PKey × Int)) (r8 r9 r10 : Option V), σ = [some (.ref a), some (.ref c), some (.ref bg), some (.int (0 + (k : Int))), some (.int (TM.fct (n - (k + 1)))), some (.ref lg), some (.ref ka), some (.int num), r8, r9, r10] ∧
          DictI keyR P w K HA c C' ∧ DictI keyP P w K HA lg L ∧ TJ n W k B i key num j C' L)
        ⟨KX.refl ex9, C', L, _, _, _, rfl, hC7.mono S79, hL7.mono S79, hT key num⟩ (fun j σ HA _ hP => SqL.of (hP.1.lst htl)) (fun j v σ HA hv hP => ?_) (fun σ HA hP => ?_)
      · obtain ⟨XA, C', L, r8', r9', r10', rfl, hCA, hLA, hTJ⟩ := hP
        obtain ⟨pt, hpt, pa, rfl, hpa⟩ := Paired.get' hls hv
        have hj6 : j < 6 := by have := (List.getElem?_eq_some_iff.mp hpt).1; omega
        have hi7 : i ≤ 7776 := by
          have h1 := (List.getElem?_eq_some_iff.mp hkv).1
          have h2 : 6 ^ k ≤ 6 ^ 5 := Nat.pow_le_pow_right (by decide) (by omega)
          have h3 := hBI.len
          have h4 : (6 : Nat) ^ 5 = 7776 := by decide
          omega
        have hcl' : C'.length ≤ 1000000 := by have := hTJ.cl; omega
        have hll' : L.length ≤ 1000000 := by have := hTJ.ll; omega
        refine ⟨pa, _, rfl, XA.tup hpa, rfl, _, _, rfl, _, _, rfl, rfl, ?_⟩
        -- the count
        refine ⟨_, rfl, c, rfl, ⟨_, hCA⟩, _, rfl, _, rfl, small2, fun pk hpk => ?_⟩
        have SB : Same HA (upd HA pk (.tup [.int pt.1, .int pt.2])) := same_new hpk _
        have hpkB : SqT K (upd HA pk (.tup [.int pt.1, .int pt.2])) pk (([pt.1, pt.2] : List Int).map V.int) := SqT.of upd_same
        generalize upd HA pk (.tup [.int pt.1, .int pt.2]) = HB at SB hpkB ⊢
        refine ⟨pk, [pt.1, pt.2], 0, C', rfl, rfl, hCA.mono SB, hpkB, ?_⟩
        refine ⟨_, rfl, _, rfl, _, _, rfl, rfl, mulR (by omega), _, _, rfl, rfl, ?_⟩
        refine ⟨_, rfl, _, rfl, _, rfl, small2, fun pk2 hpk2 => ?_⟩
        have SC : Same HB (upd HB pk2 (.tup [.int pt.1, .int pt.2])) := same_new hpk2 _
        have hpkC : SqT K (upd HB pk2 (.tup [.int pt.1, .int pt.2])) pk2 (([pt.1, pt.2] : List Int).map V.int) := SqT.of upd_same
        generalize upd HB pk2 (.tup [.int pt.1, .int pt.2]) = HC at SC hpkC ⊢
        refine ⟨c, pk2, [pt.1, pt.2], _, C', rfl, rfl, rfl, hCA.mono (SB.trans SC), hpkC, hcl', fun HD hφD hCD => ?_⟩
        have SAC := SB.trans SC
        have exC := exts (hCA.mono SAC) (hLA.mono SAC)
        have XD : KX [c, lg] HA HD := (KX.of SAC XA.is).trans (KX.put exC List.mem_cons_self hφD)
        have hLD : DictI keyP P w K HD lg L := by
          obtain ⟨e2, hL⟩ := hLA.mono SAC
          obtain ⟨φ, φ', h1, rfl⟩ := hφD
          exact ⟨e2, hL.overX h1 (Ne.symm hcl)⟩
        clear hφD exC hpkC hpkB SB SC SAC hpk hpk2
        -- the state
        have X9D := XA.trans XD
        have h9k := X9D.tup ((S79).tup h71)
        refine ⟨_, rfl, ka, _, 0, _, rfl, rfl, h9k, rfl, _, rfl, kx, key.1, pt.1, rfl, X9D.tup (S79.tup h72), by omega, fun q1 HE SE hq1 => ?_⟩
        refine ⟨_, rfl, ka, _, 1, _, rfl, rfl, SE.tup h9k, rfl, _, rfl, ky, key.2, pt.2, rfl, SE.tup (X9D.tup (S79.tup h73)), by omega, fun q2 HF SF hq2 => ?_⟩
        refine ⟨small2, fun qs hqs => ?_⟩
        have SG : Same HD (upd HF qs (.tup [.ref q1, .ref q2])) := SE.trans (SF.trans (same_new hqs _))
        have hst : keyP.at' K (upd HF qs (.tup [.ref q1, .ref q2])) (nextK key pt) qs := ⟨q1, q2, SqT.of upd_same, (SF.trans (same_new hqs _)).tup hq1, (same_new hqs _).tup hq2⟩
        generalize upd HF qs (.tup [.ref q1, .ref q2]) = HG at SG hst ⊢
        have hLG := hLD.mono SG
        refine ⟨_, rfl, lg, rfl, ⟨_, hLG⟩, _, rfl, qs, nextK key pt, 0, L, rfl, rfl, hLG, hst, ?_⟩
        refine ⟨_, rfl, _, _, rfl, rfl, ?_⟩
        refine ⟨_, rfl, _, rfl, lg, qs, nextK key pt, _, L, rfl, rfl, rfl, hLG, hst, hll', fun HI hφI hLI => ?_⟩
        have hCG := hCD.mono SG
        have exG := exts hCG hLG
        have XI : KX [c, lg] HD HI := (KX.of SG XD.is).trans (KX.put exG (List.mem_cons_of_mem _ (List.mem_singleton.mpr rfl)) hφI)
        have hCIx : DictI keyR P w K HI c (addD C' [pt.1, pt.2] (num * TM.fct (n - (k + 1)))) := by
          obtain ⟨e2, hC⟩ := hCG
          obtain ⟨φ, φ', h1, rfl⟩ := hφI
          exact ⟨e2, hC.overX h1 hcl⟩
        refine ⟨X9D.trans XI, _, _, _, _, _, rfl, hCIx, hLI, hTJ.step hpt ?_⟩
        rw [show key = keyOf W π from ekey]
        exact key_next hπ (by rw [← show key = keyOf W π from ekey]; exact List.mem_of_getElem? hpt)
      · obtain ⟨XA, C', L, r8', r9', r10', rfl, hCA, hLA, hTJ⟩ := hP
        rw [hll] at hTJ
        refine ⟨XA.same (S7.trans S79) hfr, XA.dict (hBe7.mono S79) hbad, C', L, _, _, _, _, _, rfl, hCA, hLA, hTJ.done hkv htn6⟩
    · obtain ⟨S7, hBe7, C', L, r6', r7', r8', r9', r10', rfl, hC7, hL7, hT⟩ := hP
      obtain ⟨hCI', hBI'⟩ := TI0.finish hBI (by omega) hT
      exact ⟨_, rfl, S7, lg, C', L, _, _, _, _, _, _, _, _, rfl, hlH, hcl, hC7, hCI', hL7, hBI'⟩
  · obtain ⟨S5, bg, C, B, r3, r4, r5, r6, r7, r8, r9, r10, rfl, hb0, hcb, hC, hCI, hB, hBI⟩ := hP
    rw [hwn] at hCI
    exact ⟨_, rfl, q c C H5 S5 hC hCI⟩
theorem sc_shares_by_turns : FnScope ["counts", "person", "count", "orders"] ["counts", "person", "count"] (defScope (top 30)) := ⟨rfl, rfl, rfl, by decide +kernel, rfl, by decide +kernel, by decide +kernel⟩
set_option maxHeartbeats 4000000 in
theorem d_shares_by_turns {P : Program} {w : World} {K : PySem.W.Frag} {mg : Str → Option Value} {base : Heap} {x : Xs} (M : Md K mg x)
    (Gorders_of : Dn P w K mg base CX0 1 "orders_of" ["count"] (spOrdersOf))
    (Gfraction : Dn P w K mg base (CXE P w) 2 "fraction" ["top", "bottom"] (spFractionE x)) : Dn P w K mg base CX0 3 "shares_by_turns" ["counts", "person", "count"] (spShares P w K) := by
  have nd := (sc_shares_by_turns).nd
  refine M.f_shares_by_turns.ok sc_shares_by_turns (fun vs H Q E h => ?_) (fun _ _ _ _ _ _ us hl => match us, hl with | [_, _, _], _ => rfl) (fun f cdv A outer s H vs Q E hr h => ?_)
  · obtain ⟨d, C, W, n, p, rfl, hC, hCI, hn6, q⟩ := h
    rfl
  obtain ⟨d, C, W, n, p, rfl, hC, hCI, hn6, q⟩ := h
  refine ⟨_, (pss_cons (ps_set (i := 3) nd rfl (Or.inr rfl) (pe_fn Gorders_of hr (by decide) rfl pass0 (pa_cons (pv 2) pa_nil)))
      (pss_one (ps_ret (pe_callTy call_tuple_of rfl M.b_tuple Boot.«tuple» (pa_cons (pe_comp rfl (N := ["thing", "counts", "person", "orders"]) (caps := [none, some 0, some 1, some 3]) (CompOk.of (by kernel_rfl)) (gk_name rfl) (pi_range1 rfl M.b_range (pa_cons (pv 2) pa_nil)) (fun _ _ _ _ => (pg_name (i := 0) (show (["thing", "counts", "person", "orders"] : List Str).Nodup by decide +kernel) rfl (Or.inl rfl) (Or.inr rfl))) (fun _ _ _ _ => pts_nil) (fun _ _ _ _ => (pe_fn Gfraction hr (by decide) rfl passN (pa_cons (pe_xget (W := keyR) (P := P) (w := w) (K := K) rfl rfl rfl hr (pv 1) (pe_tup (pa_cons (pv 2) (pa_cons (pv 0) pa_nil))) pe_int) (pa_cons (pv 3) pa_nil))))) pa_nil))))), ?_⟩
  have hf := fct_le hn6
  refine ⟨_, rfl, n, rfl, hn6, ?_⟩
  refine ⟨_, rfl, _, rfl, by omega, by omega, ?_⟩
  refine comp_range1 (n := n) (fun i ys H1 => Same H H1 ∧ Paired (IsF K H1) ys ((shareR n W p).take i)) ⟨Same.refl _, by rw [List.take_zero]; exact .nil⟩ (fun i ys H1 hi hP => ?_) (fun ys H1 hP D hD => ?_)
  · obtain ⟨S1, hys⟩ := hP
    have hyl := Paired.len hys
    rw [List.length_take] at hyl
    refine ⟨_, rfl, d, rfl, ⟨_, hC.mono S1⟩, _, rfl, _, rfl, by show 2 ≤ sizeLine; decide, fun pk hpk => ?_⟩
    rw [Int.zero_add]
    have S2 : Same H1 (upd H1 pk (.tup [.int p, .int (i : Int)])) := same_new hpk _
    have hpk2 : SqT K (upd H1 pk (.tup [.int p, .int (i : Int)])) pk (([p, (i : Int)] : List Int).map V.int) := SqT.of upd_same
    generalize upd H1 pk (.tup [.int p, .int (i : Int)]) = H2 at S2 hpk2 ⊢
    refine ⟨pk, [p, (i : Int)], 0, C, rfl, rfl, hC.mono (S1.trans S2), hpk2, _, rfl, getD0 C [p, (i : Int)], TM.fct n, rfl, fun z => by omega, fun _ => ⟨size_up (m := 30) (by omega) (by decide), fun pf H3 S3 hpf => ⟨small1000 (by omega), S1.trans (S2.trans S3), ?_⟩⟩⟩
    rw [ind_pair C hCI.kn n W hCI.sum] at hpf
    rw [List.take_add_one, show (shareR n W p)[i]? = some (FQ.red (cnt42 n W (fun l => ind p i (l.getD 0 0) (l.getD 1 0)) n) (TM.fct n)) by unfold shareR; rw [List.getElem?_map, List.getElem?_range hi]; rfl]
    exact Paired.app (fracs_mono (S2.trans S3) hys) (.cons ⟨pf, rfl, SqT.of hpf⟩ .nil)
  · obtain ⟨S1, hys⟩ := hP
    rw [List.take_of_length_le (by rw [shareR_len]; exact Nat.le_refl _)] at hys
    have SD := same_new hD (.lst ys)
    exact ⟨D, ys, rfl, .inl ⟨SqL.of upd_same, fun qq hq => q qq ys _ (S1.trans (SD.trans (same_new hq _))) (S1.free (SD.free hq)) upd_same (fracs_mono (SD.trans (same_new hq _)) hys)⟩⟩
theorem sc_by_turns : FnScope ["wishes", "counts"] ["wishes"] (defScope (top 31)) := ⟨rfl, rfl, rfl, by decide +kernel, rfl, by decide +kernel, by decide +kernel⟩
set_option maxHeartbeats 4000000 in
theorem d_by_turns {P : Program} {w : World} {K : PySem.W.Frag} {mg : Str → Option Value} {base : Heap} {x : Xs} (M : Md K mg x)
    (Gcounts_of : Dn P w K mg base CX0 3 "counts_of" ["wishes"] (spCounts P w K))
    (Gshares_by_turns : Dn P w K mg base CX0 3 "shares_by_turns" ["counts", "person", "count"] (spShares P w K)) : Dn P w K mg base CX0 4 "by_turns" ["wishes"] (spByTurns K) := by
  have nd := (sc_by_turns).nd
  refine M.f_by_turns.ok sc_by_turns (fun vs H Q E h => ?_) (fun _ _ _ _ _ _ us hl => match us, hl with | [_], _ => rfl) (fun f cdv A outer s H vs Q E hr h => ?_)
  · obtain ⟨a, ws, W, n, rfl, hA, hW, ok, q⟩ := h
    rfl
  obtain ⟨a, ws, W, n, rfl, hA, hW, ok, q⟩ := h
  refine ⟨_, (pss_cons (ps_set (i := 1) nd rfl (Or.inr rfl) (pe_fn Gcounts_of hr (by decide) rfl pass0 (pa_cons (pv 0) pa_nil)))
      (pss_one (ps_ret (pe_comp rfl (N := ["person", "wishes", "counts"]) (caps := [none, some 0, some 1]) (CompOk.of (by kernel_rfl)) (gk_name rfl) (pi_range1 rfl M.b_range (pa_cons (pe_callB call_len_seq rfl M.b_len PySem.boot_len (pa_cons (pv 0) pa_nil)) pa_nil)) (fun _ _ _ _ => (pg_name (i := 0) (show (["person", "wishes", "counts"] : List Str).Nodup by decide +kernel) rfl (Or.inl rfl) (Or.inr rfl))) (fun _ _ _ _ => pts_nil) (fun _ _ _ _ => (pe_fn Gshares_by_turns hr (by decide) rfl pass0 (pa_cons (pv 2) (pa_cons (pv 0) (pa_cons (pe_callB (call_len_seqK (K := K) rfl) rfl M.b_len PySem.boot_len (pa_cons (pv 1) pa_nil)) pa_nil))))))))), ?_⟩
  have hwl := Paired.len hW
  have hn6 := ok.hi
  have hWn := ok.len
  have hwn : ws.length = n := by omega
  refine ⟨_, rfl, a, ws, W, n, rfl, hA, hW, ok, fun d C H1 S1 hC hCI => ?_⟩
  refine ⟨_, rfl, a, ws, rfl, .inl (S1.seq hA), _, rfl, by omega, by omega, ?_⟩
  refine comp_range1 (n := ws.length) (fun i ys H2 => Same H1 H2 ∧ Paired (RwG K H2) ys ((tabT n W).take i)) ⟨Same.refl _, by rw [List.take_zero]; exact .nil⟩ (fun i ys H2 hi hP => ?_) (fun ys H2 hP D hD => ?_)
  · obtain ⟨S2, hys⟩ := hP
    have hyl := Paired.len hys
    rw [List.length_take] at hyl
    refine ⟨_, rfl, _, rfl, _, rfl, a, ws, rfl, .inl ((S1.trans S2).seq hA), d, C, W, n, (i : Int), by show [V.ref d, V.int _, V.int _] = [V.ref d, V.int _, V.int _]; rw [hwn, Int.zero_add], hC.mono S2, hCI, hn6, fun qq gs H3 S3 hq0 hq hgs => ⟨small1000 (by omega), S2.trans S3, ?_⟩⟩
    rw [List.take_add_one, show (tabT n W)[i]? = some (shareR n W i) by unfold tabT; rw [List.getElem?_map, List.getElem?_range (by omega)]; rfl]
    exact Paired.app (Paired.mapP hys fun _ _ h => h.mono S3) (.cons ⟨qq, gs, rfl, SqT.of hq, hgs⟩ .nil)
  · obtain ⟨S2, hys⟩ := hP
    rw [List.take_of_length_le (by rw [tabT_len]; omega)] at hys
    exact q D ys _ (S1.trans (S2.trans (same_new hD _))) ((S1.trans S2).free hD) upd_same (Paired.mapP hys fun _ _ h => h.mono (same_new hD _))
theorem sc__law_cell_at : FnScope ["_law_script", "_law_k"] ["_law_script", "_law_k"] (defScope (top 33)) := ⟨rfl, rfl, rfl, by decide +kernel, rfl, by decide +kernel, by decide +kernel⟩
set_option maxHeartbeats 4000000 in
theorem d__law_cell_at {P : Program} {w : World} {K : PySem.W.Frag} {mg : Str → Option Value} {base : Heap} {x : Xs} (M : Md K mg x) : Dn P w K mg base CX0 1 "_law_cell_at" ["_law_script", "_law_k"] (spCell K) := by
  have nd := (sc__law_cell_at).nd
  refine M.f__law_cell_at.ok sc__law_cell_at (fun vs H Q E h => ?_) (fun _ _ _ _ _ _ us hl => match us, hl with | [_, _], _ => rfl) (fun f cdv A outer s H vs Q E hr h => ?_)
  · obtain ⟨a, ns, k, rfl, hS, h0, q⟩ := h
    rfl
  obtain ⟨a, ns, k, rfl, hS, h0, q⟩ := h
  refine ⟨_, (pss_cons (ps_if (pt_cmpR op_lt (pv 1) (pe_callB call_len_seq rfl M.b_len PySem.boot_len (pa_cons (pv 0) pa_nil)) (nomark _)) (pss_one (ps_ret (pe_ix ix_list (pv 0) (pv 1) (fun _ _ => rfl)))) pss_nil)
      (pss_one (ps_ret pe_int))), ?_⟩
  have hl : (ns.map V.int).length = ns.length := List.length_map _
  refine ⟨_, rfl, _, rfl, a, _, rfl, .inl hS, _, _, rfl, rfl, _, rfl, ?_⟩
  refine iteD2 (fun c => ?_) (fun c => ?_)
  · rw [hl] at c
    refine ⟨_, rfl, _, rfl, a, _, k, _, rfl, rfl, hS, atI_ok h0 (map_int_get (by omega)), ?_⟩
    have e : LM.cellAt ns k = ns.getD k.toNat 0 := by unfold LM.cellAt; rw [if_pos c]
    rw [← e]
    exact q
  · rw [hl] at c
    have e : LM.cellAt ns k = 0 := by unfold LM.cellAt; rw [if_neg c]
    rw [e] at q
    exact q
theorem sc__law_mixed : FnScope ["_law_cell", "_law_place", "_law_number"] ["_law_cell", "_law_place"] (defScope (top 34)) := ⟨rfl, rfl, rfl, by decide +kernel, rfl, by decide +kernel, by decide +kernel⟩
set_option maxHeartbeats 4000000 in
theorem d__law_mixed {P : Program} {w : World} {K : PySem.W.Frag} {mg : Str → Option Value} {base : Heap} {x : Xs} (M : Md K mg x) : Dn P w K mg base CX0 1 "_law_mixed" ["_law_cell", "_law_place"] (spMixN) := by
  have nd := (sc__law_mixed).nd
  refine M.f__law_mixed.ok sc__law_mixed (fun vs H Q E h => ?_) (fun _ _ _ _ _ _ us hl => match us, hl with | [_, _], _ => rfl) (fun f cdv A outer s H vs Q E hr h => ?_)
  · obtain ⟨c, p, rfl, q⟩ := h
    rfl
  obtain ⟨c, p, rfl, q⟩ := h
  refine ⟨_, (pss_cons (ps_set (i := 2) nd rfl (Or.inl rfl) (pe_op op_mod (pe_op op_add (pe_op op_add (pe_op op_mulB (pe_op op_mod (pv 0) pe_int) pe_int) (pe_op op_mulB pe_int (pv 1))) pe_int) pe_int))
      (pss_cons (ps_set (i := 2) nd rfl (Or.inl rfl) (pe_op op_mod (pe_op op_add (pe_op op_add (pe_op op_mulB (pv 2) (pv 2)) (pe_op op_mulB pe_int (pv 1))) pe_int) pe_int))
      (pss_one (ps_ret (pe_op op_mod (pe_op op_add (pe_op op_mulB (pv 2) (pv 2)) pe_int) pe_int))))), ?_⟩
  refine ⟨_, rfl, _, _, rfl, rfl, by show (0 : Int) < 2147483629; decide, _, _, rfl, rfl, mulR (by decide), _, rfl, _, _, rfl, rfl, mulL (by decide), _, _, rfl, rfl, _, _, rfl, rfl, _, _, rfl, rfl, by show (0 : Int) < 2147483629; decide, ?_⟩
  have b1 := LN.m1_bd c p
  have e1 : (c % 2147483629 * 16807 + 69621 * p + 11) % 2147483629 = LN.m1 c p := rfl
  dsimp only
  rw [e1]
  refine ⟨_, rfl, _, rfl, _, _, rfl, rfl, mulL (by omega), _, rfl, _, _, rfl, rfl, mulL (by decide), _, _, rfl, rfl, _, _, rfl, rfl, _, _, rfl, rfl, by show (0 : Int) < 2147483629; decide, ?_⟩
  have b2 := LN.m2_bd (LN.m1 c p) p
  have e2 : (LN.m1 c p * LN.m1 c p + 48271 * p + 7) % 2147483629 = LN.m2 (LN.m1 c p) p := rfl
  dsimp only
  rw [e2]
  exact ⟨_, rfl, _, rfl, _, _, rfl, rfl, mulL (by omega), _, _, rfl, rfl, _, _, rfl, rfl, by show (0 : Int) < 2147483587; decide, q⟩
theorem sc__law_order : FnScope ["_law_number", "_law_count", "_law_left", "_law_found", "_law_k"] ["_law_number", "_law_count"] (defScope (top 35)) := ⟨rfl, rfl, rfl, by decide +kernel, rfl, by decide +kernel, by decide +kernel⟩
set_option maxHeartbeats 4000000 in
theorem d__law_order {P : Program} {w : World} {K : PySem.W.Frag} {mg : Str → Option Value} {base : Heap} {x : Xs} (M : Md K mg x) : Dn P w K mg base CX0 1 "_law_order" ["_law_number", "_law_count"] (spOrder) := by
  have nd := (sc__law_order).nd
  refine M.f__law_order.ok sc__law_order (fun vs H Q E h => ?_) (fun _ _ _ _ _ _ us hl => match us, hl with | [_, _], _ => rfl) (fun f cdv A outer s H vs Q E hr h => ?_)
  · obtain ⟨num, n, rfl, hn, q⟩ := h
    rfl
  obtain ⟨num, n, rfl, hn, q⟩ := h
  refine ⟨_, (pss_cons (ps_set (i := 2) nd rfl (Or.inl rfl) (pe_callTy (call_list_rng rfl) rfl M.b_list Boot.«list» (pa_cons (pe_callTy call_range rfl M.b_range PyProof.Rows.boot_range (pa_cons (pv 1) pa_nil)) pa_nil)))
      (pss_cons (ps_set (i := 3) nd rfl (Or.inl rfl) (pe_lst pa_nil))
      (pss_cons (ps_for PassesOwn.never rfl (pi_range1 rfl M.b_range (pa_cons (pv 1) pa_nil)) (pg_name (i := 4) nd rfl (Or.inl rfl)) (pss_cons (ps_expr (pe_bm PySem.F.plainAttrs_list PySem.F.slot_list_append PySem.F.type_list_append mt_append (pv 3) (pa_cons (pe_bm PySem.F.plainAttrs_list PySem.F.slot_list_pop PySem.F.type_list_pop mt_popAt (pv 2) (pa_cons (pe_op op_mod (pv 0) (pe_callB call_len_seq rfl M.b_len PySem.boot_len (pa_cons (pv 2) pa_nil))) pa_nil)) pa_nil)))
      (pss_one (ps_set (i := 0) nd rfl (Or.inl rfl) (pe_op op_divP (pv 0) pe_int)))))
      (pss_one (ps_ret (pe_callTy call_tuple_of rfl M.b_tuple Boot.«tuple» (pa_cons (pv 3) pa_nil))))))), ?_⟩
  refine ⟨_, rfl, (n : Int), rfl, fun lr hlr => ⟨lr, n, rfl, upd_same, by omega, fun l hl => ?_⟩⟩
  have e0 : (List.range n).map (fun (i : Nat) => V.int (i : Int)) = (LM.rng n).map V.int := by unfold LM.rng; rw [List.map_map]; rfl
  rw [e0]
  have small0 : (0 : Nat) ≤ sizeLine := by decide
  refine ⟨small0, fun f hf => ?_⟩
  have Sl : Same H (upd (upd H lr (.rng 0 (n : Int))) l (.lst ((LM.rng n).map V.int))) := (same_new hlr _).trans (same_new hl _)
  have hl1 : H l = none := (same_new hlr _).free hl
  have hll : upd (upd H lr (.rng 0 (n : Int))) l (.lst ((LM.rng n).map V.int)) l = some (.lst ((LM.rng n).map V.int)) := upd_same
  generalize upd (upd H lr (.rng 0 (n : Int))) l (.lst ((LM.rng n).map V.int)) = H1 at hf Sl hll ⊢
  have hlf : l ≠ f := fun z => by rw [z, hf] at hll; cases hll
  have hf0 : H f = none := Sl.free hf
  refine ⟨_, rfl, (n : Int), rfl, by omega, by omega, ?_⟩
  refine for_range (n := n) (fun k σ H' => Same H H' ∧ H' f = some (.lst ((LN.ordGo n num k).1.map V.int)) ∧ H' l = some (.lst ((LN.ordGo n num k).2.1.map V.int)) ∧ ∃ r, σ = [some (.int (LN.ordGo n num k).2.2), some (.int n), some (.ref l), some (.ref f), r])
    ⟨Sl.trans (same_new hf _), upd_same, by rw [upd_ne hlf]; exact hll, _, rfl⟩ (fun k σ H' hk hP => ?_) (fun σ H' hP => ?_)
  · obtain ⟨hS, hF, hL, r, rfl⟩ := hP
    obtain ⟨_, h1, h2⟩ := LN.ordGo_ok n num k (by omega)
    have eS : LN.ordGo n num (k + 1) = ((LN.ordGo n num k).1 ++ [(LN.ordGo n num k).2.1.getD ((LN.ordGo n num k).2.2 % (LN.ordGo n num k).2.1.length).toNat 0], (LN.ordGo n num k).2.1.eraseIdx ((LN.ordGo n num k).2.2 % (LN.ordGo n num k).2.1.length).toNat, (LN.ordGo n num k).2.2 / 6) := rfl
    rw [eS]
    generalize LN.ordGo n num k = P at *
    obtain ⟨fo, le, m⟩ := P
    dsimp only at h1 h2 hF hL ⊢
    have b0 := Int.emod_nonneg m (show (le.length : Int) ≠ 0 by omega)
    have b1 := Int.emod_lt_of_pos m (show (0 : Int) < (le.length : Int) by omega)
    have hml : (le.map V.int).length = le.length := List.length_map _
    refine ⟨_, rfl, .inl ⟨rfl, _, SqL.of hF⟩, _, rfl, .inl ⟨rfl, _, SqL.of hL⟩, _, rfl, _, rfl, l, _, rfl, .inl (SqL.of hL), m, _, rfl, rfl, by show (0 : Int) < _; rw [hml]; omega, ?_⟩
    dsimp only
    rw [hml]
    refine ⟨l, _, _, _, _, rfl, rfl, hL, by omega, by omega, by rw [hml]; exact seqIx_ok b0 b1, map_int_get (by omega), ?_⟩
    have hF2 : upd H' l (.lst ((le.map V.int).eraseIdx (m % le.length).toNat)) f = some (.lst (fo.map V.int)) := by rw [upd_ne (Ne.symm hlf)]; exact hF
    refine ⟨f, _, _, rfl, rfl, hF2, small1000 (by rw [List.length_map]; omega), ?_⟩
    refine ⟨_, rfl, _, _, rfl, rfl, c9 (by decide) (by decide), ?_⟩
    refine ⟨(hS.over hl1 _).over hf0 _, by rw [upd_same, List.map_append]; rfl, ?_, _, rfl⟩
    rw [upd_ne hlf, upd_same, map_erase]
  · obtain ⟨hS, hF, hL, r, rfl⟩ := hP
    exact ⟨_, rfl, f, _, rfl, .inl ⟨SqL.of hF, fun p hp => q p _ (hS.trans (same_new hp _)) (hS.free hp) upd_same⟩⟩
theorem sc__law_wishes : FnScope ["_law_script", "_law_at", "_law_count", "_law_found", "_law_person", "_law_cell"] ["_law_script", "_law_at", "_law_count"] (defScope (top 36)) := ⟨rfl, rfl, rfl, by decide +kernel, rfl, by decide +kernel, by decide +kernel⟩
set_option maxHeartbeats 4000000 in
theorem d__law_wishes {P : Program} {w : World} {K : PySem.W.Frag} {mg : Str → Option Value} {base : Heap} {x : Xs} (M : Md K mg x)
    (G_law_cell_at : Dn P w K mg base CX0 1 "_law_cell_at" ["_law_script", "_law_k"] (spCell K))
    (G_law_order : Dn P w K mg base CX0 1 "_law_order" ["_law_number", "_law_count"] (spOrder))
    (G_law_mixed : Dn P w K mg base CX0 1 "_law_mixed" ["_law_cell", "_law_place"] (spMixN)) : Dn P w K mg base CX0 2 "_law_wishes" ["_law_script", "_law_at", "_law_count"] (spWishes K) := by
  have nd := (sc__law_wishes).nd
  refine M.f__law_wishes.ok sc__law_wishes (fun vs H Q E h => ?_) (fun _ _ _ _ _ _ us hl => match us, hl with | [_, _, _], _ => rfl) (fun f cdv A outer s H vs Q E hr h => ?_)
  · obtain ⟨a, ns, at', n, rfl, hS, hat, hn, q⟩ := h
    rfl
  obtain ⟨a, ns, at', n, rfl, hS, hat, hn, q⟩ := h
  refine ⟨_, (pss_cons (ps_set (i := 3) nd rfl (Or.inl rfl) (pe_lst pa_nil))
      (pss_cons (ps_for PassesOwn.never rfl (pi_range1 rfl M.b_range (pa_cons (pv 2) pa_nil)) (pg_name (i := 4) nd rfl (Or.inl rfl)) (pss_cons (ps_set (i := 5) nd rfl (Or.inl rfl) (pe_fn G_law_cell_at hr (by decide) rfl pass0 (pa_cons (pv 0) (pa_cons (pe_op op_add (pv 1) (pv 4)) pa_nil))))
      (pss_one (ps_if (PW.pt (pw_and (pt_cmpR op_gt (pv 4) pe_int (nomark _)) (pw_and1 (pt_cmpR op_eq (pe_op op_mod (pv 5) pe_int) pe_int (nomark _))))) (pss_one (ps_expr (pe_bm PySem.F.plainAttrs_list PySem.F.slot_list_append PySem.F.type_list_append mt_append (pv 3) (pa_cons (pe_ix ix_list (pv 3) (pe_op op_mod (pe_op op_divP (pv 5) pe_int) (pv 4)) (fun _ _ => rfl)) pa_nil)))) (pss_one (ps_expr (pe_bm PySem.F.plainAttrs_list PySem.F.slot_list_append PySem.F.type_list_append mt_append (pv 3) (pa_cons (pe_fn G_law_order hr (by decide) rfl pass0 (pa_cons (pe_fn G_law_mixed hr (by decide) rfl pass0 (pa_cons (pv 5) (pa_cons (pv 4) pa_nil))) (pa_cons (pv 2) pa_nil))) pa_nil))))))))
      (pss_one (ps_ret (pv 3))))), ?_⟩
  have small0 : (0 : Nat) ≤ sizeLine := by decide
  refine ⟨small0, fun f hf => ?_⟩
  refine ⟨_, rfl, (n : Int), rfl, by omega, by omega, ?_⟩
  refine for_range (n := n) (fun k σ H' => Same H H' ∧ ∃ (ws : List V) (r4 r5 : Option V), σ = [some (.ref a), some (.int at'), some (.int n), some (.ref f), r4, r5] ∧ H' f = some (.lst ws) ∧ Paired (IsR K H') ws (LN.wishGo ns at' n k))
    ⟨same_new hf _, [], _, _, rfl, upd_same, .nil⟩ (fun k σ H' hk hP => ?_) (fun σ H' hP => ?_)
  · obtain ⟨hSa, ws, r4, r5, rfl, hF, hW⟩ := hP
    have hwl := Paired.len hW
    rw [LN.wishGo_len] at hwl
    refine ⟨_, rfl, _, rfl, _, rfl, _, _, rfl, rfl, a, ns, _, rfl, hSa.seq hS, by omega, ?_⟩
    rw [Int.zero_add]
    have eS : LN.wishGo ns at' n (k + 1) = LN.wishGo ns at' n k ++ [if 0 < k ∧ LM.cellAt ns (at' + k) % 4 = 1 then (LN.wishGo ns at' n k).getD (LM.cellAt ns (at' + k) / 4 % k).toNat [] else LN.order (LN.mixed (LM.cellAt ns (at' + k)) k) n] := rfl
    rw [eS]
    generalize LM.cellAt ns (at' + k) = c
    have done1 : ∀ (v : V), IsR K H' v (if 0 < k ∧ c % 4 = 1 then (LN.wishGo ns at' n k).getD (c / 4 % k).toNat [] else LN.order (LN.mixed c k) n) → Paired (IsR K (upd H' f (.lst (ws ++ [v])))) (ws ++ [v]) (LN.wishGo ns at' n k ++ [if 0 < k ∧ c % 4 = 1 then (LN.wishGo ns at' n k).getD (c / 4 % k).toNat [] else LN.order (LN.mixed c k) n]) := fun v hv =>
      Paired.app (Paired.mapP hW fun _ _ h => h.over hF) (.cons (hv.over hF) .nil)
    have els : ¬ (0 < k ∧ c % 4 = 1) → ∀ p H2, Same H' H2 → H2 p = some (.tup ((LN.order (LN.mixed c k) n).map V.int)) → Paired (IsR K (upd H2 f (.lst (ws ++ [.ref p])))) (ws ++ [.ref p]) (LN.wishGo ns at' n k ++ [if 0 < k ∧ c % 4 = 1 then (LN.wishGo ns at' n k).getD (c / 4 % k).toNat [] else LN.order (LN.mixed c k) n]) := fun hno p H2 S2 hp => by
      rw [if_neg hno]
      exact Paired.app (Paired.mapP hW fun _ _ h => (h.mono S2).over (S2 _ _ hF)) (.cons (IsR.over ⟨p, rfl, SqT.of hp⟩ (S2 _ _ hF)) .nil)
    refine ⟨_, rfl, _, _, rfl, rfl, _, rfl, iteD2 (fun c1 => ?_) (fun c1 => ?_)⟩
    · refine ⟨_, rfl, _, _, rfl, rfl, by show (0 : Int) < 4; decide, rfl, _, rfl, iteD2 (fun c2 => ?_) (fun c2 => ?_)⟩
      · have hk0 : 0 < k := by omega
        have hc : 0 < k ∧ c % 4 = 1 := ⟨hk0, Veq c2⟩
        have b0 := Int.emod_nonneg (c / 4) (show (k : Int) ≠ 0 by omega)
        have b1 := Int.emod_lt_of_pos (c / 4) (show (0 : Int) < k by omega)
        have hl : (c / 4 % k).toNat < (LN.wishGo ns at' n k).length := by rw [LN.wishGo_len]; omega
        obtain ⟨v, hv, hvR⟩ := Paired.get hW (List.getElem?_eq_getElem hl)
        refine ⟨_, rfl, .inl ⟨rfl, _, SqL.of hF⟩, _, rfl, _, rfl, _, _, rfl, rfl, c9 (by decide) (by decide), _, rfl, _, _, rfl, rfl, by show (0 : Int) < k; omega, f, ws, _, v, rfl, rfl, SqL.of hF, atI_ok b0 hv, f, ws, v, rfl, rfl, hF, small1000 (by omega), ?_⟩
        refine ⟨hSa.over hf _, _, _, _, rfl, upd_same, done1 v ?_⟩
        rw [if_pos hc, List.getD_eq_getElem?_getD, List.getElem?_eq_getElem hl]
        exact hvR
      · refine ⟨_, rfl, .inl ⟨rfl, _, SqL.of hF⟩, _, rfl, _, rfl, c, (k : Int), rfl, _, rfl, _, n, rfl, by omega, fun p H2 S2 hp0 hp => ⟨f, ws, _, rfl, rfl, S2 _ _ hF, small1000 (by omega), ?_⟩⟩
        exact ⟨(hSa.trans S2).over hf _, _, _, _, rfl, upd_same, els (fun z => c2 (by show V.int (c % 4) = V.int 1; rw [z.2])) p H2 S2 hp⟩
    · refine ⟨_, rfl, .inl ⟨rfl, _, SqL.of hF⟩, _, rfl, _, rfl, c, (k : Int), rfl, _, rfl, _, n, rfl, by omega, fun p H2 S2 hp0 hp => ⟨f, ws, _, rfl, rfl, S2 _ _ hF, small1000 (by omega), ?_⟩⟩
      exact ⟨(hSa.trans S2).over hf _, _, _, _, rfl, upd_same, els (fun z => c1 (by have := z.1; omega)) p H2 S2 hp⟩
  · obtain ⟨hSa, ws, r4, r5, rfl, hF, hW⟩ := hP
    exact ⟨_, rfl, q f ws H' hSa hf hF hW⟩
theorem sc__law_renamed : FnScope ["_law_rows", "_law_people", "_law_things", "_law_found", "_law_person", "_law_row", "_law_thing"] ["_law_rows", "_law_people", "_law_things"] (defScope (top 37)) := ⟨rfl, rfl, rfl, by decide +kernel, rfl, by decide +kernel, by decide +kernel⟩
set_option maxHeartbeats 4000000 in
theorem d__law_renamed {P : Program} {w : World} {K : PySem.W.Frag} {mg : Str → Option Value} {base : Heap} {x : Xs} (M : Md K mg x) : Dn P w K mg base CX0 1 "_law_renamed" ["_law_rows", "_law_people", "_law_things"] (spRenamed K) := by
  have nd := (sc__law_renamed).nd
  refine M.f__law_renamed.ok sc__law_renamed (fun vs H Q E h => ?_) (fun _ _ _ _ _ _ us hl => match us, hl with | [_, _, _], _ => rfl) (fun f cdv A outer s H vs Q E hr h => ?_)
  · obtain ⟨r, pa, ta, us, Z, Ps, Xs, n, rfl, hR, hZ, hZn, hZr, hPs, hXs, pP, pX, hn6, q⟩ := h
    rfl
  obtain ⟨r, pa, ta, us, Z, Ps, Xs, n, rfl, hR, hZ, hZn, hZr, hPs, hXs, pP, pX, hn6, q⟩ := h
  refine ⟨_, (pss_cons (ps_setComp (i := 3) nd rfl rfl rfl rfl (N := ["_law_row"]) (caps := [none]) (CompOk.of (by kernel_rfl)) (gk_name rfl) (pi_list (pv 0)) (fun _ _ _ _ => (pg_name (i := 0) (show (["_law_row"] : List Str).Nodup by decide +kernel) rfl (Or.inl rfl) (Or.inr rfl))) (fun _ _ _ _ => pts_nil) (fun _ _ _ _ => pe_non))
      (pss_cons (ps_for PassesOwn.never rfl (pi_range1 rfl M.b_range (pa_cons (pe_callB call_len_seq rfl M.b_len PySem.boot_len (pa_cons (pv 0) pa_nil)) pa_nil)) (pg_name (i := 4) nd rfl (Or.inl rfl)) (pss_cons (ps_setComp (i := 5) nd rfl rfl rfl rfl (N := ["_law_thing"]) (caps := [none]) (CompOk.of (by kernel_rfl)) (gk_name rfl) (pi_tup (pv 2)) (fun _ _ _ _ => (pg_name (i := 0) (show (["_law_thing"] : List Str).Nodup by decide +kernel) rfl (Or.inl rfl) (Or.inr rfl))) (fun _ _ _ _ => pts_nil) (fun _ _ _ _ => pe_non))
      (pss_cons (ps_for PassesOwn.never rfl (pi_range1 rfl M.b_range (pa_cons (pe_callB call_len_seq rfl M.b_len PySem.boot_len (pa_cons (pv 2) pa_nil)) pa_nil)) (pg_name (i := 6) nd rfl (Or.inl rfl)) (pss_one (ps_asg (pe_ix ix_tup (pe_ix ix_list (pv 0) (pv 4) (fun _ _ => rfl)) (pv 6) (fun _ _ => rfl)) (pg_sub (pv 5) (pe_ix ix_tup (pv 2) (pv 6) (fun _ _ => rfl)) set_list))))
      (pss_one (ps_asg (pe_callTy call_tuple_of rfl M.b_tuple Boot.«tuple» (pa_cons (pv 5) pa_nil)) (pg_sub (pv 3) (pe_ix ix_tup (pv 1) (pv 4) (fun _ _ => rfl)) set_list))))))
      (pss_one (ps_ret (pv 3))))), ?_⟩
  have hul := Paired.len hZ
  have hPl := pP.len
  have hXl := pX.len
  have hXl2 : (Xs.map V.int).length = n := by rw [List.length_map]; exact hXl
  refine ⟨_, rfl, r, rfl, ⟨_, hR⟩, ?_⟩
  refine comp_list1 (xs := us) (fun i ys H' => H' = H ∧ ys = List.replicate i V.non) ⟨rfl, rfl⟩ (fun i ys H' _ hP => by rw [hP.1]; exact hR) (fun i x ys H' hx hP => ?_) (fun ys H' hP L hL => ?_)
  · obtain ⟨rfl, rfl⟩ := hP
    have hil := (List.getElem?_eq_some_iff.mp hx).1
    exact ⟨small1000 (by rw [List.length_replicate]; omega), rfl, by rw [List.replicate_succ']⟩
  obtain ⟨rfl, rfl⟩ := hP
  have S1 : Same H' (upd H' L (.lst (List.replicate us.length V.non))) := same_new hL _
  have hL1 : upd H' L (.lst (List.replicate us.length V.non)) L = some (.lst (List.replicate us.length V.non)) := upd_same
  generalize upd H' L (.lst (List.replicate us.length V.non)) = H1 at S1 hL1 ⊢
  refine ⟨_, rfl, r, us, rfl, .inl (S1.seq hR), _, rfl, by omega, by omega, ?_⟩
  refine for_range (n := us.length) (fun i σ H2 => Same H' H2 ∧ (∃ fs : List V, H2 L = some (.lst fs) ∧ fs.length = n ∧ ∀ p, p < i → ∃ v, fs[(Ps.getD p 0).toNat]? = some v ∧ RwG K H2 v (renRow Xs n (Z.getD p []))) ∧ ∃ r4 r5 r6, σ = [some (.ref r), some (.ref pa), some (.ref ta), some (.ref L), r4, r5, r6])
    ⟨S1, ⟨_, hL1, by rw [List.length_replicate]; omega, fun p hp => absurd hp (Nat.not_lt_zero _)⟩, _, _, _, rfl⟩ (fun i σ H2 hi hP => ?_) (fun σ H2 hP => ?_)
  · obtain ⟨S2, ⟨fs, hfs, hfl, hrows⟩, r4, r5, r6, rfl⟩ := hP
    have hin : i < n := by omega
    have hiZ : i < Z.length := by omega
    obtain ⟨uv, huv, ra, gs, rfl, hra, hgs⟩ := Paired.get hZ (List.getElem?_eq_getElem hiZ)
    have hzl := hZr _ (List.getElem_mem hiZ)
    have ez : Z.getD i [] = Z[i] := HM.getD_lt hiZ
    have hgl := Paired.len hgs
    refine ⟨_, rfl, ta, rfl, ⟨_, S2.tup hXs⟩, ?_⟩
    refine comp_tup1 (xs := Xs.map V.int) (fun j ys H3 => H3 = H2 ∧ ys = List.replicate j V.non) ⟨rfl, rfl⟩ (fun j ys H3 _ hP => by rw [hP.1]; exact S2.tup hXs) (fun j x ys H3 hx hP => ?_) (fun ys H3 hP R hRn => ?_)
    · obtain ⟨rfl, rfl⟩ := hP
      have hjl := (List.getElem?_eq_some_iff.mp hx).1
      exact ⟨small1000 (by rw [List.length_replicate]; omega), rfl, by rw [List.replicate_succ']⟩
    obtain ⟨rfl, rfl⟩ := hP
    rw [hXl2]
    have S3 : Same H3 (upd H3 R (.lst (List.replicate n V.non))) := same_new hRn _
    have hR3 : upd H3 R (.lst (List.replicate n V.non)) R = some (.lst (List.replicate n V.non)) := upd_same
    generalize upd H3 R (.lst (List.replicate n V.non)) = H4 at S3 hR3 ⊢
    refine ⟨_, rfl, ta, Xs.map V.int, rfl, .inr ((S2.trans S3).tup hXs), _, rfl, by omega, by omega, ?_⟩
    refine for_range (n := (Xs.map V.int).length) (fun j σ H5 => Same H3 H5 ∧ (∃ es : List V, H5 R = some (.lst es) ∧ es.length = n ∧ ∀ t, t < j → es[(Xs.getD t 0).toNat]? = gs[t]?) ∧ ∃ r6, σ = [some (.ref r), some (.ref pa), some (.ref ta), some (.ref L), some (.int (0 + (i : Int))), some (.ref R), r6])
      ⟨S3, ⟨_, hR3, List.length_replicate, fun t ht => absurd ht (Nat.not_lt_zero _)⟩, _, rfl⟩ (fun j σ H5 hj hP => ?_) (fun σ H5 hP => ?_)
    · obtain ⟨S5, ⟨es, hes, hel, hgot⟩, r6', rfl⟩ := hP
      have hjn : j < n := by omega
      obtain ⟨x0, x1, x2⟩ := pm_get pX hjn
      have hgj : gs[j]? = some gs[j] := List.getElem?_eq_getElem (by omega)
      have hxj : (Xs.map V.int)[j]? = some (.int (Xs.getD j 0)) := map_int_get (by omega)
      have S25 := S2.trans S5
      refine ⟨_, rfl, _, rfl, r, _, _, _, rfl, rfl, S25.seq hR, by rw [Int.zero_add]; exact atI_nat huv, _, rfl, ra, _, _, _, rfl, rfl, S25.tup hra, by rw [Int.zero_add]; exact atI_nat hgj, ?_⟩
      refine ⟨_, rfl, _, rfl, _, rfl, ta, _, _, _, rfl, rfl, S25.tup hXs, by rw [Int.zero_add]; exact atI_nat hxj, R, _, _, (Xs.getD j 0).toNat, rfl, rfl, hes, by unfold ixN; rw [if_pos x0, if_pos (by omega)], ?_⟩
      refine ⟨S5.over hRn _, ⟨_, upd_same, by rw [List.length_set]; exact hel, fun t ht => ?_⟩, _, rfl⟩
      by_cases e : t = j
      · subst e
        rw [List.getElem?_set_self (by omega), hgj]
      · have hne : (Xs.getD j 0).toNat ≠ (Xs.getD t 0).toNat := fun z => e (by
          obtain ⟨_, _, y2⟩ := pm_get pX (show t < n by omega)
          have a1 := idx_of pX hjn
          have a2 := idx_of pX (show t < n by omega)
          rw [← x2, z, y2, a2] at a1
          exact a1)
        rw [List.getElem?_set_ne hne]
        exact hgot t (by omega)
    obtain ⟨S5, ⟨es, hes, hel, hgot⟩, r6', rfl⟩ := hP
    rw [hXl2] at hgot
    have hrow : Paired (IsF K H5) es (renRow Xs n (Z.getD i [])) := by
      refine paired_of_get (by unfold renRow; rw [List.length_map, List.length_range]; exact hel) fun u a b ha hb => ?_
      have hun : u < n := by have := (List.getElem?_eq_some_iff.mp ha).1; omega
      obtain ⟨y0, y1, y2⟩ := idx_at pX hun
      have hg := hgot _ y0
      rw [y1, ha] at hg
      unfold renRow at hb
      rw [List.getElem?_map, List.getElem?_range hun] at hb
      have hb' : (Z.getD i []).getD (Xs.idxOf (u : Int)) (0, 1) = b := Option.some.inj hb
      rw [ez, HM.getD_lt (by omega)] at hb'
      obtain ⟨v, hv, hF⟩ := Paired.get hgs (List.getElem?_eq_getElem (show Xs.idxOf (u : Int) < Z[i].length by omega))
      rw [hv] at hg
      cases hg
      rw [← hb']
      exact hF.mono (S2.trans S5)
    obtain ⟨p0, p1, p2⟩ := pm_get pP hin
    have hpi : (Ps.map V.int)[i]? = some (.int (Ps.getD i 0)) := map_int_get (by omega)
    refine ⟨_, rfl, R, es, rfl, .inl ⟨SqL.of hes, fun tp htp => ?_⟩⟩
    have S6 : Same H5 (upd H5 tp (.tup es)) := same_new htp _
    have htp6 : SqT K (upd H5 tp (.tup es)) tp es := SqT.of upd_same
    generalize upd H5 tp (.tup es) = H6 at S6 htp6 ⊢
    have S36 := S5.trans S6
    have S26 := S2.trans S36
    have hfs6 := S36 _ _ hfs
    refine ⟨_, rfl, _, rfl, _, rfl, pa, _, _, _, rfl, rfl, S26.tup hPs, by rw [Int.zero_add]; exact atI_nat hpi, L, _, _, (Ps.getD i 0).toNat, rfl, rfl, hfs6, by unfold ixN; rw [if_pos p0, if_pos (by omega)], ?_⟩
    refine ⟨S26.over hL _, ⟨_, upd_same, by rw [List.length_set]; exact hfl, fun p hp => ?_⟩, _, _, _, rfl⟩
    by_cases e : p = i
    · subst e
      exact ⟨_, List.getElem?_set_self (by omega), RwG.over ⟨tp, es, rfl, htp6, fracs_mono S6 hrow⟩ hfs6⟩
    · have hne : (Ps.getD i 0).toNat ≠ (Ps.getD p 0).toNat := fun z => e (by
        obtain ⟨_, _, y2⟩ := pm_get pP (show p < n by omega)
        have a1 := idx_of pP hin
        have a2 := idx_of pP (show p < n by omega)
        rw [← p2, z, y2, a2] at a1
        exact a1)
      obtain ⟨v, hv, hG⟩ := hrows p (by omega)
      exact ⟨v, by rw [List.getElem?_set_ne hne]; exact hv, (hG.mono S36).over hfs6⟩
  obtain ⟨S2, ⟨fs, hfs, hfl, hrows⟩, r4, r5, r6, rfl⟩ := hP
  refine ⟨_, rfl, q L fs H2 S2 hfs ?_⟩
  refine paired_of_get (by rw [renT_rows.1]; exact hfl) fun u a b ha hb => ?_
  have hun : u < n := by have := (List.getElem?_eq_some_iff.mp ha).1; omega
  obtain ⟨y0, y1, y2⟩ := idx_at pP hun
  obtain ⟨v, hv, hG⟩ := hrows (Ps.idxOf (u : Int)) (by omega)
  rw [y1, ha] at hv
  cases hv
  unfold renT at hb
  rw [List.getElem?_map, List.getElem?_range hun] at hb
  have hb' : renRow Xs n (Z.getD (Ps.idxOf (u : Int)) []) = b := Option.some.inj hb
  rw [← hb']
  exact hG
theorem sc_law : FnScope ["_law_script", "_law_count", "_law_wishes_here", "_law_people", "_law_things", "_law_others", "_law_person", "_law_due", "_law_time", "_law_gone"] ["_law_script"] (defScope (top 38)) := ⟨rfl, rfl, rfl, by decide +kernel, rfl, by decide +kernel, by decide +kernel⟩
set_option maxHeartbeats 4000000 in
theorem d_law {P : Program} {w : World} {K : PySem.W.Frag} {mg : Str → Option Value} {base : Heap} {x : Xs} {fl : Addr} {fdl : FuncData} (Fl : Fun K "law" "law" (top 38) fl fdl) (M : Md K mg x)
    (G_law_cell_at : Dn P w K mg base CX0 1 "_law_cell_at" ["_law_script", "_law_k"] (spCell K))
    (G_law_wishes : Dn P w K mg base CX0 2 "_law_wishes" ["_law_script", "_law_at", "_law_count"] (spWishes K))
    (G_law_order : Dn P w K mg base CX0 1 "_law_order" ["_law_number", "_law_count"] (spOrder))
    (G_law_mixed : Dn P w K mg base CX0 1 "_law_mixed" ["_law_cell", "_law_place"] (spMixN))
    (Geaten : Dn P w K mg base CX0 7 "eaten" ["wishes"] (spEaten K))
    (Gstops : Dn P w K mg base CX0 6 "stops" ["wishes"] (spStops K))
    (Gby_turns : Dn P w K mg base CX0 4 "by_turns" ["wishes"] (spByTurns K))
    (G_law_renamed : Dn P w K mg base CX0 1 "_law_renamed" ["_law_rows", "_law_people", "_law_things"] (spRenamed K)) : FnOk P w K mg base CX0 9 fl fdl ["_law_script"] (spLaw K) := by
  have nd := (sc_law).nd
  refine Fl.ok sc_law (fun vs H Q E h => ?_) (fun cdv A outer s H vs Q E hr h => ?_)
  · obtain ⟨a, ns, rfl, hS, h63, q⟩ := h
    rfl
  obtain ⟨a, ns, rfl, hS, h63, q⟩ := h
  refine ⟨_, (pss_cons (ps_set (i := 1) nd rfl (Or.inl rfl) (pe_op op_add pe_int (pe_op op_mod (pe_fn G_law_cell_at hr (by decide) rfl pass0 (pa_cons (pv 0) (pa_cons pe_int pa_nil))) pe_int)))
      (pss_cons (ps_set (i := 2) nd rfl (Or.inl rfl) (pe_fn G_law_wishes hr (by decide) rfl pass0 (pa_cons (pv 0) (pa_cons pe_int (pa_cons (pv 1) pa_nil)))))
      (pss_cons (ps_set (i := 3) nd rfl (Or.inl rfl) (pe_fn G_law_order hr (by decide) rfl pass0 (pa_cons (pe_fn G_law_mixed hr (by decide) rfl pass0 (pa_cons (pe_fn G_law_cell_at hr (by decide) rfl pass0 (pa_cons (pv 0) (pa_cons pe_int pa_nil))) (pa_cons pe_int pa_nil))) (pa_cons (pv 1) pa_nil))))
      (pss_cons (ps_set (i := 4) nd rfl (Or.inr rfl) (pe_fn G_law_order hr (by decide) rfl pass0 (pa_cons (pe_fn G_law_mixed hr (by decide) rfl pass0 (pa_cons (pe_fn G_law_cell_at hr (by decide) rfl pass0 (pa_cons (pv 0) (pa_cons pe_int pa_nil))) (pa_cons pe_int pa_nil))) (pa_cons (pv 1) pa_nil))))
      (pss_cons (ps_setComp (i := 5) nd rfl rfl rfl rfl (N := ["_law_wish"]) (caps := [none]) (CompOk.of (by kernel_rfl)) (gk_name rfl) (pi_list (pv 2)) (fun _ _ _ _ => (pg_name (i := 0) (show (["_law_wish"] : List Str).Nodup by decide +kernel) rfl (Or.inl rfl) (Or.inr rfl))) (fun _ _ _ _ => pts_nil) (fun _ _ _ _ => (pe_tup pa_nil)))
      (pss_cons (ps_for PassesOwn.never rfl (pi_range1 rfl M.b_range (pa_cons (pv 1) pa_nil)) (pg_name (i := 6) nd rfl (Or.inl rfl)) (pss_one (ps_asg (pe_callTy call_tuple_of rfl M.b_tuple Boot.«tuple» (pa_cons (pe_comp rfl (N := ["_law_thing", "_law_things"]) (caps := [none, some 4]) (CompOk.of (by kernel_rfl)) (gk_name rfl) (pi_tup (pe_ix ix_list (pv 2) (pv 6) (fun _ _ => rfl))) (fun _ _ _ _ => (pg_name (i := 0) (show (["_law_thing", "_law_things"] : List Str).Nodup by decide +kernel) rfl (Or.inl rfl) (Or.inr rfl))) (fun _ _ _ _ => pts_nil) (fun _ _ _ _ => (pe_ix (ix_tupK (K := K) rfl) (pv 1) (pv 0) (fun _ _ => rfl)))) pa_nil)) (pg_sub (pv 5) (pe_ix ix_tup (pv 3) (pv 6) (fun _ _ => rfl)) set_list))))
      (pss_cons (ps_if (pt_cmpR (op_neD hr) (pe_fn Geaten hr (by decide) rfl pass0 (pa_cons (pe_callTy call_list_of rfl M.b_list Boot.«list» (pa_cons (pv 5) pa_nil)) pa_nil)) (pe_fn G_law_renamed hr (by decide) rfl pass0 (pa_cons (pe_fn Geaten hr (by decide) rfl pass0 (pa_cons (pe_callTy call_list_of rfl M.b_list Boot.«list» (pa_cons (pv 2) pa_nil)) pa_nil)) (pa_cons (pv 3) (pa_cons (pv 4) pa_nil)))) (nomark _)) (pss_one (ps_ret pe_bl)) pss_nil)
      (pss_cons (ps_set (i := 7) nd rfl (Or.inl rfl) (pe_lst pa_nil))
      (pss_cons (ps_for PassesOwn.never rfl (pi_list (pe_fn Gstops hr (by decide) rfl pass0 (pa_cons (pe_callTy call_list_of rfl M.b_list Boot.«list» (pa_cons (pv 2) pa_nil)) pa_nil))) (pg_tup rfl (pgs_cons (pg_name (i := 8) nd rfl (Or.inl rfl)) (pgs_cons (pg_name (i := 9) nd rfl (Or.inl rfl)) pgs_nil))) (pss_one (ps_expr (pe_bm PySem.F.plainAttrs_list PySem.F.slot_list_append PySem.F.type_list_append mt_append (pv 7) (pa_cons (pe_tup (pa_cons (pv 8) (pa_cons (pe_callTy call_tuple_of rfl M.b_tuple Boot.«tuple» (pa_cons (pe_callB (call_sorted) rfl M.b_sorted Boot.«sorted» (pa_cons (pe_comp rfl (N := ["_law_thing", "_law_things"]) (caps := [none, some 4]) (CompOk.of (by kernel_rfl)) (gk_name rfl) (pi_tup (pv 9)) (fun _ _ _ _ => (pg_name (i := 0) (show (["_law_thing", "_law_things"] : List Str).Nodup by decide +kernel) rfl (Or.inl rfl) (Or.inr rfl))) (fun _ _ _ _ => pts_nil) (fun _ _ _ _ => (pe_ix (ix_tupK (K := K) rfl) (pv 1) (pv 0) (fun _ _ => rfl)))) pa_nil)) pa_nil)) pa_nil))) pa_nil)))))
      (pss_cons (ps_if (pt_cmpR (op_neD hr) (pe_fn Gstops hr (by decide) rfl pass0 (pa_cons (pe_callTy call_list_of rfl M.b_list Boot.«list» (pa_cons (pv 5) pa_nil)) pa_nil)) (pv 7) (nomark _)) (pss_one (ps_ret pe_bl)) pss_nil)
      (pss_one (ps_ret (pe_cmpR (op_eqD hr) (pe_fn Gby_turns hr (by decide) rfl pass0 (pa_cons (pe_callTy call_list_of rfl M.b_list Boot.«list» (pa_cons (pv 5) pa_nil)) pa_nil)) (pe_fn G_law_renamed hr (by decide) rfl pass0 (pa_cons (pe_fn Gby_turns hr (by decide) rfl pass0 (pa_cons (pe_callTy call_list_of rfl M.b_list Boot.«list» (pa_cons (pv 2) pa_nil)) pa_nil)) (pa_cons (pv 3) (pa_cons (pv 4) pa_nil)))) (nomark _)))))))))))))), ?_⟩
  have small0 : (0 : Nat) ≤ sizeLine := by decide
  refine ⟨_, rfl, a, ns, 0, rfl, hS, Int.le_refl 0, _, _, rfl, rfl, by show (0 : Int) < 6; decide, _, _, rfl, rfl, ?_⟩
  dsimp only
  obtain ⟨n, hn, hn1, hn6⟩ : ∃ n : Nat, 1 + LM.cellAt ns 0 % 6 = (n : Int) ∧ 1 ≤ n ∧ n ≤ 6 := by
    have h0 := Int.emod_nonneg (LM.cellAt ns 0) (show (6 : Int) ≠ 0 by decide)
    have h1 := Int.emod_lt_of_pos (LM.cellAt ns 0) (show (0 : Int) < 6 by decide)
    exact ⟨(1 + LM.cellAt ns 0 % 6).toNat, by omega, by omega, by omega⟩
  rw [hn]
  refine ⟨_, rfl, _, rfl, a, ns, 3, n, rfl, hS, by decide, hn6, fun pW ws H1 S1 hW0 hWl hW => ?_⟩
  have ok : EM.Ws n (LN.wishes ns 3 n) := ⟨hn1, hn6, LN.wishes_len ns 3 n, fun w hw => LN.wishes_pm hw⟩
  generalize LN.wishes ns 3 n = W at hW ok
  have hwl := Paired.len hW
  have hWn := ok.len
  refine ⟨_, rfl, a, ns, 1, rfl, S1.seq hS, by decide, _, 70, rfl, _, rfl, _, n, rfl, by omega, fun pP H2 S2 hpP0 hpP => ?_⟩
  have pPm := LN.order_pm (LN.mixed (LM.cellAt ns 1) 70) n
  generalize LN.order (LN.mixed (LM.cellAt ns 1) 70) n = Ps at hpP pPm
  refine ⟨_, rfl, a, ns, 2, rfl, (S1.trans S2).seq hS, by decide, _, 71, rfl, _, rfl, _, n, rfl, by omega, fun pX H3 S3 hpX0 hpX => ?_⟩
  have pXm := LN.order_pm (LN.mixed (LM.cellAt ns 2) 71) n
  generalize LN.order (LN.mixed (LM.cellAt ns 2) 71) n = Xs at hpX pXm
  have hPl := pPm.len
  have hXl := pXm.len
  have S13 := S2.trans S3
  have hW3 := Paired.mapP hW fun _ _ (h : IsR K H1 _ _) => h.mono S13
  have hWl3 := S13 _ _ hWl
  have hP3 : SqT K H3 pP (Ps.map V.int) := SqT.of (S3 _ _ hpP)
  have hX3 : SqT K H3 pX (Xs.map V.int) := SqT.of hpX
  clear hW hWl S1 S2 S3 S13 hpP hpX hpP0 hpX0 hW0
  -- the others' wishes
  refine ⟨_, rfl, pW, rfl, ⟨_, SqL.of hWl3⟩, ?_⟩
  refine comp_list1 (xs := ws) (fun i ys H' => Same H3 H' ∧ ys.length = i) ⟨Same.refl _, rfl⟩ (fun i ys H' _ hP => SqL.of (hP.1 _ _ hWl3)) (fun i x ys H' hx hP => ?_) (fun ys H' hP L hL => ?_)
  · obtain ⟨S4, hyl⟩ := hP
    have hil := (List.getElem?_eq_some_iff.mp hx).1
    exact ⟨small0, fun t ht => ⟨small1000 (by omega), S4.trans (same_new ht _), by rw [List.length_append, hyl]; rfl⟩⟩
  obtain ⟨S4, hyl⟩ := hP
  have S5 : Same H3 (upd H' L (.lst ys)) := S4.trans (same_new hL _)
  have hL5 : upd H' L (.lst ys) L = some (.lst ys) := upd_same
  have hLf : H3 L = none := S4.free hL
  generalize upd H' L (.lst ys) = H5 at S5 hL5 ⊢
  refine ⟨_, rfl, (n : Int), rfl, by omega, by omega, ?_⟩
  refine for_range (n := n) (fun i σ H6 => Same H3 H6 ∧ (∃ os : List V, H6 L = some (.lst os) ∧ os.length = n ∧ ∀ p, p < i → ∃ v, os[(Ps.getD p 0).toNat]? = some v ∧ IsR K H6 v ((W.getD p []).map (rx Xs))) ∧ ∃ r6 r7 r8 r9, σ = [some (.ref a), some (.int n), some (.ref pW), some (.ref pP), some (.ref pX), some (.ref L), r6, r7, r8, r9])
    ⟨S5, ⟨ys, hL5, by omega, fun p hp => absurd hp (Nat.not_lt_zero _)⟩, _, _, _, _, rfl⟩ (fun i σ H6 hi hP => ?_) (fun σ H6 hP => ?_)
  · obtain ⟨S6, ⟨os, hos, hol, hrows⟩, r6, r7, r8, r9, rfl⟩ := hP
    have hiW : i < W.length := by omega
    obtain ⟨wv, hwv, wa, rfl, hwa⟩ := Paired.get hW3 (List.getElem?_eq_getElem hiW)
    have hwpm := ok.pm _ (List.getElem_mem hiW)
    have ew : W.getD i [] = W[i] := HM.getD_lt hiW
    generalize W[i] = row at hwa hwpm ew
    have hwlen := LN.Pm.len (n := n) hwpm
    refine ⟨_, rfl, _, rfl, pW, _, _, _, rfl, rfl, SqL.of (S6 _ _ hWl3), by rw [Int.zero_add]; exact atI_nat hwv, wa, rfl, ⟨_, S6.tup hwa⟩, ?_⟩
    refine comp_tup1 (xs := row.map V.int) (fun j zs H7 => H7 = H6 ∧ zs = ((row.take j).map (rx Xs)).map V.int) ⟨rfl, rfl⟩ (fun j zs H7 _ hP => by rw [hP.1]; exact S6.tup hwa) (fun j y zs H7 hy hP => ?_) (fun zs H7 hP D hD => ?_)
    · obtain ⟨rfl, rfl⟩ := hP
      have hjl : j < row.length := by
        have := (List.getElem?_eq_some_iff.mp hy).1
        rw [List.length_map] at this
        exact this
      rw [map_int_get hjl] at hy
      cases hy
      have tb := (LN.Pm.mem (n := n) hwpm).mp (show row.getD j 0 ∈ row by rw [HM.getD_lt hjl]; exact List.getElem_mem hjl)
      have hxg : (Xs.map V.int)[(row.getD j 0).toNat]? = some (.int (Xs.getD (row.getD j 0).toNat 0)) := map_int_get (by omega)
      refine ⟨_, rfl, _, rfl, pX, _, _, _, rfl, rfl, S6.tup hX3, atI_ok tb.1 hxg, small1000 (by rw [List.length_map, List.length_map, List.length_take]; omega), rfl, ?_⟩
      rw [List.take_add_one, List.getElem?_eq_getElem hjl, List.map_append, List.map_append, HM.getD_lt hjl]
      rfl
    obtain ⟨rfl, rfl⟩ := hP
    rw [List.length_map, List.take_length]
    have hD6 := same_new hD (.lst ((row.map (rx Xs)).map V.int))
    refine ⟨D, _, rfl, .inl ⟨SqL.of upd_same, fun tp htp => ?_⟩⟩
    have S8 : Same H7 (upd (upd H7 D (.lst ((row.map (rx Xs)).map V.int))) tp (.tup ((row.map (rx Xs)).map V.int))) := hD6.trans (same_new htp _)
    have htp8 : SqT K (upd (upd H7 D (.lst ((row.map (rx Xs)).map V.int))) tp (.tup ((row.map (rx Xs)).map V.int))) tp ((row.map (rx Xs)).map V.int) := SqT.of upd_same
    generalize upd (upd H7 D (.lst ((row.map (rx Xs)).map V.int))) tp (.tup ((row.map (rx Xs)).map V.int)) = H8 at S8 htp8 ⊢
    obtain ⟨p0, p1, p2⟩ := pm_get pPm hi
    have hpi : (Ps.map V.int)[i]? = some (.int (Ps.getD i 0)) := map_int_get (by omega)
    have S68 := S6.trans S8
    have hos8 := S8 _ _ hos
    refine ⟨_, rfl, _, rfl, _, rfl, pP, _, _, _, rfl, rfl, S68.tup hP3, by rw [Int.zero_add]; exact atI_nat hpi, L, _, _, (Ps.getD i 0).toNat, rfl, rfl, hos8, by unfold ixN; rw [if_pos p0, if_pos (by omega)], ?_⟩
    refine ⟨S68.over hLf _, ⟨_, upd_same, by rw [List.length_set]; exact hol, fun p hp => ?_⟩, _, _, _, _, rfl⟩
    by_cases e : p = i
    · subst e
      rw [ew]
      exact ⟨_, List.getElem?_set_self (by omega), IsR.over ⟨tp, rfl, htp8⟩ hos8⟩
    · have hne : (Ps.getD i 0).toNat ≠ (Ps.getD p 0).toNat := fun z => e (by
        obtain ⟨_, _, y2⟩ := pm_get pPm (show p < n by omega)
        have a1 := idx_of pPm hi
        have a2 := idx_of pPm (show p < n by omega)
        rw [← p2, z, y2, a2] at a1
        exact a1)
      obtain ⟨v, hv, hG⟩ := hrows p (by omega)
      exact ⟨v, by rw [List.getElem?_set_ne hne]; exact hv, (hG.mono S8).over hos8⟩
  obtain ⟨S6, ⟨os, hos, hol, hrows⟩, r6, r7, r8, r9, rfl⟩ := hP
  have ren := ren_ws pPm pXm ok
  have hV : Paired (IsR K H6) os (renW Ps Xs n W) := by
    refine paired_of_get (by unfold renW; rw [List.length_map, List.length_range]; exact hol) fun u x b hx hb => ?_
    have hun : u < n := by have := (List.getElem?_eq_some_iff.mp hx).1; omega
    obtain ⟨y0, y1, y2⟩ := idx_at pPm hun
    obtain ⟨v, hv, hG⟩ := hrows (Ps.idxOf (u : Int)) (by omega)
    rw [y1, hx] at hv
    cases hv
    unfold renW at hb
    rw [List.getElem?_map, List.getElem?_range hun] at hb
    have hb' : (W.getD (Ps.idxOf (u : Int)) []).map (rx Xs) = b := Option.some.inj hb
    rw [← hb']
    exact hG
  generalize renW Ps Xs n W = Vs at ren hV
  have hW6 := Paired.mapP hW3 fun _ _ (h : IsR K H3 _ _) => h.mono S6
  have hWl6 := S6 _ _ hWl3
  have hP6 := S6.tup hP3
  have hX6 := S6.tup hX3
  clear hrows hW3 hWl3 hP3 hX3 S6 S5 S4 hL5 hL hLf
  have okW41 := ren.w41
  have okV41 := ren.v41
  -- eaten(others)
  refine ⟨_, rfl, L, os, rfl, .inl (SqL.of hos), fun c1 hc1 => ?_⟩
  have T1 : Same H6 (upd H6 c1 (.lst os)) := same_new hc1 _
  have k1 : upd H6 c1 (.lst os) c1 = some (.lst os) := upd_same
  generalize upd H6 c1 (.lst os) = J1 at T1 k1 ⊢
  refine ⟨c1, os, Vs, n, rfl, SqL.of k1, Paired.mapP hV (fun _ _ h => h.mono T1), ren.wV, fun e1 us1 N1 J2 T2 he10 he1 hN1 hus1 => ?_⟩
  have T12 := T1.trans T2
  -- eaten(wishes)
  refine ⟨_, rfl, pW, ws, rfl, .inl (SqL.of (T12 _ _ hWl6)), fun c2 hc2 => ?_⟩
  have T3 : Same J2 (upd J2 c2 (.lst ws)) := same_new hc2 _
  have k2 : upd J2 c2 (.lst ws) c2 = some (.lst ws) := upd_same
  generalize upd J2 c2 (.lst ws) = J3 at T3 k2 ⊢
  have T13 := T12.trans T3
  refine ⟨c2, ws, W, n, rfl, SqL.of k2, Paired.mapP hW6 (fun _ _ h => h.mono T13), ok, fun e2 us2 N J4 T4 he20 he2 hN hus2 => ?_⟩
  have T14 := T13.trans T4
  have eN := hN1.uniq (stops_ren ren hN)
  subst eN
  have hg2 := grows_of hus2
  have l2 : ((eatRows W n N1).map (fr (EM.st W n N1).D)).length = n := by unfold eatRows; simp
  have r2 : ∀ z ∈ (eatRows W n N1).map (fr (EM.st W n N1).D), z.length = n := fun z hz => by
    unfold eatRows at hz
    obtain ⟨y, hy, rfl⟩ := List.mem_map.mp hz
    obtain ⟨x, hx, rfl⟩ := List.mem_map.mp hy
    unfold fr eatRow
    rw [List.length_map, List.length_map, LM.rng_len]
  refine ⟨_, rfl, _, rfl, e2, pP, pX, us2, _, Ps, Xs, n, rfl, SqL.of he2, hg2, l2, r2, T14.tup hP6, T14.tup hX6, pPm, pXm, hn6, fun e3 us3 J5 T5 he3 hus3 => ?_⟩
  have T15 := T14.trans T5
  have hg1 := grows_of (Paired.mapP hus1 fun _ _ h => h.mono (T3.trans (T4.trans T5)))
  rw [eat_ren ren hN] at hg1
  have zl := renT_rows (P := Ps) (X := Xs) (n := n) (Z := (eatRows W n N1).map (fr (EM.st W n N1).D))
  generalize renT Ps Xs n ((eatRows W n N1).map (fr (EM.st W n N1).D)) = Z1 at hg1 hus3 zl
  have ok1 := okD_grows Z1
  have hl1 := Paired.len hg1
  have hl3 := Paired.len hus3
  have z1000 : ∀ r ∈ Z1, r.length ≤ 1000 := fun r hr => by have := zl.2 r hr; omega
  refine ⟨_, _, .lst (SqL.of ((T3.trans (T4.trans T5)) _ _ he1)) (Reps.of_grows hg1 z1000) (by omega), .lst (SqL.of he3) (Reps.of_grows hus3 z1000) (by omega), shaped_ok ok1 (by decide), shaped_ok ok1 (by decide), _, rfl, ?_⟩
  rw [eqv_self _ _ ok1]
  refine iteF ?_
  have hW7 := Paired.mapP hW6 fun _ _ (h : IsR K H6 _ _) => h.mono T15
  have hV7 := Paired.mapP hV fun _ _ (h : IsR K H6 _ _) => h.mono T15
  have hWl7 := T15 _ _ hWl6
  have hos7 := T15 _ _ hos
  have hP7 := T15.tup hP6
  have hX7 := T15.tup hX6
  clear hg1 hus3 hus1 hus2 hg2 he1 he2 he3 T1 T2 T3 T4 T5 T12 T13 T14 T15 hW6 hV hWl6 hos hP6 hX6 k1 k2 hc1 hc2 he10 he20
  -- the stops
  refine ⟨small0, fun pd hpd => ?_⟩
  have U1 : Same J5 (upd J5 pd (.lst [])) := same_new hpd _
  have d1 : upd J5 pd (.lst []) pd = some (.lst []) := upd_same
  generalize upd J5 pd (.lst []) = J6 at U1 d1 ⊢
  refine ⟨_, rfl, pW, ws, rfl, .inl (SqL.of (U1 _ _ hWl7)), fun c3 hc3 => ?_⟩
  have U2 : Same J6 (upd J6 c3 (.lst ws)) := same_new hc3 _
  have k3 : upd J6 c3 (.lst ws) c3 = some (.lst ws) := upd_same
  generalize upd J6 c3 (.lst ws) = J7 at U2 k3 ⊢
  have U12 := U1.trans U2
  refine ⟨c3, ws, W, n, rfl, SqL.of k3, Paired.mapP hW7 (fun _ _ h => h.mono U12), ok, fun s1 ts N2 J8 U3 hs10 hs1 hN2 hts => ?_⟩
  have eN2 := hN2.uniq hN
  subst eN2
  have U13 := U12.trans U3
  have htl := Paired.len hts
  have htl2 : ts.length = N2 := by rw [htl]; unfold stopsOf; simp
  have hNn := EM.upto_le ok hN.up
  refine ⟨s1, rfl, ⟨_, SqL.of hs1⟩, ?_⟩
  have hpdJ : J5 pd = none := hpd
  refine for_list (xs := ts) (fun i σ J9 => Same J5 J9 ∧ SqL K J9 s1 ts ∧ Paired (IsStop K J9) ts (stopsOf W n N2) ∧ (∃ ds : List V, J9 pd = some (.lst ds) ∧ Paired (IsStop K J9) ds ((List.range i).map (stopR Xs W n))) ∧ ∃ r6 r8 r9, σ = [some (.ref a), some (.int n), some (.ref pW), some (.ref pP), some (.ref pX), some (.ref L), r6, some (.ref pd), r8, r9])
    ⟨U13, SqL.of hs1, hts, ⟨[], (U2.trans U3) _ _ d1, .nil⟩, _, _, _, rfl⟩ (fun i σ J9 _ hP => hP.2.1) (fun i v σ J9 hv hP => ?_) (fun σ J9 hP => ?_)
  · obtain ⟨S9, hs9, hts9, ⟨ds, hds, hdp⟩, r6', r8', r9', rfl⟩ := hP
    obtain ⟨so, hso, v1⟩ := Paired.get' hts9 hv
    obtain ⟨hiN, rfl⟩ := stops_at hso
    obtain ⟨sa, sl, sg, rfl, h1, h2, h3⟩ := v1
    obtain ⟨gb, gl⟩ := gone_len ok (hN.up.mono (Nat.le_of_lt hiN))
    have hdl := Paired.len hdp
    rw [List.length_map, List.length_range] at hdl
    refine ⟨sa, _, rfl, h1, rfl, _, _, rfl, _, _, rfl, rfl, ?_⟩
    refine ⟨_, rfl, .inl ⟨rfl, _, SqL.of hds⟩, _, rfl, _, rfl, sg, rfl, ⟨_, h3⟩, ?_⟩
    have egone : (stopAt W n i).g = (EM.cs W (EM.st W n i)).gone := rfl
    rw [egone] at h3
    have estop : stopR Xs W n i = ⟨(EM.st W n (i + 1)).T, (EM.st W n (i + 1)).D, TM.srt ((EM.cs W (EM.st W n i)).gone.map (rx Xs))⟩ := rfl
    generalize (EM.cs W (EM.st W n i)).gone = G at h3 gb gl estop ⊢
    refine comp_tup1 (xs := G.map V.int) (fun j zs H7 => H7 = J9 ∧ zs = ((G.take j).map (rx Xs)).map V.int) ⟨rfl, rfl⟩ (fun j zs H7 _ hP => by rw [hP.1]; exact h3) (fun j y zs H7 hy hP => ?_) (fun zs H7 hP D hD => ?_)
    · obtain ⟨rfl, rfl⟩ := hP
      have hjl : j < G.length := by
        have := (List.getElem?_eq_some_iff.mp hy).1
        rw [List.length_map] at this
        exact this
      rw [map_int_get hjl] at hy
      cases hy
      have tb := gb (G.getD j 0) (by rw [HM.getD_lt hjl]; exact List.getElem_mem hjl)
      have hxg : (Xs.map V.int)[(G.getD j 0).toNat]? = some (.int (Xs.getD (G.getD j 0).toNat 0)) := map_int_get (by omega)
      refine ⟨_, rfl, _, rfl, pX, _, _, _, rfl, rfl, S9.tup hX7, atI_ok tb.1 hxg, small1000 (by rw [List.length_map, List.length_map, List.length_take]; omega), rfl, ?_⟩
      rw [List.take_add_one, List.getElem?_eq_getElem hjl, List.map_append, List.map_append, HM.getD_lt hjl]
      rfl
    obtain ⟨rfl, rfl⟩ := hP
    rw [List.length_map, List.take_length]
    have hDs := same_new hD (.lst ((G.map (rx Xs)).map V.int))
    refine ⟨D, G.map (rx Xs), rfl, .inl (SqL.of upd_same), by rw [List.length_map]; omega, fun l2 ns' hl2 hperm hsort => ?_⟩
    have hL2 := same_new hl2 (.lst (ns'.map V.int))
    refine ⟨l2, _, rfl, .inl ⟨SqL.of upd_same, fun tp htp => ?_⟩⟩
    have hTP := same_new htp (.tup (ns'.map V.int))
    refine ⟨by show 2 ≤ sizeLine; decide, fun tq htq => ?_⟩
    have hTQ := same_new htq (.tup [.ref sl, .ref tp])
    have Q1 := hDs.trans (hL2.trans (hTP.trans hTQ))
    have ens : ns' = TM.srt (G.map (rx Xs)) := TM.srt_eq hperm hsort
    have gtp := hTQ.tup (SqT.of (K := K) (show upd (upd (upd H7 D (.lst ((G.map (rx Xs)).map V.int))) l2 (.lst (ns'.map V.int))) tp (.tup (ns'.map V.int)) tp = _ from upd_same))
    have gtq : SqT K (upd (upd (upd (upd H7 D (.lst ((G.map (rx Xs)).map V.int))) l2 (.lst (ns'.map V.int))) tp (.tup (ns'.map V.int))) tq (.tup [.ref sl, .ref tp])) tq [.ref sl, .ref tp] := SqT.of upd_same
    generalize upd (upd (upd (upd H7 D (.lst ((G.map (rx Xs)).map V.int))) l2 (.lst (ns'.map V.int))) tp (.tup (ns'.map V.int))) tq (.tup [.ref sl, .ref tp]) = H8 at Q1 gtp gtq ⊢
    rw [ens] at gtp
    have hds8 := Q1 _ _ hds
    refine ⟨pd, ds, .ref tq, rfl, rfl, hds8, small1000 (by omega), ?_⟩
    refine ⟨(S9.trans Q1).over hpdJ _, ?_, Paired.mapP hts9 (fun _ _ h => (h.mono Q1).over hds8), ⟨_, upd_same, ?_⟩, _, _, _, rfl⟩
    · refine SqL.over (Q1.seq hs9) fun z => ?_
      rw [z, U2 _ _ d1] at hs10
      cases hs10
    · rw [List.range_succ, List.map_append]
      refine Paired.app (Paired.mapP hdp fun _ _ h => (h.mono Q1).over hds8) (.cons ?_ .nil)
      show IsStop K _ _ (stopR Xs W n i)
      rw [estop]
      exact IsStop.over ⟨tq, sl, tp, rfl, gtq, h2.mono Q1, gtp⟩ hds8
  obtain ⟨S9, hs9, hts9, ⟨ds, hds, hdp⟩, r6', r8', r9', rfl⟩ := hP
  rw [htl2] at hdp
  refine ⟨_, rfl, L, os, rfl, .inl (SqL.of (S9 _ _ hos7)), fun c4 hc4 => ?_⟩
  have V1 : Same J9 (upd J9 c4 (.lst os)) := same_new hc4 _
  have k4 : upd J9 c4 (.lst os) c4 = some (.lst os) := upd_same
  generalize upd J9 c4 (.lst os) = J10 at V1 k4 ⊢
  have S10 := S9.trans V1
  refine ⟨c4, os, Vs, n, rfl, SqL.of k4, Paired.mapP hV7 (fun _ _ h => h.mono S10), ren.wV, fun s2 ts2 N3 J11 V2 hs20 hs2 hN3 hts2 => ?_⟩
  have eN3 := hN3.uniq (stops_ren ren hN)
  subst eN3
  have S11 := S10.trans V2
  have oks : okD 3 (.list ((stopsOf Vs n N3).map fun s => PyData.tuple [dF (FQ.red s.T s.D), .tuple (s.g.map PyData.int)])) = true := okD_stopsD (stopsOf Vs n N3)
  have gV : ∀ s ∈ stopsOf Vs n N3, s.g.length ≤ 1000 := fun s hs => by
    unfold stopsOf at hs
    obtain ⟨i, hi, rfl⟩ := List.mem_map.mp hs
    have := (gone_len ren.wV (hN3.up.mono (Nat.le_of_lt (List.mem_range.mp hi)))).2
    show (EM.cs Vs (EM.st Vs n i)).gone.length ≤ 1000
    omega
  have gW : ∀ s ∈ (List.range N3).map (stopR Xs W n), s.g.length ≤ 1000 := fun s hs => by
    obtain ⟨i, hi, rfl⟩ := List.mem_map.mp hs
    have := (gone_len ok (hN.up.mono (Nat.le_of_lt (List.mem_range.mp hi)))).2
    show (TM.srt ((EM.cs W (EM.st W n i)).gone.map (rx Xs))).length ≤ 1000
    rw [srt_len, List.length_map]
    omega
  have r1 := Reps.of_stops hts2 gV
  have r2' := Reps.of_stops (Paired.mapP hdp fun _ _ h => h.mono (V1.trans V2)) gW
  have eS : (stopsOf Vs n N3).map (fun s => PyData.tuple [dF (FQ.red s.T s.D), .tuple (s.g.map PyData.int)]) = ((List.range N3).map (stopR Xs W n)).map fun s => PyData.tuple [dF (FQ.red s.T s.D), .tuple (s.g.map PyData.int)] := stop_ren ren hN
  rw [← eS] at r2'
  have lt2 := Paired.len hts2
  have ld2 := Paired.len hdp
  have ls2 : (stopsOf Vs n N3).length = N3 := by unfold stopsOf; simp
  rw [List.length_map, List.length_range] at ld2
  refine ⟨_, rfl, _, _, .lst (SqL.of hs2) r1 (by omega), .lst (SqL.of ((V1.trans V2) _ _ hds)) r2' (by omega), shaped_ok oks (by decide), shaped_ok oks (by decide), _, rfl, ?_⟩
  rw [eqv_self _ _ oks]
  refine iteF ?_
  have hW8 := Paired.mapP hW7 fun _ _ (h : IsR K J5 _ _) => h.mono S11
  have hV8 := Paired.mapP hV7 fun _ _ (h : IsR K J5 _ _) => h.mono S11
  have hWl8 := S11 _ _ hWl7
  have hos8 := S11 _ _ hos7
  have hP8 := S11.tup hP7
  have hX8 := S11.tup hX7
  clear r1 r2' hts2 hdp hds hts9 hs9 hts hs1 hs2 eS
  -- by turns
  refine ⟨_, rfl, L, os, rfl, .inl (SqL.of hos8), fun c5 hc5 => ?_⟩
  have X1 : Same J11 (upd J11 c5 (.lst os)) := same_new hc5 _
  have k5 : upd J11 c5 (.lst os) c5 = some (.lst os) := upd_same
  generalize upd J11 c5 (.lst os) = J12 at X1 k5 ⊢
  refine ⟨c5, os, Vs, n, rfl, SqL.of k5, Paired.mapP hV8 (fun _ _ h => h.mono X1), okV41, fun b1 bs1 J13 X2 hb10 hb1 hbs1 => ?_⟩
  have X12 := X1.trans X2
  refine ⟨_, rfl, pW, ws, rfl, .inl (SqL.of (X12 _ _ hWl8)), fun c6 hc6 => ?_⟩
  have X3 : Same J13 (upd J13 c6 (.lst ws)) := same_new hc6 _
  have k6 : upd J13 c6 (.lst ws) c6 = some (.lst ws) := upd_same
  generalize upd J13 c6 (.lst ws) = J14 at X3 k6 ⊢
  have X13 := X12.trans X3
  refine ⟨c6, ws, W, n, rfl, SqL.of k6, Paired.mapP hW8 (fun _ _ h => h.mono X13), okW41, fun b2 bs2 J15 X4 hb20 hb2 hbs2 => ?_⟩
  have X14 := X13.trans X4
  refine ⟨_, rfl, _, rfl, b2, pP, pX, bs2, _, Ps, Xs, n, rfl, SqL.of hb2, hbs2, tabT_len n W, (fun z hz => tabT_rows hz), X14.tup hP8, X14.tup hX8, pPm, pXm, hn6, fun b3 bs3 J16 X5 hb3 hbs3 => ?_⟩
  have hbs1' := Paired.mapP hbs1 fun _ _ (h : RwG K J13 _ _) => h.mono (X3.trans (X4.trans X5))
  rw [turn_ren ren] at hbs1'
  have zl2 := renT_rows (P := Ps) (X := Xs) (n := n) (Z := tabT n W)
  generalize renT Ps Xs n (tabT n W) = Z2 at hbs1' hbs3 zl2
  have ok2 := okD_grows Z2
  have hl1' := Paired.len hbs1'
  have hl3' := Paired.len hbs3
  have z1000' : ∀ r ∈ Z2, r.length ≤ 1000 := fun r hr => by have := zl2.2 r hr; omega
  refine ⟨_, _, .lst (SqL.of ((X3.trans (X4.trans X5)) _ _ hb1)) (Reps.of_grows hbs1' z1000') (by omega), .lst (SqL.of hb3) (Reps.of_grows hbs3 z1000') (by omega), shaped_ok ok2 (by decide), shaped_ok ok2 (by decide), ?_⟩
  rw [eqv_self _ _ ok2]
  exact q _
theorem all_mk {l : PySem.W.OpenLaw} {w : World} {K : PySem.W.Frag} {h : Heap} {mg : Str → Option Value} {fa : Addr} (X : K.In h) (G : h.Ns mainGlobals mg) (hfa : mg "law" = some (.ref fa))
    {f0 : Addr} {od0 an0 : Option Addr} {sl0 : Array (Option Value)} {oc0 kV0 dc0 pm0 cd0 ct0 : Value}
    {f1 : Addr} {od1 an1 : Option Addr} {sl1 : Array (Option Value)} {oc1 kV1 dc1 pm1 cd1 ct1 : Value}
    {f2 : Addr} {od2 an2 : Option Addr} {sl2 : Array (Option Value)} {oc2 kV2 dc2 pm2 cd2 ct2 : Value}
    {f3 : Addr} {od3 an3 : Option Addr} {sl3 : Array (Option Value)} {oc3 kV3 dc3 pm3 cd3 ct3 : Value}
    {f4 : Addr} {od4 an4 : Option Addr} {sl4 : Array (Option Value)} {oc4 kV4 dc4 pm4 cd4 ct4 : Value}
    {f5 : Addr} {od5 an5 : Option Addr} {sl5 : Array (Option Value)} {oc5 kV5 dc5 pm5 cd5 ct5 : Value}
    {f6 : Addr} {od6 an6 : Option Addr} {sl6 : Array (Option Value)} {oc6 kV6 dc6 pm6 cd6 ct6 : Value}
    {f7 : Addr} {od7 an7 : Option Addr} {sl7 : Array (Option Value)} {oc7 kV7 dc7 pm7 cd7 ct7 : Value}
    {f8 : Addr} {od8 an8 : Option Addr} {sl8 : Array (Option Value)} {oc8 kV8 dc8 pm8 cd8 ct8 : Value}
    {f9 : Addr} {od9 an9 : Option Addr} {sl9 : Array (Option Value)} {oc9 kV9 dc9 pm9 cd9 ct9 : Value}
    {f10 : Addr} {od10 an10 : Option Addr} {sl10 : Array (Option Value)} {oc10 kV10 dc10 pm10 cd10 ct10 : Value}
    {f11 : Addr} {od11 an11 : Option Addr} {sl11 : Array (Option Value)} {oc11 kV11 dc11 pm11 cd11 ct11 : Value}
    {f12 : Addr} {od12 an12 : Option Addr} {sl12 : Array (Option Value)} {oc12 kV12 dc12 pm12 cd12 ct12 : Value}
    {f13 : Addr} {od13 an13 : Option Addr} {sl13 : Array (Option Value)} {oc13 kV13 dc13 pm13 cd13 ct13 : Value}
    {f14 : Addr} {od14 an14 : Option Addr} {sl14 : Array (Option Value)} {oc14 kV14 dc14 pm14 cd14 ct14 : Value}
    {f15 : Addr} {od15 an15 : Option Addr} {sl15 : Array (Option Value)} {oc15 kV15 dc15 pm15 cd15 ct15 : Value}
    {f16 : Addr} {od16 an16 : Option Addr} {sl16 : Array (Option Value)} {oc16 kV16 dc16 pm16 cd16 ct16 : Value}
    {f17 : Addr} {od17 an17 : Option Addr} {sl17 : Array (Option Value)} {oc17 kV17 dc17 pm17 cd17 ct17 : Value}
    {f18 : Addr} {od18 an18 : Option Addr} {sl18 : Array (Option Value)} {oc18 kV18 dc18 pm18 cd18 ct18 : Value}
    {f19 : Addr} {od19 an19 : Option Addr} {sl19 : Array (Option Value)} {oc19 kV19 dc19 pm19 cd19 ct19 : Value}
    {f20 : Addr} {od20 an20 : Option Addr} {sl20 : Array (Option Value)} {oc20 kV20 dc20 pm20 cd20 ct20 : Value}
    {f21 : Addr} {od21 an21 : Option Addr} {sl21 : Array (Option Value)} {oc21 kV21 dc21 pm21 cd21 ct21 : Value}
    {f22 : Addr} {od22 an22 : Option Addr} {sl22 : Array (Option Value)} {oc22 kV22 dc22 pm22 cd22 ct22 : Value}
    {f23 : Addr} {od23 an23 : Option Addr} {sl23 : Array (Option Value)} {oc23 kV23 dc23 pm23 cd23 ct23 : Value}
    {f24 : Addr} {od24 an24 : Option Addr} {sl24 : Array (Option Value)} {oc24 kV24 dc24 pm24 cd24 ct24 : Value}
    {f25 : Addr} {od25 an25 : Option Addr} {sl25 : Array (Option Value)} {oc25 kV25 dc25 pm25 cd25 ct25 : Value}
    {f26 : Addr} {od26 an26 : Option Addr} {sl26 : Array (Option Value)} {oc26 kV26 dc26 pm26 cd26 ct26 : Value}
    {f27 : Addr} {od27 an27 : Option Addr} {sl27 : Array (Option Value)} {oc27 kV27 dc27 pm27 cd27 ct27 : Value}
    {f28 : Addr} {od28 an28 : Option Addr} {sl28 : Array (Option Value)} {oc28 kV28 dc28 pm28 cd28 ct28 : Value}
    {f29 : Addr} {od29 an29 : Option Addr} {sl29 : Array (Option Value)} {oc29 kV29 dc29 pm29 cd29 ct29 : Value}
    {ta0 : Addr} {td0 : Option Addr} {tn0 : Nat} {ts0 : Array (Option Value)} {tk0_0 tk0_1 : Tok}
    {ta1 : Addr} {td1 : Option Addr} {tn1 : Nat} {ts1 : Array (Option Value)} {tk1_0 tk1_1 : Tok}
    {x_WishError : Addr}
    {x_NoFraction : Addr}
    (a0 : PySem.W.nsIn K mainGlobals "is_whole" = some (some (.ref f0))) (l0 : K.lookup f0 = some ⟨oc0, od0, .func (PySem.W.fnOf "is_whole" "is_whole" (defArgs (top 6)) (defBody (top 6)) (defScope (top 6)) .none kV0 dc0 pm0 an0 cd0 ct0), sl0⟩) (c0 : PySem.W.codeIn K cd0 "is_whole" = true) (k0 : PySem.W.keepIn K (.ref f0) = true)
    (a1 : PySem.W.nsIn K mainGlobals "common_divisor" = some (some (.ref f1))) (l1 : K.lookup f1 = some ⟨oc1, od1, .func (PySem.W.fnOf "common_divisor" "common_divisor" (defArgs (top 7)) (defBody (top 7)) (defScope (top 7)) .none kV1 dc1 pm1 an1 cd1 ct1), sl1⟩) (c1 : PySem.W.codeIn K cd1 "common_divisor" = true) (k1 : PySem.W.keepIn K (.ref f1) = true)
    (a2 : PySem.W.nsIn K mainGlobals "fraction" = some (some (.ref f2))) (l2 : K.lookup f2 = some ⟨oc2, od2, .func (PySem.W.fnOf "fraction" "fraction" (defArgs (top 8)) (defBody (top 8)) (defScope (top 8)) .none kV2 dc2 pm2 an2 cd2 ct2), sl2⟩) (c2 : PySem.W.codeIn K cd2 "fraction" = true) (k2 : PySem.W.keepIn K (.ref f2) = true)
    (a3 : PySem.W.nsIn K mainGlobals "plus" = some (some (.ref f3))) (l3 : K.lookup f3 = some ⟨oc3, od3, .func (PySem.W.fnOf "plus" "plus" (defArgs (top 9)) (defBody (top 9)) (defScope (top 9)) .none kV3 dc3 pm3 an3 cd3 ct3), sl3⟩) (c3 : PySem.W.codeIn K cd3 "plus" = true) (k3 : PySem.W.keepIn K (.ref f3) = true)
    (a4 : PySem.W.nsIn K mainGlobals "minus" = some (some (.ref f4))) (l4 : K.lookup f4 = some ⟨oc4, od4, .func (PySem.W.fnOf "minus" "minus" (defArgs (top 10)) (defBody (top 10)) (defScope (top 10)) .none kV4 dc4 pm4 an4 cd4 ct4), sl4⟩) (c4 : PySem.W.codeIn K cd4 "minus" = true) (k4 : PySem.W.keepIn K (.ref f4) = true)
    (a5 : PySem.W.nsIn K mainGlobals "times" = some (some (.ref f5))) (l5 : K.lookup f5 = some ⟨oc5, od5, .func (PySem.W.fnOf "times" "times" (defArgs (top 11)) (defBody (top 11)) (defScope (top 11)) .none kV5 dc5 pm5 an5 cd5 ct5), sl5⟩) (c5 : PySem.W.codeIn K cd5 "times" = true) (k5 : PySem.W.keepIn K (.ref f5) = true)
    (a6 : PySem.W.nsIn K mainGlobals "before" = some (some (.ref f6))) (l6 : K.lookup f6 = some ⟨oc6, od6, .func (PySem.W.fnOf "before" "before" (defArgs (top 12)) (defBody (top 12)) (defScope (top 12)) .none kV6 dc6 pm6 an6 cd6 ct6), sl6⟩) (c6 : PySem.W.codeIn K cd6 "before" = true) (k6 : PySem.W.keepIn K (.ref f6) = true)
    (a7 : PySem.W.nsIn K mainGlobals "total" = some (some (.ref f7))) (l7 : K.lookup f7 = some ⟨oc7, od7, .func (PySem.W.fnOf "total" "total" (defArgs (top 13)) (defBody (top 13)) (defScope (top 13)) .none kV7 dc7 pm7 an7 cd7 ct7), sl7⟩) (c7 : PySem.W.codeIn K cd7 "total" = true) (k7 : PySem.W.keepIn K (.ref f7) = true)
    (a8 : PySem.W.nsIn K mainGlobals "least" = some (some (.ref f8))) (l8 : K.lookup f8 = some ⟨oc8, od8, .func (PySem.W.fnOf "least" "least" (defArgs (top 14)) (defBody (top 14)) (defScope (top 14)) .none kV8 dc8 pm8 an8 cd8 ct8), sl8⟩) (c8 : PySem.W.codeIn K cd8 "least" = true) (k8 : PySem.W.keepIn K (.ref f8) = true)
    (a9 : PySem.W.nsIn K mainGlobals "best_left" = some (some (.ref f9))) (l9 : K.lookup f9 = some ⟨oc9, od9, .func (PySem.W.fnOf "best_left" "best_left" (defArgs (top 16)) (defBody (top 16)) (defScope (top 16)) .none kV9 dc9 pm9 an9 cd9 ct9), sl9⟩) (c9 : PySem.W.codeIn K cd9 "best_left" = true) (k9 : PySem.W.keepIn K (.ref f9) = true)
    (a10 : PySem.W.nsIn K mainGlobals "time_to_stop" = some (some (.ref f10))) (l10 : K.lookup f10 = some ⟨oc10, od10, .func (PySem.W.fnOf "time_to_stop" "time_to_stop" (defArgs (top 17)) (defBody (top 17)) (defScope (top 17)) .none kV10 dc10 pm10 an10 cd10 ct10), sl10⟩) (c10 : PySem.W.codeIn K cd10 "time_to_stop" = true) (k10 : PySem.W.keepIn K (.ref f10) = true)
    (a11 : PySem.W.nsIn K mainGlobals "left_behind" = some (some (.ref f11))) (l11 : K.lookup f11 = some ⟨oc11, od11, .func (PySem.W.fnOf "left_behind" "left_behind" (defArgs (top 18)) (defBody (top 18)) (defScope (top 18)) .none kV11 dc11 pm11 an11 cd11 ct11), sl11⟩) (c11 : PySem.W.codeIn K cd11 "left_behind" = true) (k11 : PySem.W.keepIn K (.ref f11) = true)
    (a12 : PySem.W.nsIn K mainGlobals "courses_of" = some (some (.ref f12))) (l12 : K.lookup f12 = some ⟨oc12, od12, .func (PySem.W.fnOf "courses_of" "courses_of" (defArgs (top 19)) (defBody (top 19)) (defScope (top 19)) .none kV12 dc12 pm12 an12 cd12 ct12), sl12⟩) (c12 : PySem.W.codeIn K cd12 "courses_of" = true) (k12 : PySem.W.keepIn K (.ref f12) = true)
    (a13 : PySem.W.nsIn K mainGlobals "eaten_of" = some (some (.ref f13))) (l13 : K.lookup f13 = some ⟨oc13, od13, .func (PySem.W.fnOf "eaten_of" "eaten_of" (defArgs (top 20)) (defBody (top 20)) (defScope (top 20)) .none kV13 dc13 pm13 an13 cd13 ct13), sl13⟩) (c13 : PySem.W.codeIn K cd13 "eaten_of" = true) (k13 : PySem.W.keepIn K (.ref f13) = true)
    (a14 : PySem.W.nsIn K mainGlobals "eaten_by" = some (some (.ref f14))) (l14 : K.lookup f14 = some ⟨oc14, od14, .func (PySem.W.fnOf "eaten_by" "eaten_by" (defArgs (top 21)) (defBody (top 21)) (defScope (top 21)) .none kV14 dc14 pm14 an14 cd14 ct14), sl14⟩) (c14 : PySem.W.codeIn K cd14 "eaten_by" = true) (k14 : PySem.W.keepIn K (.ref f14) = true)
    (a15 : PySem.W.nsIn K mainGlobals "eaten" = some (some (.ref f15))) (l15 : K.lookup f15 = some ⟨oc15, od15, .func (PySem.W.fnOf "eaten" "eaten" (defArgs (top 22)) (defBody (top 22)) (defScope (top 22)) .none kV15 dc15 pm15 an15 cd15 ct15), sl15⟩) (c15 : PySem.W.codeIn K cd15 "eaten" = true) (k15 : PySem.W.keepIn K (.ref f15) = true)
    (a16 : PySem.W.nsIn K mainGlobals "stops" = some (some (.ref f16))) (l16 : K.lookup f16 = some ⟨oc16, od16, .func (PySem.W.fnOf "stops" "stops" (defArgs (top 23)) (defBody (top 23)) (defScope (top 23)) .none kV16 dc16 pm16 an16 cd16 ct16), sl16⟩) (c16 : PySem.W.codeIn K cd16 "stops" = true) (k16 : PySem.W.keepIn K (.ref f16) = true)
    (a17 : PySem.W.nsIn K mainGlobals "best_free" = some (some (.ref f17))) (l17 : K.lookup f17 = some ⟨oc17, od17, .func (PySem.W.fnOf "best_free" "best_free" (defArgs (top 25)) (defBody (top 25)) (defScope (top 25)) .none kV17 dc17 pm17 an17 cd17 ct17), sl17⟩) (c17 : PySem.W.codeIn K cd17 "best_free" = true) (k17 : PySem.W.keepIn K (.ref f17) = true)
    (a18 : PySem.W.nsIn K mainGlobals "with_one" = some (some (.ref f18))) (l18 : K.lookup f18 = some ⟨oc18, od18, .func (PySem.W.fnOf "with_one" "with_one" (defArgs (top 26)) (defBody (top 26)) (defScope (top 26)) .none kV18 dc18 pm18 an18 cd18 ct18), sl18⟩) (c18 : PySem.W.codeIn K cd18 "with_one" = true) (k18 : PySem.W.keepIn K (.ref f18) = true)
    (a19 : PySem.W.nsIn K mainGlobals "turns_from" = some (some (.ref f19))) (l19 : K.lookup f19 = some ⟨oc19, od19, .func (PySem.W.fnOf "turns_from" "turns_from" (defArgs (top 27)) (defBody (top 27)) (defScope (top 27)) .none kV19 dc19 pm19 an19 cd19 ct19), sl19⟩) (c19 : PySem.W.codeIn K cd19 "turns_from" = true) (k19 : PySem.W.keepIn K (.ref f19) = true)
    (a20 : PySem.W.nsIn K mainGlobals "orders_of" = some (some (.ref f20))) (l20 : K.lookup f20 = some ⟨oc20, od20, .func (PySem.W.fnOf "orders_of" "orders_of" (defArgs (top 28)) (defBody (top 28)) (defScope (top 28)) .none kV20 dc20 pm20 an20 cd20 ct20), sl20⟩) (c20 : PySem.W.codeIn K cd20 "orders_of" = true) (k20 : PySem.W.keepIn K (.ref f20) = true)
    (a21 : PySem.W.nsIn K mainGlobals "counts_of" = some (some (.ref f21))) (l21 : K.lookup f21 = some ⟨oc21, od21, .func (PySem.W.fnOf "counts_of" "counts_of" (defArgs (top 29)) (defBody (top 29)) (defScope (top 29)) .none kV21 dc21 pm21 an21 cd21 ct21), sl21⟩) (c21 : PySem.W.codeIn K cd21 "counts_of" = true) (k21 : PySem.W.keepIn K (.ref f21) = true)
    (a22 : PySem.W.nsIn K mainGlobals "shares_by_turns" = some (some (.ref f22))) (l22 : K.lookup f22 = some ⟨oc22, od22, .func (PySem.W.fnOf "shares_by_turns" "shares_by_turns" (defArgs (top 30)) (defBody (top 30)) (defScope (top 30)) .none kV22 dc22 pm22 an22 cd22 ct22), sl22⟩) (c22 : PySem.W.codeIn K cd22 "shares_by_turns" = true) (k22 : PySem.W.keepIn K (.ref f22) = true)
    (a23 : PySem.W.nsIn K mainGlobals "by_turns" = some (some (.ref f23))) (l23 : K.lookup f23 = some ⟨oc23, od23, .func (PySem.W.fnOf "by_turns" "by_turns" (defArgs (top 31)) (defBody (top 31)) (defScope (top 31)) .none kV23 dc23 pm23 an23 cd23 ct23), sl23⟩) (c23 : PySem.W.codeIn K cd23 "by_turns" = true) (k23 : PySem.W.keepIn K (.ref f23) = true)
    (a24 : PySem.W.nsIn K mainGlobals "_law_cell_at" = some (some (.ref f24))) (l24 : K.lookup f24 = some ⟨oc24, od24, .func (PySem.W.fnOf "_law_cell_at" "_law_cell_at" (defArgs (top 33)) (defBody (top 33)) (defScope (top 33)) .none kV24 dc24 pm24 an24 cd24 ct24), sl24⟩) (c24 : PySem.W.codeIn K cd24 "_law_cell_at" = true) (k24 : PySem.W.keepIn K (.ref f24) = true)
    (a25 : PySem.W.nsIn K mainGlobals "_law_mixed" = some (some (.ref f25))) (l25 : K.lookup f25 = some ⟨oc25, od25, .func (PySem.W.fnOf "_law_mixed" "_law_mixed" (defArgs (top 34)) (defBody (top 34)) (defScope (top 34)) .none kV25 dc25 pm25 an25 cd25 ct25), sl25⟩) (c25 : PySem.W.codeIn K cd25 "_law_mixed" = true) (k25 : PySem.W.keepIn K (.ref f25) = true)
    (a26 : PySem.W.nsIn K mainGlobals "_law_order" = some (some (.ref f26))) (l26 : K.lookup f26 = some ⟨oc26, od26, .func (PySem.W.fnOf "_law_order" "_law_order" (defArgs (top 35)) (defBody (top 35)) (defScope (top 35)) .none kV26 dc26 pm26 an26 cd26 ct26), sl26⟩) (c26 : PySem.W.codeIn K cd26 "_law_order" = true) (k26 : PySem.W.keepIn K (.ref f26) = true)
    (a27 : PySem.W.nsIn K mainGlobals "_law_wishes" = some (some (.ref f27))) (l27 : K.lookup f27 = some ⟨oc27, od27, .func (PySem.W.fnOf "_law_wishes" "_law_wishes" (defArgs (top 36)) (defBody (top 36)) (defScope (top 36)) .none kV27 dc27 pm27 an27 cd27 ct27), sl27⟩) (c27 : PySem.W.codeIn K cd27 "_law_wishes" = true) (k27 : PySem.W.keepIn K (.ref f27) = true)
    (a28 : PySem.W.nsIn K mainGlobals "_law_renamed" = some (some (.ref f28))) (l28 : K.lookup f28 = some ⟨oc28, od28, .func (PySem.W.fnOf "_law_renamed" "_law_renamed" (defArgs (top 37)) (defBody (top 37)) (defScope (top 37)) .none kV28 dc28 pm28 an28 cd28 ct28), sl28⟩) (c28 : PySem.W.codeIn K cd28 "_law_renamed" = true) (k28 : PySem.W.keepIn K (.ref f28) = true)
    (a29 : PySem.W.nsIn K mainGlobals "law" = some (some (.ref f29))) (l29 : K.lookup f29 = some ⟨oc29, od29, .func (PySem.W.fnOf "law" "law" (defArgs (top 38)) (defBody (top 38)) (defScope (top 38)) .none kV29 dc29 pm29 an29 cd29 ct29), sl29⟩) (c29 : PySem.W.codeIn K cd29 "law" = true) (k29 : PySem.W.keepIn K (.ref f29) = true)
    (z0 : PySem.W.nsIn K mainGlobals "isinstance" = some none)
    (z1 : PySem.W.nsIn K mainGlobals "int" = some none)
    (z2 : PySem.W.nsIn K mainGlobals "bool" = some none)
    (z3 : PySem.W.nsIn K mainGlobals "str" = some none)
    (z4 : PySem.W.nsIn K mainGlobals "list" = some none)
    (z5 : PySem.W.nsIn K mainGlobals "tuple" = some none)
    (z6 : PySem.W.nsIn K mainGlobals "abs" = some none)
    (z7 : PySem.W.nsIn K mainGlobals "len" = some none)
    (z8 : PySem.W.nsIn K mainGlobals "range" = some none)
    (z9 : PySem.W.nsIn K mainGlobals "sorted" = some none)
    (z10 : PySem.W.nsIn K mainGlobals "set" = some none)
    (z11 : PySem.W.nsIn K mainGlobals "enumerate" = some none)
    (ga0 : PySem.W.nsIn K mainGlobals "NOTHING" = some (some (.ref ta0))) (gl0 : K.lookup ta0 = some ⟨.type "tuple", td0, .seq #[Value.int 0 tk0_0, Value.int 1 tk0_1] tn0, ts0⟩)
    (ga1 : PySem.W.nsIn K mainGlobals "WHOLE" = some (some (.ref ta1))) (gl1 : K.lookup ta1 = some ⟨.type "tuple", td1, .seq #[Value.int 1 tk1_0, Value.int 1 tk1_1] tn1, ts1⟩)
    (xa_WishError : PySem.W.nsIn K mainGlobals "WishError" = some (some (.ref x_WishError))) (xe_WishError : PySem.W.excIn K x_WishError bmV "ValueError.__new__" = true)
    (xa_NoFraction : PySem.W.nsIn K mainGlobals "NoFraction" = some (some (.ref x_NoFraction))) (xe_NoFraction : PySem.W.excIn K x_NoFraction bmV "ValueError.__new__" = true)
    : ∃ fd : FuncData, (∀ (s : Shared) (v : Value), BindsTo s fd ⟨[v], []⟩ [("_law_script", v)]) ∧ ∀ base : Heap, K.In base → base.Ns mainGlobals mg → FnOk l.prog w K mg base CX0 9 fa fd ["_law_script"] (spLaw K) := by
  have e := hfa.symm.trans (PySem.W.mg_of X G a29)
  cases e
  have M : Md K mg ⟨x_WishError, x_NoFraction, 0, 0, 0, 0, 0, 0, 0, 0⟩ := ⟨⟨_, _, fun_mk (st := top 6) l0 c0 k0, PySem.W.mg_of X G a0⟩,
    ⟨_, _, fun_mk (st := top 7) l1 c1 k1, PySem.W.mg_of X G a1⟩,
    ⟨_, _, fun_mk (st := top 8) l2 c2 k2, PySem.W.mg_of X G a2⟩,
    ⟨_, _, fun_mk (st := top 9) l3 c3 k3, PySem.W.mg_of X G a3⟩,
    ⟨_, _, fun_mk (st := top 10) l4 c4 k4, PySem.W.mg_of X G a4⟩,
    ⟨_, _, fun_mk (st := top 11) l5 c5 k5, PySem.W.mg_of X G a5⟩,
    ⟨_, _, fun_mk (st := top 12) l6 c6 k6, PySem.W.mg_of X G a6⟩,
    ⟨_, _, fun_mk (st := top 13) l7 c7 k7, PySem.W.mg_of X G a7⟩,
    ⟨_, _, fun_mk (st := top 14) l8 c8 k8, PySem.W.mg_of X G a8⟩,
    ⟨_, _, fun_mk (st := top 16) l9 c9 k9, PySem.W.mg_of X G a9⟩,
    ⟨_, _, fun_mk (st := top 17) l10 c10 k10, PySem.W.mg_of X G a10⟩,
    ⟨_, _, fun_mk (st := top 18) l11 c11 k11, PySem.W.mg_of X G a11⟩,
    ⟨_, _, fun_mk (st := top 19) l12 c12 k12, PySem.W.mg_of X G a12⟩,
    ⟨_, _, fun_mk (st := top 20) l13 c13 k13, PySem.W.mg_of X G a13⟩,
    ⟨_, _, fun_mk (st := top 21) l14 c14 k14, PySem.W.mg_of X G a14⟩,
    ⟨_, _, fun_mk (st := top 22) l15 c15 k15, PySem.W.mg_of X G a15⟩,
    ⟨_, _, fun_mk (st := top 23) l16 c16 k16, PySem.W.mg_of X G a16⟩,
    ⟨_, _, fun_mk (st := top 25) l17 c17 k17, PySem.W.mg_of X G a17⟩,
    ⟨_, _, fun_mk (st := top 26) l18 c18 k18, PySem.W.mg_of X G a18⟩,
    ⟨_, _, fun_mk (st := top 27) l19 c19 k19, PySem.W.mg_of X G a19⟩,
    ⟨_, _, fun_mk (st := top 28) l20 c20 k20, PySem.W.mg_of X G a20⟩,
    ⟨_, _, fun_mk (st := top 29) l21 c21 k21, PySem.W.mg_of X G a21⟩,
    ⟨_, _, fun_mk (st := top 30) l22 c22 k22, PySem.W.mg_of X G a22⟩,
    ⟨_, _, fun_mk (st := top 31) l23 c23 k23, PySem.W.mg_of X G a23⟩,
    ⟨_, _, fun_mk (st := top 33) l24 c24 k24, PySem.W.mg_of X G a24⟩,
    ⟨_, _, fun_mk (st := top 34) l25 c25 k25, PySem.W.mg_of X G a25⟩,
    ⟨_, _, fun_mk (st := top 35) l26 c26 k26, PySem.W.mg_of X G a26⟩,
    ⟨_, _, fun_mk (st := top 36) l27 c27 k27, PySem.W.mg_of X G a27⟩,
    ⟨_, _, fun_mk (st := top 37) l28 c28 k28, PySem.W.mg_of X G a28⟩,
    ⟨_, _, fun_mk (st := top 38) l29 c29 k29, PySem.W.mg_of X G a29⟩,
    PySem.W.mg_none_of X G z0,
    PySem.W.mg_none_of X G z1,
    PySem.W.mg_none_of X G z2,
    PySem.W.mg_none_of X G z3,
    PySem.W.mg_none_of X G z4,
    PySem.W.mg_none_of X G z5,
    PySem.W.mg_none_of X G z6,
    PySem.W.mg_none_of X G z7,
    PySem.W.mg_none_of X G z8,
    PySem.W.mg_none_of X G z9,
    PySem.W.mg_none_of X G z10,
    PySem.W.mg_none_of X G z11,
    ⟨ta0, PySem.W.mg_of X G ga0, fun _ => .inr ⟨_, _, _, gl0, rfl, rfl, by show 2 ≤ sizeLine; decide, (.cons ⟨_, rfl⟩ (.cons ⟨_, rfl⟩ .nil))⟩⟩,
    ⟨ta1, PySem.W.mg_of X G ga1, fun _ => .inr ⟨_, _, _, gl1, rfl, rfl, by show 2 ≤ sizeLine; decide, (.cons ⟨_, rfl⟩ (.cons ⟨_, rfl⟩ .nil))⟩⟩,
    ⟨PySem.W.mg_of X G xa_WishError, xe_WishError⟩,
    ⟨PySem.W.mg_of X G xa_NoFraction, xe_NoFraction⟩⟩
  refine ⟨PySem.W.fnOf "law" "law" (defArgs (top 38)) (defBody (top 38)) (defScope (top 38)) .none kV29 dc29 pm29 an29 cd29 ct29, fun s v => .of_eq rfl, fun base _ _ => ?_⟩
  have Gis_whole := d_is_whole (P := l.prog) (w := w) (base := base) M 
  have Gcommon_divisor := d_common_divisor (P := l.prog) (w := w) (base := base) M 
  have Gfraction := d_fraction (P := l.prog) (w := w) (base := base) M Gis_whole Gcommon_divisor
  have Gplus := d_plus (P := l.prog) (w := w) (base := base) M Gfraction
  have Gminus := d_minus (P := l.prog) (w := w) (base := base) M Gfraction
  have Gtimes := d_times (P := l.prog) (w := w) (base := base) M Gfraction
  have Gbefore := d_before (P := l.prog) (w := w) (base := base) M 
  have Gtotal := d_total (P := l.prog) (w := w) (base := base) M Gplus
  have Gleast := d_least (P := l.prog) (w := w) (base := base) M Gbefore
  have Gbest_left := d_best_left (P := l.prog) (w := w) (base := base) M 
  have Gtime_to_stop := d_time_to_stop (P := l.prog) (w := w) (base := base) M Gtimes Gleast
  have Gleft_behind := d_left_behind (P := l.prog) (w := w) (base := base) M Gminus Gtimes
  have Gcourses_of := d_courses_of (P := l.prog) (w := w) (base := base) M Gtotal Gbest_left Gtime_to_stop Gleft_behind
  have Geaten_of := d_eaten_of (P := l.prog) (w := w) (base := base) M Gtotal
  have Geaten_by := d_eaten_by (P := l.prog) (w := w) (base := base) M Geaten_of
  have Geaten := d_eaten (P := l.prog) (w := w) (base := base) M Gcourses_of Geaten_by
  have Gstops := d_stops (P := l.prog) (w := w) (base := base) M Gcourses_of Gplus
  have Gbest_free := d_best_free (P := l.prog) (w := w) (base := base) M 
  have Gwith_one := d_with_one (P := l.prog) (w := w) (base := base) M 
  have Gturns_from := d_turns_from (P := l.prog) (w := w) (base := base) M Gbest_free
  have Gorders_of := d_orders_of (P := l.prog) (w := w) (base := base) M 
  have Gcounts_of := d_counts_of (P := l.prog) (w := w) (base := base) M Gorders_of Gturns_from Gwith_one
  have Gshares_by_turns := d_shares_by_turns (P := l.prog) (w := w) (base := base) M Gorders_of Gfraction
  have Gby_turns := d_by_turns (P := l.prog) (w := w) (base := base) M Gcounts_of Gshares_by_turns
  have G_law_cell_at := d__law_cell_at (P := l.prog) (w := w) (base := base) M 
  have G_law_mixed := d__law_mixed (P := l.prog) (w := w) (base := base) M 
  have G_law_order := d__law_order (P := l.prog) (w := w) (base := base) M 
  have G_law_wishes := d__law_wishes (P := l.prog) (w := w) (base := base) M G_law_cell_at G_law_order G_law_mixed
  have G_law_renamed := d__law_renamed (P := l.prog) (w := w) (base := base) M 
  exact d_law (fun_mk (st := top 38) l29 c29 k29) M G_law_cell_at G_law_wishes G_law_order G_law_mixed Geaten Gstops Gby_turns G_law_renamed
theorem walk {l : PySem.W.OpenLaw} {q : Program} {loose : List Str} {XP : (Str → Option Value) → Heap → Prop} {YP : World → Heap → Prop} {d : DefRec} {K : Params → PySem.W.Frag} (hn : l.most = some 63) (hdf : d.params.defaults = [])
    (hY : ∀ (w : World) (h : Heap), YP w h → (K w.params).In h)
    (F : ∀ (w : World) (mg : Str → Option Value) (fa : Addr) (h : Heap), (K w.params).In h → h.Ns mainGlobals mg → mg d.name = some (.ref fa) →
      ∃ fd : FuncData, (∀ (s : Shared) (u : Value), BindsTo s fd ⟨[u], []⟩ [("_law_script", u)]) ∧ ∀ base : Heap, (K w.params).In base → base.Ns mainGlobals mg → FnOk l.prog w (K w.params) mg base CX0 9 fa fd ["_law_script"] (spLaw (K w.params))) :
    PySem.W.WalkO q loose XP YP l.row.toRowW d [] (fun f vs => PySem.call f vs) :=
  L2.walk_of (n := 63) (k := 9) (x := "_law_script") (CX := fun _ => CX0) (sp := fun w => spLaw (K w.params)) hn (by decide) hdf ⟨rfl, by decide, by decide⟩ hY F (fun _ _ a ns hl _ hS => ⟨a, ns, rfl, hS, hl, fun _ => rfl⟩) fun _ _ _ _ _ z => z
end Nk64
open PySem PySem.W PyProof.Rows
set_option maxRecDepth 100000 in
set_option maxHeartbeats 0 in
theorem PySem.Challenge.cw_wishlots_k64_whole_names_turned_about_holds : PySem.Challenge.rw_wishlots_k64_whole_names_turned_about.Holds := by
  w_on; o_law; k_head; (case hw => w_witness2)
  k_fill
  refine Nk64.walk (l := PySem.Challenge.rw_wishlots_k64_whole_names_turned_about) rfl rfl (fun w h Y => PySem.W.kIn_of Y) ?F
  case F =>
    intro w mg fa h KX G hmg
    refine' Nk64.all_mk KX G hmg ?a0 ?l0 ?c0 ?k0 ?a1 ?l1 ?c1 ?k1 ?a2 ?l2 ?c2 ?k2 ?a3 ?l3 ?c3 ?k3 ?a4 ?l4 ?c4 ?k4 ?a5 ?l5 ?c5 ?k5 ?a6 ?l6 ?c6 ?k6 ?a7 ?l7 ?c7 ?k7 ?a8 ?l8 ?c8 ?k8 ?a9 ?l9 ?c9 ?k9 ?a10 ?l10 ?c10 ?k10 ?a11 ?l11 ?c11 ?k11 ?a12 ?l12 ?c12 ?k12 ?a13 ?l13 ?c13 ?k13 ?a14 ?l14 ?c14 ?k14 ?a15 ?l15 ?c15 ?k15 ?a16 ?l16 ?c16 ?k16 ?a17 ?l17 ?c17 ?k17 ?a18 ?l18 ?c18 ?k18 ?a19 ?l19 ?c19 ?k19 ?a20 ?l20 ?c20 ?k20 ?a21 ?l21 ?c21 ?k21 ?a22 ?l22 ?c22 ?k22 ?a23 ?l23 ?c23 ?k23 ?a24 ?l24 ?c24 ?k24 ?a25 ?l25 ?c25 ?k25 ?a26 ?l26 ?c26 ?k26 ?a27 ?l27 ?c27 ?k27 ?a28 ?l28 ?c28 ?k28 ?a29 ?l29 ?c29 ?k29 ?z0 ?z1 ?z2 ?z3 ?z4 ?z5 ?z6 ?z7 ?z8 ?z9 ?z10 ?z11 ?ga0 ?gl0 ?ga1 ?gl1 ?xa_WishError ?xe_WishError ?xa_NoFraction ?xe_NoFraction
    (case xa_WishError => k_is)
    (case xa_NoFraction => k_is)
    (case a0 => k_is)
    (case l0 => k_is)
    (case c0 => k_is)
    (case k0 => k_is)
    (case a1 => k_is)
    (case l1 => k_is)
    (case c1 => k_is)
    (case k1 => k_is)
    (case a2 => k_is)
    (case l2 => k_is)
    (case c2 => k_is)
    (case k2 => k_is)
    (case a3 => k_is)
    (case l3 => k_is)
    (case c3 => k_is)
    (case k3 => k_is)
    (case a4 => k_is)
    (case l4 => k_is)
    (case c4 => k_is)
    (case k4 => k_is)
    (case a5 => k_is)
    (case l5 => k_is)
    (case c5 => k_is)
    (case k5 => k_is)
    (case a6 => k_is)
    (case l6 => k_is)
    (case c6 => k_is)
    (case k6 => k_is)
    (case a7 => k_is)
    (case l7 => k_is)
    (case c7 => k_is)
    (case k7 => k_is)
    (case a8 => k_is)
    (case l8 => k_is)
    (case c8 => k_is)
    (case k8 => k_is)
    (case a9 => k_is)
    (case l9 => k_is)
    (case c9 => k_is)
    (case k9 => k_is)
    (case a10 => k_is)
    (case l10 => k_is)
    (case c10 => k_is)
    (case k10 => k_is)
    (case a11 => k_is)
    (case l11 => k_is)
    (case c11 => k_is)
    (case k11 => k_is)
    (case a12 => k_is)
    (case l12 => k_is)
    (case c12 => k_is)
    (case k12 => k_is)
    (case a13 => k_is)
    (case l13 => k_is)
    (case c13 => k_is)
    (case k13 => k_is)
    (case a14 => k_is)
    (case l14 => k_is)
    (case c14 => k_is)
    (case k14 => k_is)
    (case a15 => k_is)
    (case l15 => k_is)
    (case c15 => k_is)
    (case k15 => k_is)
    (case a16 => k_is)
    (case l16 => k_is)
    (case c16 => k_is)
    (case k16 => k_is)
    (case a17 => k_is)
    (case l17 => k_is)
    (case c17 => k_is)
    (case k17 => k_is)
    (case a18 => k_is)
    (case l18 => k_is)
    (case c18 => k_is)
    (case k18 => k_is)
    (case a19 => k_is)
    (case l19 => k_is)
    (case c19 => k_is)
    (case k19 => k_is)
    (case a20 => k_is)
    (case l20 => k_is)
    (case c20 => k_is)
    (case k20 => k_is)
    (case a21 => k_is)
    (case l21 => k_is)
    (case c21 => k_is)
    (case k21 => k_is)
    (case a22 => k_is)
    (case l22 => k_is)
    (case c22 => k_is)
    (case k22 => k_is)
    (case a23 => k_is)
    (case l23 => k_is)
    (case c23 => k_is)
    (case k23 => k_is)
    (case a24 => k_is)
    (case l24 => k_is)
    (case c24 => k_is)
    (case k24 => k_is)
    (case a25 => k_is)
    (case l25 => k_is)
    (case c25 => k_is)
    (case k25 => k_is)
    (case a26 => k_is)
    (case l26 => k_is)
    (case c26 => k_is)
    (case k26 => k_is)
    (case a27 => k_is)
    (case l27 => k_is)
    (case c27 => k_is)
    (case k27 => k_is)
    (case a28 => k_is)
    (case l28 => k_is)
    (case c28 => k_is)
    (case k28 => k_is)
    (case a29 => k_is)
    (case l29 => k_is)
    (case c29 => k_is)
    (case k29 => k_is)
    (case z0 => k_is)
    (case z1 => k_is)
    (case z2 => k_is)
    (case z3 => k_is)
    (case z4 => k_is)
    (case z5 => k_is)
    (case z6 => k_is)
    (case z7 => k_is)
    (case z8 => k_is)
    (case z9 => k_is)
    (case z10 => k_is)
    (case z11 => k_is)
    (case ga0 => k_is)
    (case gl0 => k_is)
    (case ga1 => k_is)
    (case gl1 => k_is)
    (case xe_WishError => k_exc)
    (case xe_NoFraction => k_exc)
#print axioms PySem.Challenge.cw_wishlots_k64_whole_names_turned_about_holds
