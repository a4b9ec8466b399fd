import PyProof.Rows.All
import Wide.All
import OpenK.AllK
import Wide.FinOn
import Lean
import PyProof.EqAt
import PyProof.EqKinds
import PyProof.TupleCall
import PySem.Challenge.RW_wishlots_k22_a_ring_or_an_order
set_option Elab.async false
set_option linter.all false
set_option maxRecDepth 100000
namespace TM
end TM
namespace L2
open PySem PySem.Spec PyProof.Rows
abbrev Key := Sum Int Str
def keyIs : Key → Value → Bool
  | .inl k, v => Value.isInt k v
  | .inr x, v => Value.isStrOf x v
def keyH (w : World) : Key → Int
  | .inl k => hashInt k
  | .inr x => hashStr w x
theorem keyIs_shape : ∀ {k : Key} {v : Value}, keyIs k v = true → (∃ i t, k = Sum.inl i ∧ v = Value.int i t) ∨ (∃ x t, k = Sum.inr x ∧ v = Value.str x t)
  | .inl i, v, h => by
    obtain ⟨t, e⟩ := Value.isInt_shape (k := i) (v := v) h
    exact .inl ⟨i, t, rfl, e⟩
  | .inr x, v, h => by
    obtain ⟨t, e⟩ := Value.isStrOf_shape (x := x) (v := v) h
    exact .inr ⟨x, t, rfl, e⟩
theorem keyIs_int (i : Int) (t : Tok) : keyIs (.inl i) (.int i t) = true := by simp [keyIs, Value.isInt]
theorem key_ll (a b : Int) : decide ((Sum.inl a : Key) = Sum.inl b) = (a == b) := by
  by_cases e : a = b
  · subst e; simp
  · have h : ¬ (Sum.inl a : Key) = Sum.inl b := fun q => e (Sum.inl.inj q)
    rw [decide_eq_false h]
    exact (beq_eq_false_iff_ne.mpr e).symm
theorem key_rr (a b : Str) : decide ((Sum.inr a : Key) = Sum.inr b) = decide (a = b) := by
  by_cases e : a = b
  · subst e; simp
  · have h : ¬ (Sum.inr a : Key) = Sum.inr b := fun q => e (Sum.inr.inj q)
    rw [decide_eq_false h, decide_eq_false e]
theorem key_lr (a : Int) (b : Str) : decide ((Sum.inl a : Key) = Sum.inr b) = false := decide_eq_false (fun q => nomatch q)
theorem key_rl (a : Str) (b : Int) : decide ((Sum.inr a : Key) = Sum.inl b) = false := decide_eq_false (fun q => nomatch q)
def mixKind (prog : Program) (w : World) : PySem.KeyKind prog w Key where
  is := keyIs
  hash := keyH w
  inj := fun v a b ha hb => by
    rcases keyIs_shape ha with ⟨i, t, rfl, rfl⟩ | ⟨x, t, rfl, rfl⟩
    · rcases keyIs_shape hb with ⟨j, u, rfl, e⟩ | ⟨y, u, rfl, e⟩
      · injection e with e1 _; rw [e1]
      · exact nomatch e
    · rcases keyIs_shape hb with ⟨j, u, rfl, e⟩ | ⟨y, u, rfl, e⟩
      · exact nomatch e
      · injection e with e1 _; rw [e1]
  byValue := fun k v h => by
    rcases keyIs_shape h with ⟨i, t, rfl, rfl⟩ | ⟨x, t, rfl, rfl⟩ <;> rfl
  pyHash := fun hv h => by
    rcases keyIs_shape hv with ⟨i, t, rfl, rfl⟩ | ⟨x, t, rfl, rfl⟩
    · exact wpAny_pyHash_int h
    · exact wpAny_pyHash_str h
  eqBool := fun hu hv h => by
    rcases keyIs_shape hu with ⟨i, t, rfl, rfl⟩ | ⟨x, t, rfl, rfl⟩
    · rcases keyIs_shape hv with ⟨j, u, rfl, rfl⟩ | ⟨y, u, rfl, rfl⟩
      · rw [key_ll] at h; exact wpAny_eqBool_int h
      · rw [key_lr] at h; exact SeqAt.EqAt.int_str i t y u _ _ _ _ h
    · rcases keyIs_shape hv with ⟨j, u, rfl, rfl⟩ | ⟨y, u, rfl, rfl⟩
      · rw [key_rl] at h; exact SeqAt.EqAt.str_int x t j u _ _ _ _ h
      · rw [key_rr] at h; exact wpAny_eqBool_str h
  «strs» := fun k x t v h => by
    rcases keyIs_shape h with ⟨i, u, rfl, e⟩ | ⟨y, u, rfl, e⟩
    · exact nomatch e
    · injection e with e1 _
      subst e1
      cases v <;> rfl
theorem mixKind_int (prog : Program) (w : World) (i : Int) (t : Tok) : (mixKind prog w).is (.inl i) (.int i t) = true := keyIs_int i t
end L2
namespace L2
open PySem PySem.Spec PyProof.Rows
inductive V where
  | non | bl (b : Bool) | int (i : Int) | str (x : Str) | byt (b : Array UInt8) | flt (b : UInt64) | ref (a : Addr) | ty (n : String)
  deriving DecidableEq
def RelV : V → Value → Prop
  | .non, u => u = Value.none
  | .bl b, u => u = Value.bool b
  | .int i, u => ∃ t, u = Value.int i t
  | .str x, u => ∃ t, u = Value.str x t
  | .byt b, u => ∃ t, u = Value.bytes b t
  | .flt b, u => ∃ t, u = Value.float b t
  | .ref a, u => u = Value.ref a
  | .ty n, u => u = Value.type n
abbrev Vals : List V → List Value → Prop := Paired RelV
theorem Vals.length {xs : List V} {us : List Value} (r : Vals xs us) : xs.length = us.length := Paired.length r
theorem Vals.get : ∀ {xs : List V} {us : List Value} {i : Nat} {x : V}, Vals xs us → xs[i]? = some x → ∃ u, us[i]? = some u ∧ RelV x u
  | _, _, _, _, .nil, e => by simp at e
  | _, _, 0, _, .cons r _, e => by simp at e; subst e; exact ⟨_, rfl, r⟩
  | _, _, i + 1, x, .cons _ t, e => by
    obtain ⟨u, h1, h2⟩ := Vals.get (i := i) (x := x) t (by simpa using e)
    exact ⟨u, by simpa using h1, h2⟩
theorem Vals.set {x : V} {u : Value} (r : RelV x u) : ∀ {xs : List V} {us : List Value} (i : Nat), Vals xs us → Vals (xs.set i x) (us.set i u)
  | _, _, _, .nil => .nil
  | _, _, 0, .cons _ t => .cons r t
  | _, _, i + 1, .cons q t => .cons q (Vals.set r i t)
theorem Vals.append : ∀ {xs ys : List V} {us ws : List Value}, Vals xs us → Vals ys ws → Vals (xs ++ ys) (us ++ ws)
  | _, _, _, _, .nil, s => s
  | _, _, _, _, .cons r t, s => .cons r (Vals.append t s)
theorem Vals.take : ∀ {xs : List V} {us : List Value} (n : Nat), Vals xs us → Vals (xs.take n) (us.take n)
  | _, _, 0, _ => .nil
  | _, _, _ + 1, .nil => .nil
  | _, _, n + 1, .cons r t => .cons r (Vals.take n t)
theorem Vals.drop : ∀ {xs : List V} {us : List Value} (n : Nat), Vals xs us → Vals (xs.drop n) (us.drop n)
  | _, _, 0, r => r
  | _, _, _ + 1, .nil => .nil
  | _, _, n + 1, .cons _ t => Vals.drop n t
def RelO : Option V → Option Value → Prop
  | some v, some u => RelV v u
  | none, none => True
  | _, _ => False
def KV {κ : Type} : List (κ × V) → List (κ × Value) → Prop := Paired fun (p : κ × V) (q : κ × Value) => p.1 = q.1 ∧ RelV p.2 q.2
def kV : Key → V
  | .inl i => .int i
  | .inr x => .str x
inductive HO where
  | lst (xs : List V)
  | tup (xs : List V)
  | dK (kvs : List (Key × V)) | dT (kvs : List (List Key × V))
  | set (S : Int → Bool) (n : Nat)
  | ins (C dx : Addr) (fs : List (Str × V))
  | own (x : Addr)
  | xd (fs : List (Str × V))
  | met (f x : Addr)
  | rng (lo hi : Int)
  | frz (o : Obj) (u : HO)
  | tbl (ps : Array Value)
  | ext (φ : Heap → Prop)
abbrev Hp := Addr → Option HO
def upd (H : Hp) (a : Addr) (o : HO) : Hp := fun b => if b = a then some o else H b
theorem upd_same {H : Hp} {a : Addr} {o : HO} : upd H a o a = some o := by unfold upd; rw [if_pos rfl]
theorem upd_ne {H : Hp} {a b : Addr} {o : HO} (h : b ≠ a) : upd H a o b = H b := by unfold upd; rw [if_neg h]
theorem ne_of {H : Hp} {a b : Addr} {o u : HO} (h : H a = some o) (h' : H b = some u) (d : o ≠ u) : a ≠ b := by
  intro e; subst e; rw [h] at h'; exact d (Option.some.inj h')
theorem ne_of_none {H : Hp} {a b : Addr} {o : HO} (h : H a = some o) (h' : H b = none) : a ≠ b := by
  intro e; subst e; rw [h] at h'; cases h'
section
variable (P : Program) (w : World)
def ObjOk (H : Hp) (h : Heap) (a : Addr) : HO → Prop
  | .lst xs => xs.length ≤ sizeLine ∧ ∃ (its : List Value) (n : Nat), Vals xs its ∧ h.get? a = some { cls := .type "list", data := .seq its.toArray n }
  | .tup xs => xs.length ≤ sizeLine ∧ ∃ its : List Value, Vals xs its ∧ IsTup h a its.toArray
  | .dK kvs => kvs.length ≤ sizeLine ∧ (a == sysModules) = false ∧ ∃ vs, KV kvs vs ∧ h.DictOf (mixKind P w) a vs
  | .dT kvs => kvs.length ≤ sizeLine ∧ (a == sysModules) = false ∧ ∃ xs : List (List Key × Addr × Value),
      Paired (fun (p : List Key × V) (q : List Key × Addr × Value) => p.1 = q.1 ∧ H q.2.1 = some (.tup (p.1.map kV)) ∧ RelV p.2 q.2.2) kvs xs ∧
      ∃ o es ep, h.get? a = some o ∧ o.ExactDict ∧ o.data = .dict es ep ∧ es.toList = xs.map (entryOfKey (tupleKind (mixKind P w))) ∧ (xs.map (·.1)).Nodup
  | .set S n => h.SetOf (intKind P w) a S n
  | .ins C dx fs => H dx = some (.own a) ∧ fs.length ≤ 1000 ∧ dx ≠ a ∧ h.get? a = some (PySem.W.instObj C dx) ∧
      ∃ mA, h.Ns1 dx mA ∧ (∀ f, RelO (fs.lookup f) (mA f)) ∧ PySem.Within mA (fs.map (·.1))
  | .own _ => ∃ o, h.get? a = some o
  | .xd fs => ∃ mA, h.Ns1 a mA ∧ ∀ f, RelO (fs.lookup f) (mA f)
  | .rng lo hi => ∃ t u v, h.get? a = some { cls := .type "range", data := .fields #[.int lo t, .int hi u, .int 1 v] }
  | .frz o u => h.get? a = some o ∧ ObjOk H h a u
  | .tbl ps => h.get? a = some { cls := .none, data := .fields ps }
  | .met f x => h.get? a = some (PySem.W.methodObj (.ref f) (.ref x))
  | .ext φ => φ h ∧ (∃ o, h.get? a = some o) ∧ ∀ h1 h2 : Heap, φ h1 → (∀ o, h1.get? a = some o → h2.get? a = some o) → φ h2
def HOk (H : Hp) (h : Heap) : Prop := ∀ a o, H a = some o → ObjOk P w H h a o
end
section
variable {P : Program} {w : World} {H H' : Hp} {h h' : Heap} {a : Addr} {o : HO}
theorem ObjOk.lt (x : ObjOk P w H h a o) : a < h.objs.size := by
  cases o with
  | lst xs => obtain ⟨_, _, _, _, e⟩ := x; exact Heap.lt_size e
  | tup xs => obtain ⟨_, _, _, p⟩ := x; exact p.lt
  | dK kvs => obtain ⟨_, _, _, _, o, _, _, e, _⟩ := x; exact Heap.lt_size e
  | dT kvs => obtain ⟨_, _, _, _, o, _, _, e, _⟩ := x; exact Heap.lt_size e
  | set S n => obtain ⟨o, _, _, _, e, _⟩ := x; exact Heap.lt_size e
  | ins C dx fs => obtain ⟨_, _, _, e, _⟩ := x; exact Heap.lt_size e
  | own y => obtain ⟨_, e⟩ := x; exact Heap.lt_size e
  | xd fs => obtain ⟨_, ⟨_, _, _, e, _⟩, _⟩ := x; exact Heap.lt_size e
  | rng lo hi => obtain ⟨_, _, _, e⟩ := x; exact Heap.lt_size e
  | frz ob u => obtain ⟨e, _⟩ := x; exact Heap.lt_size e
  | tbl ps => exact Heap.lt_size (show h.get? a = some _ from x)
  | met f y => exact Heap.lt_size (show h.get? a = some _ from x)
  | ext φ => obtain ⟨_, ⟨_, e⟩, _⟩ := x; exact Heap.lt_size e
theorem Paired.mapP {α β : Type} {F G : α → β → Prop} : ∀ {l₁ : List α} {l₂ : List β}, Paired F l₁ l₂ → (∀ a b, F a b → G a b) → Paired G l₁ l₂
  | _, _, .nil, _ => .nil
  | _, _, .cons r t, f => .cons (f _ _ r) (Paired.mapP t f)
theorem ObjOk.stay (x : ObjOk P w H h a o) (k : ∀ b u, (b = a ∨ H b = some (.own a)) → h.get? b = some u → h'.get? b = some u)
    (ho : ∀ b, H b = some (.own a) → H' b = some (.own a)) (ht : ∀ b xs, H b = some (.tup xs) → H' b = some (.tup xs)) : ObjOk P w H' h' a o := by
  induction o with
  | lst xs => obtain ⟨z, its, n, r, e⟩ := x; exact ⟨z, its, n, r, k _ _ (.inl rfl) e⟩
  | tup xs => obtain ⟨z, its, r, ob, e, c⟩ := x; exact ⟨z, its, r, ob, k _ _ (.inl rfl) e, c⟩
  | dK kvs => obtain ⟨z, y, vs, r, ob, es, ep, e, c⟩ := x; exact ⟨z, y, vs, r, ob, es, ep, k _ _ (.inl rfl) e, c⟩
  | dT kvs =>
    obtain ⟨z, y, xs, r, ob, es, ep, e, c⟩ := x
    exact ⟨z, y, xs, Paired.mapP r fun p q z => ⟨z.1, ht _ _ z.2.1, z.2.2⟩, ob, es, ep, k _ _ (.inl rfl) e, c⟩
  | set S n => obtain ⟨ob, es, ep, t, e, c⟩ := x; exact ⟨ob, es, ep, t, k _ _ (.inl rfl) e, c⟩
  | ins C dx fs =>
    obtain ⟨d, z, ne, e, mA, ⟨od, es, ep, e2, c⟩, r⟩ := x
    exact ⟨ho _ d, z, ne, k _ _ (.inl rfl) e, mA, ⟨od, es, ep, k _ _ (.inr d) e2, c⟩, r⟩
  | own y => obtain ⟨ob, e⟩ := x; exact ⟨ob, k _ _ (.inl rfl) e⟩
  | xd fs => obtain ⟨mA, ⟨od, es, ep, e, c⟩, r⟩ := x; exact ⟨mA, ⟨od, es, ep, k _ _ (.inl rfl) e, c⟩, r⟩
  | rng lo hi => obtain ⟨t, u, v, e⟩ := x; exact ⟨t, u, v, k _ _ (.inl rfl) e⟩
  | frz ob u ih => obtain ⟨e, q⟩ := x; exact ⟨k _ _ (.inl rfl) e, ih q⟩
  | tbl ps =>
    have e : h.get? a = some { cls := .none, data := .fields ps } := x
    show h'.get? a = some { cls := .none, data := .fields ps }
    exact k a _ (.inl rfl) e
  | met f y =>
    have e : h.get? a = some (PySem.W.methodObj (.ref f) (.ref y)) := x
    show h'.get? a = some (PySem.W.methodObj (.ref f) (.ref y))
    exact k a _ (.inl rfl) e
  | ext φ => obtain ⟨p, ⟨o, e⟩, st⟩ := x; exact ⟨st _ _ p fun o q => k _ _ (.inl rfl) q, ⟨o, k _ _ (.inl rfl) e⟩, st⟩
theorem HOk.lt (x : HOk P w H h) (e : H a = some o) : a < h.objs.size := (x a o e).lt
theorem HOk.fresh (x : HOk P w H h) (e : h.objs.size ≤ a) : H a = none := by
  cases q : H a with
  | none => rfl
  | some u => exact absurd (Nat.lt_of_lt_of_le (x.lt q) e) (Nat.lt_irrefl _)
theorem HOk.kept (x : HOk P w H h) (k : ∀ b u, h.get? b = some u → h'.get? b = some u) : HOk P w H h' := fun a o e =>
  (x a o e).stay (fun b u _ q => k b u q) (fun _ q => q) fun _ _ q => q
theorem HOk.laid (x : HOk P w H h) (k : ∀ b u, h.get? b = some u → h'.get? b = some u) (hp : h.objs.size ≤ a) (new : ObjOk P w (upd H a o) h' a o) : HOk P w (upd H a o) h' := fun b u e => by
  have hn := x.fresh hp
  by_cases hb : b = a
  · subst hb; rw [upd_same] at e; cases e; exact new
  · rw [upd_ne hb] at e
    exact (x b u e).stay (fun c v _ q => k c v q) (fun c q => by rw [upd_ne (ne_of_none q hn)]; exact q) fun c xs q => by rw [upd_ne (ne_of_none q hn)]; exact q
end
def Rd (H : Hp) (a : Addr) (u : HO) : Prop := H a = some u ∨ ∃ o, H a = some (.frz o u)
theorem Rd.ok {P : Program} {w : World} {H : Hp} {h : Heap} {a : Addr} {u : HO} (r : Rd H a u) (x : HOk P w H h) : ObjOk P w H h a u := by
  rcases r with r | ⟨o, r⟩
  · exact x a u r
  · obtain ⟨_, q⟩ := x a _ r
    exact q
def Mut : Option HO → Prop
  | some (.lst _) => True
  | some (.dK _) => True
  | some (.dT _) => True
  | some (.set _ _) => True
  | some (.ins _ _ _) => True
  | some (.ext _) => True
  | _ => False
section
variable {P : Program} {w : World} {H : Hp} {h h' : Heap} {x e : Addr} {o' : HO}
theorem HOk.write (ok : HOk P w H h) (mu : Mut (H x)) (he : e = x ∨ H e = some (.own x)) (k : ∀ b u, b ≠ e → h.get? b = some u → h'.get? b = some u) (heo : ∃ u, h'.get? e = some u)
    (new : ObjOk P w (upd H x o') h' x o') : HOk P w (upd H x o') h' := fun b u q => by
  have nown : ∀ c y, H c = some (.own y) → c ≠ x := fun c y r z => by subst z; rw [r] at mu; exact mu
  have ntup : ∀ c xs, H c = some (.tup xs) → c ≠ x := fun c xs r z => by subst z; rw [r] at mu; exact mu
  by_cases hb : b = x
  · subst hb; rw [upd_same] at q; cases q; exact new
  · rw [upd_ne hb] at q
    by_cases hbe : b = e
    · have q' : H b = some (.own x) := by
        rcases he with z | z
        · exact absurd (hbe.trans z) hb
        · rw [hbe]; exact z
      rw [q] at q'; cases q'
      obtain ⟨v, hv⟩ := heo
      exact ⟨v, by rw [hbe]; exact hv⟩
    · refine (ok b u q).stay (fun c v hc r => k c v ?_ r) (fun c r => by rw [upd_ne (nown c b r)]; exact r) fun c xs r => by rw [upd_ne (ntup c xs r)]; exact r
      rcases hc with rfl | hc
      · exact hbe
      · rintro rfl
        rcases he with z | z
        · exact nown c b hc z
        · rw [hc] at z; cases z; exact hb rfl
end
structure Un (fs ex : List Addr) (H H' : Hp) (h h' : Heap) : Prop where
  keep : ∀ b o, h.get? b = some o → H b = none → b ∉ fs → b ∉ ex → h'.get? b = some o
  slot : ∀ b o, h.get? b = some o → H b = none → b ∈ fs → b ∉ ex → ∃ sl, h'.get? b = some { o with slots := sl }
  free : ∀ b o, h.get? b = some o → H b = none → b ∉ ex → H' b = none
  there : ∀ b o, h.get? b = some o → b ∉ ex → ∃ o', h'.get? b = some o'
  tups : ∀ b xs, H b = some (.tup xs) → H' b = some (.tup xs)
  frzs : ∀ b o u, H b = some (.frz o u) → H' b = some (.frz o u)
  tbls : ∀ b ps, H b = some (.tbl ps) → ∃ more, H' b = some (.tbl (ps ++ more))
section
variable {fs fs' ex ex' : List Addr} {H H1 H2 : Hp} {h h1 h2 h' : Heap} {a x e : Addr} {o : HO}
theorem Un.any (u : Un fs ex H H1 h h1) {b : Addr} {ob : Obj} (q : h.get? b = some ob) (n : H b = none) (hx : b ∉ ex) : ∃ sl, h1.get? b = some { ob with slots := sl } := by
  by_cases hb : b ∈ fs
  · exact u.slot b ob q n hb hx
  · exact ⟨ob.slots, u.keep b ob q n hb hx⟩
theorem Un.kept (k : ∀ b u, h.get? b = some u → h'.get? b = some u) : Un fs ex H H h h' :=
  ⟨fun b ob q _ _ _ => k b ob q, fun b ob q _ _ _ => ⟨ob.slots, k b ob q⟩, fun _ _ _ n _ => n, fun b ob q _ => ⟨ob, k b ob q⟩, fun _ _ q => q, fun _ _ _ q => q, fun _ ps q => ⟨#[], by rw [q]; simp⟩⟩
theorem Un.refl : Un fs ex H H h h := Un.kept fun _ _ q => q
theorem Un.laid (k : ∀ b u, h.get? b = some u → h'.get? b = some u) (hp : h.objs.size ≤ a) (hn : H a = none) : Un fs ex H (upd H a o) h h' where
  keep := fun b u q _ _ _ => k b u q
  slot := fun b u q _ _ _ => ⟨u.slots, k b u q⟩
  free := fun b u q n _ => by rw [upd_ne (Nat.ne_of_lt (Nat.lt_of_lt_of_le (Heap.lt_size q) hp))]; exact n
  there := fun b u q _ => ⟨u, k b u q⟩
  tups := fun b xs q => by rw [upd_ne (ne_of_none q hn)]; exact q
  frzs := fun b u xs q => by rw [upd_ne (ne_of_none q hn)]; exact q
  tbls := fun b ps q => ⟨#[], by rw [upd_ne (ne_of_none q hn), q]; simp⟩
theorem Un.write (mu : Mut (H x)) (he : e = x ∨ H e = some (.own x)) (k : ∀ b u, b ≠ e → h.get? b = some u → h'.get? b = some u) (heo : ∃ u, h'.get? e = some u) : Un fs ex H (upd H x o) h h' := by
  have hx : ∀ b, H b = none → b ≠ x := fun b n z => by subst z; rw [n] at mu; exact mu
  have hb : ∀ b, H b = none → b ≠ e := fun b n z => by
    subst z
    rcases he with r | r
    · exact hx b n r
    · rw [n] at r; cases r
  have hm : ∀ b u, H b = some u → ¬ Mut (some u) → b ≠ x := fun b u q nm z => by subst z; rw [q] at mu; exact nm mu
  refine ⟨fun b u q n _ _ => k b u (hb b n) q, fun b u q n _ _ => ⟨u.slots, k b u (hb b n) q⟩, fun b u q n _ => by rw [upd_ne (hx b n)]; exact n, fun b u q _ => ?_,
    fun b xs q => by rw [upd_ne (hm b _ q fun z => z)]; exact q, fun b u xs q => by rw [upd_ne (hm b _ q fun z => z)]; exact q, fun b ps q => ⟨#[], by rw [upd_ne (hm b _ q fun z => z), q]; simp⟩⟩
  by_cases hbe : b = e
  · subst hbe; exact heo
  · exact ⟨u, k b u hbe q⟩
end
def trk (h : Heap) (H : Hp) : List Addr := (List.range h.objs.size).filter fun a => (H a).isSome
def hidT (h : Heap) (H : Hp) : Heap := PySem.W.hideAll h (trk h H)
theorem hidT_size (h : Heap) (H : Hp) : (hidT h H).objs.size = h.objs.size := PySem.W.hideAll_size _ _
theorem hidT_get {h : Heap} {H : Hp} {b : Addr} {o : Obj} (e : h.get? b = some o) (n : H b = none) : (hidT h H).get? b = some o :=
  PySem.W.hideAll_get _ e fun hm => by
    have q : (H b).isSome = true := (List.mem_filter.mp hm).2
    rw [n] at q; simp at q
theorem of_hidT {h : Heap} {H : Hp} {b : Addr} {o : Obj} (e : (hidT h H).get? b = some o) : h.get? b = some o ∧ H b = none := by
  have e' : h.get? b = some o := PySem.W.of_hideAll (trk h H) e
  refine ⟨e', ?_⟩
  cases q : H b with
  | none => rfl
  | some x =>
    have hm : b ∈ trk h H := List.mem_filter.mpr ⟨List.mem_range.mpr (Heap.lt_size e'), by simp [q]⟩
    have z : (hidT h H).get? b = none := PySem.W.hideAll_none (trk h H) hm
    rw [z] at e; cases e
def allNews (g h : Heap) (L : Addr) : List (Addr × Obj) := (List.range h.objs.size).filterMap fun a => if a = L ∨ (g.get? a).isSome = true then none else (h.get? a).map fun o => (a, o)
def rest (g h : Heap) (L d : Addr) : List (Addr × Obj) := (allNews g h L).filter fun p => decide (p.1 ≠ d)
end L2
namespace L2
open PySem PySem.Spec PyProof.Rows
structure Mod (K : PySem.W.Frag) (mg : Str → Option Value) (base : Heap) : Prop where
  kin : K.In base
  glob : base.Ns mainGlobals mg
  blt : ∃ mb, base.Ns builtinsNs mb ∧ ∀ x : Str, x ≠ "__name__" → mb x = bootBuiltins x
  nolimit : base.NoLimit
structure Cx where
  prog : Program
  w : World
  K : PySem.W.Frag
  mg : Str → Option Value
  base : Heap
  A : Around
  N : List Str
  s₀ : Shared
  H₀ : Hp
  env : Env
  outer : List Env
  stack : List Env
  ex : List Addr
  fn : Str → Bool
  calm : Bool
  pn : List (Addr × Obj)
  xe : Value → Shared → Prop
def frs (l : List Env) : List Addr := l.filterMap (·.frame)
abbrev Cx.fs (X : Cx) : List Addr := frs X.outer
def Vis (sc : Scope) (x : Str) : Prop := sc.names.lookup x = some .local ∨ sc.names.lookup x = some .cell ∨ sc.names.lookup x = some .free
def Loc (sc : Scope) (x : Str) : Prop := sc.names.lookup x = some .local ∨ sc.names.lookup x = some .cell
def Look (env : Env) (h : Heap) (m : Str → Option Value) (x : Str) (u : Value) : Prop :=
  (env.kindOf x = some .local ∧ m x = some u) ∨ ((env.kindOf x = some .cell ∨ env.kindOf x = some .free) ∧ ∃ c, env.cells.lookup x = some c ∧ h.IsCell c (some u))
structure Cx.Ok (X : Cx) : Prop where
  mod : Mod X.K X.mg X.base
  kind : X.env.scope.kind = .function
  glob : X.env.globals = mainGlobals
  blt : X.env.builtins = builtinsNs
  above : X.s₀.heap.objs.size ≤ X.env.locals
  inj : ∀ x y c, X.env.cells.lookup x = some c → X.env.cells.lookup y = some c → x = y
  has : ∀ x, (X.env.kindOf x = some .cell ∨ X.env.kindOf x = some .free) → ∃ c, X.env.cells.lookup x = some c
  cab : ∀ x c, X.fn x = true → X.env.cells.lookup x = some c → X.s₀.heap.objs.size ≤ c
  hd : X.calm = true → X.A.handled = none
  frames : X.A.frames = some X.stack
  stk : X.stack = X.outer ∨ (X.stack = X.env :: X.outer ∧ X.env.frame = some X.env.locals)
  exf : ∀ b ∈ X.ex, b ≠ X.env.locals ∧ ∀ x c, X.env.cells.lookup x = some c → c ≠ b
  bs : ∀ b o, X.base.get? b = some o → X.s₀.heap.get? b = some o ∧ X.H₀ b = none
  bsz : X.base.objs.size ≤ X.s₀.heap.objs.size
  noex : ∀ b o, X.base.get? b = some o → b ∉ X.ex
  exfs : ∀ b ∈ X.ex, b ∉ X.fs
  funs : X.s₀.heap.FunFrames X.base X.outer
  frf : ∀ b ∈ X.fs, X.H₀ b = none
structure Inv (X : Cx) (pins : List (Addr × Obj)) (σ : List (Option V)) (H : Hp) (s : Shared) : Prop where
  ok : X.Ok
  os : s.os = X.s₀.os
  bare : AllBare s.gens
  base : Un X.fs X.ex X.H₀ H X.s₀.heap s.heap
  loc : ∃ m, s.heap.Ns X.env.locals m ∧ ∀ (i : Nat) (x : Str) (v : V), X.N[i]? = some x → σ[i]? = some (some v) → Vis X.env.scope x → ∃ u, RelV v u ∧ Look X.env s.heap m x u
  cell : ∀ x c, X.env.cells.lookup x = some c → ∃ v, s.heap.IsCell c v
  free : H X.env.locals = none
  freeC : ∀ x c, X.env.cells.lookup x = some c → H c = none
  pin : ∀ p ∈ X.pn ++ pins, s.heap.get? p.1 = some p.2 ∧ H p.1 = none ∧ p.1 ≠ X.env.locals ∧ p.1 ∉ X.fs ∧ ∀ v, p.2.data ≠ .cell v
  hok : HOk X.prog X.w H s.heap
  len : σ.length = X.N.length
section
variable {X : Cx} {pins : List (Addr × Obj)} {σ : List (Option V)} {H H' : Hp} {s : Shared} {h' : Heap}
theorem Cx.Ok.nofr (ok : X.Ok) {b : Addr} {o : Obj} (e : X.base.get? b = some o) : b ∉ X.fs := fun hb => by
  have := (ok.funs.mem hb).1
  rw [e] at this; cases this
theorem Inv.bs (I : Inv X pins σ H s) : ∀ b o, X.base.get? b = some o → s.heap.get? b = some o ∧ H b = none := fun b o e =>
  ⟨I.base.keep b o (I.ok.bs b o e).1 (I.ok.bs b o e).2 (I.ok.nofr e) (I.ok.noex b o e), I.base.free b o (I.ok.bs b o e).1 (I.ok.bs b o e).2 (I.ok.noex b o e)⟩
theorem Inv.bk (I : Inv X pins σ H s) : ∀ b o, X.base.get? b = some o → s.heap.get? b = some o := fun b o e => (I.bs b o e).1
theorem Inv.mod (I : Inv X pins σ H s) : Mod X.K X.mg X.base := I.ok.mod
theorem Inv.kIn (I : Inv X pins σ H s) : X.K.In s.heap := I.ok.mod.kin.keeps I.bk
theorem Inv.fr (I : Inv X pins σ H s) : ∃ m, Fr X.base X.env.locals s.heap m :=
  let ⟨m, hn, _⟩ := I.loc
  ⟨m, hn, I.bk, Nat.le_trans I.ok.bsz I.ok.above⟩
theorem Inv.lt (I : Inv X pins σ H s) : X.env.locals < s.heap.objs.size := let ⟨_, hn, _⟩ := I.loc; hn.lt
theorem Inv.sz (I : Inv X pins σ H s) : X.s₀.heap.objs.size ≤ s.heap.objs.size := Nat.le_trans I.ok.above (Nat.le_of_lt I.lt)
theorem Inv.nofs (I : Inv X pins σ H s) {a : Addr} (h : s.heap.objs.size ≤ a) : a ∉ X.fs := fun hb => by
  obtain ⟨_, o, ho, _⟩ := I.ok.funs.mem hb
  exact absurd (Nat.lt_of_lt_of_le (Heap.lt_size ho) (Nat.le_trans I.sz h)) (Nat.lt_irrefl _)
theorem Inv.cne (I : Inv X pins σ H s) : ∀ x c, X.env.cells.lookup x = some c → c ≠ X.env.locals := fun x c e z => by
  obtain ⟨v, o, ho, hd⟩ := I.cell x c e
  obtain ⟨m, ⟨o', es, ep, ho', hd', _⟩, _⟩ := I.loc
  rw [z, ho'] at ho; cases ho; rw [hd'] at hd; cases hd
theorem Inv.funs (I : Inv X pins σ H s) : s.heap.FunFrames X.base X.outer := by
  have all : ∀ (l : List Env), (∀ b ∈ frs l, b ∈ X.fs) → X.s₀.heap.FunFrames X.base l → s.heap.FunFrames X.base l := by
    intro l
    induction l with
    | nil => intro _ _; trivial
    | cons env r ih =>
      intro hs hl
      obtain ⟨hk, ⟨L, o, hf, hn, ho, hd⟩, hr⟩ := hl
      have hL : L ∈ X.fs := hs L (by unfold frs; rw [List.filterMap_cons, hf]; exact List.mem_cons_self)
      obtain ⟨sl, e⟩ := I.base.slot L o ho (I.ok.frf L hL) hL fun z => I.ok.exfs L z hL
      exact ⟨hk, ⟨L, _, hf, hn, e, hd⟩, ih (fun b hb => hs b (by unfold frs; rw [List.filterMap_cons, hf]; exact List.mem_cons_of_mem _ hb)) hr⟩
  exact all X.outer (fun _ hb => hb) I.ok.funs
theorem Inv.stack (I : Inv X pins σ H s) : s.heap.FunFrames X.base X.stack := by
  rcases I.ok.stk with e | ⟨e, hf⟩
  · rw [e]; exact I.funs
  · rw [e]
    obtain ⟨m, hn, _⟩ := I.loc
    refine .cons (by rw [I.ok.kind]; decide) hf hn ?_ I.funs
    exact Heap.get?_none_of_le (Nat.le_trans I.ok.bsz I.ok.above)
theorem Inv.stkSub (I : Inv X pins σ H s) : ∀ b ∈ frs X.stack, b ∈ X.env.locals :: X.fs := fun b hb => by
  rcases I.ok.stk with e | ⟨e, hf⟩
  · rw [e] at hb; exact List.mem_cons_of_mem _ hb
  · rw [e] at hb
    unfold frs at hb
    rw [List.filterMap_cons, hf] at hb
    exact hb
theorem Inv.stkFree (I : Inv X pins σ H s) : ∀ b ∈ frs X.stack, H b = none := fun b hb => by
  rcases List.mem_cons.mp (I.stkSub b hb) with e | hb
  · rw [e]; exact I.free
  · obtain ⟨_, o, ho, _⟩ := I.ok.funs.mem hb
    exact I.base.free b o ho (I.ok.frf b hb) fun z => I.ok.exfs b z hb
theorem Inv.step {g' : Array GenState} {t' : Nat} {d' : Drawn} {ch : List Addr} (I : Inv X pins σ H s)
    (hch : ∀ b ∈ ch, (b ∈ X.ex ∨ X.s₀.heap.objs.size ≤ b) ∧ b ≠ X.env.locals ∧ (∀ x c, X.env.cells.lookup x = some c → c ≠ b) ∧ ∀ p ∈ X.pn ++ pins, p.1 ≠ b)
    (keep : ∀ b o, b ≠ X.env.locals → b ∉ X.fs → b ∉ ch → s.heap.get? b = some o → H b = none → h'.get? b = some o)
    (slot : ∀ b o, b ≠ X.env.locals → b ∈ X.fs → b ∉ ch → s.heap.get? b = some o → H b = none → ∃ sl, h'.get? b = some { o with slots := sl }) (free : ∀ b o, b ∉ ch → s.heap.get? b = some o → H b = none → H' b = none)
    (there : ∀ b o, b ∉ ch → s.heap.get? b = some o → ∃ o', h'.get? b = some o')
    (tups : ∀ b xs, H b = some (.tup xs) → H' b = some (.tup xs)) (frzs : ∀ b o u, H b = some (.frz o u) → H' b = some (.frz o u)) (tbls : ∀ b ps, H b = some (.tbl ps) → ∃ more, H' b = some (.tbl (ps ++ more)))
    (ns : ∀ m, s.heap.Ns X.env.locals m → h'.Ns X.env.locals m) (hok : HOk X.prog X.w H' h') (hg : AllBare g') :
    Inv X pins σ H' { s with heap := h', gens := g', drawn := d', toks := t' } := by
  have neL : ∀ b o, X.s₀.heap.get? b = some o → b ≠ X.env.locals := fun b o e => Nat.ne_of_lt (Nat.lt_of_lt_of_le (Heap.lt_size e) I.ok.above)
  have neC : ∀ b o, X.s₀.heap.get? b = some o → b ∉ X.ex → b ∉ ch := fun b o e hx hb => by
    rcases (hch b hb).1 with z | z
    · exact hx z
    · exact absurd (Nat.lt_of_lt_of_le (Heap.lt_size e) z) (Nat.lt_irrefl _)
  have cellK : ∀ x c, X.env.cells.lookup x = some c → ∀ v, s.heap.IsCell c v → h'.IsCell c v := fun x c e v ⟨o, ho, hd⟩ => by
    have nch : c ∉ ch := fun z => (hch c z).2.2.1 x c e rfl
    by_cases hc : c ∈ X.fs
    · obtain ⟨sl, q⟩ := slot c o (I.cne x c e) hc nch ho (I.freeC x c e)
      exact ⟨_, q, hd⟩
    · exact ⟨o, keep c o (I.cne x c e) hc nch ho (I.freeC x c e), hd⟩
  refine ⟨I.ok, I.os, hg, ⟨fun b o e n hb hx => ?_, fun b o e n hb hx => ?_, fun b o e n hx => ?_, fun b o e hx => ?_, fun b xs e => tups b xs (I.base.tups b xs e), fun b o xs e => frzs b o xs (I.base.frzs b o xs e), fun b ps e => ?_⟩, ?_, fun x c e => ?_, ?_, fun x c e => ?_, fun p hp => ?_, hok, I.len⟩
  · exact keep b o (neL b o e) hb (neC b o e hx) (I.base.keep b o e n hb hx) (I.base.free b o e n hx)
  · obtain ⟨sl, e1⟩ := I.base.slot b o e n hb hx
    obtain ⟨sl', e2⟩ := slot b _ (neL b o e) hb (neC b o e hx) e1 (I.base.free b o e n hx)
    exact ⟨sl', e2⟩
  · obtain ⟨o', e1⟩ := I.base.there b o e hx
    exact free b o' (neC b o e hx) e1 (I.base.free b o e n hx)
  · obtain ⟨o', e1⟩ := I.base.there b o e hx
    exact there b o' (neC b o e hx) e1
  · obtain ⟨m1, e1⟩ := I.base.tbls b ps e
    obtain ⟨m2, e2⟩ := tbls b _ e1
    exact ⟨m1 ++ m2, by rw [e2, Array.append_assoc]⟩
  · obtain ⟨m, hn, hl⟩ := I.loc
    refine ⟨m, ns m hn, fun i x v e1 e2 e3 => ?_⟩
    obtain ⟨u, r, l⟩ := hl i x v e1 e2 e3
    refine ⟨u, r, ?_⟩
    rcases l with l | ⟨k, c, e, z⟩
    · exact .inl l
    · exact .inr ⟨k, c, e, cellK x c e _ z⟩
  · obtain ⟨v, z⟩ := I.cell x c e
    exact ⟨v, cellK x c e v z⟩
  · obtain ⟨m, ⟨o, _, _, ho, _⟩, _⟩ := I.loc
    exact free _ o (fun z => (hch _ z).2.1 rfl) ho I.free
  · obtain ⟨v, o, ho, hd⟩ := I.cell x c e
    exact free c o (fun z => (hch c z).2.2.1 x c e rfl) ho (I.freeC x c e)
  · obtain ⟨e, n, ne, nf, d⟩ := I.pin p hp
    have nch : p.1 ∉ ch := fun z => (hch p.1 z).2.2.2 p hp rfl
    exact ⟨keep p.1 p.2 ne nf nch e n, free p.1 p.2 nch e n, ne, nf, d⟩
theorem Inv.un {t' : Nat} (I : Inv X pins σ H s) (u : Un X.fs [] H H' s.heap h') (hok : HOk X.prog X.w H' h') : Inv X pins σ H' { s with heap := h', toks := t' } := by
  obtain ⟨m, ⟨o, es, ep, ho, r⟩, _⟩ := id I.loc
  obtain ⟨sl, hL⟩ := u.any ho I.free (by simp)
  exact I.step (g' := s.gens) (d' := s.drawn) (ch := []) (fun _ z => nomatch z) (fun b o _ hb _ e n => u.keep b o e n hb (by simp)) (fun b o _ hb _ e n => u.slot b o e n hb (by simp)) (fun b o _ e n => u.free b o e n (by simp)) (fun b o _ e => u.there b o e (by simp)) u.tups u.frzs u.tbls (fun m' hm => by
    obtain ⟨o', es', ep', ho', r'⟩ := hm
    rw [ho] at ho'; cases ho'
    exact ⟨_, es', ep', hL, r'⟩) hok I.bare
theorem Inv.call {g' : Array GenState} {t' : Nat} {d' : Drawn} {ch : List Addr} (I : Inv X pins σ H s) (u : Un (frs X.stack) ch H H' s.heap h') (hok : HOk X.prog X.w H' h') (hg : AllBare g')
    (hch : ∀ b ∈ ch, (b ∈ X.ex ∨ X.s₀.heap.objs.size ≤ b) ∧ b ≠ X.env.locals ∧ (∀ x c, X.env.cells.lookup x = some c → c ≠ b) ∧ ∀ p ∈ X.pn ++ pins, p.1 ≠ b) :
    Inv X pins σ H' { s with heap := h', gens := g', drawn := d', toks := t' } := by
  obtain ⟨m, ⟨o, es, ep, ho, r⟩, _⟩ := id I.loc
  obtain ⟨sl, hL⟩ := u.any ho I.free fun z => (hch _ z).2.1 rfl
  exact I.step (ch := ch) hch (fun b o hL hb hc e n => u.keep b o e n (fun z => (List.mem_cons.mp (I.stkSub b z)).elim hL hb) hc) (fun b o _ _ hc e n => u.any e n hc) (fun b o hc e n => u.free b o e n hc) (fun b o hc e => u.there b o e hc) u.tups u.frzs u.tbls (fun m' hm => by
    obtain ⟨o', es', ep', ho', r'⟩ := hm
    rw [ho] at ho'; cases ho'
    exact ⟨_, es', ep', hL, r'⟩) hok hg
theorem Inv.turned {t' : Nat} {it : Addr} (I : Inv X pins σ H s) (k : ∀ b o, b ≠ it → s.heap.get? b = some o → h'.get? b = some o) (hn : H it = none) (hL : it ≠ X.env.locals)
    (h1 : it ∈ X.ex ∨ X.s₀.heap.objs.size ≤ it) (h2 : ∀ x c, X.env.cells.lookup x = some c → c ≠ it) (h3 : ∀ p ∈ X.pn ++ pins, p.1 ≠ it) : Inv X pins σ H { s with heap := h', toks := t' } := by
  have nit : ∀ b u, H b = some u → b ≠ it := fun b u e z => by rw [z, hn] at e; cases e
  refine I.step (g' := s.gens) (d' := s.drawn) (ch := [it]) (fun b hb => ?_) (fun b o _ _ hc e _ => k b o (fun z => hc (by simp [z])) e) (fun b o _ _ hc e _ => ⟨o.slots, k b o (fun z => hc (by simp [z])) e⟩) (fun _ _ _ _ n => n)
    (fun b o hc e => ⟨o, k b o (fun z => hc (by simp [z])) e⟩) (fun _ _ e => e) (fun _ _ _ e => e) (fun b ps e => ⟨#[], by rw [e]; simp⟩) (fun m hm => ?_) (fun b u e => ?_) I.bare
  · have e : b = it := by simpa using hb
    subst e
    exact ⟨h1, hL, h2, h3⟩
  · obtain ⟨o, es, ep, ho, r⟩ := hm
    exact ⟨o, es, ep, k _ o (Ne.symm hL) ho, r⟩
  · refine (I.hok b u e).stay (fun c v hc q => k c v ?_ q) (fun _ q => q) fun _ _ q => q
    rcases hc with z | z
    · rw [z]; exact nit b u e
    · exact nit c _ z
theorem Inv.tok (I : Inv X pins σ H s) (t : Nat) : Inv X pins σ H { s with toks := t } := I.un (h' := s.heap) (t' := t) Un.refl I.hok
theorem Inv.kept {t' : Nat} (I : Inv X pins σ H s) (k : ∀ b u, s.heap.get? b = some u → h'.get? b = some u) : Inv X pins σ H { s with heap := h', toks := t' } := I.un (Un.kept k) (I.hok.kept k)
theorem Inv.laid {a : Addr} {o : HO} {t' : Nat} (I : Inv X pins σ H s) (k : ∀ b u, s.heap.get? b = some u → h'.get? b = some u) (hp : s.heap.objs.size ≤ a) (new : ObjOk X.prog X.w (upd H a o) h' a o) :
    Inv X pins σ (upd H a o) { s with heap := h', toks := t' } := I.un (Un.laid k hp (I.hok.fresh hp)) (I.hok.laid k hp new)
theorem Inv.write {x e : Addr} {o : HO} {t' : Nat} (I : Inv X pins σ H s) (mu : Mut (H x)) (he : e = x ∨ H e = some (.own x)) (k : ∀ b u, b ≠ e → s.heap.get? b = some u → h'.get? b = some u) (heo : ∃ u, h'.get? e = some u)
    (new : ObjOk X.prog X.w (upd H x o) h' x o) : Inv X pins σ (upd H x o) { s with heap := h', toks := t' } := I.un (Un.write mu he k heo) (I.hok.write mu he k heo new)
theorem Inv.weak {σ' : List (Option V)} (I : Inv X pins σ H s) (hl : σ'.length = σ.length) (w : ∀ (i : Nat) v, σ'[i]? = some (some v) → σ[i]? = some (some v)) : Inv X pins σ' H s :=
  ⟨I.ok, I.os, I.bare, I.base, let ⟨m, hn, hl'⟩ := I.loc; ⟨m, hn, fun i x v e1 e2 e3 => hl' i x v e1 (w i v e2) e3⟩, I.cell, I.free, I.freeC, I.pin, I.hok, hl.trans I.len⟩
theorem Inv.pins_of {pins' : List (Addr × Obj)} (I : Inv X pins σ H s) (h : ∀ p ∈ pins', s.heap.get? p.1 = some p.2 ∧ H p.1 = none ∧ p.1 ≠ X.env.locals ∧ p.1 ∉ X.fs ∧ ∀ v, p.2.data ≠ .cell v) : Inv X pins' σ H s :=
  ⟨I.ok, I.os, I.bare, I.base, I.loc, I.cell, I.free, I.freeC, fun p hp => (List.mem_append.mp hp).elim (fun z => I.pin p (List.mem_append_left _ z)) (h p), I.hok, I.len⟩
theorem nodup_ix {N : List Str} (hN : N.Nodup) {i j : Nat} {x : Str} (a : N[i]? = some x) (b : N[j]? = some x) : i = j := by
  obtain ⟨h1, e1⟩ := List.getElem?_eq_some_iff.mp a
  obtain ⟨h2, e2⟩ := List.getElem?_eq_some_iff.mp b
  exact (List.getElem_inj hN).mp (e1.trans e2.symm)
theorem store_ok2 {M : Model} {A : Around} {E : Value → Shared → Prop} {i : Nat} {x : Str} {v : V} {u : Value} {Q : Unit → Shared → Prop} (I : Inv X pins σ H s) (hN : X.N.Nodup) (hi : X.N[i]? = some x) (hx : Loc X.env.scope x) (r : RelV v u)
    (h : ∀ s', Inv X pins (σ.set i (some v)) H s' → (∃ a, Heap.SameBut a s.heap s'.heap ∧ (a = X.env.locals ∨ X.env.cells.lookup x = some a)) → Q () s') (hf : X.fn x = true ∨ X.env.scope.names.lookup x = some .local := by first | exact .inl rfl | exact .inr rfl | assumption) : wpAny M A (storeName X.env x u) Q E s := by
  obtain ⟨m, hn, hl⟩ := id I.loc
  have hcls : (X.env.scope.kind == .class || (X.env.scope.kind == .module && X.env.locals != X.env.globals)) = false := by rw [I.ok.kind]; rfl
  have hiσ : i < σ.length := by rw [I.len]; exact (List.getElem?_eq_some_iff.mp hi).1
  have cne := I.cne
  have tracked : ∀ {a : Addr} {h' : Heap}, (∃ o, s.heap.get? a = some o ∧ H a = none) → Heap.SameBut a s.heap h' → HOk X.prog X.w H h' := fun {a h'} ha hs b ob e => by
    obtain ⟨_, _, hfree⟩ := ha
    refine (I.hok b ob e).stay (fun c w' hc q => (hs.2 c ?_).trans q) (fun _ q => q) fun _ _ q => q
    rintro rfl
    rcases hc with rfl | hc
    · rw [hfree] at e; cases e
    · rw [hfree] at hc; cases hc
  rcases hx with hk | hk
  · refine wpAny_storeName_local hk hn (fun h' hn' hs => ?_) hcls
    obtain ⟨oL, _, _, hoL, _⟩ := id hn
    refine h _ ⟨I.ok, I.os, I.bare, ⟨fun b o e n hb hx => ?_, fun b o e n hb hx => ?_, I.base.free, fun b o e hx => ?_, I.base.tups, I.base.frzs, I.base.tbls⟩, ⟨_, hn', fun j y v' e1 e2 e3 => ?_⟩, fun y c e => ?_, I.free, I.freeC, fun p hp => ?_, tracked ⟨oL, hoL, I.free⟩ hs, by simpa using I.len⟩ ⟨_, hs, .inl rfl⟩
    · exact (hs.2 b (Nat.ne_of_lt (Nat.lt_of_lt_of_le (Heap.lt_size e) I.ok.above))).trans (I.base.keep b o e n hb hx)
    · obtain ⟨sl, e1⟩ := I.base.slot b o e n hb hx
      exact ⟨sl, (hs.2 b (Nat.ne_of_lt (Nat.lt_of_lt_of_le (Heap.lt_size e) I.ok.above))).trans e1⟩
    · obtain ⟨o', e1⟩ := I.base.there b o e hx
      exact ⟨o', (hs.2 b (Nat.ne_of_lt (Nat.lt_of_lt_of_le (Heap.lt_size e) I.ok.above))).trans e1⟩
    · by_cases hj : j = i
      · subst hj
        rw [hi] at e1; cases e1
        rw [List.getElem?_set_self hiσ] at e2
        cases e2
        exact ⟨u, r, .inl ⟨hk, by simp⟩⟩
      · rw [List.getElem?_set_ne (Ne.symm hj)] at e2
        obtain ⟨u', r', q⟩ := hl j y v' e1 e2 e3
        refine ⟨u', r', ?_⟩
        rcases q with ⟨k, e⟩ | ⟨k, c, e, z⟩
        · refine .inl ⟨k, ?_⟩
          have : y ≠ x := fun e => hj (nodup_ix hN e1 (e ▸ hi))
          simp [this, e]
        · exact .inr ⟨k, c, e, z.sameBut hs (cne y c e)⟩
    · obtain ⟨w', z⟩ := I.cell y c e
      exact ⟨w', z.sameBut hs (cne y c e)⟩
    · obtain ⟨e, n, ne, nf, d⟩ := I.pin p hp
      exact ⟨(hs.2 p.1 ne).trans e, n, ne, nf, d⟩
  · have hfn : X.fn x = true := by
      rcases hf with z | z
      · exact z
      · rw [z] at hk; cases hk
    obtain ⟨c, hc⟩ := I.ok.has x (.inl hk)
    obtain ⟨w', z⟩ := I.cell x c hc
    refine wpAny_storeName_cell I.ok.kind hk hc z (fun h' hc' hs => ?_)
    obtain ⟨oc, hoc, hocd⟩ := id z
    refine h { s with heap := h' } ⟨I.ok, I.os, I.bare, ⟨fun b o e n hb hx => ?_, fun b o e n hb hx => ?_, I.base.free, fun b o e hx => ?_, I.base.tups, I.base.frzs, I.base.tbls⟩, ⟨m, hn.sameBut hs (Ne.symm (cne x c hc)), fun j y v' e1 e2 e3 => ?_⟩, fun y c' e => ?_, I.free, I.freeC, fun p hp => ?_, tracked ⟨oc, hoc, I.freeC x c hc⟩ hs, by simpa using I.len⟩ ⟨c, hs, .inr hc⟩
    · exact (hs.2 b (Nat.ne_of_lt (Nat.lt_of_lt_of_le (Heap.lt_size e) (I.ok.cab x c hfn hc)))).trans (I.base.keep b o e n hb hx)
    · obtain ⟨sl, e1⟩ := I.base.slot b o e n hb hx
      exact ⟨sl, (hs.2 b (Nat.ne_of_lt (Nat.lt_of_lt_of_le (Heap.lt_size e) (I.ok.cab x c hfn hc)))).trans e1⟩
    · obtain ⟨o', e1⟩ := I.base.there b o e hx
      exact ⟨o', (hs.2 b (Nat.ne_of_lt (Nat.lt_of_lt_of_le (Heap.lt_size e) (I.ok.cab x c hfn hc)))).trans e1⟩
    · by_cases hj : j = i
      · subst hj
        rw [hi] at e1; cases e1
        rw [List.getElem?_set_self hiσ] at e2
        cases e2
        exact ⟨u, r, .inr ⟨.inl hk, c, hc, hc'⟩⟩
      · rw [List.getElem?_set_ne (Ne.symm hj)] at e2
        obtain ⟨u', r', q⟩ := hl j y v' e1 e2 e3
        refine ⟨u', r', ?_⟩
        rcases q with q | ⟨k, c', e, z'⟩
        · exact .inl q
        · refine .inr ⟨k, c', e, z'.sameBut hs ?_⟩
          rintro rfl
          exact hj (nodup_ix hN e1 (I.ok.inj _ _ _ e hc ▸ hi))
    · by_cases hcc : c' = c
      · subst hcc; exact ⟨_, hc'⟩
      · obtain ⟨w2, z2⟩ := I.cell y c' e
        exact ⟨w2, z2.sameBut hs hcc⟩
    · obtain ⟨e, n, ne, nf, d⟩ := I.pin p hp
      refine ⟨(hs.2 p.1 ?_).trans e, n, ne, nf, d⟩
      intro q
      rw [q, hoc] at e
      have q' : oc = p.2 := Option.some.inj e
      exact d w' (by rw [← q']; exact hocd)
theorem store_ok {M : Model} {A : Around} {E : Value → Shared → Prop} {i : Nat} {x : Str} {v : V} {u : Value} {Q : Unit → Shared → Prop} (I : Inv X pins σ H s) (hN : X.N.Nodup) (hi : X.N[i]? = some x) (hx : Loc X.env.scope x) (r : RelV v u)
    (h : ∀ s', Inv X pins (σ.set i (some v)) H s' → Q () s') (hf : X.fn x = true ∨ X.env.scope.names.lookup x = some .local := by first | exact .inl rfl | exact .inr rfl | assumption) : wpAny M A (storeName X.env x u) Q E s :=
  store_ok2 I hN hi hx r (fun s' I' _ => h s' I') hf
theorem Inv.call' {s' : Shared} {ch : List Addr} (I : Inv X pins σ H s) (ho : s'.os = s.os) (u : Un (frs X.stack) ch H H' s.heap s'.heap) (hok : HOk X.prog X.w H' s'.heap) (hg : AllBare s'.gens)
    (hch : ∀ b ∈ ch, (b ∈ X.ex ∨ X.s₀.heap.objs.size ≤ b) ∧ b ≠ X.env.locals ∧ (∀ x c, X.env.cells.lookup x = some c → c ≠ b) ∧ ∀ p ∈ X.pn ++ pins, p.1 ≠ b) : Inv X pins σ H' s' := by
  obtain ⟨h', g', d', t', o'⟩ := s'
  have e : o' = s.os := ho
  subst e
  exact I.call (g' := g') (t' := t') (d' := d') u hok hg hch
end
abbrev XK := Value → Option Addr → Hp → Prop
abbrev St := List (Option V)
abbrev VK := V → Hp → Prop
abbrev TE := St → Hp → VK → Prop
abbrev TT := St → Hp → (Bool → Hp → Prop) → Prop
abbrev TA := St → Hp → (List V → Hp → Prop) → Prop
structure Ends where
  nx : St → Hp → Prop
  rt : VK
  bk : St → Hp → Prop := fun _ _ => False
  ct : St → Hp → Prop := fun _ _ => False
abbrev TS := Ends → St → Hp → Prop
def EP (X : Cx) (pins : List (Addr × Obj)) (σ : St) (Q : VK) (u : Value) (s' : Shared) : Prop := ∃ v H', Inv X pins σ H' s' ∧ RelV v u ∧ Q v H'
def TP (X : Cx) (pins : List (Addr × Obj)) (σ : St) (Q : Bool → Hp → Prop) (b : Bool) (s' : Shared) : Prop := ∃ H', Inv X pins σ H' s' ∧ Q b H'
def AP (X : Cx) (pins : List (Addr × Obj)) (σ : St) (Q : List V → Hp → Prop) (us : List Value) (s' : Shared) : Prop := ∃ vs H', Inv X pins σ H' s' ∧ Vals vs us ∧ Q vs H'
def SP (X : Cx) (pins : List (Addr × Obj)) (D : Ends) (f : Flow) (s' : Shared) : Prop :=
  match f with
  | .next => ∃ σ' H', Inv X pins σ' H' s' ∧ D.nx σ' H'
  | .brk => ∃ σ' H', Inv X pins σ' H' s' ∧ D.bk σ' H'
  | .cont => ∃ σ' H', Inv X pins σ' H' s' ∧ D.ct σ' H'
  | .ret u => ∃ v σ' H', Inv X pins σ' H' s' ∧ RelV v u ∧ D.rt v H'
def PE (X : Cx) (e : Expr) (t : TE) : Prop :=
  ∀ (pins : List (Addr × Obj)) (s : Shared) (σ : St) (H : Hp) (Q : VK), Inv X pins σ H s → t σ H Q → wpAny (model X.prog X.w) X.A (eval e X.env) (EP X pins σ Q) X.xe s
def PT (X : Cx) (e : Expr) (t : TT) : Prop :=
  ∀ (pins : List (Addr × Obj)) (s : Shared) (σ : St) (H : Hp) (Q : Bool → Hp → Prop), Inv X pins σ H s → t σ H Q → wpAny (model X.prog X.w) X.A (isTrue e X.env (eval e X.env)) (TP X pins σ Q) X.xe s
def PW (X : Cx) (e : Expr) (t : TT) : Prop :=
  ∀ (whole : Sem Value) (pins : List (Addr × Obj)) (s : Shared) (σ : St) (H : Hp) (Q : Bool → Hp → Prop), Inv X pins σ H s → t σ H Q → wpAny (model X.prog X.w) X.A (isTrue e X.env whole) (TP X pins σ Q) X.xe s
theorem PW.pt {X : Cx} {e : Expr} {t : TT} (h : PW X e t) : PT X e t := h _
def PA (X : Cx) (es : List Expr) (t : TA) : Prop :=
  ∀ (pos : Pos) (pins : List (Addr × Obj)) (s : Shared) (σ : St) (H : Hp) (Q : List V → Hp → Prop), Inv X pins σ H s → t σ H Q → wpAny (model X.prog X.w) X.A (spliced (backTo pos (starEach es X.env))) (AP X pins σ Q) X.xe s
def PS (X : Cx) (st : Stmt) (t : TS) : Prop :=
  ∀ (pins : List (Addr × Obj)) (s : Shared) (σ : St) (H : Hp) (D : Ends), Inv X pins σ H s → t D σ H → wpAny (model X.prog X.w) X.A (exec st X.env) (SP X pins D) X.xe s
def PSs (X : Cx) (st : List Stmt) (t : TS) : Prop :=
  ∀ (pins : List (Addr × Obj)) (s : Shared) (σ : St) (H : Hp) (D : Ends), Inv X pins σ H s → t D σ H → wpAny (model X.prog X.w) X.A (execs st X.env) (SP X pins D) X.xe s
theorem thn {α : Type} {t : Sem α} {Q Q' : α → Shared → Prop} {M : Model} {A : Around} {E : Value → Shared → Prop} {s : Shared} (h : wpAny M A t Q E s) (hQ : ∀ a s, Q a s → Q' a s) : wpAny M A t Q' E s := wpAny_mono h hQ fun _ _ x => x
end L2
namespace L2
open PySem PySem.Spec PyProof.Rows
section
variable {X : Cx}
theorem bin {a b : Expr} {ta tb : TE} (ha : PE X a ta) (hb : PE X b tb) {pins : List (Addr × Obj)} {s : Shared} {σ : St} {H : Hp} {R : V → V → Hp → Prop} (I : Inv X pins σ H s) (h : ta σ H fun x H1 => tb σ H1 fun y H2 => R x y H2)
    {α : Type} {Q : α → Shared → Prop} {f : Value → Value → Sem α}
    (hf : ∀ v u s2 x y H2, Inv X pins σ H2 s2 → RelV x v → RelV y u → R x y H2 → wpAny (model X.prog X.w) X.A (f v u) Q X.xe s2) :
    wpAny (model X.prog X.w) X.A (eval a X.env) (fun v s₁ => wpAny (model X.prog X.w) X.A (eval b X.env) (fun u s₂ => wpAny (model X.prog X.w) X.A (f v u) Q X.xe s₂) X.xe s₁) X.xe s := by
  refine thn (ha pins s σ H _ I h) fun v s1 ⟨x, H1, I1, r1, q1⟩ => ?_
  refine thn (hb pins s1 σ H1 _ I1 q1) fun u s2 ⟨y, H2, I2, r2, q2⟩ => ?_
  exact hf v u s2 x y H2 I2 r1 r2 q2
def tVar (i : Nat) : TE := fun σ H Q => ∃ v, σ[i]? = some (some v) ∧ Q v H
def tC (v : V) : TE := fun _ H Q => Q v H
theorem pe_var {i : Nat} {x : Str} {pos : Pos} (hN : X.N[i]? = some x) (hv : Vis X.env.scope x) (hd : (x == ("__debug__" : Str)) = false := by decide) (hcd : (x == ("__classdict__" : Str)) = false := by decide) : PE X (.Name x pos) (tVar i) := by
  intro pins s σ H Q I h
  obtain ⟨v, e, h⟩ := h
  obtain ⟨m, hn, hl⟩ := I.loc
  obtain ⟨u, r, l⟩ := hl i x v hN e hv
  have fin : EP X pins σ Q u s := ⟨v, H, I, r, h⟩
  rcases l with ⟨hk, hm⟩ | ⟨hk, c, hc, hcell⟩
  · exact wpAny_Name (wpAny_loadName_local I.ok.kind hk hn hm fin) hd
  · rcases hk with hk | hk
    · exact wpAny_Name (wpAny_loadName_cell I.ok.kind hk hc hcell fin) hd
    · exact wpAny_Name (wpAny_loadName_free I.ok.kind hk hc hcell fin hcd) hd
theorem pe_int {i j pos} : PE X (.Constant (.int i) j pos) (tC (.int i)) := fun _ _ _ H _ I h => wpAny_Constant_int ⟨.int i, H, I.tok _, ⟨_, rfl⟩, h⟩
theorem pe_bl {b j pos} : PE X (.Constant (.bool b) j pos) (tC (.bl b)) := fun _ _ _ H _ I h => Constant_bool ⟨.bl b, H, I, rfl, h⟩
theorem pe_non {j pos} : PE X (.Constant .none j pos) (tC .non) := fun _ _ _ H _ I h => Constant_none ⟨.non, H, I, rfl, h⟩
theorem pe_str {x j pos} : PE X (.Constant (.str x) j pos) (tC (.str x)) := fun _ _ _ H _ I h => Calls.Constant_str ⟨.str x, H, I.tok _, ⟨_, rfl⟩, h⟩
def Gl (X : Cx) (x : Str) : Prop := X.env.kindOf x = some .globalImplicit
theorem ld_glob {E : Value → Shared → Prop} {pins : List (Addr × Obj)} {s : Shared} {σ : St} {H : Hp} {x : Str} {u : Value} {pos : Pos} {Q : Value → Shared → Prop} (I : Inv X pins σ H s) (hg : Gl X x) (hm : X.mg x = some u) (h : Q u s)
    (hd : (x == ("__debug__" : Str)) = false := by decide) : wpAny (model X.prog X.w) X.A (eval (.Name x pos) X.env) Q E s :=
  Calls.Name_function_global I.ok.kind hg (Calls.loadGlobal_global (by rw [I.ok.glob]; exact I.mod.glob.keeps I.bk) hm h) hd
theorem ld_blt {E : Value → Shared → Prop} {pins : List (Addr × Obj)} {s : Shared} {σ : St} {H : Hp} {x : Str} {u : Value} {pos : Pos} {Q : Value → Shared → Prop} (I : Inv X pins σ H s) (hg : Gl X x) (hm : X.mg x = none) (hv : bootBuiltins x = some u) (h : Q u s)
    (hn : x ≠ "__name__" := by decide) (hd : (x == ("__debug__" : Str)) = false := by decide) : wpAny (model X.prog X.w) X.A (eval (.Name x pos) X.env) Q E s := by
  obtain ⟨mb, h1, h2⟩ := I.mod.blt
  exact Calls.Name_function_global I.ok.kind hg (Calls.loadGlobal_builtin (by rw [I.ok.glob]; exact I.mod.glob.keeps I.bk) hm (by rw [I.ok.blt]; exact h1.keeps I.bk) ((h2 x hn).trans hv) h) hd
theorem pe_bltn {x : Str} {v : V} {u : Value} {pos : Pos} (hg : Gl X x) (hm : X.mg x = none) (hv : bootBuiltins x = some u) (r : RelV v u) (hn : x ≠ "__name__" := by decide) (hd : (x == ("__debug__" : Str)) = false := by decide) : PE X (.Name x pos) (tC v) :=
  fun _ _ _ H _ I h => ld_blt I hg hm hv ⟨v, H, I, r, h⟩ hn hd
variable {a b : Expr} {ta tb : TE} {pos : Pos}
def PC (X : Cx) (op : CmpOp) (a b : Expr) (t : TE) : Prop :=
  ∀ (pins : List (Addr × Obj)) (s : Shared) (σ : St) (H : Hp) (Q : VK), Inv X pins σ H s → t σ H Q →
    wpAny (model X.prog X.w) X.A (eval a X.env) (fun v s₁ => wpAny (model X.prog X.w) X.A (eval b X.env) (fun u s₂ => wpAny (model X.prog X.w) X.A (compareOp op v u) (EP X pins σ Q) X.xe s₂) X.xe s₁) X.xe s
def tB (t : TE) : TT := fun σ H Q => t σ H fun x H1 => ∃ c, x = .bl c ∧ Q c H1
theorem pt_cmp {op : CmpOp} {t : TE} (h : PC X op a b t) (h1 : behindInMarks op b = false := by first | exact nobehind _ (by decide) (by decide) | rfl) : PT X (.Compare a [op] [b] pos) (tB t) := by
  intro pins s σ H Q I hw
  refine wpAny_isTrue_Compare1 (thn (h pins s σ H _ I hw) fun v s1 h1 => thn h1 fun u s2 h2 => thn h2 fun c s3 ⟨x, H1, I1, r1, q1⟩ => ?_) h1
  obtain ⟨d, rfl, q⟩ := q1
  cases r1
  exact wpAny_truthy_bool ⟨H1, I1, q⟩
theorem pt_val {e : Expr} {t : TE} (h : PE X e t) (he : ∀ whole, isTrue e X.env whole = (do let v ← whole; standAt e.pos; holding [v] (truthy v)) := by intro _; rfl) : PT X e (tB t) := by
  intro pins s σ H Q I hw
  refine isTrue_plain (thn (h pins s σ H _ I hw) fun v s1 ⟨x, H1, I1, r1, q1⟩ => ?_) (he _)
  obtain ⟨d, rfl, q⟩ := q1
  cases r1
  exact wpAny_truthy_bool ⟨H1, I1, q⟩
variable {tA tB' : TT} {rest : List Expr}
def tAnd (t u : TT) : TT := fun σ H Q => t σ H fun c H1 => if c = true then u σ H1 Q else Q false H1
def tOr (t u : TT) : TT := fun σ H Q => t σ H fun c H1 => if c = true then Q true H1 else u σ H1 Q
def tNot (t : TT) : TT := fun σ H Q => t σ H fun c H1 => Q (!c) H1
theorem pw_and1 (ha : PT X a tA) : PW X (.BoolOp .And [a] pos) tA := by
  intro wh pins s σ H Q I h
  refine isTrue_and (thn (ha pins s σ H Q I h) fun c s1 e => ?_)
  cases c with
  | true => exact isTrue_and_nil e
  | false => exact e
theorem pw_or1 (ha : PT X a tA) : PW X (.BoolOp .Or [a] pos) tA := by
  intro wh pins s σ H Q I h
  refine isTrue_or (thn (ha pins s σ H Q I h) fun c s1 e => ?_)
  cases c with
  | false => exact isTrue_or_nil e
  | true => exact e
theorem pw_and (ha : PT X a tA) (hb : PW X (.BoolOp .And (b :: rest) pos) tB') : PW X (.BoolOp .And (a :: b :: rest) pos) (tAnd tA tB') := by
  intro wh pins s σ H Q I h
  refine isTrue_and (thn (ha pins s σ H _ I h) fun c s1 ⟨H1, I1, q1⟩ => ?_)
  cases c with
  | true => exact hb wh pins s1 σ H1 Q I1 q1
  | false => exact ⟨H1, I1, q1⟩
theorem pw_or (ha : PT X a tA) (hb : PW X (.BoolOp .Or (b :: rest) pos) tB') : PW X (.BoolOp .Or (a :: b :: rest) pos) (tOr tA tB') := by
  intro wh pins s σ H Q I h
  refine isTrue_or (thn (ha pins s σ H _ I h) fun c s1 ⟨H1, I1, q1⟩ => ?_)
  cases c with
  | true => exact ⟨H1, I1, q1⟩
  | false => exact hb wh pins s1 σ H1 Q I1 q1
theorem pt_not (ha : PT X a tA) : PT X (.UnaryOp .Not a pos) (tNot tA) := by
  intro pins s σ H Q I h
  exact isTrue_not (ha pins s σ H (fun c H1 => Q (!c) H1) I h)
def tAndV (ta tb : TE) : TE := fun σ H Q => ta σ H fun x H1 => ∃ c, x = .bl c ∧ if c = true then tb σ H1 Q else Q (.bl false) H1
def tNotV (ta : TE) : TE := fun σ H Q => ta σ H fun x H1 => ∃ c, x = .bl c ∧ Q (.bl (!c)) H1
theorem pe_one {op} {t : TE} (h : PE X a t) : PE X (.BoolOp op [a] pos) t := fun pins s σ H Q I hw => BoolOp_one (h pins s σ H Q I hw)
theorem pe_and (ha : PE X a ta) (hb : PE X (.BoolOp .And (b :: rest) pos) tb) : PE X (.BoolOp .And (a :: b :: rest) pos) (tAndV ta tb) := by
  intro pins s σ H Q I h
  refine BoolOp_and (thn (ha pins s σ H _ I h) fun v s1 ⟨x, H1, I1, r1, q1⟩ => ?_)
  obtain ⟨c, rfl, q1⟩ := q1
  cases r1
  refine wpAny_truthy_bool ?_
  cases c with
  | true => exact hb pins s1 σ H1 Q I1 q1
  | false => exact ⟨.bl false, H1, I1, rfl, q1⟩
theorem pe_not (ha : PE X a ta) : PE X (.UnaryOp .Not a pos) (tNotV ta) := by
  intro pins s σ H Q I h
  refine UnaryOp_ (thn (ha pins s σ H _ I h) fun v s1 ⟨x, H1, I1, r1, q1⟩ => ?_)
  obtain ⟨c, rfl, q1⟩ := q1
  cases r1
  exact not_of (wpAny_truthy_bool ⟨.bl (!c), H1, I1, rfl, q1⟩)
end
end L2
namespace L2
open PySem PySem.Spec PyProof.Rows
def SqL (K : PySem.W.Frag) (H : Hp) (a : Addr) (xs : List V) : Prop :=
  Rd H a (.lst xs) ∨
    ∃ (o : Obj) (its : Array Value) (n : Nat), K.lookup a = some o ∧ o.cls = .type "list" ∧ o.dict = none ∧ o.data = .seq its n ∧ its.size ≤ sizeLine ∧ Vals xs its.toList
def SqT (K : PySem.W.Frag) (H : Hp) (a : Addr) (xs : List V) : Prop :=
  Rd H a (.tup xs) ∨
    ∃ (o : Obj) (its : Array Value) (n : Nat), K.lookup a = some o ∧ o.cls = .type "tuple" ∧ o.data = .seq its n ∧ its.size ≤ sizeLine ∧ Vals xs its.toList
def absV : Value → Option V
  | .none => some .non
  | .bool b => some (.bl b)
  | .int i _ => some (.int i)
  | .str x _ => some (.str x)
  | .bytes b _ => some (.byt b)
  | .float b _ => some (.flt b)
  | .ref a => some (.ref a)
  | .type n => some (.ty n)
  | _ => none
theorem RelV.abs {x : V} {u : Value} (r : RelV x u) : absV u = some x := by
  cases x with
  | non => cases r; rfl
  | bl _ => cases r; rfl
  | int _ => obtain ⟨t, rfl⟩ := r; rfl
  | str _ => obtain ⟨t, rfl⟩ := r; rfl
  | byt _ => obtain ⟨t, rfl⟩ := r; rfl
  | flt _ => obtain ⟨t, rfl⟩ := r; rfl
  | ref _ => cases r; rfl
  | ty _ => cases r; rfl
theorem RelV.inj {x y : V} {u : Value} (r : RelV x u) (q : RelV y u) : x = y := Option.some.inj (r.abs.symm.trans q.abs)
theorem Vals.inj : ∀ {xs ys : List V} {us : List Value}, Vals xs us → Vals ys us → xs = ys
  | _, _, _, .nil, .nil => rfl
  | _, _, _, .cons r t, .cons r' t' => by rw [r.inj r', Vals.inj t t']
section
variable {X : Cx} {pins : List (Addr × Obj)} {σ : St} {H : Hp} {s : Shared} {a : Addr} {xs ys : List V}
theorem SqL.of {K : PySem.W.Frag} (h : H a = some (.lst xs)) : SqL K H a xs := .inl (.inl h)
theorem SqT.of {K : PySem.W.Frag} (h : H a = some (.tup xs)) : SqT K H a xs := .inl (.inl h)
theorem Inv.list (I : Inv X pins σ H s) (h : SqL X.K H a xs) : ∃ its : List Value, Vals xs its ∧ PlainL s.heap a its.toArray ∧ xs.length ≤ sizeLine := by
  rcases h with h | ⟨o, its, n, hk, hc, hd, hs, hz, r⟩
  · obtain ⟨z, its, n, r, e⟩ := h.ok I.hok
    exact ⟨its, r, ⟨_, n, e, rfl, rfl, rfl⟩, z⟩
  · refine ⟨its.toList, r, ⟨o, n, I.kIn a o hk, hc, hd, by simpa using hs⟩, ?_⟩
    have e := r.length
    simp only [Array.length_toList] at e
    omega
theorem Inv.tuple (I : Inv X pins σ H s) (h : SqT X.K H a xs) : ∃ its : List Value, Vals xs its ∧ IsTup s.heap a its.toArray ∧ xs.length ≤ sizeLine := by
  rcases h with h | ⟨o, its, n, hk, hc, hs, hz, r⟩
  · obtain ⟨z, its, r, p⟩ := h.ok I.hok
    exact ⟨its, r, p, z⟩
  · refine ⟨its.toList, r, ⟨o, I.kIn a o hk, hc, n, by simpa using hs⟩, ?_⟩
    have e := r.length
    simp only [Array.length_toList] at e
    omega
theorem Inv.list_inj (I : Inv X pins σ H s) (h : SqL X.K H a xs) (h' : SqL X.K H a ys) : xs = ys := by
  obtain ⟨its, r, ⟨o, n, e, _, _, d⟩, _⟩ := I.list h
  obtain ⟨its', r', ⟨o', n', e', _, _, d'⟩, _⟩ := I.list h'
  rw [e] at e'; cases e'
  rw [d] at d'
  injection d' with d1 _
  have : its = its' := by simpa using congrArg Array.toList d1
  subst this
  exact r.inj r'
theorem Inv.tuple_inj (I : Inv X pins σ H s) (h : SqT X.K H a xs) (h' : SqT X.K H a ys) : xs = ys := by
  obtain ⟨its, r, ⟨o, e, _, n, d⟩, _⟩ := I.tuple h
  obtain ⟨its', r', ⟨o', e', _, n', d'⟩, _⟩ := I.tuple h'
  rw [e] at e'; cases e'
  rw [d] at d'
  injection d' with d1 _
  have : its = its' := by simpa using congrArg Array.toList d1
  subst this
  exact r.inj r'
end
abbrev Cx.wish (X : Cx) (E : Value → Shared → Prop) : Cx := { X with xe := E }
abbrev Cx.nox (X : Cx) : Cx := X.wish fun _ _ => False
theorem Cx.Ok.wish {X : Cx} (ok : X.Ok) (E : Value → Shared → Prop) : (X.wish E).Ok :=
  ⟨ok.mod, ok.kind, ok.glob, ok.blt, ok.above, ok.inj, ok.has, ok.cab, ok.hd, ok.frames, ok.stk, ok.exf, ok.bs, ok.bsz, ok.noex, ok.exfs, ok.funs, ok.frf⟩
theorem Cx.Ok.unwish {X : Cx} {E : Value → Shared → Prop} (ok : (X.wish E).Ok) : X.Ok :=
  ⟨ok.mod, ok.kind, ok.glob, ok.blt, ok.above, ok.inj, ok.has, ok.cab, ok.hd, ok.frames, ok.stk, ok.exf, ok.bs, ok.bsz, ok.noex, ok.exfs, ok.funs, ok.frf⟩
section
variable {X : Cx} {pins : List (Addr × Obj)} {σ : St} {H : Hp} {s : Shared} {E : Value → Shared → Prop}
theorem Inv.wish (I : Inv X pins σ H s) (E : Value → Shared → Prop) : Inv (X.wish E) pins σ H s := ⟨I.ok.wish E, I.os, I.bare, I.base, I.loc, I.cell, I.free, I.freeC, I.pin, I.hok, I.len⟩
theorem Inv.unwish (I : Inv (X.wish E) pins σ H s) : Inv X pins σ H s := ⟨I.ok.unwish, I.os, I.bare, I.base, I.loc, I.cell, I.free, I.freeC, I.pin, I.hok, I.len⟩
theorem SP.unwish {D : Ends} {f : Flow} {s' : Shared} (h : SP (X.wish E) pins D f s') : SP X pins D f s' := by
  cases f with
  | next => obtain ⟨σ', H', I, q⟩ := h; exact ⟨σ', H', I.unwish, q⟩
  | brk => obtain ⟨σ', H', I, q⟩ := h; exact ⟨σ', H', I.unwish, q⟩
  | cont => obtain ⟨σ', H', I, q⟩ := h; exact ⟨σ', H', I.unwish, q⟩
  | ret u => obtain ⟨v, σ', H', I, r, q⟩ := h; exact ⟨v, σ', H', I.unwish, r, q⟩
theorem PSs.nox {st : List Stmt} {t : TS} (h : PSs X.nox st t) : PSs X st t := fun pins s σ H D I hw =>
  wpAny_mono (h pins s σ H D (I.wish _) hw) (fun _ _ q => q.unwish) fun _ _ z => False.elim z
end
section
variable {X : Cx} {st : Stmt} {rest : List Stmt} {t u : TS} {e : Expr} {te : TE} {pos : Pos}
def tNext : TS := fun D σ H => D.nx σ H
def tSeq (t u : TS) : TS := fun D σ H => t { D with nx := u D } σ H
theorem pss_nil : PSs X [] tNext := fun _ _ σ H _ I h => wpAny_execs_nil ⟨σ, H, I, h⟩
theorem pss_cons (h1 : PS X st t) (h2 : PSs X rest u) : PSs X (st :: rest) (tSeq t u) := by
  intro pins s σ H D I h
  refine wpAny_execs_cons (thn (h1 pins s σ H { D with nx := u D } I h) fun f s1 q => ?_)
  cases f with
  | next =>
    obtain ⟨σ', H', I', q⟩ := q
    exact h2 pins s1 σ' H' D I' q
  | ret v => exact q
  | brk => exact q
  | cont => exact q
theorem pss_one (h1 : PS X st t) : PSs X [st] t := by
  intro pins s σ H D I h
  refine wpAny_execs_cons (thn (h1 pins s σ H D I h) fun f s1 q => ?_)
  cases f with
  | next => exact wpAny_execs_nil q
  | ret v => exact q
  | brk => exact q
  | cont => exact q
theorem Inv.quiet {pins : List (Addr × Obj)} {σ : St} {H : Hp} {s : Shared} (I : Inv X pins σ H s) : interactive X.env = false := by simp [interactive, I.ok.kind]
def tDrop (te : TE) : TS := fun D σ H => te σ H fun _ H1 => D.nx σ H1
theorem ps_expr (he : PE X e te) (hs : swapsWith e none pos.line X.env = pure false := by rfl) : PS X (.Expr e pos) (tDrop te) := by
  intro pins s σ H D I h
  exact wpAny_Expr_any (thn (he pins s σ H _ I h) fun v s1 ⟨x, H1, I1, r1, q1⟩ => ⟨σ, H1, I1, q1⟩) I.quiet hs
def tRet (te : TE) : TS := fun D σ H => te σ H D.rt
theorem ps_ret (he : PE X e te) : PS X (.Return (some e) pos) (tRet te) := by
  intro pins s σ H D I h
  exact wpAny_Return_some (thn (he pins s σ H _ I h) fun v s1 ⟨x, H1, I1, r1, q1⟩ => ⟨x, σ, H1, I1, r1, q1⟩)
def tIfS (c : TT) (t u : TS) : TS := fun D σ H => c σ H fun b H1 => if b = true then t D σ H1 else u D σ H1
theorem ps_if {c : Expr} {a b : List Stmt} {tc : TT} (hc : PT X c tc) (ha : PSs X a t) (hb : PSs X b u) : PS X (.If c a b pos) (tIfS tc t u) := by
  intro pins s σ H D I h
  refine wpAny_If (thn (hc pins s σ H _ I h) fun d s1 ⟨H1, I1, q1⟩ => ?_)
  cases d with
  | true => exact ha pins s1 σ H1 D I1 q1
  | false => exact hb pins s1 σ H1 D I1 q1
end
abbrev TG := V → St → Hp → (St → Hp → Prop) → Prop
abbrev TGs := List V → St → Hp → (St → Hp → Prop) → Prop
def PG (X : Cx) (target : Expr) (t : TG) : Prop :=
  ∀ (pins : List (Addr × Obj)) (s : Shared) (σ : St) (H : Hp) (v : V) (u : Value) (Q : St → Hp → Prop), Inv X pins σ H s → RelV v u → t v σ H Q →
    wpAny (model X.prog X.w) X.A (assign target X.env u) (fun _ s' => ∃ σ' H', Inv X pins σ' H' s' ∧ Q σ' H') X.xe s
def PGs (X : Cx) (ts : List Expr) (t : TGs) : Prop :=
  ∀ (pins : List (Addr × Obj)) (s : Shared) (σ : St) (H : Hp) (vs : List V) (us : List Value) (Q : St → Hp → Prop), Inv X pins σ H s → Vals vs us → t vs σ H Q →
    wpAny (model X.prog X.w) X.A (assignInOrder ((assignEach ts X.env).map (·.2)) us) (fun _ s' => ∃ σ' H', Inv X pins σ' H' s' ∧ Q σ' H') X.xe s
abbrev TSet := V → V → V → Hp → (Hp → Prop) → Prop
def PSet (X : Cx) (t : TSet) : Prop :=
  ∀ (pins : List (Addr × Obj)) (s : Shared) (σ : St) (H : Hp) (o i v : V) (ov iv u : Value) (Q : Hp → Prop), Inv X pins σ H s → RelV o ov → RelV i iv → RelV v u → t o i v H Q →
    wpAny (model X.prog X.w) X.A (setItem ov iv u) (fun _ s' => ∃ H', Inv X pins σ H' s' ∧ Q H') X.xe s
section
variable {X : Cx} {pos : Pos}
def gName (i : Nat) : TG := fun v σ H Q => Q (σ.set i (some v)) H
theorem pg_name {i : Nat} {x : Str} (hN : X.N.Nodup) (hi : X.N[i]? = some x) (hx : Loc X.env.scope x) (hf : X.fn x = true ∨ X.env.scope.names.lookup x = some .local := by first | exact .inl rfl | exact .inr rfl | assumption) : PG X (.Name x pos) (gName i) := by
  intro pins s σ H v u Q I r h
  exact wpAny_assign_Name (store_ok I hN hi hx r (fun s' I' => ⟨_, H, I', h⟩) hf)
def gNil : TGs := fun vs σ H Q => vs = [] ∧ Q σ H
def gCons (t : TG) (u : TGs) : TGs := fun vs σ H Q => ∃ v r, vs = v :: r ∧ t v σ H fun σ' H' => u r σ' H' Q
theorem pgs_nil : PGs X [] gNil := by
  intro pins s σ H vs us Q I r h
  obtain ⟨e, h⟩ := h
  subst e
  cases r
  exact assignInOrder_nil ⟨σ, H, I, h⟩
theorem pgs_cons {e : Expr} {es : List Expr} {t : TG} {u : TGs} (h1 : PG X e t) (h2 : PGs X es u)
    (hs : (assignEach (e :: es) X.env).map (·.2) = assign e X.env :: (assignEach es X.env).map (·.2) := by rfl) : PGs X (e :: es) (gCons t u) := by
  intro pins s σ H vs us Q I r h
  obtain ⟨v, vr, e1, h⟩ := h
  subst e1
  cases r with
  | cons r rr =>
    rw [hs]
    refine assignInOrder_cons (thn (h1 pins s σ H _ _ _ I r h) fun _ s1 ⟨σ1, H1, I1, q1⟩ => ?_)
    exact h2 pins s1 σ1 H1 _ _ Q I1 rr q1
def gTup (K : PySem.W.Frag) (n : Nat) (t : TGs) : TG := fun v σ H Q => ∃ a xs, v = .ref a ∧ SqT K H a xs ∧ xs.length = n ∧ t xs σ H Q
theorem pg_tup {es : List Expr} {k : Nat} {t : TGs} {n : Nat} (hc : X.calm = true) (h : PGs X es t)
    (hn : (assignEach es X.env).length = n := by rfl) (hst : (assignEach es X.env).findIdx? (·.1) = none := by rfl) : PG X (.Tuple es k pos) (gTup X.K n t) := by
  intro pins s σ H v u Q I r hw
  obtain ⟨a, xs, e1, hq, hl, hw⟩ := hw
  subst e1
  cases r
  obtain ⟨its, rv, ht, hz⟩ := I.tuple hq
  refine assign_Tuple_tuple (I.ok.hd hc) ht (by simp [hn, ← hl, rv.length]) hst fun h' hx => ?_
  have I1 : Inv X pins σ H { s with heap := h' } := I.kept (t' := s.toks) fun b o e => hx b o (Nat.ne_of_lt (Heap.lt_size e)) e
  exact h pins _ σ H xs _ Q I1 (by simpa using rv) hw
def gSub (to ti : TE) (t : TSet) : TG := fun v σ H Q => to σ H fun o H1 => ti σ H1 fun i H2 => t o i v H2 fun H3 => Q σ H3
theorem pg_sub {o i : Expr} {to ti : TE} {t : TSet} (ho : PE X o to) (hi : PE X i ti) (hs : PSet X t)
    (ha : ∀ v, assign (.Subscript o i pos) X.env v = (do
      let ov ← holding [v] (eval o X.env)
      let iv ← holding [v, ov] (eval i X.env)
      standAt pos
      holding [v, ov, iv] (setItem ov iv v)
      release [v, ov, iv] []) := by intro _; rfl) : PG X (.Subscript o i pos) (gSub to ti t) := by
  intro pins s σ H v u Q I r h
  rw [ha]
  refine wpAny_bind (wpAny_holding (thn (ho pins s σ H _ I h) fun ov s1 ⟨x, H1, I1, r1, q1⟩ => ?_))
  refine wpAny_bind (wpAny_holding (thn (hi pins s1 σ H1 _ I1 q1) fun iv s2 ⟨y, H2, I2, r2, q2⟩ => ?_))
  refine wpAny_bind (wpAny_standAt (wpAny_bind (wpAny_holding (thn (hs pins s2 σ H2 x y v ov iv u _ I2 r1 r2 r q2) fun _ s3 ⟨H3, I3, q3⟩ => ?_))))
  exact wpAny_release ⟨σ, H3, I3, q3⟩
def tAsg (te : TE) (g : TG) : TS := fun D σ H => te σ H fun x H1 => g x σ H1 D.nx
theorem ps_asg {tg e : Expr} {te : TE} {g : TG} (he : PE X e te) (hg : PG X tg g) (hs : swapsWithSole [tg] e pos.line X.env = pure false := by rfl) (hw : swappedStores [tg] e X.env = pure none := by rfl)
    (h1 : (assignEach [tg] X.env).map (·.2) = [assign tg X.env] := by rfl) : PS X (.Assign [tg] e pos) (tAsg te g) := by
  intro pins s σ H D I h
  refine wpAny_Assign_stores (thn (he pins s σ H _ I h) fun v s1 ⟨x, H1, I1, r1, q1⟩ => ?_) hs hw
  rw [h1]
  exact thn (hg pins s1 σ H1 x v _ I1 r1 q1) fun _ s2 q => q
theorem ps_set {i : Nat} {x : Str} {e : Expr} {te : TE} {pos' : Pos} (hN : X.N.Nodup) (hi : X.N[i]? = some x) (hx : Loc X.env.scope x) (he : PE X e te) (hs : swapsWith e (some (.Name x pos')) pos.line X.env = pure false := by rfl) (hf : X.fn x = true ∨ X.env.scope.names.lookup x = some .local := by first | exact .inl rfl | exact .inr rfl | assumption) :
    PS X (.Assign [.Name x pos'] e pos) (tAsg te (gName i)) := by
  intro pins s σ H D I h
  refine wpAny_Assign_Name (thn (he pins s σ H _ I h) fun v s1 ⟨y, H1, I1, r1, q1⟩ => ?_) hs
  exact store_ok I1 hN hi hx r1 (fun s2 I2 => ⟨_, H1, I2, q1⟩) hf
def tPar (i j : Nat) (ta : TA) : TS := fun D σ H => ta σ H fun vs H1 => ∃ v w, vs = [v, w] ∧ D.nx ((σ.set i (some v)).set j (some w)) H1
theorem ps_par {i j : Nat} {x y : Str} {a b : Expr} {ta : TA} {px py pt : Pos} {kt k2 pt2} (hc : X.calm = true) (hN : X.N.Nodup) (hi : X.N[i]? = some x) (hj : X.N[j]? = some y) (hij : i ≠ j)
    (hx : X.env.scope.names.lookup x = some .local) (hy : X.env.scope.names.lookup y = some .local) (ha : PA X [a, b] ta)
    (hw : swappedStores [.Tuple [.Name x px, .Name y py] kt pt] (.Tuple [a, b] k2 pt2) X.env = pure (some [x, y]))
    (hs : swapsWithSole [.Tuple [.Name x px, .Name y py] kt pt] (.Tuple [a, b] k2 pt2) pos.line X.env = pure false := by rfl) :
    PS X (.Assign [.Tuple [.Name x px, .Name y py] kt pt] (.Tuple [a, b] k2 pt2) pos) (tPar i j ta) := by
  intro pins s σ H D I h
  rw [exec_Assign_arm]
  refine wpAny_bind (wpAny_standAt ?_)
  rw [hs]
  refine wpAny_bind (wpAny_pure ?_)
  rw [if_neg (by decide)]
  refine wpAny_bind (Tuple_ (thn (ha _ pins s σ H _ I h) fun us s1 ⟨vs, H1, I1, r1, q1⟩ => ?_))
  obtain ⟨v, w, e1, q1⟩ := q1
  subst e1
  obtain ⟨u1, u2, rfl, rv, rw'⟩ : ∃ u1 u2, us = [u1, u2] ∧ RelV v u1 ∧ RelV w u2 := by
    cases r1 with
    | cons p q =>
      cases q with
      | cons p' q' =>
        cases q'
        exact ⟨_, _, rfl, p, p'⟩
  refine wpAny_newObj_type ?_ (by show 2 ≤ sizeLine; decide)
  have I2 : Inv X pins σ H1 { s1 with heap := s1.heap.push { cls := .type "tuple", data := .seq [u1, u2].toArray } } := I1.kept (t' := s1.toks) fun b o e => Heap.get?_push_of_some _ e
  rw [hw]
  refine wpAny_bind (wpAny_pure ?_)
  show wpAny (model X.prog X.w) X.A (do rule "assign.swapped-stores"; let items ← unpackItems (.ref s1.heap.objs.size) 2 none; assignInOrder [fun v => bindName X.env y v, fun v => bindName X.env x v] items.reverse; pure Flow.next) _ _ _
  refine wpAny_bind (wpAny_rule (wpAny_bind (unpackItems_tuple (items := #[u1, u2]) (I.ok.hd hc) (IsTup.new s1.heap _) fun h' hx' => ?_)))
  have I3 := I2.kept (h' := h') (t' := s1.toks) fun b o e => hx' b o (Nat.ne_of_lt (Heap.lt_size e)) e
  show wpAny _ _ (assignInOrder [fun v => bindName X.env y v, fun v => bindName X.env x v] [u2, u1] >>= fun _ => pure Flow.next) _ _ _
  refine wpAny_bind (assignInOrder_cons (wpAny_bindName (store_ok I3 hN hj (.inl hy) rw' (fun s2 I4 => ?_) (.inr hy))))
  refine assignInOrder_cons (wpAny_bindName (store_ok I4 hN hi (.inl hx) rv (fun s3 I5 => assignInOrder_nil (wpAny_pure ?_)) (.inr hx)))
  rw [List.set_comm _ _ (Ne.symm hij)] at I5
  exact ⟨_, H1, I5, q1⟩
end
section
variable {X : Cx} {pos : Pos}
def tWhile (c : TT) (tb : TS) : TS := fun D σ H => ∃ W : Nat → St → Hp → Prop, (∃ m, W m σ H) ∧ ∀ m σ H, W m σ H →
  c σ H fun b H1 => if b = true then ∃ N : St → Hp → Prop, (∀ σ' H', N σ' H' → ∃ m', m' < m ∧ W m' σ' H') ∧ tb { D with nx := N, ct := N, bk := D.nx } σ H1 else D.nx σ H1
theorem ps_while {c : Expr} {body : List Stmt} {tc : TT} {tb : TS} (hp : PassesOwn (model X.prog X.w) X.A X.env X.xe) (hc : PT X c tc) (hb : PSs X body tb) : PS X (.While c body [] pos) (tWhile tc tb) := by
  intro pins s σ H D I h
  obtain ⟨W, ⟨m0, w0⟩, turn⟩ := h
  refine wpAny_While (codeAny_whileLoop (fun n s' => ∃ σ' H', Inv X pins σ' H' s' ∧ W n σ' H') ?_ m0 ⟨σ, H, I, w0⟩)
  rintro n s1 ⟨σ1, H1, I1, w1⟩
  refine wpAny_passesOwn hp (thn (hc pins s1 σ1 H1 _ I1 (turn n σ1 H1 w1)) fun b s2 ⟨H2, I2, q2⟩ => ?_)
  cases b with
  | true =>
    obtain ⟨N, hN, q2⟩ := q2
    rw [if_pos rfl]
    refine wpAny_passesOwn hp (thn (hb pins s2 σ1 H2 _ I2 q2) fun f s3 q3 => ?_)
    cases f with
    | next =>
      obtain ⟨σ3, H3, I3, n3⟩ := q3
      obtain ⟨m', hm, w3⟩ := hN σ3 H3 n3
      exact ⟨m', hm, σ3, H3, I3, w3⟩
    | cont =>
      obtain ⟨σ3, H3, I3, n3⟩ := q3
      obtain ⟨m', hm, w3⟩ := hN σ3 H3 n3
      exact ⟨m', hm, σ3, H3, I3, w3⟩
    | brk => exact q3
    | ret v => exact q3
  | false =>
    rw [if_neg Bool.false_ne_true]
    exact wpAny_execs_nil ⟨σ1, H2, I2, q2⟩
end
structure It where
  go : Nat → Hp → Prop
  yld : Nat → Hp → V → Hp → Prop
  stop : Nat → Hp → Prop
def FpOk (X : Cx) (pins : List (Addr × Obj)) (H : Hp) (b : Addr) : Prop :=
  H b = none ∧ b ≠ X.env.locals ∧ b ∉ X.fs ∧ (b ∈ X.ex ∨ X.s₀.heap.objs.size ≤ b) ∧ (∀ x c, X.env.cells.lookup x = some c → c ≠ b) ∧ ∀ p ∈ X.pn ++ pins, p.1 ≠ b
theorem Inv.fpOk {X : Cx} {pins : List (Addr × Obj)} {σ : St} {H H' : Hp} {s : Shared} {b : Addr} (I : Inv X pins σ H s) (hb : s.heap.objs.size ≤ b) (hn : H' b = none) : FpOk X pins H' b := by
  refine ⟨hn, Nat.ne_of_gt (Nat.lt_of_lt_of_le I.lt hb), I.nofs hb, .inr (Nat.le_trans I.sz hb), fun x c e z => ?_, fun p hp z => ?_⟩
  · obtain ⟨v, q⟩ := I.cell x c e
    exact absurd (Nat.lt_of_lt_of_le q.lt (by rw [z]; exact hb)) (Nat.lt_irrefl _)
  · exact absurd (Nat.lt_of_lt_of_le (Heap.lt_size (I.pin p hp).1) (by rw [z]; exact hb)) (Nat.lt_irrefl _)
structure Turn (P : Program) (w : World) (K : PySem.W.Frag) (tg : Expr) (J : It) (fp : List Addr) (it : Addr) (tn : Nat → Heap → Prop) : Prop where
  mem : it ∈ fp
  obj : ∀ i h, tn i h → ∀ b ∈ fp, ∃ o, h.get? b = some o ∧ ∀ v, o.data ≠ .cell v
  keep : ∀ i h h', tn i h → (∀ b ∈ fp, ∀ o, h.get? b = some o → h'.get? b = some o) → tn i h'
  item : ∀ (X : Cx), X.prog = P → X.w = w → X.K = K → X.calm = true → ∀ (i : Nat) (pins : List (Addr × Obj)) (s : Shared) (σ : St) (H : Hp) (E : Value → Shared → Prop), Inv X pins σ H s → (∀ b ∈ fp, FpOk X pins H b) → tn i s.heap → J.go i H →
    wpAny (model P w) X.A (pyNext (.ref it)) (fun r s1 => ∃ u, r = some u ∧
      wpAny (model P w) X.A (letOwnedTupleGo tg (.ref it) u) (fun _ s2 => ∃ x H', Inv X pins σ H' s2 ∧ RelV x u ∧ J.yld i H x H' ∧ tn (i + 1) s2.heap ∧ ∀ b ∈ fp, H' b = none) E s1) E s
  done : ∀ (X : Cx), X.prog = P → X.w = w → X.K = K → X.calm = true → ∀ (i : Nat) (pins : List (Addr × Obj)) (s : Shared) (σ : St) (H : Hp) (E : Value → Shared → Prop), Inv X pins σ H s → (∀ b ∈ fp, FpOk X pins H b) → tn i s.heap → J.stop i H →
    wpAny (model P w) X.A (pyNext (.ref it)) (fun r s1 => r = none ∧ Inv X pins σ H s1) E s
  self : ∀ (A : Around) (i : Nat) (s : Shared) (Q : Value → Shared → Prop) (E : Value → Shared → Prop), tn i s.heap → Q (.ref it) s → wpAny (model P w) A (pyIter (.ref it)) Q E s
abbrev TI := St → Hp → (It → Hp → Prop) → Prop
def PIE (X : Cx) (pins : List (Addr × Obj)) (σ : St) (tg : Expr) (R : It → Hp → Prop) (itv : Value) (s2 : Shared) : Prop :=
  ∃ (it : Addr) (fp : List Addr) (tn : Nat → Heap → Prop) (J : It) (H' : Hp), itv = .ref it ∧ Inv X pins σ H' s2 ∧ Turn X.prog X.w X.K tg J fp it tn ∧ tn 0 s2.heap ∧ (∀ b ∈ fp, FpOk X pins H' b) ∧ R J H'
def PI (X : Cx) (tg iter : Expr) (wi : TI) : Prop :=
  ∀ (pins : List (Addr × Obj)) (s : Shared) (σ : St) (H : Hp) (R : It → Hp → Prop), Inv X pins σ H s → wi σ H R →
    wpAny (model X.prog X.w) X.A (eval iter X.env) (fun v s1 => wpAny (model X.prog X.w) X.A (pyIter v) (PIE X pins σ tg R) X.xe s1) X.xe s
theorem go_of {M : Model} {A : Around} {E : Value → Shared → Prop} {s : Shared} {tg : Expr} {it : Addr} {u : Value} {o : Obj} {n : String} {vs : Array Value} {Q : Unit → Shared → Prop} (ho : s.heap.get? it = some o) (hc : o.cls = .type n) (hd : o.data = .fields vs)
    (hn : ["enumerate", "zip", "dict_itemiterator", "dict_reverseitemiterator", "odict_iterator", "itertools.zip_longest", "itertools.pairwise"].contains n = false) (hQ : Q () s) : wpAny M A (letOwnedTupleGo tg (.ref it) u) Q E s := by
  unfold letOwnedTupleGo
  cases tg <;> first
    | exact wpAny_pure hQ
    | (cases u <;> first
        | exact wpAny_pure hQ
        | (refine wpAny_bind (wpAny_load ho ?_)
           rw [hc, hd]
           show wpAny M A (if (["enumerate", "zip", "dict_itemiterator", "dict_reverseitemiterator", "odict_iterator", "itertools.zip_longest", "itertools.pairwise"].contains n && vs[0]? == some (rawInt _)) = true then _ else _) Q E s
           rw [if_neg (by intro h; rw [hn, Bool.false_and] at h; cases h)]
           exact wpAny_pure hQ))
def Itl (K : PySem.W.Frag) (a : Addr) : It :=
  ⟨fun i H => ∃ xs x, SqL K H a xs ∧ xs[i]? = some x, fun i H x H' => H' = H ∧ ∀ xs, SqL K H a xs → xs[i]? = some x, fun i H => ∃ xs, SqL K H a xs ∧ xs.length ≤ i⟩
def Itt (K : PySem.W.Frag) (a : Addr) : It :=
  ⟨fun i H => ∃ xs x, SqT K H a xs ∧ xs[i]? = some x, fun i H x H' => H' = H ∧ ∀ xs, SqT K H a xs → xs[i]? = some x, fun i H => ∃ xs, SqT K H a xs ∧ xs.length ≤ i⟩
def Itr (lo : Int) (n : Nat) : It := ⟨fun i _ => i < n, fun i H x H' => H' = H ∧ x = .int (lo + i), fun i _ => n ≤ i⟩
theorem turn_list {P : Program} {w : World} {K : PySem.W.Frag} {tg : Expr} (a it : Addr) : Turn P w K tg (Itl K a) [it] it (fun i h => h.IsListIter it a i) where
  mem := by simp
  obj := fun i h st b hb => by
    have e : b = it := by simpa using hb
    subst e
    obtain ⟨o, e, c, d⟩ := st
    exact ⟨o, e, fun v z => by rw [d] at z; cases z⟩
  keep := fun i h h' st k => st.at fun o e => k it (by simp) o e
  item := by
    intro X hP hw hK hc i pins s σ H E I hf st hg
    subst hP hw hK
    obtain ⟨xs, x, hq, hx⟩ := hg
    obtain ⟨its, rv, p, hz⟩ := I.list hq
    obtain ⟨u, hu, ru⟩ := rv.get hx
    obtain ⟨f0, f1, f2, f3, f4, f5⟩ := hf it (by simp)
    refine wpAny_pyNext_list_item st p.isList (x := u) (by simpa using hu) fun h' st' sb => ?_
    have I1 : Inv X pins σ H { s with heap := h' } := I.turned (t' := s.toks) (fun b o hb e => (sb.2 b hb).trans e) f0 f1 f3 f4 f5
    obtain ⟨o, e, c, d⟩ := id st'
    exact ⟨u, rfl, go_of (s := { s with heap := h' }) e c d (by decide) ⟨x, H, I1, ru, ⟨rfl, fun ys hy => by rw [I.list_inj hy hq]; exact hx⟩, st', fun b hb => (hf b hb).1⟩⟩
  done := by
    intro X hP hw hK hc i pins s σ H E I hf st hg
    subst hP hw hK
    obtain ⟨xs, hq, hx⟩ := hg
    obtain ⟨its, rv, p, hz⟩ := I.list hq
    obtain ⟨f0, f1, f2, f3, f4, f5⟩ := hf it (by simp)
    have hl := rv.length
    exact wpAny_pyNext_list_end (I.ok.hd hc) st p.isList (by simp; omega) fun h' eb => ⟨rfl, I.turned (t' := s.toks) (fun b o hb e => eb b o hb e) f0 f1 f3 f4 f5⟩
  self := fun _ _ _ _ _ st h => wpAny_pyIter_listiter st h
theorem turn_tuple {P : Program} {w : World} {K : PySem.W.Frag} {tg : Expr} (a it : Addr) : Turn P w K tg (Itt K a) [it] it (fun i h => h.IsTupleIter it a i) where
  mem := by simp
  obj := fun i h st b hb => by
    have e : b = it := by simpa using hb
    subst e
    obtain ⟨o, e, c, d⟩ := st
    exact ⟨o, e, fun v z => by rw [d] at z; cases z⟩
  keep := fun i h h' st k => st.at fun o e => k it (by simp) o e
  item := by
    intro X hP hw hK hc i pins s σ H E I hf st hg
    subst hP hw hK
    obtain ⟨xs, x, hq, hx⟩ := hg
    obtain ⟨its, rv, p, hz⟩ := I.tuple hq
    obtain ⟨u, hu, ru⟩ := rv.get hx
    obtain ⟨f0, f1, f2, f3, f4, f5⟩ := hf it (by simp)
    refine wpAny_pyNext_tuple_item st (show s.heap.IsTuple a its.toArray from p) (x := u) (by simpa using hu) fun h' st' sb => ?_
    have I1 : Inv X pins σ H { s with heap := h' } := I.turned (t' := s.toks) (fun b o hb e => (sb.2 b hb).trans e) f0 f1 f3 f4 f5
    obtain ⟨o, e, c, d⟩ := id st'
    exact ⟨u, rfl, go_of (s := { s with heap := h' }) e c d (by decide) ⟨x, H, I1, ru, ⟨rfl, fun ys hy => by rw [I.tuple_inj hy hq]; exact hx⟩, st', fun b hb => (hf b hb).1⟩⟩
  done := by
    intro X hP hw hK hc i pins s σ H E I hf st hg
    subst hP hw hK
    obtain ⟨xs, hq, hx⟩ := hg
    obtain ⟨its, rv, p, hz⟩ := I.tuple hq
    obtain ⟨f0, f1, f2, f3, f4, f5⟩ := hf it (by simp)
    have hl := rv.length
    exact wpAny_pyNext_tuple_end (I.ok.hd hc) st (show s.heap.IsTuple a its.toArray from p) (by simp; omega) fun h' eb => ⟨rfl, I.turned (t' := s.toks) (fun b o hb e => eb b o hb e) f0 f1 f3 f4 f5⟩
  self := fun _ _ _ _ _ st h => wpAny_pyIter_tupleiter st h
theorem turn_range {P : Program} {w : World} {K : PySem.W.Frag} {tg : Expr} (it : Addr) (lo : Int) (n : Nat) : Turn P w K tg (Itr lo n) [it] it (fun i h => IsRangeIter h it (lo + (i : Nat) * 1) ((n : Int) - (i : Nat)) 1) where
  mem := by simp
  obj := fun i h st b hb => by
    have e : b = it := by simpa using hb
    subst e
    exact ⟨_, st, fun v z => by
      have z' : Data.fields _ = Data.cell v := z
      cases z'⟩
  keep := fun i h h' st k => k it (by simp) _ st
  item := by
    intro X hP hw hK hc i pins s σ H E I hf st hg
    subst hP hw hK
    obtain ⟨f0, f1, f2, f3, f4, f5⟩ := hf it (by simp)
    have W := Walks.range (prog := X.prog) (w := X.w) (I.ok.hd hc) it lo 1 n
    refine W.item i s _ _ hg st fun v h' tk hv st' kk => ?_
    obtain ⟨t, rfl⟩ := hv
    have I1 : Inv X pins σ H { s with heap := h', toks := tk } := I.turned (fun b o hb e => kk b o (by simpa using hb) e) f0 f1 f3 f4 f5
    refine ⟨_, rfl, go_of (s := { s with heap := h', toks := tk }) (n := "range_iterator") st' rfl rfl (by decide) ⟨.int (lo + i), H, I1, ⟨t, ?_⟩, ⟨rfl, rfl⟩, st', fun b hb => (hf b hb).1⟩⟩
    rw [Int.mul_one]
  done := by
    intro X hP hw hK hc i pins s σ H E I hf st hg
    subst hP hw hK
    obtain ⟨f0, f1, f2, f3, f4, f5⟩ := hf it (by simp)
    exact wpAny_pyNext_range_end (I.ok.hd hc) st (by have : n ≤ i := hg; omega) fun h' eb => ⟨rfl, I.turned (t' := s.toks) (fun b o hb e => eb b o hb e) f0 f1 f3 f4 f5⟩
  self := fun _ _ _ _ _ st h => wpAny_pyIter_rangeiter st h
end L2
namespace L2
open PySem PySem.Spec PyProof.Rows
section
variable {X : Cx} {tg : Expr}
def iList (K : PySem.W.Frag) (tl : TE) : TI := fun σ H R => tl σ H fun x H1 => ∃ a, x = .ref a ∧ (∃ xs, SqL K H1 a xs) ∧ R (Itl K a) H1
def iTup (K : PySem.W.Frag) (tl : TE) : TI := fun σ H R => tl σ H fun x H1 => ∃ a, x = .ref a ∧ (∃ xs, SqT K H1 a xs) ∧ R (Itt K a) H1
theorem pi_list {l : Expr} {tl : TE} (hl : PE X l tl) : PI X tg l (iList X.K tl) := by
  intro pins s σ H R I h
  refine thn (hl pins s σ H _ I h) fun v s1 ⟨x, H1, I1, r1, q1⟩ => ?_
  obtain ⟨a, e, ⟨xs, hq⟩, q⟩ := q1
  subst e
  cases r1
  obtain ⟨its, rv, p, hz⟩ := I1.list hq
  refine wpAny_pyIter_list p.isList ?_
  refine ⟨s1.heap.objs.size, [s1.heap.objs.size], _, _, H1, rfl, I1.kept (t' := s1.toks) fun b o e => Heap.get?_push_of_some _ e, turn_list a _, ⟨_, Heap.get?_push_size _ rfl, rfl, rfl⟩, fun b hb => ?_, q⟩
  have e : b = s1.heap.objs.size := by simpa using hb
  subst e
  exact I1.fpOk (Nat.le_refl _) (I1.hok.fresh (Nat.le_refl _))
theorem pi_tup {l : Expr} {tl : TE} (hl : PE X l tl) : PI X tg l (iTup X.K tl) := by
  intro pins s σ H R I h
  refine thn (hl pins s σ H _ I h) fun v s1 ⟨x, H1, I1, r1, q1⟩ => ?_
  obtain ⟨a, e, ⟨xs, hq⟩, q⟩ := q1
  subst e
  cases r1
  obtain ⟨its, rv, p, hz⟩ := I1.tuple hq
  refine wpAny_pyIter_tuple (show s1.heap.IsTuple a its.toArray from p) ?_
  refine ⟨s1.heap.objs.size, [s1.heap.objs.size], _, _, H1, rfl, I1.kept (t' := s1.toks) fun b o e => Heap.get?_push_of_some _ e, turn_tuple a _, ⟨_, Heap.get?_push_size _ rfl, rfl, rfl⟩, fun b hb => ?_, q⟩
  have e : b = s1.heap.objs.size := by simpa using hb
  subst e
  exact I1.fpOk (Nat.le_refl _) (I1.hok.fresh (Nat.le_refl _))
theorem range_it {pins : List (Addr × Obj)} {σ : St} {H : Hp} {s : Shared} {R : It → Hp → Prop} {E : Value → Shared → Prop} {lo hi : Int} {t u v : Tok} {tk : Nat} (I : Inv X pins σ H s) (h1 : -(2 ^ 62) ≤ lo) (h2 : lo < 2 ^ 62) (h3 : -(2 ^ 62) ≤ hi) (h4 : hi < 2 ^ 62)
    (q : R (Itr lo (hi - lo).toNat) H) : wpAny (model X.prog X.w) X.A (pyIter (.ref s.heap.objs.size)) (PIE X pins σ tg R) E { s with heap := s.heap.push { cls := .type "range", data := .fields #[.int lo t, .int hi u, .int 1 v] }, toks := tk } := by
  refine wpAny_pyIter_range (IsRange.new ..) (small_one h1 h2 h3 h4) ?_
  have I1 : Inv X pins σ H { s with heap := s.heap.push { cls := .type "range", data := .fields #[.int lo t, .int hi u, .int 1 v] }, toks := tk } := I.kept fun b o e => Heap.get?_push_of_some _ e
  refine ⟨(s.heap.push { cls := .type "range", data := .fields #[.int lo t, .int hi u, .int 1 v] }).objs.size, [(s.heap.push { cls := .type "range", data := .fields #[.int lo t, .int hi u, .int 1 v] }).objs.size], _, _, H, rfl,
    I1.kept (t' := tk) fun b o e => Heap.get?_push_of_some _ e, turn_range _ lo (hi - lo).toNat, ?_, fun b hb => ?_, q⟩
  · have e1 : lo + ((0 : Nat) : Int) * 1 = lo := by simp
    have e2 : (((hi - lo).toNat : Nat) : Int) - ((0 : Nat) : Int) = Builtin.Range.rangeSize lo hi 1 := by rw [rangeSize_one]; split <;> omega
    show IsRangeIter _ _ (lo + ((0 : Nat) : Int) * 1) ((((hi - lo).toNat : Nat) : Int) - ((0 : Nat) : Int)) 1
    rw [e1, e2]
    exact Heap.get?_push_size _ rfl
  · have e : b = (s.heap.push { cls := .type "range", data := .fields #[.int lo t, .int hi u, .int 1 v] }).objs.size := by simpa using hb
    subst e
    exact I1.fpOk (Nat.le_refl _) (I1.hok.fresh (Nat.le_refl _))
def iRng1 (ta : TA) : TI := fun σ H R => ta σ H fun vs H1 => ∃ j : Int, vs = [.int j] ∧ -(2 ^ 62) ≤ j ∧ j < 2 ^ 62 ∧ R (Itr 0 j.toNat) H1
theorem pi_range1 {a : Expr} {ta : TA} {p pos : Pos} (hg : Gl X "range") (hm : X.mg "range" = none) (ha : PA X [a] ta) (hs : starEach [a] X.env = [(false, eval a X.env)] := by rfl) : PI X tg (.Call (.Name "range" p) [a] [] pos) (iRng1 ta) := by
  intro pins s σ H R I h
  refine Call_ (ld_blt I hg hm boot_range (PyProof.Rows.callWith_type1 (thn (ha pos pins s σ H _ I h) fun us s1 ⟨vs, H1, I1, r1, q1⟩ => ?_) hs rfl))
  obtain ⟨j, e, q1, q2, q⟩ := q1
  subst e
  cases r1 with
  | cons r rr =>
    cases rr
    obtain ⟨t, rfl⟩ := r
    exact call_range_1 (range_it I1 (by omega) (by omega) q1 q2 (by simpa using q))
def tFor (wi : TI) (g : TG) (tb : TS) : TS := fun D σ H => wi σ H fun J H1 => ∃ W : Nat → Nat → St → Hp → Prop, (∃ m, W 0 m σ H1) ∧ ∀ i m σ H, W i m σ H →
  (J.stop i H ∧ D.nx σ H) ∨ (J.go i H ∧ ∃ N : St → Hp → Prop, (∀ σ' H', N σ' H' → ∃ m', m' < m ∧ W (i + 1) m' σ' H') ∧ ∀ x H', J.yld i H x H' → g x σ H' fun σ2 H2 => tb { D with nx := N, ct := N, bk := D.nx } σ2 H2)
def pinsAt (fp : List Addr) (h : Heap) : List (Addr × Obj) := fp.filterMap fun b => (h.get? b).map fun o => (b, o)
theorem mem_pinsAt {fp : List Addr} {h : Heap} {b : Addr} {o : Obj} (hb : b ∈ fp) (e : h.get? b = some o) : (b, o) ∈ pinsAt fp h := List.mem_filterMap.mpr ⟨b, hb, by rw [e]; rfl⟩
theorem of_pinsAt {fp : List Addr} {h : Heap} {p : Addr × Obj} (hp : p ∈ pinsAt fp h) : p.1 ∈ fp ∧ h.get? p.1 = some p.2 := by
  obtain ⟨b, hb, e⟩ := List.mem_filterMap.mp hp
  cases q : h.get? b with
  | none => rw [q] at e; cases e
  | some o =>
    rw [q] at e
    have e' : (b, o) = p := Option.some.inj e
    subst e'
    exact ⟨hb, q⟩
theorem Inv.pinned {pins : List (Addr × Obj)} {σ : St} {H : Hp} {s : Shared} {fp : List Addr} (I : Inv X pins σ H s) (hf : ∀ b ∈ fp, FpOk X pins H b) (ho : ∀ b ∈ fp, ∃ o, s.heap.get? b = some o ∧ ∀ v, o.data ≠ .cell v) : Inv X (pins ++ pinsAt fp s.heap) σ H s :=
  I.pins_of fun p hp => (List.mem_append.mp hp).elim (fun z => I.pin p (List.mem_append_right _ z)) fun z => by
    obtain ⟨hb, e⟩ := of_pinsAt z
    obtain ⟨f0, f1, f2, _⟩ := hf p.1 hb
    obtain ⟨o, e', d⟩ := ho p.1 hb
    rw [e] at e'; cases e'
    exact ⟨e, f0, f1, f2, d⟩
theorem Inv.unpinned {pins pl : List (Addr × Obj)} {σ : St} {H : Hp} {s : Shared} (I : Inv X (pins ++ pl) σ H s) : Inv X pins σ H s := I.pins_of fun p hp => I.pin p (List.mem_append_right _ (List.mem_append_left _ hp))
theorem ps_for {iter : Expr} {body : List Stmt} {wi : TI} {g : TG} {tb : TS} {pos : Pos} (hp : PassesOwn (model X.prog X.w) X.A X.env X.xe) (hc : X.calm = true) (hi : PI X tg iter wi) (hg : PG X tg g) (hb : PSs X body tb)
    (hs : ∀ x, foldedSetIterable iter X.env x = pure x := by intro _; rfl) : PS X (.For tg iter body [] pos) (tFor wi g tb) := by
  intro pins s σ H D I h
  refine wpAny_For (thn (hi pins s σ H _ I h) fun v s1 h1 => thn h1 fun itv s2 h2 => ?_) hs
  obtain ⟨it, fp, tn, J, H2, e, I2, T, st2, f2, W, ⟨m0, w0⟩, turn⟩ := h2
  subst e
  have stat : ∀ {H' : Hp}, (∀ b ∈ fp, H' b = none) → ∀ b ∈ fp, FpOk X pins H' b := fun hn b hb => ⟨hn b hb, (f2 b hb).2⟩
  refine codeAny_forLoop_any (fun n s' => ∃ i σ' H', Inv X pins σ' H' s' ∧ tn i s'.heap ∧ (∀ b ∈ fp, H' b = none) ∧ W i n σ' H') ?_ m0 ⟨0, σ, H2, I2, st2, fun b hb => (f2 b hb).1, w0⟩
  rintro n s3 ⟨i, σ3, H3, I3, st3, fr3, w3⟩
  rcases turn i n σ3 H3 w3 with ⟨stop, qn⟩ | ⟨go, N, hN, step⟩
  · refine wpAny_passesOwn hp (thn (T.done X rfl rfl rfl hc i pins s3 σ3 H3 X.xe I3 (stat fr3) st3 stop) fun r s4 ⟨hr, I4⟩ => ?_)
    subst hr
    exact wpAny_execs_nil ⟨σ3, H3, I4, qn⟩
  · refine wpAny_passesOwn hp (thn (T.item X rfl rfl rfl hc i pins s3 σ3 H3 X.xe I3 (stat fr3) st3 go) fun r s4 ⟨u, hr, h4⟩ => ?_)
    subst hr
    refine wpAny_passesOwn hp (thn h4 fun _ s5 ⟨x, H5, I5, r5, y5, st5, fr5⟩ => ?_)
    have I5' := I5.pinned (stat fr5) (T.obj _ _ st5)
    refine wpAny_passesOwn hp (thn (hg _ s5 σ3 H5 x u _ I5' r5 (step x H5 y5)) fun _ s6 ⟨σ6, H6, I6, q6⟩ => ?_)
    refine wpAny_passesOwn hp (thn (hb _ s6 σ6 H6 _ I6 q6) fun f s7 q7 => ?_)
    have again : ∀ {σ7 : St} {H7 : Hp}, Inv X (pins ++ pinsAt fp s5.heap) σ7 H7 s7 → N σ7 H7 → ∃ m, m < n ∧ ∃ i σ' H', Inv X pins σ' H' s7 ∧ tn i s7.heap ∧ (∀ b ∈ fp, H' b = none) ∧ W i m σ' H' := fun {σ7 H7} I7 n7 => by
      obtain ⟨m', hm, w7⟩ := hN σ7 H7 n7
      refine ⟨m', hm, i + 1, σ7, H7, I7.unpinned, T.keep _ _ _ st5 fun b hb o e => (I7.pin (b, o) (List.mem_append_right _ (List.mem_append_right _ (mem_pinsAt hb e)))).1, fun b hb => ?_, w7⟩
      obtain ⟨o, e, d⟩ := T.obj _ _ st5 b hb
      exact (I7.pin (b, o) (List.mem_append_right _ (List.mem_append_right _ (mem_pinsAt hb e)))).2.1
    cases f with
    | next => obtain ⟨σ7, H7, I7, n7⟩ := q7; exact again I7 n7
    | cont => obtain ⟨σ7, H7, I7, n7⟩ := q7; exact again I7 n7
    | brk => obtain ⟨σ7, H7, I7, q7⟩ := q7; exact ⟨σ7, H7, I7.unpinned, q7⟩
    | ret v => obtain ⟨x7, σ7, H7, I7, r7, q7⟩ := q7; exact ⟨x7, σ7, H7, I7.unpinned, r7, q7⟩
end
theorem for_list {K : PySem.W.Frag} {a : Addr} {xs : List V} {g : TG} {tb : TS} {D : Ends} {σ : St} {H : Hp} (Pv : Nat → St → Hp → Prop) (h0 : Pv 0 σ H) (hl : ∀ i σ H, i ≤ xs.length → Pv i σ H → SqL K H a xs)
    (hs : ∀ i x σ H, xs[i]? = some x → Pv i σ H → g x σ H fun σ2 H2 => tb { D with nx := Pv (i + 1), ct := Pv (i + 1), bk := D.nx } σ2 H2) (hd : ∀ σ H, Pv xs.length σ H → D.nx σ H) :
    ∃ W : Nat → Nat → St → Hp → Prop, (∃ m, W 0 m σ H) ∧ ∀ i m σ H, W i m σ H →
      ((Itl K a).stop i H ∧ D.nx σ H) ∨ ((Itl K a).go i H ∧ ∃ N : St → Hp → Prop, (∀ σ' H', N σ' H' → ∃ m', m' < m ∧ W (i + 1) m' σ' H') ∧ ∀ x H', (Itl K a).yld i H x H' → g x σ H' fun σ2 H2 => tb { D with nx := N, ct := N, bk := D.nx } σ2 H2) := by
  refine ⟨fun i m σ H => m = xs.length - i ∧ i ≤ xs.length ∧ Pv i σ H, ⟨xs.length, by simp, Nat.zero_le _, h0⟩, ?_⟩
  rintro i m σ H ⟨rfl, hi, p⟩
  have q := hl i σ H hi p
  by_cases hlt : i < xs.length
  · refine .inr ⟨⟨xs, xs[i], q, by simp [hlt]⟩, Pv (i + 1), fun σ' H' p' => ⟨xs.length - (i + 1), by omega, rfl, hlt, p'⟩, fun x H' y => ?_⟩
    obtain ⟨e, y⟩ := y
    subst e
    exact hs i x σ _ (y xs q) p
  · have e : i = xs.length := by omega
    subst e
    exact .inl ⟨⟨xs, q, Nat.le_refl _⟩, hd σ H p⟩
theorem for_tup {K : PySem.W.Frag} {a : Addr} {xs : List V} {g : TG} {tb : TS} {D : Ends} {σ : St} {H : Hp} (Pv : Nat → St → Hp → Prop) (h0 : Pv 0 σ H) (hl : ∀ i σ H, i ≤ xs.length → Pv i σ H → SqT K H a xs)
    (hs : ∀ i x σ H, xs[i]? = some x → Pv i σ H → g x σ H fun σ2 H2 => tb { D with nx := Pv (i + 1), ct := Pv (i + 1), bk := D.nx } σ2 H2) (hd : ∀ σ H, Pv xs.length σ H → D.nx σ H) :
    ∃ W : Nat → Nat → St → Hp → Prop, (∃ m, W 0 m σ H) ∧ ∀ i m σ H, W i m σ H →
      ((Itt K a).stop i H ∧ D.nx σ H) ∨ ((Itt K a).go i H ∧ ∃ N : St → Hp → Prop, (∀ σ' H', N σ' H' → ∃ m', m' < m ∧ W (i + 1) m' σ' H') ∧ ∀ x H', (Itt K a).yld i H x H' → g x σ H' fun σ2 H2 => tb { D with nx := N, ct := N, bk := D.nx } σ2 H2) := by
  refine ⟨fun i m σ H => m = xs.length - i ∧ i ≤ xs.length ∧ Pv i σ H, ⟨xs.length, by simp, Nat.zero_le _, h0⟩, ?_⟩
  rintro i m σ H ⟨rfl, hi, p⟩
  have q := hl i σ H hi p
  by_cases hlt : i < xs.length
  · refine .inr ⟨⟨xs, xs[i], q, by simp [hlt]⟩, Pv (i + 1), fun σ' H' p' => ⟨xs.length - (i + 1), by omega, rfl, hlt, p'⟩, fun x H' y => ?_⟩
    obtain ⟨e, y⟩ := y
    subst e
    exact hs i x σ _ (y xs q) p
  · have e : i = xs.length := by omega
    subst e
    exact .inl ⟨⟨xs, q, Nat.le_refl _⟩, hd σ H p⟩
theorem for_range {lo : Int} {n : Nat} {g : TG} {tb : TS} {D : Ends} {σ : St} {H : Hp} (Pv : Nat → St → Hp → Prop) (h0 : Pv 0 σ H)
    (hs : ∀ i σ H, i < n → Pv i σ H → g (.int (lo + i)) σ H fun σ2 H2 => tb { D with nx := Pv (i + 1), ct := Pv (i + 1), bk := D.nx } σ2 H2) (hd : ∀ σ H, Pv n σ H → D.nx σ H) :
    ∃ W : Nat → Nat → St → Hp → Prop, (∃ m, W 0 m σ H) ∧ ∀ i m σ H, W i m σ H →
      ((Itr lo n).stop i H ∧ D.nx σ H) ∨ ((Itr lo n).go i H ∧ ∃ N : St → Hp → Prop, (∀ σ' H', N σ' H' → ∃ m', m' < m ∧ W (i + 1) m' σ' H') ∧ ∀ x H', (Itr lo n).yld i H x H' → g x σ H' fun σ2 H2 => tb { D with nx := N, ct := N, bk := D.nx } σ2 H2) := by
  refine ⟨fun i m σ H => m = n - i ∧ i ≤ n ∧ Pv i σ H, ⟨n, by simp, Nat.zero_le _, h0⟩, ?_⟩
  rintro i m σ H ⟨rfl, hi, p⟩
  by_cases hlt : i < n
  · refine .inr ⟨hlt, Pv (i + 1), fun σ' H' p' => ⟨n - (i + 1), by omega, rfl, hlt, p'⟩, fun x H' y => ?_⟩
    obtain ⟨e, y⟩ := y
    subst e y
    exact hs i σ _ hlt p
  · have e : i = n := by omega
    subst e
    exact .inl ⟨Nat.le_refl _, hd σ H p⟩
end L2
namespace L2
open PySem PySem.Spec PyProof.Rows
abbrev R2 := V → V → Hp → VK → Prop
def OpR (X : Cx) (f : Value → Value → Sem Value) (r : R2) : Prop :=
  ∀ (pins : List (Addr × Obj)) (s : Shared) (σ : St) (H : Hp) (x y : V) (v u : Value) (Q : VK), Inv X pins σ H s → RelV x v → RelV y u → r x y H Q →
    wpAny (model X.prog X.w) X.A (f v u) (EP X pins σ Q) X.xe s
def UnR (X : Cx) (f : Value → Sem Value) (r : V → Hp → VK → Prop) : Prop :=
  ∀ (pins : List (Addr × Obj)) (s : Shared) (σ : St) (H : Hp) (x : V) (v : Value) (Q : VK), Inv X pins σ H s → RelV x v → r x H Q →
    wpAny (model X.prog X.w) X.A (f v) (EP X pins σ Q) X.xe s
def CallR (X : Cx) (f : Value) (r : List V → Hp → VK → Prop) : Prop :=
  ∀ (pins : List (Addr × Obj)) (s : Shared) (σ : St) (H : Hp) (xs : List V) (us : List Value) (Q : VK), Inv X pins σ H s → Vals xs us → r xs H Q →
    wpAny (model X.prog X.w) X.A (call f us) (EP X pins σ Q) X.xe s
def TruR (X : Cx) (r : V → Hp → (Bool → Hp → Prop) → Prop) : Prop :=
  ∀ (pins : List (Addr × Obj)) (s : Shared) (σ : St) (H : Hp) (x : V) (v : Value) (Q : Bool → Hp → Prop), Inv X pins σ H s → RelV x v → r x H Q →
    wpAny (model X.prog X.w) X.A (truthy v) (TP X pins σ Q) X.xe s
def tOp (r : R2) (ta tb : TE) : TE := fun σ H Q => ta σ H fun x H1 => tb σ H1 fun y H2 => r x y H2 Q
def tUn (r : V → Hp → VK → Prop) (ta : TE) : TE := fun σ H Q => ta σ H fun x H1 => r x H1 Q
def rI (C : Int → Int → Prop) (g : Int → Int → V) : R2 := fun x y H Q => ∃ i j, x = .int i ∧ y = .int j ∧ C i j ∧ Q (g i j) H
def rI0 (g : Int → Int → V) : R2 := fun x y H Q => ∃ i j, x = .int i ∧ y = .int j ∧ Q (g i j) H
def rU (g : Int → V) : V → Hp → VK → Prop := fun x H Q => ∃ i, x = .int i ∧ Q (g i) H
section
variable {X : Cx} {a b c : Expr} {ta tb tc : TE} {pos : Pos}
theorem binT (ha : PE X a ta) (hb : PE X b tb) {pins : List (Addr × Obj)} {s : Shared} {σ : St} {H : Hp} {R : V → V → Hp → Prop} (I : Inv X pins σ H s)
    (h : ta σ H fun x H1 => tb σ H1 fun y H2 => R x y H2) {Q : Value → Shared → Prop} {f : Value → Value → Sem Value}
    (hf : ∀ v u s2 x y H2, Inv X pins σ H2 s2 → RelV x v → RelV y u → R x y H2 → wpAny (model X.prog X.w) X.A (f v u) Q X.xe s2) :
    wpAny (model X.prog X.w) X.A (eval a X.env) (fun v s₁ => wpAny (model X.prog X.w) X.A (eval b X.env) (fun u s₂ => wpAny (model X.prog X.w) X.A (f v u) Q X.xe s₂) X.xe s₁) X.xe s := by
  refine thn (ha pins s σ H _ I h) fun v s1 ⟨x, H1, I1, r1, q1⟩ => ?_
  refine thn (hb pins s1 σ H1 _ I1 q1) fun u s2 ⟨y, H2, I2, r2, q2⟩ => ?_
  exact hf v u s2 x y H2 I2 r1 r2 q2
theorem pe_op {op : Operator} {r : R2} (ho : OpR X (binaryOp op) r) (ha : PE X a ta) (hb : PE X b tb) : PE X (.BinOp a op b pos) (tOp r ta tb) := by
  intro pins s σ H Q I h
  exact wpAny_BinOp (binT ha hb I h fun v u s2 x y H2 I2 rx ry q => ho pins s2 σ H2 x y v u Q I2 rx ry q)
theorem pe_un {op : UnaryOp} {r : V → Hp → VK → Prop} (ho : UnR X (unaryOp op) r) (ha : PE X a ta) : PE X (.UnaryOp op a pos) (tUn r ta) := by
  intro pins s σ H Q I h
  exact UnaryOp_ (thn (ha pins s σ H _ I h) fun v s1 ⟨x, H1, I1, r1, q1⟩ => ho pins s1 σ H1 x v Q I1 r1 q1)
theorem opI {f : Value → Value → Sem Value} {C : Int → Int → Prop} {g : Int → Int → Int}
    (rule : ∀ (i j : Int) (t u : Tok) (s : Shared) (Q : Value → Shared → Prop) (E : Value → Shared → Prop), C i j → Q (.int (g i j) s.toks) { s with toks := s.toks + 1 } → wpAny (model X.prog X.w) X.A (f (.int i t) (.int j u)) Q E s) :
    OpR X f (rI C fun i j => .int (g i j)) := by
  intro pins s σ H x y v u Q I rx ry h
  obtain ⟨i, j, rfl, rfl, hc, q⟩ := h
  obtain ⟨t, rfl⟩ := rx
  obtain ⟨t', rfl⟩ := ry
  exact rule i j t t' s _ _ hc ⟨.int (g i j), H, I.tok _, ⟨_, rfl⟩, q⟩
theorem opI0 {f : Value → Value → Sem Value} {g : Int → Int → Int}
    (rule : ∀ (i j : Int) (t u : Tok) (s : Shared) (Q : Value → Shared → Prop) (E : Value → Shared → Prop), Q (.int (g i j) s.toks) { s with toks := s.toks + 1 } → wpAny (model X.prog X.w) X.A (f (.int i t) (.int j u)) Q E s) :
    OpR X f (rI0 fun i j => .int (g i j)) := by
  intro pins s σ H x y v u Q I rx ry h
  obtain ⟨i, j, rfl, rfl, q⟩ := h
  obtain ⟨t, rfl⟩ := rx
  obtain ⟨t', rfl⟩ := ry
  exact rule i j t t' s _ _ ⟨.int (g i j), H, I.tok _, ⟨_, rfl⟩, q⟩
theorem opB0 {f : Value → Value → Sem Value} {g : Int → Int → Bool}
    (rule : ∀ (i j : Int) (t u : Tok) (s : Shared) (Q : Value → Shared → Prop) (E : Value → Shared → Prop), Q (.bool (g i j)) s → wpAny (model X.prog X.w) X.A (f (.int i t) (.int j u)) Q E s) :
    OpR X f (rI0 fun i j => .bl (g i j)) := by
  intro pins s σ H x y v u Q I rx ry h
  obtain ⟨i, j, rfl, rfl, q⟩ := h
  obtain ⟨t, rfl⟩ := rx
  obtain ⟨t', rfl⟩ := ry
  exact rule i j t t' s _ _ ⟨.bl (g i j), H, I, rfl, q⟩
def CPow (i j : Int) : Prop := 0 ≤ j ∧ j ≤ 1000000 ∧ i.natAbs < 2 ^ 64
theorem op_add : OpR X (binaryOp .Add) (rI0 fun i j => .int (i + j)) := opI0 fun _ _ _ _ _ _ _ q => add_int q
theorem op_sub : OpR X (binaryOp .Sub) (rI0 fun i j => .int (i - j)) := opI0 fun _ _ _ _ _ _ _ q => sub_int q
theorem op_mod : OpR X (binaryOp .Mod) (rI (fun _ j => 0 < j) fun i j => .int (i % j)) := opI fun i j _ _ _ _ _ hc q => by
  have h1 : (0 : Int) < j := hc
  exact mod_int' (by omega) (by rw [Int.fmod_eq_emod_of_nonneg i (by omega)]; exact q)
theorem op_pow : OpR X (binaryOp .Pow) (rI CPow fun i j => .int (i ^ j.toNat)) := opI fun _ _ _ _ _ _ _ hc q => pow_int_small hc.1 hc.2.1 hc.2.2 q
theorem unI {f : Value → Sem Value} {g : Int → Int}
    (rule : ∀ (i : Int) (t : Tok) (s : Shared) (Q : Value → Shared → Prop) (E : Value → Shared → Prop), Q (.int (g i) s.toks) { s with toks := s.toks + 1 } → wpAny (model X.prog X.w) X.A (f (.int i t)) Q E s) :
    UnR X f (rU fun i => .int (g i)) := by
  intro pins s σ H x v Q I rx h
  obtain ⟨i, rfl, q⟩ := h
  obtain ⟨t, rfl⟩ := rx
  exact rule i t s _ _ ⟨.int (g i), H, I.tok _, ⟨_, rfl⟩, q⟩
theorem un_neg : UnR X (unaryOp .USub) (rU fun i => .int (-i)) := unI fun _ _ _ _ _ q => neg_int q
end
def scal : V → V → Bool
  | .non, .non => true | .non, .int _ => true | .int _, .non => true | .non, .bl _ => true | .bl _, .non => true | .non, .str _ => true | .str _, .non => true
  | .int _, .int _ => true | .bl _, .bl _ => true | .str _, .str _ => true | .byt _, .byt _ => true
  | .int _, .str _ => true | .str _, .int _ => true | .bl _, .str _ => true | .str _, .bl _ => true
  | _, _ => false
def rEq : R2 := fun x y H Q => scal x y = true ∧ Q (.bl (decide (x = y))) H
def rNe : R2 := fun x y H Q => scal x y = true ∧ Q (.bl (!decide (x = y))) H
theorem dec_int {i j : Int} : decide (V.int i = V.int j) = (i == j) := by
  rw [Bool.eq_iff_iff]
  simp
theorem dec_bl {i j : Bool} : decide (V.bl i = V.bl j) = (i == j) := by
  rw [Bool.eq_iff_iff]
  simp
theorem dec_str {i j : Str} : decide (V.str i = V.str j) = (i == j) := by
  rw [Bool.eq_iff_iff]
  simp
theorem dec_byt {i j : Array UInt8} : decide (V.byt i = V.byt j) = (i.toList == j.toList) := by
  rw [Bool.eq_iff_iff]
  cases i
  cases j
  simp
section
variable {X : Cx} {a b c : Expr} {ta tb tc : TE} {pos : Pos}
theorem fin_bl {pins : List (Addr × Obj)} {σ : St} {H : Hp} {s : Shared} {Q : VK} {k k' : Bool} (I : Inv X pins σ H s) (q : Q (.bl k) H) (e : k = k') : EP X pins σ Q (.bool k') s := by
  subst e
  exact ⟨.bl k, H, I, rfl, q⟩
theorem op_eq : OpR X (compareOp .Eq) rEq := by
  intro pins s σ H x y v u Q I rx ry h
  obtain ⟨hs, q⟩ := h
  cases x with
  | non =>
    cases rx
    cases y with
    | non => cases ry; exact PySem.EqNone.eq_none_none (fin_bl I q (by simp))
    | bl j => cases ry; exact PySem.EqNone.eq_none_bool (fin_bl I q (by simp))
    | int j => obtain ⟨t', rfl⟩ := ry; exact PySem.EqNone.eq_none_int (fin_bl I q (by simp))
    | str j => obtain ⟨t', rfl⟩ := ry; exact PySem.EqNone.eq_none_str (fin_bl I q (by simp))
    | _ => exact absurd (show false = true from hs) Bool.false_ne_true
  | bl i =>
    cases rx
    cases y with
    | non => cases ry; exact PySem.EqNone.eq_bool_none (fin_bl I q (by simp))
    | bl j => cases ry; exact eq_bool (fin_bl I q dec_bl)
    | str j => obtain ⟨t', rfl⟩ := ry; exact PySem.EqMixed.eq_bool_str (fin_bl I q (by simp))
    | _ => exact absurd (show false = true from hs) Bool.false_ne_true
  | int i =>
    obtain ⟨t, rfl⟩ := rx
    cases y with
    | non => cases ry; exact PySem.EqNone.eq_int_none (fin_bl I q (by simp))
    | int j => obtain ⟨t', rfl⟩ := ry; exact eq_int (fin_bl I q dec_int)
    | str j => obtain ⟨t', rfl⟩ := ry; exact PySem.EqMixed.eq_int_str (fin_bl I q (by simp))
    | _ => exact absurd (show false = true from hs) Bool.false_ne_true
  | str i =>
    obtain ⟨t, rfl⟩ := rx
    cases y with
    | non => cases ry; exact PySem.EqNone.eq_str_none (fin_bl I q (by simp))
    | bl j => cases ry; exact PySem.EqMixed.eq_str_bool (fin_bl I q (by simp))
    | int j => obtain ⟨t', rfl⟩ := ry; exact PySem.EqMixed.eq_str_int (fin_bl I q (by simp))
    | str j => obtain ⟨t', rfl⟩ := ry; exact eq_str (fin_bl I q dec_str)
    | _ => exact absurd (show false = true from hs) Bool.false_ne_true
  | byt i =>
    obtain ⟨t, rfl⟩ := rx
    cases y with
    | byt j => obtain ⟨t', rfl⟩ := ry; exact PySem.W.eq_bytes (fin_bl I q dec_byt)
    | _ => exact absurd (show false = true from hs) Bool.false_ne_true
  | _ => cases y <;> exact absurd (show false = true from hs) Bool.false_ne_true
theorem op_ne : OpR X (compareOp .NotEq) rNe := by
  intro pins s σ H x y v u Q I rx ry h
  obtain ⟨hs, q⟩ := h
  cases x with
  | non =>
    cases rx
    cases y with
    | non => cases ry; exact PySem.EqNone.ne_none_none (fin_bl I q (by simp))
    | bl j => cases ry; exact PySem.EqNone.ne_none_bool (fin_bl I q (by simp))
    | int j => obtain ⟨t', rfl⟩ := ry; exact PySem.EqNone.ne_none_int (fin_bl I q (by simp))
    | str j => obtain ⟨t', rfl⟩ := ry; exact PySem.EqNone.ne_none_str (fin_bl I q (by simp))
    | _ => exact absurd (show false = true from hs) Bool.false_ne_true
  | bl i =>
    cases rx
    cases y with
    | non => cases ry; exact PySem.EqNone.ne_bool_none (fin_bl I q (by simp))
    | bl j => cases ry; exact ne_bool (fin_bl I q (congrArg not dec_bl))
    | str j => obtain ⟨t', rfl⟩ := ry; exact PySem.EqMixed.ne_bool_str (fin_bl I q (by simp))
    | _ => exact absurd (show false = true from hs) Bool.false_ne_true
  | int i =>
    obtain ⟨t, rfl⟩ := rx
    cases y with
    | non => cases ry; exact PySem.EqNone.ne_int_none (fin_bl I q (by simp))
    | int j => obtain ⟨t', rfl⟩ := ry; exact ne_int (fin_bl I q (congrArg not dec_int))
    | str j => obtain ⟨t', rfl⟩ := ry; exact PySem.EqMixed.ne_int_str (fin_bl I q (by simp))
    | _ => exact absurd (show false = true from hs) Bool.false_ne_true
  | str i =>
    obtain ⟨t, rfl⟩ := rx
    cases y with
    | non => cases ry; exact PySem.EqNone.ne_str_none (fin_bl I q (by simp))
    | bl j => cases ry; exact PySem.EqMixed.ne_str_bool (fin_bl I q (by simp))
    | int j => obtain ⟨t', rfl⟩ := ry; exact PySem.EqMixed.ne_str_int (fin_bl I q (by simp))
    | str j => obtain ⟨t', rfl⟩ := ry; exact ne_str (fin_bl I q (congrArg not dec_str))
    | _ => exact absurd (show false = true from hs) Bool.false_ne_true
  | byt i =>
    obtain ⟨t, rfl⟩ := rx
    cases y with
    | byt j => obtain ⟨t', rfl⟩ := ry; exact PySem.W.ne_bytes (fin_bl I q (congrArg not dec_byt))
    | _ => exact absurd (show false = true from hs) Bool.false_ne_true
  | _ => cases y <;> exact absurd (show false = true from hs) Bool.false_ne_true
theorem op_lt : OpR X (compareOp .Lt) (rI0 fun i j => .bl (decide (i < j))) := opB0 fun _ _ _ _ _ _ _ q => lt_int q
theorem op_gt : OpR X (compareOp .Gt) (rI0 fun i j => .bl (decide (j < i))) := opB0 fun _ _ _ _ _ _ _ q => gt_int q
theorem op_ge : OpR X (compareOp .GtE) (rI0 fun i j => .bl (decide (j ≤ i))) := opB0 fun _ _ _ _ _ _ _ q => ge_int q
theorem op_isN : OpR X (compareOp .Is) (fun x y H Q => y = .non ∧ Q (.bl (decide (x = .non))) H) := by
  intro pins s σ H x y v u Q I rx ry h
  obtain ⟨rfl, q⟩ := h
  cases ry
  refine is_none_gen (fin_bl I q ?_)
  cases x <;> first
    | (cases rx; rfl)
    | (obtain ⟨t, rfl⟩ := rx; rfl)
theorem op_notN : OpR X (compareOp .IsNot) (fun x y H Q => y = .non ∧ Q (.bl (!decide (x = .non))) H) := by
  intro pins s σ H x y v u Q I rx ry h
  obtain ⟨rfl, q⟩ := h
  cases ry
  refine isnot_none_gen (fin_bl I q ?_)
  cases x <;> first
    | (cases rx; rfl)
    | (obtain ⟨t, rfl⟩ := rx; rfl)
theorem nomark (b : Expr) {op : CmpOp} (h : op ≠ .In := by decide) (h2 : op ≠ .NotIn := by decide) : behindInMarks op b = false := by
  have e1 : (op == CmpOp.In) = false := by cases op <;> first | rfl | exact absurd rfl h
  have e2 : (op == CmpOp.NotIn) = false := by cases op <;> first | rfl | exact absurd rfl h2
  cases b <;> simp [behindInMarks, e1, e2]
theorem pe_cmpR {op : CmpOp} {r : R2} (ho : OpR X (compareOp op) r) (ha : PE X a ta) (hb : PE X b tb) (hm : behindInMarks op b = false) : PE X (.Compare a [op] [b] pos) (tOp r ta tb) := by
  intro pins s σ H Q I h
  exact wpAny_Compare1 (binT ha hb I h fun v u s2 x y H2 I2 rx ry q => ho pins s2 σ H2 x y v u Q I2 rx ry q) hm
def tTest (t : TE) : TT := fun σ H Q => t σ H fun x H' => ∃ k, x = .bl k ∧ Q k H'
theorem pt_cmpR {op : CmpOp} {r : R2} (ho : OpR X (compareOp op) r) (ha : PE X a ta) (hb : PE X b tb) (hm : behindInMarks op b = false) : PT X (.Compare a [op] [b] pos) (tTest (tOp r ta tb)) := by
  intro pins s σ H Q I h
  refine wpAny_isTrue_Compare1 (thn (ha pins s σ H _ I h) fun v s1 ⟨x, H1, I1, r1, q1⟩ => thn (hb pins s1 σ H1 _ I1 q1) fun u s2 ⟨y, H2, I2, r2, q2⟩ =>
    thn (ho pins s2 σ H2 x y v u _ I2 r1 r2 q2) fun c s3 ⟨z, H3, I3, r3, k, e, q3⟩ => ?_) hm
  subst e
  cases r3
  exact wpAny_truthy_bool ⟨H3, I3, q3⟩
def TruV (K : PySem.W.Frag) (x : V) (H : Hp) (k : Bool) : Prop :=
  match x with
  | .non => k = false
  | .bl b => k = b
  | .int i => k = (i != 0)
  | .str y => y.length ≤ sizeLine ∧ k = ((y.length : Int) != 0)
  | .byt y => y.size ≤ sizeLine ∧ k = ((y.size : Int) != 0)
  | .ref p => (∃ xs, SqL K H p xs ∧ k = !xs.isEmpty) ∨ (∃ xs, SqT K H p xs ∧ k = !xs.isEmpty) ∨ ∃ kvs, H p = some (.dK kvs) ∧ k = !kvs.isEmpty
  | _ => False
theorem isEmpty_kv {κ : Type} {kvs : List (κ × V)} {vs : List (κ × Value)} (r : KV kvs vs) : (!vs.isEmpty) = !kvs.isEmpty := by
  cases r <;> rfl
theorem isEmpty_of {xs : List V} {its : List Value} (r : Vals xs its) : (!its.toArray.isEmpty) = !xs.isEmpty := by
  cases r <;> simp
theorem line63 : (sizeLine : Nat) < 2 ^ 63 := by rw [sizeLine_eq]; decide
theorem tru_ok : TruR X (fun x H Q => ∃ k, TruV X.K x H k ∧ Q k H) := by
  intro pins s σ H x v Q I rx h
  obtain ⟨k, e, q⟩ := h
  have hl := line63
  have hs : sizeLine = 16777216 := sizeLine_eq
  cases x with
  | non =>
    cases rx
    have e' : k = false := e
    subst e'
    exact truthy_none ⟨H, I, q⟩
  | bl b =>
    cases rx
    have e' : k = b := e
    subst e'
    exact wpAny_truthy_bool ⟨H, I, q⟩
  | int i =>
    obtain ⟨t, rfl⟩ := rx
    have e' : k = (i != 0) := e
    subst e'
    exact PySem.P.truthy_int ⟨H, I, q⟩
  | str y =>
    obtain ⟨t, rfl⟩ := rx
    obtain ⟨hy, e'⟩ : y.length ≤ sizeLine ∧ k = ((y.length : Int) != 0) := e
    subst e'
    exact PySem.P.truthy_str (by omega) ⟨H, I.tok _, q⟩
  | byt y =>
    obtain ⟨t, rfl⟩ := rx
    obtain ⟨hy, e'⟩ : y.size ≤ sizeLine ∧ k = ((y.size : Int) != 0) := e
    subst e'
    exact PySem.W.truthy_bytes (by omega) ⟨H, I.tok _, q⟩
  | ref p =>
    cases rx
    have e' : (∃ xs, SqL X.K H p xs ∧ k = !xs.isEmpty) ∨ (∃ xs, SqT X.K H p xs ∧ k = !xs.isEmpty) ∨ ∃ kvs, H p = some (.dK kvs) ∧ k = !kvs.isEmpty := e
    rcases e' with ⟨xs, hx, e'⟩ | ⟨xs, hx, e'⟩ | ⟨kvs, hx, e'⟩
    · subst e'
      obtain ⟨its, r, pl, hz⟩ := I.list hx
      have hlen := r.length
      exact wpAny_truthy_list pl.isList (by simp only [List.size_toArray]; omega) ⟨H, I.tok _, by rw [isEmpty_of r]; exact q⟩
    · subst e'
      obtain ⟨its, r, pl, hz⟩ := I.tuple hx
      have hlen := r.length
      exact truthy_tuple pl (by simp only [List.size_toArray]; omega) ⟨H, I.tok _, by rw [isEmpty_of r]; exact q⟩
    · subst e'
      obtain ⟨hz, hS, vs, r, m⟩ : kvs.length ≤ sizeLine ∧ (p == sysModules) = false ∧ ∃ vs, KV kvs vs ∧ s.heap.DictOf (mixKind X.prog X.w) p vs := I.hok p _ hx
      have hlen : kvs.length = vs.length := Paired.length r
      exact wpAny_truthy_dict hS m (by omega) ⟨H, I.tok _, by rw [isEmpty_kv r]; exact q⟩
  | _ => exact (show False from e).elim
theorem pt_truth (ha : PE X a ta) (he : ∀ whole, isTrue a X.env whole = (do let v ← whole; standAt a.pos; holding [v] (truthy v))) :
    PT X a (fun σ H Q => ta σ H fun x H' => ∃ k, TruV X.K x H' k ∧ Q k H') := by
  intro pins s σ H Q I h
  exact isTrue_plain (thn (ha pins s σ H _ I h) fun v s1 ⟨x, H1, I1, r1, q1⟩ => tru_ok pins s1 σ H1 x v Q I1 r1 q1) (he _)
theorem vals1 {x : V} {us : List Value} (r : Vals [x] us) : ∃ u, us = [u] ∧ RelV x u := by
  cases r with
  | cons r1 r2 => cases r2; exact ⟨_, rfl, r1⟩
theorem vals2 {x y : V} {us : List Value} (r : Vals [x, y] us) : ∃ u w', us = [u, w'] ∧ RelV x u ∧ RelV y w' := by
  cases r with
  | cons r1 r2 =>
    cases r2 with
    | cons r3 r4 => cases r4; exact ⟨_, _, rfl, r1, r3⟩
theorem call_abs : CallR X (.builtin "abs") (fun xs H Q => ∃ i, xs = [.int i] ∧ Q (.int (if i < 0 then -i else i)) H) := by
  intro pins s σ H xs us Q I r h
  obtain ⟨i, rfl, q⟩ := h
  obtain ⟨u, rfl, t, rfl⟩ := vals1 r
  exact call_abs_int fun u tk => ⟨.int (if i < 0 then -i else i), H, I.tok _, ⟨_, rfl⟩, q⟩
end
end L2
namespace L2
open PySem PySem.Spec PyProof.Rows
structure Room (k : Nat) (A : Around) : Prop where
  hd : A.handled = none
  dp : A.depth + 3 * k + 5 < recursionLimit
  un : A.units + 16 * k + 200 < cLine
theorem Room.mono {j k : Nat} {A : Around} (r : Room k A) (h : j ≤ k) : Room j A := ⟨r.hd, by have := r.dp; omega, by have := r.un; omega⟩
theorem Room.deeper {k : Nat} {A : Around} (r : Room (k + 1) A) (env : Env) : Room k (A.deeper env) :=
  ⟨r.hd, by have := r.dp; show A.depth + 1 + 3 * k + 5 < _; omega, by have := r.un; show A.units + 3 + 16 * k + 200 < _; omega⟩
theorem Room.depth {k : Nat} {A : Around} (r : Room k A) : A.depth < recursionLimit := by have := r.dp; omega
theorem Room.units {k : Nat} {A : Around} (r : Room k A) : A.units + 64 < cLine := by have := r.un; omega
def tNil : TA := fun _ H Q => Q [] H
def tCons (ta : TE) (tr : TA) : TA := fun σ H Q => ta σ H fun x H1 => tr σ H1 fun xs H2 => Q (x :: xs) H2
section
variable {X : Cx} {e : Expr} {es : List Expr} {te : TE} {t : TA} {pos : Pos}
theorem pa_nil : PA X [] tNil := fun _ _ _ _ H Q I h => Calls.spliced_nil ⟨[], H, I, .nil, h⟩
theorem pa_cons (ha : PE X e te) (hr : PA X es t) (hs : starEach (e :: es) X.env = (false, eval e X.env) :: starEach es X.env := by rfl) : PA X (e :: es) (tCons te t) := by
  intro pos pins s σ H Q I h
  rw [hs]
  show wpAny _ _ (spliced ((false, eval e X.env) :: backTo pos (starEach es X.env))) _ _ s
  refine Calls.spliced_cons (thn (ha pins s σ H _ I h) fun u s1 ⟨x, H1, I1, r1, q1⟩ => ?_)
  exact thn (hr pos pins s1 σ H1 _ I1 q1) fun us s2 ⟨xs, H2, I2, r2, q2⟩ => ⟨x :: xs, H2, I2, .cons r1 r2, q2⟩
def tTup (t : TA) : TE := fun σ H Q => t σ H fun xs H1 => xs.length ≤ sizeLine ∧ ∀ p, H1 p = none → Q (.ref p) (upd H1 p (.tup xs))
def tLst (t : TA) : TE := fun σ H Q => t σ H fun xs H1 => xs.length ≤ sizeLine ∧ ∀ p, H1 p = none → Q (.ref p) (upd H1 p (.lst xs))
theorem pe_tup {x1} (h : PA X es t) : PE X (.Tuple es x1 pos) (tTup t) := by
  intro pins s σ H Q I hq
  refine wpAny_Tuple_spliced (thn (h pos pins s σ H _ I hq) fun us s1 ⟨xs, H1, I1, r, z, q⟩ => ⟨by rw [← r.length]; exact z, ?_⟩)
  have hf : H1 s1.heap.objs.size = none := I1.hok.fresh (Nat.le_refl _)
  refine ⟨.ref s1.heap.objs.size, upd H1 s1.heap.objs.size (.tup xs), I1.laid (t' := s1.toks) (fun b u e => Heap.get?_push_of_some _ e) (Nat.le_refl _) ?_, rfl, q _ hf⟩
  exact ⟨z, us, r, ⟨_, Heap.get?_push_size _ rfl, rfl, _, rfl⟩⟩
theorem pe_lst (h : PA X es t) : PE X (.List es pos) (tLst t) := by
  intro pins s σ H Q I hq
  refine wpAny_List_spliced (thn (h pos pins s σ H _ I hq) fun us s1 ⟨xs, H1, I1, r, z, q⟩ => ⟨by rw [← r.length]; exact z, ?_⟩)
  have hf : H1 s1.heap.objs.size = none := I1.hok.fresh (Nat.le_refl _)
  refine ⟨.ref s1.heap.objs.size, upd H1 s1.heap.objs.size (.lst xs), I1.laid (t' := s1.toks) (fun b u e => Heap.get?_push_of_some _ e) (Nat.le_refl _) ?_, rfl, q _ hf⟩
  exact ⟨z, us, 0, r, Heap.get?_push_size _ rfl⟩
end
abbrev Sp := List V → Hp → VK → XK → Prop
abbrev CXT := List Env → Hp → Shared → XK → Value → Shared → Prop
structure Env0 (P : Program) (w : World) (K : PySem.W.Frag) (mg : Str → Option Value) (base : Heap) (A : Around) (outer : List Env) (s : Shared) (H : Hp) : Prop where
  frames : A.frames = some outer
  mod : Mod K mg base
  bs : ∀ b o, base.get? b = some o → s.heap.get? b = some o ∧ H b = none
  bsz : base.objs.size ≤ s.heap.objs.size
  funs : s.heap.FunFrames base outer
  frf : ∀ b ∈ frs outer, H b = none
  hok : HOk P w H s.heap
  bare : AllBare s.gens
def CE (outer : List Env) (P : Program) (w : World) (H : Hp) (s : Shared) (Q : VK) (u : Value) (s' : Shared) : Prop :=
  ∃ v H', s'.os = s.os ∧ AllBare s'.gens ∧ Un (frs outer) [] H H' s.heap s'.heap ∧ HOk P w H' s'.heap ∧ RelV v u ∧ Q v H'
def CR (CX : CXT) (outer : List Env) (P : Program) (w : World) (H : Hp) (s : Shared) (Q : VK) (E : XK) (r : Result) (s' : Shared) : Prop :=
  match r with
  | .ok (.ret u) => CE outer P w H s Q u s'
  | .ok _ => False
  | .error e => CX outer H s E e s'
structure FnOk (P : Program) (w : World) (K : PySem.W.Frag) (mg : Str → Option Value) (base : Heap) (CX : CXT) (k : Nat) (f : Addr) (fd : FuncData) (ps : List Str) (sp : Sp) : Prop where
  len : ∀ vs H Q E, sp vs H Q E → vs.length = ps.length
  run : ∀ (A : Around) (outer : List Env) (s : Shared) (H : Hp) (args : Args) (us : List Value) (vs : List V) (Q : VK) (E : XK), Room k A → Env0 P w K mg base A outer s H → BindsTo s fd args (ps.zip us) → Vals vs us → sp vs H Q E →
    codeAny (model P w) A (.call (.ref f) args) (CR CX outer P w H s Q E) s
section
variable {X : Cx} {pins : List (Addr × Obj)} {σ : St} {H : Hp} {s s' : Shared}
theorem Inv.env0 (I : Inv X pins σ H s) : Env0 X.prog X.w X.K X.mg X.base X.A X.stack s H :=
  ⟨I.ok.frames, I.ok.mod, I.bs, Nat.le_trans I.ok.bsz I.sz, I.stack, I.stkFree, I.hok, I.bare⟩
theorem Inv.after {Q : VK} {u : Value} (I : Inv X pins σ H s) (h : CE X.stack X.prog X.w H s Q u s') : EP X pins σ Q u s' := by
  obtain ⟨v, H', os, bare, un, hok, r, q⟩ := h
  obtain ⟨hh, g, d, t, os'⟩ := s'
  obtain rfl : os' = s.os := os
  exact ⟨v, H', I.call (h' := hh) (g' := g) (d' := d) (t' := t) (ch := []) un hok bare (fun b z => absurd z (by simp)), r, q⟩
end
def tCall (sp : Sp) (dvs : List V) (E : XK) (t : TA) : TE := fun σ H Q => t σ H fun vs H1 => sp (vs ++ dvs) H1 Q E
def Binds (K : PySem.W.Frag) (fd : FuncData) (ps : List Str) (ds : List Value) : Prop :=
  ∀ (s : Shared) (us : List Value), K.In s.heap → (us ++ ds).length = ps.length → BindsTo s fd ⟨us, []⟩ (ps.zip (us ++ ds))
theorem Binds.all {K : PySem.W.Frag} {fd : FuncData} {ps : List Str} (h : ∀ us : List Value, us.length = ps.length → bindArgs fd ⟨us, []⟩ = pure (ps.zip us)) : Binds K fd ps [] := fun s us _ hl => by
  rw [List.append_nil] at hl ⊢
  exact .of_eq (h us hl)
def Passes (CX : CXT) (X : Cx) (E : XK) : Prop := ∀ (pins : List (Addr × Obj)) (σ : St) (H : Hp) (s : Shared) (e : Value) (s' : Shared), Inv X pins σ H s → CX X.stack H s E e s' → X.xe e s'
section
variable {X : Cx} {CX : CXT} {k : Nat} {f C : Addr} {fd : FuncData} {ps : List Str} {sp : Sp} {dvs : List V} {ds : List Value} {E : XK} {x m : Str} {p pos apos : Pos} {e o : Expr} {es : List Expr} {ta : TE} {t : TA}
theorem run_fn {pins : List (Addr × Obj)} {σ : St} {H : Hp} {s : Shared} {Q : VK} {us : List Value} {vs : List V} (F : FnOk X.prog X.w X.K X.mg X.base CX k f fd ps sp) (hr : Room k X.A) (hb : Binds X.K fd ps ds) (hd : Vals dvs ds) (hx : Passes CX X E)
    (I : Inv X pins σ H s) (r : Vals vs us) (h : sp (vs ++ dvs) H Q E) : wpAny (model X.prog X.w) X.A (call (.ref f) us) (EP X pins σ Q) X.xe s := by
  have r2 : Vals (vs ++ dvs) (us ++ ds) := r.append hd
  have hl : (us ++ ds).length = ps.length := by rw [← r2.length]; exact F.len _ _ _ _ h
  refine wpAny_call (codeAny_mono (F.run X.A X.stack s H ⟨us, []⟩ (us ++ ds) (vs ++ dvs) Q E hr I.env0 (hb s us I.kIn hl) r2 h) fun r s' hq => ?_)
  cases r with
  | error e => exact hx pins σ H s e s' I hq
  | ok fl =>
    cases fl with
    | ret u => exact I.after hq
    | next => exact False.elim hq
    | brk => exact False.elim hq
    | cont => exact False.elim hq
theorem pe_call (F : FnOk X.prog X.w X.K X.mg X.base CX k f fd ps sp) (hr : Room k X.A) (hg : Gl X x) (hm : X.mg x = some (.ref f)) (hk : PySem.W.keepIn X.K (.ref f) = true) (hb : Binds X.K fd ps ds) (hd : Vals dvs ds) (hx : Passes CX X E)
    (ha : PA X (e :: es) t) (hdb : (x == ("__debug__" : Str)) = false := by decide) (he : starEach (e :: es) X.env = (false, eval e X.env) :: starEach es X.env := by rfl) (hpl : (backTo pos (starEach es X.env)).any (·.1) = false := by rfl) :
    PE X (.Call (.Name x p) (e :: es) [] pos) (tCall sp dvs E t) := by
  intro pins s σ H Q I h
  refine wpAny_Call_Name_kw (ld_glob I hg hm ?_ hdb)
  refine PySem.W.callWith_K (h₀ := X.base) I.ok.mod.kin hk (thn (ha pos pins s σ H _ I h) fun us s1 ⟨vs, H1, I1, r, q⟩ => ⟨I1.kIn, ?_⟩) he hpl
  exact run_fn F hr hb hd hx I1 r q
end
structure FnScope (N P : List Str) (sc : Scope) : Prop where
  kind : sc.kind = .function
  co : sc.isCoroutine = false
  gen : sc.isGenerator = false
  nd : N.Nodup
  pre : N.take P.length = P
  par : ∀ x ∈ P, sc.names.lookup x = some .local ∨ sc.names.lookup x = some .cell
  nofree : ∀ y ∈ sc.names, y.2 ≠ .free
theorem bindL_out {kindOf : Str → Option NameKind} {x : Str} : ∀ {binds : List (Str × Value)} {m : Str → Option Value}, (∀ v, (x, v) ∉ binds) → bindL kindOf binds m x = m x
  | [], _, _ => rfl
  | (n, v) :: r, m, h => by
    unfold bindL
    rw [bindL_out fun w hw => h w (List.mem_cons_of_mem _ hw)]
    split
    · have : x ≠ n := by rintro rfl; exact h v List.mem_cons_self
      simp [this]
    · rfl
theorem bindC_out {kindOf : Str → Option NameKind} {x : Str} : ∀ {binds : List (Str × Value)} {m : Str → Option Value}, (∀ v, (x, v) ∉ binds) → bindC kindOf binds m x = m x
  | [], _, _ => rfl
  | (n, v) :: r, m, h => by
    unfold bindC
    rw [bindC_out fun w hw => h w (List.mem_cons_of_mem _ hw)]
    split
    · rfl
    · have : x ≠ n := by rintro rfl; exact h v List.mem_cons_self
      simp [this]
theorem bindL_get {kindOf : Str → Option NameKind} {x : Str} {v : Value} : ∀ {P : List Str} {vs : List Value} {i : Nat} {m : Str → Option Value}, P.Nodup → P[i]? = some x → vs[i]? = some v → kindOf x = some .local →
    bindL kindOf (P.zip vs) m x = some v
  | [], _, _, _, _, h, _, _ => by simp at h
  | _ :: _, [], _, _, _, _, h, _ => by simp at h
  | p :: P, w :: vs, 0, m, nd, h1, h2, hk => by
    simp at h1 h2; subst h1; subst h2
    show bindL kindOf ((p, w) :: P.zip vs) m p = _
    unfold bindL
    rw [bindL_out fun v hv => (List.nodup_cons.mp nd).1 (List.of_mem_zip hv).1, if_pos hk]
    simp
  | p :: P, w :: vs, i + 1, m, nd, h1, h2, hk => by
    show bindL kindOf ((p, w) :: P.zip vs) m x = _
    unfold bindL
    exact bindL_get (i := i) (List.nodup_cons.mp nd).2 (by simpa using h1) (by simpa using h2) hk
theorem bindC_get {kindOf : Str → Option NameKind} {x : Str} {v : Value} : ∀ {P : List Str} {vs : List Value} {i : Nat} {m : Str → Option Value}, P.Nodup → P[i]? = some x → vs[i]? = some v → kindOf x ≠ some .local →
    bindC kindOf (P.zip vs) m x = some v
  | [], _, _, _, _, h, _, _ => by simp at h
  | _ :: _, [], _, _, _, _, h, _ => by simp at h
  | p :: P, w :: vs, 0, m, nd, h1, h2, hk => by
    simp at h1 h2; subst h1; subst h2
    show bindC kindOf ((p, w) :: P.zip vs) m p = _
    unfold bindC
    rw [bindC_out fun v hv => (List.nodup_cons.mp nd).1 (List.of_mem_zip hv).1, if_neg hk]
    simp
  | p :: P, w :: vs, i + 1, m, nd, h1, h2, hk => by
    show bindC kindOf ((p, w) :: P.zip vs) m x = _
    unfold bindC
    exact bindC_get (i := i) (List.nodup_cons.mp nd).2 (by simpa using h1) (by simpa using h2) hk
def start (N : List Str) (vs : List V) : St := vs.map some ++ List.replicate (N.length - vs.length) none
def cxOf (CX : CXT) (P : Program) (w : World) (K : PySem.W.Frag) (mg : Str → Option Value) (base : Heap) (N : List Str) (qual : Str) (scope : Scope) (f : Addr) (cd : Value) (A : Around) (outer : List Env) (s : Shared) (H : Hp) (E : XK) : Cx where
  prog := P
  w := w
  K := K
  mg := mg
  base := base
  A := A.deeper (envOfC qual scope s.heap.objs.size f cd)
  N := N
  s₀ := s
  H₀ := H
  env := envOfC qual scope s.heap.objs.size f cd
  outer := outer
  stack := envOfC qual scope s.heap.objs.size f cd :: outer
  ex := []
  calm := true
  fn := fun _ => true
  pn := []
  xe := fun e s' => wpAny (model P w) (A.deeper (envOfC qual scope s.heap.objs.size f cd)) (leaving (envOfC qual scope s.heap.objs.size f cd) e) (fun _ s'' => CX outer H s E e s'') (fun e' s'' => CX outer H s E e' s'') s'
theorem cell_has {sc : Scope} {n : Nat} {x : Str} (h : sc.names.lookup x = some .cell) : ∃ c, (cellsFrom n sc.names []).lookup x = some c := by
  have q := PySem.W.cellsFrom_some sc.names n [] (.inl h)
  exact Option.isSome_iff_exists.mp q
theorem inv_start {CX : CXT} {P : Program} {w : World} {K : PySem.W.Frag} {mg : Str → Option Value} {base : Heap} {N ps : List Str} {qual : Str} {scope : Scope} {f : Addr} {cd : Value} {A : Around} {outer : List Env} {s s1 : Shared} {H : Hp} {E : XK} {us : List Value} {vs : List V}
    (S : FnScope N ps scope) (hd : A.handled = none) (e0 : Env0 P w K mg base A outer s H) (hl : vs.length = ps.length) (r : Vals vs us)
    (x : InCallC s s.heap.objs.size (bindL (envOfC qual scope s.heap.objs.size f cd).kindOf (ps.zip us) fun _ => none) (cellsFrom (s.heap.objs.size + 1) scope.names []) (bindC (envOfC qual scope s.heap.objs.size f cd).kindOf (ps.zip us) fun _ => none) s1) :
    Inv (cxOf CX P w K mg base N qual scope f cd A outer s H E) [] (start N vs) H s1 := by
  have hpl : ps.length ≤ N.length := by have := congrArg List.length S.pre; rw [List.length_take] at this; omega
  obtain ⟨h1, tk, rfl, hk⟩ := x.done
  have noA : ∀ b : Addr, b ∉ (cxOf CX P w K mg base N qual scope f cd A outer s H E).ex := fun b z => absurd (show b ∈ ([] : List Addr) from z) (by simp)
  refine ⟨⟨e0.mod, S.kind, rfl, rfl, Nat.le_refl _, fun y z c h1 h2 => ?_, fun y hy => ?_, fun y c _ h => ?_, fun _ => hd, Around.frames_deeper e0.frames, .inr ⟨rfl, rfl⟩, fun b z => absurd z (noA b), e0.bs, e0.bsz, fun b _ _ => noA b, fun b z => absurd z (noA b), e0.funs, e0.frf⟩,
    rfl, e0.bare, Un.kept hk, ⟨_, x.toInCall.ns, fun i y v h1 h2 h3 => ?_⟩, fun y c h => ⟨_, x.cell y c h⟩, e0.hok.fresh (Nat.le_refl _), fun y c h => ?_, fun p hp => absurd (show p ∈ ([] : List (Addr × Obj)) from hp) (by simp), e0.hok.kept hk, ?_⟩
  · exact name_of_addr x.apart (PySem.mem_of_lookup h1) (PySem.mem_of_lookup h2)
  · have hy : scope.names.lookup y = some .cell ∨ scope.names.lookup y = some .free := hy
    rcases hy with hy | hy
    · exact cell_has hy
    · exact absurd rfl (S.nofree _ (PySem.mem_of_lookup hy))
  · exact Nat.le_of_lt (x.above y c (PySem.mem_of_lookup h))
  · have hi : i < vs.length := by
      unfold start at h2
      by_cases hi : i < vs.length
      · exact hi
      · rw [List.getElem?_append_right (by simpa using hi)] at h2
        rw [List.getElem?_replicate] at h2
        split at h2 <;> cases h2
    have ha : vs[i]? = some v := by
      unfold start at h2
      rw [List.getElem?_append_left (by simpa using hi), List.getElem?_map] at h2
      cases e : vs[i]? with
      | none => rw [e] at h2; cases h2
      | some a => rw [e] at h2; cases h2; rfl
    obtain ⟨u, hu, rv⟩ := r.get ha
    have hp : ps[i]? = some y := by
      rw [← S.pre, List.getElem?_take_of_lt (by omega)]; exact h1
    have ndP : ps.Nodup := by rw [← S.pre]; exact S.nd.sublist (List.take_sublist _ _)
    refine ⟨u, rv, ?_⟩
    rcases S.par y (List.mem_of_getElem? hp) with k | k
    · exact .inl ⟨k, bindL_get ndP hp hu k⟩
    · obtain ⟨c, e⟩ := cell_has (n := s.heap.objs.size + 1) k
      refine .inr ⟨.inl k, c, e, ?_⟩
      have q := x.cell y c e
      rw [bindC_get ndP hp hu (by show scope.names.lookup y ≠ _; rw [k]; decide)] at q
      exact q
  · exact e0.hok.fresh (Nat.le_of_lt (x.above y c (PySem.mem_of_lookup h)))
  · unfold start
    show _ = N.length
    rw [List.length_append, List.length_map, List.length_replicate]
    omega
theorem fn_of {CX : CXT} {P : Program} {w : World} {K : PySem.W.Frag} {mg : Str → Option Value} {base : Heap} {k : Nat} {f : Addr} {name qual : Str} {params : Arguments} {body : List Stmt} {scope : Scope} {dV kV doc pm cdv ct oc : Value} {an od : Option Addr}
    {osl : Array (Option Value)} {N ps : List Str} {sp : Sp} (lk : K.lookup f = some ⟨oc, od, .func (PySem.W.fnOf name qual params body scope dV kV doc pm an cdv ct), osl⟩) (hcd : PySem.W.codeIn K cdv qual = true) (S : FnScope N ps scope)
    (len : ∀ vs H Q E, sp vs H Q E → vs.length = ps.length)
    (hbody : ∀ (A : Around) (outer : List Env) (s : Shared) (H : Hp) (vs : List V) (Q : VK) (E : XK), Room k (A.deeper (envOfC qual scope s.heap.objs.size f cdv)) → sp vs H Q E →
      ∃ t, PSs (cxOf CX P w K mg base N qual scope f cdv A outer s H E) body t ∧ t { nx := fun _ H' => Q .non H', rt := Q } (start N vs) H) :
    FnOk P w K mg base CX (k + 1) f (PySem.W.fnOf name qual params body scope dV kV doc pm an cdv ct) ps sp := by
  refine ⟨len, fun A outer s H args us vs Q E hr e0 hb r hsp => ?_⟩
  have hl := len _ _ _ _ hsp
  have KX : K.In s.heap := e0.mod.kin.keeps fun b o e => (e0.bs b o e).1
  have lim : s.heap.NoLimit := e0.mod.nolimit.keeps fun b o e => (e0.bs b o e).1
  have hkind : ∀ y ∈ ps.zip us, scope.names.lookup y.1 = some .local ∨ (scope.names.lookup y.1 = some .cell ∧ ((cellsFrom (s.heap.objs.size + 1) scope.names []).lookup y.1).isSome = true) := fun ⟨n, v⟩ hy => by
    rcases S.par n (List.of_mem_zip hy).1 with q | q
    · exact .inl q
    · exact .inr ⟨q, PySem.W.cellsFrom_some _ _ _ (.inl q)⟩
  refine codeAny_call_function hr.depth (KX _ _ lk) rfl S.co S.gen rfl (PySem.W.codeRec_of KX hcd) (hb _ _ _ _ ?_)
  refine wpAny_newFunctionEnv_cells S.kind hkind fun env he s1 x => ?_
  subst he
  refine ⟨lim.keeps x.toInCall.keep, codeAny_func ?_⟩
  obtain ⟨t, ht, hq⟩ := hbody A outer s H vs Q E (hr.deeper _) hsp
  have I : Inv (cxOf CX P w K mg base N qual scope f cdv A outer s H E) [] (start N vs) H s1 := inv_start S hr.hd e0 hl r x
  refine wpAny_mono (ht [] s1 (start N vs) H _ I hq) (fun fl s' hs => ?_) fun e s' hs => hs
  have fin : ∀ {σ' : St} {H' : Hp} {v : V} {u : Value}, Inv (cxOf CX P w K mg base N qual scope f cdv A outer s H E) [] σ' H' s' → RelV v u → Q v H' → CE outer P w H s Q u s' :=
    fun {σ' H' v u} J rv q => ⟨v, H', J.os, J.bare, J.base, J.hok, rv, q⟩
  cases fl with
  | ret u =>
    obtain ⟨v, σ', H', J, rv, q⟩ := hs
    exact fin J rv q
  | next =>
    obtain ⟨σ', H', J, q⟩ := hs
    exact fin (v := V.non) (u := Value.none) J rfl q
  | brk =>
    obtain ⟨_, _, _, q⟩ := hs
    exact False.elim q
  | cont =>
    obtain ⟨_, _, _, q⟩ := hs
    exact False.elim q
end L2
namespace L2
open PySem PySem.Spec PyProof.Rows
section
variable {X : Cx} {x : Str} {p pos : Pos} {e : Expr} {es : List Expr} {t : TA} {id T : String} {r : List V → Hp → VK → Prop}
def tCB (r : List V → Hp → VK → Prop) (t : TA) : TE := fun σ H Q => t σ H fun vs H1 => r vs H1 Q
theorem pe_callB (hc : CallR X (.builtin id) r) (hg : Gl X x) (hm : X.mg x = none) (hv : bootBuiltins x = some (.builtin id)) (ha : PA X (e :: es) t) (hn : x ≠ "__name__" := by decide) (hdb : (x == ("__debug__" : Str)) = false := by decide)
    (he : starEach (e :: es) X.env = (false, eval e X.env) :: starEach es X.env := by rfl) (hpl : (backTo pos (starEach es X.env)).any (·.1) = false := by rfl) : PE X (.Call (.Name x p) (e :: es) [] pos) (tCB r t) := by
  intro pins s σ H Q I h
  refine wpAny_Call_Name_kw (ld_blt I hg hm hv ?_ hn hdb)
  exact PyProof.Rows.callWith_builtin1 (thn (ha pos pins s σ H _ I h) fun us s1 ⟨vs, H1, I1, r1, q1⟩ => hc pins s1 σ H1 vs us Q I1 r1 q1) he hpl
theorem pe_callTy (hc : CallR X (.type T) r) (hg : Gl X x) (hm : X.mg x = none) (hv : bootBuiltins x = some (.type T)) (ha : PA X (e :: es) t) (hn : x ≠ "__name__" := by decide) (hdb : (x == ("__debug__" : Str)) = false := by decide)
    (he : starEach (e :: es) X.env = (false, eval e X.env) :: starEach es X.env := by rfl) (hpl : (backTo pos (starEach es X.env)).any (·.1) = false := by rfl) : PE X (.Call (.Name x p) (e :: es) [] pos) (tCB r t) := by
  intro pins s σ H Q I h
  refine wpAny_Call_Name_kw (ld_blt I hg hm hv ?_ hn hdb)
  exact PyProof.Rows.callWith_type1 (thn (ha pos pins s σ H _ I h) fun us s1 ⟨vs, H1, I1, r1, q1⟩ => hc pins s1 σ H1 vs us Q I1 r1 q1) he hpl
end
end L2
namespace HT
open PySem PyProof.Rows
section
variable {prog : Program} {w : World} {A : Around} {E : Value → Shared → Prop} {s : Shared}
def sIx (n d : Nat) : Option Int → Nat
  | none => d
  | some v => if v < 0 then (v + (n : Int)).toNat else min v.toNat n
theorem sIx_none (n d : Nat) : sIx n d none = d := rfl
theorem sIx_nat (n d k : Nat) : sIx n d (some (k : Int)) = min k n := by
  show (if (k : Int) < 0 then ((k : Int) + (n : Int)).toNat else min (k : Int).toNat n) = min k n
  rw [if_neg (by omega), Int.toNat_natCast]
theorem sIx_le (n d : Nat) (hd : d ≤ n) (o : Option Int) : sIx n d o ≤ n := by
  cases o with
  | none => exact hd
  | some v =>
    show (if v < 0 then (v + (n : Int)).toNat else min v.toNat n) ≤ n
    by_cases hv : v < 0
    · rw [if_pos hv]; omega
    · rw [if_neg hv]; exact Nat.min_le_right _ _
theorem clip_eq (v : Int) (n d : Nat) : (if v < 0 then max (v + (n : Int)) 0 else min v (n : Int)) = ((sIx n d (some v) : Nat) : Int) := by
  show (if v < 0 then max (v + (n : Int)) 0 else min v (n : Int)) = (((if v < 0 then (v + (n : Int)).toNat else min v.toNat n) : Nat) : Int)
  by_cases hv : v < 0
  · simp only [if_pos hv]; omega
  · simp only [if_neg hv]; omega
theorem adjust_gen (lo hi : Option Int) (n : Nat) : Builtin.Slice.sliceAdjust lo hi 1 (n : Int) = (((sIx n 0 lo : Nat) : Int), ((sIx n n hi : Nat) : Int)) := by
  have h1 : ¬ ((1 : Int) < 0) := by omega
  unfold Builtin.Slice.sliceAdjust
  simp only [h1, if_false]
  refine Prod.ext ?_ ?_
  · cases lo with
    | none => rfl
    | some v => exact clip_eq v n 0
  · cases hi with
    | none => rfl
    | some v => exact clip_eq v n n
theorem places_gen (i j : Nat) : Builtin.Slice.slicePlaces (i : Int) (j : Int) 1 = j - i := by
  unfold Builtin.Slice.slicePlaces
  have h1 : (1 : Int) > 0 := by omega
  simp only [h1, if_true, Int.ediv_one]
  split <;> omega
theorem slicePart_ {v : Value} {o : Option Int} {Q : Option Int → Shared → Prop} (p : IsPart v o) (h : Q o s) : wpAny (model prog w) A (Builtin.Slice.slicePartIndex v) Q E s := by
  cases p with
  | none => exact slicePart_none h
  | int i t => exact slicePart_int h
theorem sliceApplied_gen {sl : Addr} {vl vu : Value} {lo hi : Option Int} {n : Nat} {Q : Int × Int × Nat → Shared → Prop} (hs : s.heap.IsSliceOf sl vl vu .none) (pl : IsPart vl lo) (pu : IsPart vu hi)
    (h : Q (((sIx n 0 lo : Nat) : Int), 1, sIx n n hi - sIx n 0 lo) s) : wpAny (model prog w) A (Builtin.Slice.sliceApplied (.ref sl) (pure (n : Int))) Q E s := by
  obtain ⟨os, hos, hcs, hds⟩ := id hs
  unfold Builtin.Slice.sliceApplied Builtin.Slice.sliceFields
  refine wpAny_bind (wpAny_bind (wpAny_field hos hds (x := vl) rfl (wpAny_bind (wpAny_field hos hds (x := vu) rfl (wpAny_bind (wpAny_field hos hds (x := .none) rfl (wpAny_pure ?_)))))))
  refine wpAny_bind (slicePart_none ?_)
  show wpAny _ _ (if ((1 : Int) == 0) = true then _ else _) _ _ s
  rw [if_neg (by decide)]
  refine wpAny_bind (slicePart_ pl (wpAny_bind (slicePart_ pu (wpAny_bind (wpAny_pure ?_)))))
  show wpAny _ _ (match Builtin.Slice.sliceAdjust lo hi 1 (n : Int) with | (lo, hi) => pure (lo, (1 : Int), Builtin.Slice.slicePlaces lo hi 1)) _ _ s
  rw [adjust_gen lo hi n]
  show wpAny _ _ (pure (((sIx n 0 lo : Nat) : Int), (1 : Int), Builtin.Slice.slicePlaces ((sIx n 0 lo : Nat) : Int) ((sIx n n hi : Nat) : Int) 1)) _ _ s
  rw [places_gen]
  exact wpAny_pure h
theorem pick_gen (xs : Array Value) (i k : Nat) : ((List.range k).filterMap fun (m : Nat) => xs[((i : Int) + (m : Int) * 1).toNat]?).toArray = ((xs.toList.drop i).take k).toArray := by
  have e : (fun (m : Nat) => xs[((i : Int) + (m : Int) * 1).toNat]?) = fun m => xs[i + m]? := by
    funext m
    have : ((i : Int) + (m : Int) * 1).toNat = i + m := by omega
    rw [this]
  rw [e]
  have := pick_run xs i k
  rw [List.filterMap_map] at this
  have e2 : ((fun x => xs[x]?) ∘ fun x => i + x) = fun m => xs[i + m]? := rfl
  rw [e2] at this
  rw [this]
theorem getItem_tuple_cut {t sl : Addr} {items : Array Value} {vl vu : Value} {lo hi : Option Int} {Q : Value → Shared → Prop} (ht : IsTup s.heap t items) (hs : s.heap.IsSliceOf sl vl vu .none) (pl : IsPart vl lo) (pu : IsPart vu hi)
    (hw : ¬ (sIx items.size 0 lo = 0 ∧ sIx items.size items.size hi = items.size))
    (h : Q (.ref s.heap.objs.size) { s with heap := s.heap.push { cls := .type "tuple", data := .seq ((items.toList.drop (sIx items.size 0 lo)).take (sIx items.size items.size hi - sIx items.size 0 lo)).toArray } })
    (hsz : items.size ≤ sizeLine) : wpAny (model prog w) A (getItem (.ref t) (.ref sl)) Q E s := by
  have htake : sizeOk (.seq ((items.toList.drop (sIx items.size 0 lo)).take (sIx items.size items.size hi - sIx items.size 0 lo)).toArray) := by
    show ((items.toList.drop (sIx items.size 0 lo)).take (sIx items.size items.size hi - sIx items.size 0 lo)).toArray.size ≤ sizeLine
    rw [List.size_toArray, List.length_take, List.length_drop, Array.length_toList]
    omega
  have hj : sIx items.size items.size hi ≤ items.size := sIx_le _ _ (Nat.le_refl _) hi
  obtain ⟨os, hos, hcs, hds⟩ := id hs
  have hTs : s.TypeIs (.ref sl) "slice" := ⟨os, hos, hcs⟩
  unfold getItem
  try with_reducible refine wpAny_holding ?_
  first | refine wpAny_bind (wpAny_pure ?_) | skip
  refine wpAny_bind (wpAny_sequenceKey ht.typeIs (by decide) ?_)
  refine wpAny_bind (wpAny_callSpecial?_slot (name := Str.ofString "__getitem__") ht.typeIs PyProof.Rows.slot_tuple_getitem
    (wpAny_call_entry PyProof.Rows.slot_tuple_getitem ht.typeIs entry_tuple_getitem ?_ (args_tuple_getitem _ _)))
  show wpAny _ _ (Builtin.Tuple.tupleItemsOf (.ref t) >>= _) _ _ s
  refine wpAny_bind (tupleItemsOf_ ht ?_)
  refine wpAny_bind (wpAny_typeOf hTs ?_)
  rw [if_pos (by decide)]
  refine wpAny_bind (sliceApplied_gen hs pl pu ?_)
  have hno : ¬ ((((sIx items.size 0 lo : Nat) : Int) == 0 && (1 : Int) == 1 && (sIx items.size items.size hi - sIx items.size 0 lo) == items.size) = true) := by
    intro q
    rw [Bool.and_eq_true, Bool.and_eq_true] at q
    have q1 : ((sIx items.size 0 lo : Nat) : Int) = 0 := eq_of_beq q.1.1
    have q2 : sIx items.size items.size hi - sIx items.size 0 lo = items.size := eq_of_beq q.2
    exact hw ⟨by omega, by omega⟩
  show wpAny _ _ (if (((sIx items.size 0 lo : Nat) : Int) == 0 && (1 : Int) == 1 && (sIx items.size items.size hi - sIx items.size 0 lo) == items.size) = true then _ else _) _ _ s
  rw [if_neg hno, pick_gen]
  first
    | exact wpAny_bind (m := Builtin.Tuple.tupleExact _) (wpAny_newObj_type (wpAny_pure ⟨_, rfl, wpAny_pure h⟩) htake)
    | exact wpAny_bind (m := Builtin.Tuple.tupleExact _) (wpAny_newObj_type (wpAny_bind (wpAny_pure (wpAny_pure ⟨_, rfl, wpAny_pure h⟩))) htake)
    | exact wpAny_bind (wpAny_bind (m := Builtin.Tuple.tupleExact _) (wpAny_newObj_type (wpAny_pure (wpAny_pure ⟨_, rfl, wpAny_pure h⟩)) htake))
    | exact wpAny_bind (wpAny_bind (m := Builtin.Tuple.tupleExact _) (wpAny_newObj_type (wpAny_pure ⟨_, rfl, wpAny_pure h⟩) htake))
end
end HT
namespace L2
open PySem PySem.Spec PyProof.Rows
abbrev TO := St → Hp → (Option Int → Hp → Prop) → Prop
def PO (X : Cx) (e : Option Expr) (t : TO) : Prop :=
  ∀ (pins : List (Addr × Obj)) (s : Shared) (σ : St) (H : Hp) (Q : Option Int → Hp → Prop), Inv X pins σ H s → t σ H Q →
    wpAny (model X.prog X.w) X.A (evalPart e X.env) (fun u s' => ∃ o H', Inv X pins σ H' s' ∧ IsPart u o ∧ Q o H') X.xe s
def tNoPart : TO := fun _ H Q => Q none H
def tPart (t : TE) : TO := fun σ H Q => t σ H fun x H1 => ∃ i, x = .int i ∧ Q (some i) H1
section
variable {X : Cx} {e : Expr} {te : TE} {lo hi : Option Expr} {tl th : TO} {pos p2 : Pos}
theorem po_none : PO X none tNoPart := by
  intro pins s σ H Q I h
  rw [evalPart_none]
  exact wpAny_pure ⟨none, H, I, .none, h⟩
theorem po_some (h : PE X e te) : PO X (some e) (tPart te) := by
  intro pins s σ H Q I hw
  rw [evalPart_some]
  refine thn (h pins s σ H _ I hw) fun u s1 ⟨x, H1, I1, r1, q1⟩ => ?_
  obtain ⟨i, rfl, q⟩ := q1
  obtain ⟨t, rfl⟩ := r1
  exact ⟨some i, H1, I1, .int i t, q⟩
def SlR (X : Cx) (r : V → Option Int → Option Int → Hp → VK → Prop) : Prop :=
  ∀ (pins : List (Addr × Obj)) (s : Shared) (σ : St) (H : Hp) (x : V) (v vl vu : Value) (lo hi : Option Int) (sl : Addr) (Q : VK), Inv X pins σ H s → RelV x v → s.heap.IsSliceOf sl vl vu .none → IsPart vl lo → IsPart vu hi → r x lo hi H Q →
    ∃ T id, typeLookup (.type T) "__getitem__" = pure (some (.builtin id)) ∧ s.TypeIs v T ∧ wpAny (model X.prog X.w) X.A (getItem v (.ref sl)) (EP X pins σ Q) X.xe s
def tSl (r : V → Option Int → Option Int → Hp → VK → Prop) (te : TE) (tl th : TO) : TE := fun σ H Q => te σ H fun x H1 => tl σ H1 fun l H2 => th σ H2 fun u H3 => r x l u H3 Q
theorem pe_slice {r : V → Option Int → Option Int → Hp → VK → Prop} (hr : SlR X r) (he : PE X e te) (hl : PO X lo tl) (hu : PO X hi th) : PE X (.Subscript e (.Slice lo hi none p2) pos) (tSl r te tl th) := by
  intro pins s σ H Q I h
  refine Subscript_ (thn (he pins s σ H _ I h) fun v s1 ⟨x, H1, I1, r1, q1⟩ => ?_)
  refine wpAny_Slice (thn (hl pins s1 σ H1 _ I1 q1) fun vl s2 ⟨l, H2, I2, pl, q2⟩ => thn (hu pins s2 σ H2 _ I2 q2) fun vu s3 ⟨u, H3, I3, pu, q3⟩ => ?_)
  rw [evalPart_none]
  refine wpAny_pure ?_
  have I4 : Inv X pins σ H3 { s3 with heap := s3.heap.push { cls := .type "slice", data := .fields #[vl, vu, .none] } } := I3.kept (t' := s3.toks) fun b ob q => Heap.get?_push_of_some _ q
  obtain ⟨T, id, hT, ht, hg⟩ := hr pins { s3 with heap := s3.heap.push { cls := .type "slice", data := .fields #[vl, vu, .none] } } σ H3 x v vl vu l u s3.heap.objs.size Q I4 r1 (Heap.IsSliceOf.new ..) pl pu q3
  show wpAny (model X.prog X.w) X.A (subscriptTail e (.Slice lo hi none p2) v (.ref s3.heap.objs.size)) (EP X pins σ Q) X.xe { s3 with heap := s3.heap.push { cls := .type "slice", data := .fields #[vl, vu, .none] } }
  exact tail_any (ops := [.ref s3.heap.objs.size, v]) ht hT hg (by with_unfolding_all rfl)
def cutV (xs : List V) (lo hi : Option Int) : List V := (xs.drop (HT.sIx xs.length 0 lo)).take (HT.sIx xs.length xs.length hi - HT.sIx xs.length 0 lo)
theorem cutV_length (xs : List V) (lo hi : Option Int) : (cutV xs lo hi).length ≤ xs.length := by
  unfold cutV
  rw [List.length_take, List.length_drop]
  omega
def rSlT (K : PySem.W.Frag) : V → Option Int → Option Int → Hp → VK → Prop := fun x lo hi H Q => ∃ a xs, x = .ref a ∧ SqT K H a xs ∧
  ¬ (HT.sIx xs.length 0 lo = 0 ∧ HT.sIx xs.length xs.length hi = xs.length) ∧ ∀ p, H p = none → Q (.ref p) (upd H p (.tup (cutV xs lo hi)))
theorem sl_tup : SlR X (rSlT X.K) := by
  intro pins s σ H x v vl vu lo hi sl Q I rx hs pl pu h
  obtain ⟨a, xs, rfl, hx, hw, q⟩ := h
  cases rx
  obtain ⟨its, r, ht, hz⟩ := I.tuple hx
  have hlen : its.toArray.size = xs.length := by rw [List.size_toArray]; exact r.length.symm
  refine ⟨"tuple", _, PyProof.Rows.slot_tuple_getitem.lookup, ht.typeIs, ?_⟩
  refine HT.getItem_tuple_cut ht hs pl pu (by rw [hlen]; exact hw) ?_ (by rw [hlen]; exact hz)
  rw [hlen]
  refine ⟨.ref s.heap.objs.size, _, I.laid (t' := s.toks) (o := .tup (cutV xs lo hi)) (fun b ob q => Heap.get?_push_of_some _ q) (Nat.le_refl _) ?_, rfl, q _ (I.hok.fresh (Nat.le_refl _))⟩
  exact ⟨Nat.le_trans (cutV_length xs lo hi) hz, _, (r.drop (HT.sIx xs.length 0 lo)).take (HT.sIx xs.length xs.length hi - HT.sIx xs.length 0 lo), IsTup.new _ _⟩
end
end L2
namespace L2
open PySem PySem.Spec PyProof.Rows
def ixN (n : Nat) (i : Int) : Option Nat := if 0 ≤ i then (if i < n then some i.toNat else none) else if -(n : Int) ≤ i then some (i + n).toNat else none
def atI {α : Type} (xs : List α) (i : Int) : Option α := (ixN xs.length i).bind fun j => xs[j]?
theorem ixN_seq {n : Nat} {i : Int} {j : Nat} (h : ixN n i = some j) : seqIndex? i n = some j ∧ j < n ∧ -(n : Int) ≤ i ∧ i < n := by
  unfold ixN at h
  by_cases h0 : 0 ≤ i
  · rw [if_pos h0] at h
    by_cases h1 : i < n
    · rw [if_pos h1] at h
      have e : i.toNat = j := Option.some.inj h
      exact ⟨by rw [seqIndex_of h0 h1, e], by omega, by omega, h1⟩
    · rw [if_neg h1] at h; cases h
  · rw [if_neg h0] at h
    by_cases h1 : -(n : Int) ≤ i
    · rw [if_pos h1] at h
      have e : (i + n).toNat = j := Option.some.inj h
      exact ⟨by rw [seqIndex_neg (by omega) h1, e], by omega, h1, by omega⟩
    · rw [if_neg h1] at h; cases h
theorem atI_get {α : Type} {xs : List α} {i : Int} {v : α} (h : atI xs i = some v) : ∃ j, seqIndex? i xs.length = some j ∧ xs[j]? = some v ∧ j < xs.length ∧ -(xs.length : Int) ≤ i ∧ i < xs.length := by
  unfold atI at h
  cases e : ixN xs.length i with
  | none => rw [e] at h; cases h
  | some j =>
    rw [e] at h
    obtain ⟨h1, h2, h3, h4⟩ := ixN_seq e
    exact ⟨j, h1, h, h2, h3, h4⟩
theorem atI_nat {α : Type} {xs : List α} {j : Nat} {v : α} (h : xs[j]? = some v) : atI xs (j : Int) = some v := by
  have hj : j < xs.length := (List.getElem?_eq_some_iff.mp h).1
  have e : ixN xs.length (j : Int) = some j := by
    unfold ixN
    rw [if_pos (by omega), if_pos (by omega)]; simp
  unfold atI; rw [e]; exact h
def PlainIx (b : Expr) : Prop := ∀ o i, subscripted b false o i = operate [o, i] (getItem o i)
def IxR (X : Cx) (r : R2) : Prop :=
  ∀ (value slice : Expr) (pins : List (Addr × Obj)) (s : Shared) (σ : St) (H : Hp) (x y : V) (v u : Value) (Q : VK), Inv X pins σ H s → RelV x v → RelV y u → r x y H Q →
    subscripted slice false v u = operate [v, u] (getItem v u) → wpAny (model X.prog X.w) X.A (subscriptTail value slice v u) (EP X pins σ Q) X.xe s
def MtR (X : Cx) (id : String) (r : V → List V → Hp → VK → Prop) : Prop :=
  ∀ (pins : List (Addr × Obj)) (s : Shared) (σ : St) (H : Hp) (x : V) (xs : List V) (v : Value) (us : List Value) (Q : VK), Inv X pins σ H s → RelV x v → Vals xs us → r x xs H Q →
    wpAny (model X.prog X.w) X.A (call (.builtin id) (v :: us)) (EP X pins σ Q) X.xe s
section
variable {X : Cx} {a b : Expr} {ta tb : TE} {pos : Pos}
theorem IxR.or {r r' : R2} (h : IxR X r) (h' : IxR X r') : IxR X (fun x y H Q => r x y H Q ∨ r' x y H Q) := by
  intro value slice pins s σ H x y v u Q I rx ry q hs
  rcases q with q | q
  · exact h value slice pins s σ H x y v u Q I rx ry q hs
  · exact h' value slice pins s σ H x y v u Q I rx ry q hs
theorem pe_ix {r : R2} (hr : IxR X r) (ha : PE X a ta) (hb : PE X b tb) (hs : PlainIx b) : PE X (.Subscript a b pos) (tOp r ta tb) := by
  intro pins s σ H Q I h
  exact Subscript_ (binT ha hb I h fun v u s2 x y H2 I2 rx ry q => hr a b pins s2 σ H2 x y v u Q I2 rx ry q (hs _ _))
def rIxL (K : PySem.W.Frag) : R2 := fun x y H Q => ∃ p xs i v, x = .ref p ∧ y = .int i ∧ SqL K H p xs ∧ atI xs i = some v ∧ Q v H
def rIxT (K : PySem.W.Frag) : R2 := fun x y H Q => ∃ p xs i v, x = .ref p ∧ y = .int i ∧ SqT K H p xs ∧ atI xs i = some v ∧ Q v H
def rIxS : R2 := fun x y H Q => ∃ z i c, x = .str z ∧ y = .int i ∧ z.length ≤ sizeLine ∧ atI z.cps.toList i = some c ∧ Q (.str ⟨#[c]⟩) H
theorem ix_list : IxR X (rIxL X.K) := by
  intro value slice pins s σ H x y v u Q I rx ry h hs
  obtain ⟨p, xs, i, z, rfl, rfl, hq, he, q⟩ := h
  cases rx
  obtain ⟨t, rfl⟩ := ry
  obtain ⟨its, r, pl, hz⟩ := I.list hq
  obtain ⟨j, h1, h2, h3, h4, h5⟩ := atI_get he
  obtain ⟨w, ew, rw'⟩ := r.get h2
  have hl := r.length
  have hn := line63
  have fin : EP X pins σ Q w s := ⟨z, H, I, rw', q⟩
  by_cases h0 : 0 ≤ i
  · have hj : i.toNat = j := by
      rw [seqIndex_of h0 h5] at h1
      exact Option.some.inj h1
    exact item_listR pl.isList h0 (by omega) (by rw [hj]; simpa using ew) fin hs
  · have hj : (i + (its.toArray.size : Int)).toNat = j := by
      rw [seqIndex_neg (by omega) h4] at h1
      rw [List.size_toArray, ← hl]
      exact Option.some.inj h1
    exact subscriptTail_builtinR (x := w) pl.isList.typeIs slot_list_getitem.lookup
      (wpAny_getItem_list_neg (Q := fun r s' => r = w ∧ EP X pins σ Q r s') pl.isList (by omega) (by rw [List.size_toArray] <;> omega) (by omega) (by rw [hj]; simpa using ew) ⟨rfl, fin⟩) hs
theorem ix_tup : IxR X (rIxT X.K) := by
  intro value slice pins s σ H x y v u Q I rx ry h hs
  obtain ⟨p, xs, i, z, rfl, rfl, hq, he, q⟩ := h
  cases rx
  obtain ⟨t, rfl⟩ := ry
  obtain ⟨its, r, pl, hz⟩ := I.tuple hq
  obtain ⟨j, h1, h2, h3, h4, h5⟩ := atI_get he
  obtain ⟨w, ew, rw'⟩ := r.get h2
  have hl := r.length
  have hn := line63
  have fin : EP X pins σ Q w s := ⟨z, H, I, rw', q⟩
  exact subscriptTail_builtinR (x := w) pl.typeIs slot_tuple_getitem.lookup
    (getItem_tuple (j := j) (Q := fun r s' => r = w ∧ EP X pins σ Q r s') pl (by omega) (by omega) (by rw [List.size_toArray, ← hl]; exact h1) (by simpa using ew) ⟨rfl, fin⟩) hs
theorem ix_str : IxR X rIxS := by
  intro value slice pins s σ H x y v u Q I rx ry h hs
  obtain ⟨z, i, c, rfl, rfl, hz, he, q⟩ := h
  obtain ⟨t, rfl⟩ := rx
  obtain ⟨t', rfl⟩ := ry
  obtain ⟨j, h1, h2, h3, h4, h5⟩ := atI_get he
  have hl : z.cps.toList.length = z.length := by simp [Str.length]
  rw [hl] at h1 h4 h5
  have hn := line63
  exact tail_any (typeIs_str s z t) slot_str_getitem.lookup (getItem_str (c := c) (by
    have e1 : decide (i < -(2 ^ 63 : Int)) = false := decide_eq_false (by omega)
    have e2 : decide (i ≥ 2 ^ 63) = false := decide_eq_false (by omega)
    rw [e1, e2, Bool.or_false]) (by rw [h1]; simpa using h2) ⟨.str ⟨#[c]⟩, H, I.tok _, ⟨_, rfl⟩, q⟩) hs
def rIx (K : PySem.W.Frag) : R2 := fun x y H Q => rIxL K x y H Q ∨ rIxT K x y H Q ∨ rIxS x y H Q
theorem ix_seq : IxR X (rIx X.K) := ix_list.or (ix_tup.or ix_str)
theorem mapSeq_set (its : List Value) (n j : Nat) (u : Value) : Obj.mapSeq (·.setIfInBounds j u) { cls := .type "list", data := .seq its.toArray n } = { cls := .type "list", data := .seq (its.set j u).toArray n } := by
  simp [Obj.mapSeq]
theorem Inv.lst {pins : List (Addr × Obj)} {σ : St} {H : Hp} {s : Shared} {p : Addr} {xs : List V} (I : Inv X pins σ H s) (h : H p = some (.lst xs)) :
    ∃ (its : List Value) (n : Nat), Vals xs its ∧ s.heap.get? p = some { cls := .type "list", data := .seq its.toArray n } ∧ xs.length ≤ sizeLine := by
  obtain ⟨z, its, n, r, e⟩ := I.hok p _ h
  exact ⟨its, n, r, e, z⟩
theorem Inv.lstUpd {pins : List (Addr × Obj)} {σ : St} {H : Hp} {s : Shared} {p : Addr} {xs ys : List V} {its its' : List Value} {n n' : Nat} {f : Obj → Obj} (I : Inv X pins σ H s) (h : H p = some (.lst xs))
    (ho : s.heap.get? p = some { cls := .type "list", data := .seq its.toArray n }) (hf : f { cls := .type "list", data := .seq its.toArray n } = { cls := .type "list", data := .seq its'.toArray n' }) (r : Vals ys its') (hz : ys.length ≤ sizeLine) (t : Nat) :
    Inv X pins σ (upd H p (.lst ys)) { s with heap := s.heap.update p f, toks := t } := by
  have e : (s.heap.update p f).get? p = some { cls := .type "list", data := .seq its'.toArray n' } := by
    rw [Heap.get?_update_self f ho (by rw [hf] <;> rfl), hf]
  refine I.write (x := p) (e := p) (by rw [h]; trivial) (.inl rfl) (fun b u hb q => (Heap.get?_update_other _ _ (Ne.symm hb)).trans q) ⟨_, e⟩ ?_
  exact ⟨hz, its', n', r, e⟩
def rSetL : V → V → V → Hp → (Hp → Prop) → Prop := fun o i v H Q => ∃ p xs k j, o = .ref p ∧ i = .int k ∧ H p = some (.lst xs) ∧ ixN xs.length k = some j ∧ Q (upd H p (.lst (xs.set j v)))
theorem set_list : PSet X rSetL := by
  intro pins s σ H o i v ov iv u Q I ro ri rv h
  obtain ⟨p, xs, k, j, rfl, rfl, hp, hj, q⟩ := h
  cases ro
  obtain ⟨t, rfl⟩ := ri
  obtain ⟨its, n, r, ho, hz⟩ := I.lst hp
  obtain ⟨h1, h2, h3, h4⟩ := ixN_seq hj
  have hl := r.length
  have hn := line63
  have I' : Inv X pins σ (upd H p (.lst (xs.set j v))) { s with heap := s.heap.update p (Obj.mapSeq (·.setIfInBounds j u)) } :=
    I.lstUpd hp ho (mapSeq_set its n j u) (r.set rv j) (by rw [List.length_set]; exact hz) s.toks
  by_cases h0 : 0 ≤ k
  · have hk : k.toNat = j := by
      rw [seqIndex_of h0 h4] at h1
      exact Option.some.inj h1
    exact PySem.W.ki_setAt ho h0 (by omega) (by rw [List.size_toArray, ← hl]; exact h4) (by rw [hk]; exact ⟨_, I', q⟩)
  · have hk : (k + (its.toArray.size : Int)).toNat = j := by
      rw [seqIndex_neg (by omega) h3] at h1
      rw [List.size_toArray, ← hl]
      exact Option.some.inj h1
    exact PySem.W.ki_setBack ho (by omega) (by rw [List.size_toArray, ← hl]; exact h3) (by omega) (by rw [hk]; exact ⟨_, I', q⟩)
theorem slice_bounds (lo hi : Option Int) (n : Nat) : (sliceBounds lo hi none n).1 = ((HT.sIx n 0 lo : Nat) : Int) ∧ (sliceBounds lo hi none n).2.1 = ((HT.sIx n n hi : Nat) : Int) ∧ (sliceBounds lo hi none n).2.2 = 1 := by
  refine ⟨?_, ?_, rfl⟩
  · cases lo with
    | none => simp [sliceBounds, HT.sIx]
    | some i =>
      simp only [sliceBounds, HT.sIx, Option.getD_none, show (1 : Int) > 0 by decide, if_true]
      by_cases h : i < 0
      · simp only [h, if_true] <;> omega
      · simp only [h, if_false] <;> omega
  · cases hi with
    | none => simp [sliceBounds, HT.sIx]
    | some i =>
      simp only [sliceBounds, HT.sIx, Option.getD_none, show (1 : Int) > 0 by decide, if_true]
      by_cases h : i < 0
      · simp only [h, if_true] <;> omega
      · simp only [h, if_false] <;> omega
theorem slicePick_cut (its : List Value) (lo hi : Option Int) : slicePick its.toArray lo hi none = ((its.drop (HT.sIx its.length 0 lo)).take (HT.sIx its.length its.length hi - HT.sIx its.length 0 lo)).toArray := by
  obtain ⟨h1, h2, h3⟩ := slice_bounds lo hi its.toArray.size
  unfold slicePick
  rw [h1, h2, h3]
  simp only [sliceRange_one, pick_run, List.size_toArray] <;> rfl
def rSlL (K : PySem.W.Frag) : V → Option Int → Option Int → Hp → VK → Prop := fun x lo hi H Q => ∃ a xs, x = .ref a ∧ SqL K H a xs ∧ ∀ p, H p = none → Q (.ref p) (upd H p (.lst (cutV xs lo hi)))
theorem sl_list : SlR X (rSlL X.K) := by
  intro pins s σ H x v vl vu lo hi sl Q I rx hs pl pu h
  obtain ⟨a, xs, rfl, hx, q⟩ := h
  cases rx
  obtain ⟨its, r, ht, hz⟩ := I.list hx
  have hlen := r.length
  refine ⟨"list", _, slot_list_getitem.lookup, ht.isList.typeIs, ?_⟩
  refine wpAny_getItem_list_slice ht.isList hs pl pu .none (by simp) ?_ (by rw [List.size_toArray] <;> omega)
  rw [slicePick_cut, ← hlen]
  refine ⟨.ref s.heap.objs.size, _, I.laid (t' := s.toks) (o := .lst (cutV xs lo hi)) (fun b ob q => Heap.get?_push_of_some _ q) (Nat.le_refl _) ?_, rfl, q _ (I.hok.fresh (Nat.le_refl _))⟩
  exact ⟨Nat.le_trans (cutV_length xs lo hi) hz, _, 0, (r.drop (HT.sIx xs.length 0 lo)).take (HT.sIx xs.length xs.length hi - HT.sIx xs.length 0 lo), Heap.get?_push_size _ rfl⟩
theorem call_len_seq : CallR X (.builtin "len") (fun xs H Q => ∃ p ys, xs = [.ref p] ∧ (SqL X.K H p ys ∨ SqT X.K H p ys) ∧ Q (.int ys.length) H) := by
  intro pins s σ H xs us Q I r h
  obtain ⟨p, ys, rfl, hq, q⟩ := h
  obtain ⟨u, rfl, rx⟩ := vals1 r
  cases rx
  have hn := line63
  rcases hq with hq | hq
  · obtain ⟨its, r', pl, hz⟩ := I.list hq
    have hlen := r'.length
    exact Calls.call_len_list pl.isList (by simp only [List.size_toArray] <;> omega) ⟨.int ys.length, H, I.tok _, ⟨s.toks + 1, by rw [List.size_toArray, hlen]⟩, q⟩
  · obtain ⟨its, r', pl, hz⟩ := I.tuple hq
    have hlen := r'.length
    exact len_tuple pl (by simp only [List.size_toArray] <;> omega) ⟨.int ys.length, H, I.tok _, ⟨s.toks + 1, by rw [List.size_toArray, hlen]⟩, q⟩
theorem call_list_of : CallR X (.type "list") (fun xs H Q => ∃ p ys, xs = [.ref p] ∧ (SqL X.K H p ys ∨ SqT X.K H p ys) ∧ ∀ l, H l = none → Q (.ref l) (upd H l (.lst ys))) := by
  intro pins s σ H xs us Q I r h
  obtain ⟨p, ys, rfl, hq, q⟩ := h
  obtain ⟨u, rfl, rx⟩ := vals1 r
  cases rx
  have fin : ∀ (its : List Value), Vals ys its → ys.length ≤ sizeLine → ∀ (h' : Heap) (c' : Nat), (∀ b o', s.heap.get? b = some o' → h'.get? b = some o') →
      h'.get? s.heap.objs.size = some { cls := .type "list", dict := none, data := .seq its.toArray c', slots := #[] } → EP X pins σ Q (.ref s.heap.objs.size) { s with heap := h' } := fun its r' hz h' c' kp e =>
    ⟨.ref s.heap.objs.size, _, I.laid (t' := s.toks) kp (Nat.le_refl _) (show ObjOk X.prog X.w _ h' _ (.lst ys) from ⟨hz, its, c', r', e⟩), rfl, q _ (I.hok.fresh (Nat.le_refl _))⟩
  rcases hq with hq | hq
  · obtain ⟨its, r', pl, hz⟩ := I.list hq
    have hlen := r'.length
    obtain ⟨o, ho, hc, n, hd⟩ := pl.isList
    exact call_list_seq p (.inl rfl) ho hc hd (fun h' c' kp e => fin its r' hz h' c' kp e) (by simp only [List.size_toArray] <;> omega)
  · obtain ⟨its, r', pl, hz⟩ := I.tuple hq
    have hlen := r'.length
    obtain ⟨o, ho, hc, n, hd⟩ := pl
    exact call_list_seq p (.inr rfl) ho hc hd (fun h' c' kp e => fin its r' hz h' c' kp e) (by simp only [List.size_toArray] <;> omega)
theorem call_tuple_of : CallR X (.type "tuple") (fun xs H Q => ∃ p ys, xs = [.ref p] ∧ ((SqL X.K H p ys ∧ ∀ l, H l = none → Q (.ref l) (upd H l (.tup ys))) ∨ (SqT X.K H p ys ∧ Q (.ref p) H))) := by
  intro pins s σ H xs us Q I r h
  obtain ⟨p, ys, rfl, h⟩ := h
  obtain ⟨u, rfl, rx⟩ := vals1 r
  cases rx
  rcases h with ⟨hq, q⟩ | ⟨hq, q⟩
  · obtain ⟨its, r', pl, hz⟩ := I.list hq
    have hlen := r'.length
    refine call_tuple_list pl.isList (fun h' kp => ?_) (by simp only [List.size_toArray] <;> omega)
    have I1 : Inv X pins σ H { s with heap := h' } := I.kept (t' := s.toks) kp
    have I2 : Inv X pins σ (upd H h'.objs.size (.tup ys)) { s with heap := h'.push { cls := .type "tuple", data := .seq its.toArray } } :=
      I1.laid (t' := s.toks) (fun b o e => Heap.get?_push_of_some _ e) (Nat.le_refl _) (show ObjOk X.prog X.w _ _ _ (.tup ys) from ⟨hz, its, r', IsTup.new _ _⟩)
    exact ⟨.ref h'.objs.size, _, I2, rfl, q _ (I1.hok.fresh (Nat.le_refl _))⟩
  · obtain ⟨its, r', pl, hz⟩ := I.tuple hq
    exact call_tuple_same pl ⟨.ref p, H, I, rfl, q⟩
def tyV (K : PySem.W.Frag) (T : String) (x : V) (H : Hp) : Prop := match x with
  | .str _ => T = "str"
  | .int _ => T = "int"
  | .ref p => (T = "list" ∧ ∃ xs, SqL K H p xs) ∨ (T = "tuple" ∧ ∃ o, K.lookup p = some o ∧ o.cls = .type "tuple" ∧ o.dict = none) ∨
      (T = "dict" ∧ ((∃ kvs, H p = some (.dK kvs)) ∨ ∃ kvs, H p = some (.dT kvs))) ∨ (T = "set" ∧ ∃ S n, H p = some (.set S n))
  | _ => False
theorem tyV_is {pins : List (Addr × Obj)} {σ : St} {H : Hp} {s : Shared} {T : String} {x : V} {v : Value} (I : Inv X pins σ H s) (r : RelV x v) (ty : tyV X.K T x H) :
    s.TypeIs v T ∧ ∀ a, v = .ref a → ∃ ob, s.heap.get? a = some ob ∧ ob.dict = none := by
  cases x with
  | str z =>
    obtain ⟨t, rfl⟩ := r
    cases (show T = "str" from ty)
    exact ⟨typeIs_str s z t, fun _ e => nomatch e⟩
  | int i =>
    obtain ⟨t, rfl⟩ := r
    cases (show T = "int" from ty)
    exact ⟨typeIs_int s i t, fun _ e => nomatch e⟩
  | ref p =>
    cases r
    rcases ty with ⟨rfl, xs, hq⟩ | ⟨rfl, o, hk, hc, hd⟩ | ⟨rfl, hk⟩ | ⟨rfl, S, n, hk⟩
    · obtain ⟨its, _, pl, _⟩ := I.list hq
      refine ⟨pl.isList.typeIs, fun a e => ?_⟩
      cases e
      obtain ⟨o, n, e, c, hd, _⟩ := pl
      exact ⟨o, e, hd⟩
    · refine ⟨⟨o, I.kIn p o hk, hc⟩, fun a e => ?_⟩
      cases e
      exact ⟨o, I.kIn _ o hk, hd⟩
    · have z : ∃ o, s.heap.get? p = some o ∧ o.ExactDict := by
        rcases hk with ⟨kvs, hk⟩ | ⟨kvs, hk⟩
        · obtain ⟨_, _, _, _, o, _, _, e, ex, _⟩ := I.hok p _ hk
          exact ⟨o, e, ex⟩
        · obtain ⟨_, _, _, _, o, _, _, e, ex, _⟩ := I.hok p _ hk
          exact ⟨o, e, ex⟩
      obtain ⟨o, e, ex⟩ := z
      refine ⟨⟨o, e, ex.1⟩, fun a e2 => ?_⟩
      cases e2
      exact ⟨o, e, ex.2.1⟩
    · obtain ⟨o, _, _, _, e, ex, _⟩ := I.hok p _ hk
      refine ⟨⟨o, e, ex.1⟩, fun a e2 => ?_⟩
      cases e2
      exact ⟨o, e, ex.2.1⟩
  | _ => exact False.elim ty
def tBM0 (K : PySem.W.Frag) (T : String) (r : V → List V → Hp → VK → Prop) (to : TE) : TE := fun σ H Q => to σ H fun x H1 => tyV K T x H1 ∧ r x [] H1 Q
def tBM (K : PySem.W.Frag) (T : String) (r : V → List V → Hp → VK → Prop) (to : TE) (t : TA) : TE := fun σ H Q => to σ H fun x H1 => tyV K T x H1 ∧ t σ H1 fun xs H2 => r x xs H2 Q
variable {o e : Expr} {es : List Expr} {to : TE} {t : TA} {name : Str} {apos cpos : Pos} {T id : String} {r : V → List V → Hp → VK → Prop}
theorem pe_bm0 (pa : PlainAttrs T) (slot : Slot T name id) (hty : typeOf (.builtin id) = pure (.type "method_descriptor")) (hm : MtR X id r) (ho : PE X o to)
    (hbase : attributeBase o name X.env (eval o X.env) = eval o X.env := by rfl) (hline : (apos.endLine == cpos.line) = true := by rfl) : PE X (.Call (.Attribute o name apos) [] [] cpos) (tBM0 X.K T r to) := by
  intro pins s σ H Q I h
  refine wpAny_Call_method0_late hbase hline (thn (ho pins s σ H _ I h) fun v s1 ⟨x, H1, I1, r1, ty, q1⟩ => ?_)
  obtain ⟨h1, h2⟩ := tyV_is I1 r1 ty
  exact ⟨T, id, pa, slot, hty, h1, h2, Calls.callWith_builtin rfl (PySem.evalArgs_none (hm pins s1 σ H1 x [] v [] Q I1 r1 .nil q1))⟩
theorem pe_bm (pa : PlainAttrs T) (slot : Slot T name id) (hty : typeOf (.builtin id) = pure (.type "method_descriptor")) (hm : MtR X id r) (ho : PE X o to) (ha : PA X (e :: es) t)
    (hbase : attributeBase o name X.env (eval o X.env) = eval o X.env := by rfl)
    (hfew : ((backTo cpos (starEach (e :: es) X.env)).all (fun x => !x.1) && (backToKw cpos (keywordEach [] X.env)).all (fun x => x.1.isSome)
      && decide ((e :: es).length + ([] : List Keyword).length + (if ([] : List Keyword).isEmpty then 0 else 1) < 30)) = true := by rfl)
    (hline : (apos.endLine == cpos.line) = true := by rfl) (hs : starEach (e :: es) X.env = (false, eval e X.env) :: starEach es X.env := by rfl) (hplain : (backTo cpos (starEach es X.env)).any (·.1) = false := by rfl) :
    PE X (.Call (.Attribute o name apos) (e :: es) [] cpos) (tBM X.K T r to t) := by
  intro pins s σ H Q I h
  refine wpAny_Call_method_late hbase hfew hline rfl (thn (ho pins s σ H _ I h) fun v s1 ⟨x, H1, I1, r1, ty, q1⟩ => ?_)
  obtain ⟨h1, h2⟩ := tyV_is I1 r1 ty
  refine ⟨T, id, pa, slot, hty, h1, h2, ?_⟩
  have hA := ha cpos pins s1 σ H1 _ I1 q1
  rw [hs] at hA ⊢
  refine Calls.callWith_builtin (by show (false || (backTo cpos (starEach es X.env)).any (·.1)) = false; rw [hplain] <;> rfl) (Calls.evalArgs_plain ?_)
  exact thn hA fun us s2 ⟨vs, H2, I2, r2, q2⟩ => hm pins s2 σ H2 x vs v us Q I2 r1 r2 q2
end
end L2
namespace L2
open PySem PySem.Spec PyProof.Rows
def MtM (X : Cx) (id : String) (r : V → List V → Hp → VK → Prop) : Prop :=
  ∀ (pins : List (Addr × Obj)) (s : Shared) (σ : St) (H : Hp) (x : V) (xs : List V) (v : Value) (us : List Value) (Q : VK), Inv X pins σ H s → RelV x v → Vals xs us → r x xs H Q →
    wpAny (model X.prog X.w) X.A (call (.builtin id) (v :: us)) (EP X pins σ Q) X.xe s
theorem Vals.one : ∀ {x : V} {us : List Value}, Vals [x] us → ∃ u, us = [u] ∧ RelV x u
  | _, _, .cons r .nil => ⟨_, rfl, r⟩
theorem Vals.zero : ∀ {us : List Value}, Vals [] us → us = []
  | _, .nil => rfl
theorem Vals.dropLast {xs : List V} {us : List Value} (h : Vals xs us) : Vals xs.dropLast us.dropLast := by
  induction h with
  | nil => exact .nil
  | cons r t ih =>
    cases t with
    | nil => exact .nil
    | cons q t' => exact .cons r ih
theorem Vals.eraseIdx : ∀ {xs : List V} {us : List Value} (i : Nat), Vals xs us → Vals (xs.eraseIdx i) (us.eraseIdx i)
  | _, _, _, .nil => .nil
  | _, _, 0, .cons _ t => t
  | _, _, i + 1, .cons r t => .cons r (Vals.eraseIdx i t)
theorem erase_last {α : Type} (l : List α) : l.eraseIdx (l.length - 1) = l.dropLast := by
  induction l with
  | nil => rfl
  | cons a r ih =>
    cases r with
    | nil => rfl
    | cons b r =>
      have e : (a :: b :: r).length - 1 = ((b :: r).length - 1) + 1 := by
        have h1 : (a :: b :: r).length = r.length + 2 := rfl
        have h2 : (b :: r).length = r.length + 1 := rfl
        omega
      rw [e, List.eraseIdx_cons_succ, ih]
      all_goals rfl
theorem len_erase {α : Type} : ∀ (l : List α) (i : Nat), (l.eraseIdx i).length ≤ l.length
  | [], _ => Nat.le_refl _
  | _ :: _, 0 => Nat.le_succ _
  | _ :: r, i + 1 => Nat.succ_le_succ (len_erase r i)
section
variable {X : Cx} {pins : List (Addr × Obj)} {σ : St} {H : Hp} {s : Shared} {l b : Addr} {xs ys zs : List V}
theorem Inv.lset {its its' : List Value} {n : Nat} {f : Array Value → Array Value} {t' : Nat} (I : Inv X pins σ H s) (hH : H l = some (.lst xs))
    (e : s.heap.get? l = some { cls := .type "list", data := .seq its.toArray n }) (hf : f its.toArray = its'.toArray) (hv : Vals ys its') (hz : ys.length ≤ sizeLine) :
    Inv X pins σ (upd H l (.lst ys)) { s with heap := s.heap.update l (Obj.mapSeq f), toks := t' } := by
  have q := PySem.IsL.update e f
  rw [hf] at q
  refine I.write (x := l) (e := l) (by rw [hH]; exact trivial) (.inl rfl) (fun b' u hb hu => (Heap.get?_update_other s.heap (Obj.mapSeq f) (Ne.symm hb)).trans hu) ⟨_, q⟩ ?_
  exact ⟨hz, its', _, hv, q⟩
theorem Inv.lnew {its : List Value} {t' : Nat} (I : Inv X pins σ H s) (hv : Vals ys its) (hz : ys.length ≤ sizeLine) :
    Inv X pins σ (upd H s.heap.objs.size (.lst ys)) { s with heap := s.heap.push { cls := .type "list", data := .seq its.toArray }, toks := t' } :=
  I.laid (fun _ _ q => Heap.get?_push_of_some _ q) (Nat.le_refl _) ⟨hz, its, 0, hv, Heap.get?_push_size _ rfl⟩
theorem Inv.fresh (I : Inv X pins σ H s) : H s.heap.objs.size = none := I.hok.fresh (Nat.le_refl _)
theorem Inv.lstM (I : Inv X pins σ H s) (hH : H l = some (.lst xs)) : xs.length ≤ sizeLine ∧ ∃ (its : List Value) (n : Nat), Vals xs its ∧ xs.length = its.length ∧ s.heap.get? l = some { cls := .type "list", data := .seq its.toArray n } := by
  obtain ⟨z, its, n, r, e⟩ := I.hok l _ hH
  exact ⟨z, its, n, r, r.length, e⟩
theorem notLongL {n : Nat} (h : n ≤ sizeLine) : Builtin.List.listTooLong n = false := by
  unfold Builtin.List.listTooLong
  exact decide_eq_false (by omega)
end
section
variable {X : Cx}
def rAppend : V → List V → Hp → VK → Prop := fun x vs H Q => ∃ l xs y, x = .ref l ∧ vs = [y] ∧ H l = some (.lst xs) ∧ xs.length < sizeLine ∧ Q .non (upd H l (.lst (xs ++ [y])))
theorem mt_append : MtM X "list.append" rAppend := by
  intro pins s σ H x vs v us Q I rx rv h
  obtain ⟨l, xs, y, rfl, rfl, hH, hz, q⟩ := h
  cases rx
  obtain ⟨u, rfl, ru⟩ := rv.one
  obtain ⟨z, its, n, r, hl, e⟩ := I.lstM hH
  refine call_meets F.slot_list_append ⟨_, e, rfl⟩ F.entry_list_append (F.args_list_append_2 _ _) (PySem.list_append l its.toArray n u (by rw [List.size_toArray]; omega)) ⟨e, ?_⟩
  refine ⟨.non, _, I.lset (its' := its ++ [u]) hH e (by simp) (r.append (.cons ru .nil)) ?_, rfl, q⟩
  rw [List.length_append, List.length_singleton]
  omega
def rExtend : V → List V → Hp → VK → Prop := fun x vs H Q => ∃ l b xs zs, x = .ref l ∧ vs = [.ref b] ∧ H l = some (.lst xs) ∧ H b = some (.lst zs) ∧ xs.length + zs.length ≤ sizeLine ∧ Q .non (upd H l (.lst (xs ++ zs)))
theorem mt_extend : MtM X "list.extend" rExtend := by
  intro pins s σ H x vs v us Q I rx rv h
  obtain ⟨l, b, xs, zs, rfl, rfl, hH, hB, hz, q⟩ := h
  cases rx
  obtain ⟨u, rfl, ru⟩ := rv.one
  cases ru
  obtain ⟨z, its, n, r, hl, e⟩ := I.lstM hH
  obtain ⟨z2, its2, n2, r2, hl2, e2⟩ := I.lstM hB
  have hsz : its.toArray.size + its2.toArray.size ≤ sizeLine := by rw [List.size_toArray, List.size_toArray]; omega
  have hlong : ¬ (!its.toArray.isEmpty && Builtin.List.listTooLong (its.toArray.size + its2.toArray.size)) = true := by
    rw [notLongL hsz, Bool.and_false]
    exact Bool.false_ne_true
  refine call_meets F.slot_list_extend ⟨_, e, rfl⟩ F.entry_list_extend (F.args_list_extend_2 _ _)
    (AutoSeq1.list_extend_list_list_0 l its.toArray n b its2.toArray n2 hlong (by rw [List.size_toArray]; omega) (by omega)) ⟨e, e2, ?_⟩
  refine ⟨.non, _, I.lset (its' := its ++ its2) hH e (by simp) (r.append r2) ?_, rfl, q⟩
  rw [List.length_append]
  omega
def rPop : V → List V → Hp → VK → Prop := fun x vs H Q => ∃ l xs y, x = .ref l ∧ vs = [] ∧ H l = some (.lst xs) ∧ xs[xs.length - 1]? = some y ∧ Q y (upd H l (.lst xs.dropLast))
theorem mt_pop : MtM X "list.pop" rPop := by
  intro pins s σ H x vs v us Q I rx rv h
  obtain ⟨l, xs, y, rfl, rfl, hH, hy, q⟩ := h
  cases rx
  have hus := rv.zero
  subst hus
  obtain ⟨z, its, n, r, hl, e⟩ := I.lstM hH
  obtain ⟨u, hu, ru⟩ := r.get hy
  have hy' : its.toArray[its.toArray.size - 1]? = some u := by
    show its.toArray[its.length - 1]? = some u
    rw [← Array.getElem?_toList, ← hl]
    exact hu
  refine call_meets F.slot_list_pop ⟨_, e, rfl⟩ F.entry_list_pop (F.args_list_pop_1 _) (MeetsSeq.list_pop_last l its.toArray n u hy' (by rw [List.size_toArray]; omega)) ⟨e, ?_⟩
  refine ⟨y, _, I.lset (its' := its.dropLast) hH e ?_ r.dropLast ?_, ru, q⟩
  · show its.toArray.eraseIdxIfInBounds (its.toArray.size - 1) = its.dropLast.toArray
    rw [List.size_toArray, List.eraseIdxIfInBounds_toArray, erase_last]
  · rw [List.length_dropLast]
    omega
def rPopAt : V → List V → Hp → VK → Prop := fun x vs H Q => ∃ l xs i k y, x = .ref l ∧ vs = [.int i] ∧ H l = some (.lst xs) ∧ -(2 ^ 63) ≤ i ∧ i < 2 ^ 63 ∧ seqIndex? i xs.length = some k ∧ xs[k]? = some y ∧ Q y (upd H l (.lst (xs.eraseIdx k)))
theorem mt_popAt : MtM X "list.pop" rPopAt := by
  intro pins s σ H x vs v us Q I rx rv h
  obtain ⟨l, xs, i, k, y, rfl, rfl, hH, h1, h2, hk, hy, q⟩ := h
  cases rx
  obtain ⟨u, rfl, ru⟩ := rv.one
  obtain ⟨t, rfl⟩ := ru
  obtain ⟨z, its, n, r, hl, e⟩ := I.lstM hH
  obtain ⟨w, hw, rw'⟩ := r.get hy
  refine call_meets F.slot_list_pop ⟨_, e, rfl⟩ F.entry_list_pop (F.args_list_pop_2 _ _)
    (MeetsSeq.list_pop_at l its.toArray n i t k w (fitsIndex_both h1 h2) (by rw [List.size_toArray, ← hl]; exact hk) (by rw [← Array.getElem?_toList]; exact hw) (by rw [List.size_toArray]; omega)) ⟨e, ?_⟩
  refine ⟨y, _, I.lset (its' := its.eraseIdx k) hH e ?_ (r.eraseIdx k) ?_, rw', q⟩
  · show its.toArray.eraseIdxIfInBounds k = (its.eraseIdx k).toArray
    rw [List.eraseIdxIfInBounds_toArray]
  · have := len_erase xs k
    omega
def rClear : V → List V → Hp → VK → Prop := fun x vs H Q => ∃ l xs, x = .ref l ∧ vs = [] ∧ H l = some (.lst xs) ∧ Q .non (upd H l (.lst []))
theorem mt_clear : MtM X "list.clear" rClear := by
  intro pins s σ H x vs v us Q I rx rv h
  obtain ⟨l, xs, rfl, rfl, hH, q⟩ := h
  cases rx
  have hus := rv.zero
  subst hus
  obtain ⟨z, its, n, r, hl, e⟩ := I.lstM hH
  refine call_meets F.slot_list_clear ⟨_, e, rfl⟩ F.entry_list_clear (F.args_list_clear_1 _) (AutoSeq1.list_clear_list_0 l its.toArray n (by rw [List.size_toArray]; omega)) ⟨e, ?_⟩
  exact ⟨.non, _, I.lset (its' := []) (ys := []) hH e rfl .nil (Nat.zero_le _), rfl, q⟩
def rCat : R2 := fun x y H Q => ∃ l b xs zs, x = .ref l ∧ y = .ref b ∧ H l = some (.lst xs) ∧ H b = some (.lst zs) ∧ xs.length + zs.length ≤ sizeLine ∧ ∀ p, H p = none → Q (.ref p) (upd H p (.lst (xs ++ zs)))
theorem op_cat : OpR X (binaryOp .Add) rCat := by
  intro pins s σ H x y v u Q I rx ry h
  obtain ⟨l, b, xs, zs, rfl, rfl, hH, hB, hz, q⟩ := h
  cases rx
  cases ry
  obtain ⟨z, its, n, r, hl, e⟩ := I.lstM hH
  obtain ⟨z2, its2, n2, r2, hl2, e2⟩ := I.lstM hB
  refine PySem.P.add_list e e2 ?_ (by rw [List.size_toArray, List.size_toArray]; omega)
  have ea : its.toArray ++ its2.toArray = (its ++ its2).toArray := by simp
  rw [ea]
  exact ⟨.ref _, _, I.lnew (t' := s.toks) (r.append r2) (by rw [List.length_append]; omega), rfl, q _ I.fresh⟩
end
end L2
namespace Att
open PySem PySem.W PySem.Calls PyProof.Rows
theorem ints_of_wellAll {P : Params} {h : Heap} : ∀ (ns : List Int) (vs : List Value), WellAll P h vs (ns.map WData.int) → IntsAre vs ns := by
  intro ns
  induction ns with
  | nil =>
    intro vs w
    rw [List.map_nil] at w
    cases w
    exact .nil
  | cons n ns ih =>
    intro vs w
    rw [List.map_cons] at w
    cases w with
    | cons a b =>
      cases a
      exact .cons _ _ (ih _ b)
theorem script_of {l : OpenLaw} {n : Nat} (hn : l.most = some n) {P : Params} {h : Heap} {args : List WData} {vals : List Value}
    (hpre : l.row.toRowW.claim.pre args = true) (hwl : WellAll P h vals args) :
    ∃ a vs ns, vals = [Value.ref a] ∧ args = [WData.list (ns.map WData.int)] ∧ h.get? a = some { cls := .type "list", data := .seq vs.toArray } ∧ IntsAre vs ns ∧ ns.length ≤ n := by
  have hsh : WShape.hasAll [] args [.list .int] = true := (pre_splitW hpre).1
  have hc : l.pre.holds [] { args := args } = true := (pre_splitW hpre).2
  obtain ⟨d, r, rfl, h1, h2⟩ := hasAllW_cons hsh
  obtain rfl := hasAllW_nil h2
  obtain ⟨xs, rfl, h3⟩ := hasW_list h1
  obtain ⟨ns, rfl⟩ := items_int h3
  have hlen : ns.length ≤ n := by
    unfold OpenLaw.pre at hc
    have h4 : (WTm.not (.lt (.lit (.int (n : Int))) (.len (.arg 0)))).holds [] { args := [.list (ns.map .int)] } = true := by
      have h4 := (holds_andW hc).1
      rw [hn] at h4
      exact h4
    have h5 := condW_of h4 (w_not (w_lt w_lit (w_len_list (w_arg rfl))))
    rw [List.length_map] at h5
    refine Nat.le_of_not_lt fun q => ?_
    have q' : (n : Int) < ((ns.length : Nat) : Int) := by omega
    first
      | (rw [decide_eq_true q'] at h5; exact absurd h5 (by decide))
      | (simp at h5; omega)
  cases hwl with
  | cons w1 w2 =>
    cases w2
    cases w1 with
    | list ho hall => exact ⟨_, _, ns, rfl, rfl, ho, ints_of_wellAll ns _ hall, hlen⟩
theorem post_true (l : OpenLaw) (args : List WData) : l.row.toRowW.claim.post args (.bool true) args = true :=
  postW_of (r := l.row.toRowW) (X := (true == true))
    (show WShape.has [] (.bool true) .bool = true by first | rfl | decide | simp [WShape.has, WShape.arms, WShape.armsAll])
    (show (WTm.eq .res (.lit (.bool true))).value [] { args := args, res := some (.bool true), after := args } = some (.bool (true == true)) from w_eq_bool (w_res rfl) w_lit) rfl
theorem attach_call {l : OpenLaw} {n : Nat} {q : Program} {loose : List Str} {XP : (Str → Option Value) → Heap → Prop} {YP : World → Heap → Prop} {d : DefRec}
    (hn : l.most = some n) (hdf : d.params.defaults = [])
    (call : ∀ (w : World) (s₀ s₁ : Shared) (mg mb : Str → Option Value) (fa : Addr) (o : Obj) (pm cd doc : Value) (a : Addr) (vs : List Value) (ns : List Int),
      Ground q loose [] XP w s₀ mg mb s₁.heap → YP w s₁.heap →
      s₁.heap.get? fa = some o → o.data = .func (docDef d.name d.params d.body d.scope pm cd doc) → s₁.heap.CodeRec cd d.name → mg d.name = some (.ref fa) →
      s₁.heap.get? a = some { cls := .type "list", data := .seq vs.toArray } → IntsAre vs ns → ns.length ≤ n → s₁.gens = #[] →
      codeAny (model l.prog w) callerA (.call (.ref fa) ⟨[.ref a], []⟩) (fun r s' => r = .ok (.ret (.bool true)) ∧ OldK s₁.heap s'.heap ∧ s'.os = s₁.os ∧ AllBare s'.gens) s₁) :
    WalkO q loose XP YP l.row.toRowW d [] (fun f vs => PySem.call f vs) := by
  intro w s₀ s₁ mg mb G Y fa o pm cd doc dV kV ho hd hcd hD hmg hg args vals as hpre hlay hrd hwl hlo
  obtain rfl : dV = .none := Dflts.none hD hdf
  obtain rfl : kV = .none := Dflts.noKw hD
  obtain ⟨a, vs, ns, rfl, rfl, hobj, hints, hlen⟩ := script_of hn hpre hwl
  refine enter_call (codeAny_mono (call w s₀ s₁ mg mb fa o pm cd doc a vs ns G Y ho (fd_plain hd) hcd hmg hobj hints hlen hg) fun r s' hq => ?_)
  obtain ⟨rfl, h2, h3, h4⟩ := hq
  exact ⟨.inl ⟨.bool true, .bool true, [], rfl, fun _ => rfl, .bool true, post_true l _, fun _ => ⟨List.Pairwise.nil, fun _ hm => (nomatch hm)⟩⟩, h2, h3, h4⟩
end Att
namespace L2
open PySem PySem.Spec PyProof.Rows
theorem vals_ints : ∀ {vs : List Value} {ns : List Int}, IntsAre vs ns → Vals (ns.map V.int) vs
  | _, _, .nil => .nil
  | _, _, .cons n t h => .cons ⟨t, rfl⟩ (vals_ints h)
def Only (H : Hp) : Prop := ∀ b, H b = none ∨ ∃ o xs, H b = some (.frz o (.lst xs))
theorem law_call {P : Program} {w : World} {K : PySem.W.Frag} {mg mb : Str → Option Value} {CX : CXT} {k : Nat} {fa a : Addr} {fd : FuncData} {x : Str} {sp : Sp} {s₁ : Shared} {vs : List Value} {ns : List Int}
    (KX : K.In s₁.heap) (hns : s₁.heap.Ns mainGlobals mg) (hb : s₁.heap.Ns builtinsNs mb) (hbb : ∀ x : Str, x ≠ "__name__" → mb x = bootBuiltins x) (hlim : s₁.heap.NoLimit) (hg : s₁.gens = #[])
    (ha : s₁.heap.get? a = some { cls := .type "list", data := .seq vs.toArray }) (hi : IntsAre vs ns) (hl : ns.length ≤ sizeLine) (hr : Room k callerA)
    (F : ∀ base : Heap, K.In base → base.Ns mainGlobals mg → FnOk P w K mg base CX k fa fd [x] sp) (hbind : ∀ (s : Shared) (u : Value), BindsTo s fd ⟨[u], []⟩ [(x, u)])
    (hsp : ∀ H : Hp, Only H → SqL K H a (ns.map V.int) → sp [.ref a] H (fun v _ => v = .bl true) fun _ _ _ => False)
    (hCX : ∀ H e s', CX [] H s₁ (fun _ _ _ => False) e s' → False) :
    codeAny (model P w) callerA (.call (.ref fa) ⟨[.ref a], []⟩) (fun r s' => r = .ok (.ret (.bool true)) ∧ OldK s₁.heap s'.heap ∧ s'.os = s₁.os ∧ AllBare s'.gens) s₁ := by
  have rv := vals_ints hi
  have lenV := hi.length
  have core : ∀ H : Hp, Only H → SqL K H a (ns.map V.int) → HOk P w H s₁.heap → (∀ b, H b ≠ none → b = a) → (H a ≠ none → K.lookup a = none) →
      codeAny (model P w) callerA (.call (.ref fa) ⟨[.ref a], []⟩) (fun r s' => r = .ok (.ret (.bool true)) ∧ OldK s₁.heap s'.heap ∧ s'.os = s₁.os ∧ AllBare s'.gens) s₁ := by
    intro H hO hS hok hA hK
    have base_of : ∀ {b : Addr} {o : Obj}, s₁.heap.get? b = some o → H b = none → (hidT s₁.heap H).get? b = some o := fun e n => hidT_get e n
    have noA : ∀ {b : Addr} {o : Obj} {es : Array DictEntry} {ep : Nat}, s₁.heap.get? b = some o → o.data = .dict es ep → H b = none := fun {b o es ep} e d => by
      cases q : H b with
      | none => rfl
      | some u =>
        have e' : b = a := hA b (by rw [q]; simp)
        subst e'
        rw [ha] at e; cases e
        have d' : Data.seq vs.toArray _ = Data.dict es ep := d
        cases d'
    have nsK : ∀ {b : Addr} {m : Str → Option Value}, s₁.heap.Ns b m → (hidT s₁.heap H).Ns b m := fun {b m} ⟨o, es, ep, e, d, r⟩ => ⟨o, es, ep, base_of e (noA e d), d, r⟩
    have hKb : K.In (hidT s₁.heap H) := fun b o e => base_of (KX b o e) (by
      cases q : H b with
      | none => rfl
      | some u =>
        have e' : b = a := hA b (by rw [q]; simp)
        subst e'
        rw [hK (by rw [q]; simp)] at e; cases e)
    have hM : Mod K mg (hidT s₁.heap H) := ⟨hKb, nsK hns, ⟨mb, nsK hb, hbb⟩, let ⟨mc, h1, h2⟩ := hlim; ⟨mc, nsK h1, h2⟩⟩
    have e0 : Env0 P w K mg (hidT s₁.heap H) callerA [] s₁ H := ⟨rfl, hM, fun b o e => of_hidT e, Nat.le_of_eq (hidT_size _ _), trivial, fun b hb => absurd (show b ∈ ([] : List Addr) from hb) (by simp), hok, .of_eq hg⟩
    refine codeAny_mono ((F _ hKb (nsK hns)).run callerA [] s₁ H ⟨[.ref a], []⟩ [.ref a] [.ref a] _ _ hr e0 (hbind s₁ (.ref a)) (.cons rfl .nil) (hsp H hO hS)) fun r s' h => ?_
    cases r with
    | error e => exact (hCX H e s' h).elim
    | ok fl =>
      cases fl with
      | next => exact False.elim h
      | brk => exact False.elim h
      | cont => exact False.elim h
      | ret u =>
        obtain ⟨v, H', os, bare, un, hok', r', q⟩ := h
        have q' : v = .bl true := q
        subst q'
        obtain rfl : u = Value.bool true := r'
        refine ⟨rfl, OldK.of_keep fun b o e => ?_, os, bare⟩
        cases q : H b with
        | none => exact un.keep b o e q (by intro z; exact absurd (show b ∈ ([] : List Addr) from z) (by simp)) (by simp)
        | some u =>
          rcases hO b with z | ⟨ob, xs, z⟩
          · rw [q] at z; cases z
          · have z2 := un.frzs b ob _ z
            obtain ⟨e1, _⟩ := hok b _ z
            obtain ⟨e2, _⟩ := hok' b _ z2
            rw [e] at e1; cases e1
            exact e2
  cases hk : K.lookup a with
  | some o =>
    have e := KX a o hk
    rw [ha] at e
    cases e
    refine core (fun _ => none) (fun _ => .inl rfl) (.inr ⟨_, vs.toArray, _, hk, rfl, rfl, rfl, by rw [List.size_toArray, lenV]; exact hl, by simpa using rv⟩) (fun b u z => by have z' : (none : Option HO) = some u := z; cases z') (fun b z => absurd rfl z) fun z => absurd rfl z
  | none =>
    refine core (fun b => if b = a then some (.frz { cls := .type "list", data := .seq vs.toArray } (.lst (ns.map V.int))) else none) (fun b => ?_) (.inl (.inr ⟨{ cls := .type "list", data := .seq vs.toArray }, if_pos rfl⟩)) (fun b u z => ?_) (fun b z => ?_) fun _ => hk
    · by_cases hb : b = a
      · exact .inr ⟨_, _, if_pos hb⟩
      · exact .inl (if_neg hb)
    · by_cases hb : b = a
      · have z' := (if_pos hb).symm.trans z
        cases z'
        subst hb
        exact ⟨ha, by rw [List.length_map]; exact hl, vs, _, rv, ha⟩
      · have z' := (if_neg hb).symm.trans z
        cases z'
    · by_cases hb : b = a
      · exact hb
      · exact absurd (if_neg hb) z
end L2
namespace L2
open PySem PySem.Spec PyProof.Rows
theorem walk_of {l : PySem.W.OpenLaw} {n k : Nat} {q : Program} {loose : List Str} {XP : (Str → Option Value) → Heap → Prop} {YP : World → Heap → Prop} {d : DefRec} {K : Params → PySem.W.Frag} {CX : World → CXT} {sp : World → Sp} {x : Str}
    (hn : l.most = some n) (hn2 : n ≤ sizeLine) (hdf : d.params.defaults = []) (hr : Room k callerA)
    (hY : ∀ (w : World) (h : Heap), YP w h → (K w.params).In h)
    (F : ∀ (w : World) (mg : Str → Option Value) (fa : Addr) (h : Heap), (K w.params).In h → h.Ns mainGlobals mg → mg d.name = some (.ref fa) →
      ∃ fd : FuncData, (∀ (s : Shared) (u : Value), BindsTo s fd ⟨[u], []⟩ [(x, u)]) ∧
        ∀ base : Heap, (K w.params).In base → base.Ns mainGlobals mg → FnOk l.prog w (K w.params) mg base (CX w) k fa fd [x] (sp w))
    (hsp : ∀ (w : World) (H : Hp) (a : Addr) (ns : List Int), ns.length ≤ n → Only H → SqL (K w.params) H a (ns.map V.int) → sp w [.ref a] H (fun v _ => v = .bl true) fun _ _ _ => False)
    (hCX : ∀ (w : World) (H : Hp) (s : Shared) (e : Value) (s' : Shared), CX w [] H s (fun _ _ _ => False) e s' → False) :
    PySem.W.WalkO q loose XP YP l.row.toRowW d [] (fun f vs => PySem.call f vs) := by
  refine Att.attach_call hn hdf fun w s₀ s₁ mg mb fa o pm cd doc a vs ns G Y ho hd hcd hmg hobj hints hlen hg => ?_
  have KX := hY w _ Y
  obtain ⟨fd, hb, hF⟩ := F w mg fa _ KX G.T.g hmg
  exact law_call KX G.T.g G.T.b G.T.builtins G.T.nolimit hg hobj hints (Nat.le_trans hlen hn2) hr hF hb (fun H hO hS => hsp w H a ns hlen hO hS) fun H e s' => hCX w H s₁ e s'
end L2
namespace L2
open PySem PySem.Spec PyProof.Rows
def defArgs (s : Stmt) : Arguments := match s with
  | .FunctionDef _ a _ _ _ _ _ _ _ _ => a
  | _ => { posonlyargs := [], args := [], vararg := none, kwonlyargs := [], kw_defaults := [], kwarg := none, defaults := [] }
def defBody (s : Stmt) : List Stmt := match s with
  | .FunctionDef _ _ b _ _ _ _ _ _ _ => b
  | _ => []
def defScope (s : Stmt) : Scope := match s with
  | .FunctionDef _ _ _ _ _ _ sc _ _ _ => sc
  | _ => { kind := .function, names := [], isGenerator := false, isCoroutine := false }
abbrev CX0 : CXT := fun _ _ _ _ _ _ => False
abbrev E0 : XK := fun _ _ _ => False
theorem pass0 {X : Cx} : Passes CX0 X E0 := fun _ _ _ _ _ _ _ h => h.elim
structure Fun (K : PySem.W.Frag) (x qual : Str) (st : Stmt) (f : Addr) (fd : FuncData) : Prop where
  ex : ∃ (oc : Value) (od : Option Addr) (kV doc pm : Value) (an : Option Addr) (cdv ct : Value) (osl : Array (Option Value)),
    fd = PySem.W.fnOf x qual (defArgs st) (defBody st) (defScope st) .none kV doc pm an cdv ct ∧ K.lookup f = some ⟨oc, od, .func fd, osl⟩ ∧ PySem.W.codeIn K cdv qual = true
  kp : PySem.W.keepIn K (.ref f) = true
section
variable {P : Program} {w : World} {K : PySem.W.Frag} {mg : Str → Option Value} {base : Heap}
theorem Fun.ok {x qual : Str} {st : Stmt} {f : Addr} {fd : FuncData} {N ps : List Str} {k : Nat} {sp : Sp} (F : Fun K x qual st f fd) (S : FnScope N ps (defScope st)) (len : ∀ vs H Q E, sp vs H Q E → vs.length = ps.length)
    (hbody : ∀ (cdv : Value) (A : Around) (outer : List Env) (s : Shared) (H : Hp) (vs : List V) (Q : VK) (E : XK), Room k (A.deeper (envOfC qual (defScope st) s.heap.objs.size f cdv)) → sp vs H Q E →
      ∃ t, PSs (cxOf CX0 P w K mg base N qual (defScope st) f cdv A outer s H E).nox (defBody st) t ∧ t { nx := fun _ H' => Q .non H', rt := Q } (start N vs) H) : FnOk P w K mg base CX0 (k + 1) f fd ps sp := by
  obtain ⟨oc, od, kV, doc, pm, an, cdv, ct, osl, rfl, lk, hcd⟩ := F.ex
  refine fn_of lk hcd S len fun A outer s H vs Q E hr hsp => ?_
  obtain ⟨t, h, q⟩ := hbody cdv A outer s H vs Q E hr hsp
  exact ⟨t, h.nox, q⟩
theorem Fun.binds {x qual : Str} {st : Stmt} {f : Addr} {fd : FuncData} {ps : List Str} (F : Fun K x qual st f fd)
    (h : ∀ (kV doc pm : Value) (an : Option Addr) (cdv ct : Value) (us : List Value), us.length = ps.length → bindArgs (PySem.W.fnOf x qual (defArgs st) (defBody st) (defScope st) .none kV doc pm an cdv ct) ⟨us, []⟩ = pure (ps.zip us)) : Binds K fd ps [] := by
  obtain ⟨oc, od, kV, doc, pm, an, cdv, ct, osl, rfl, lk, hcd⟩ := F.ex
  exact .all (h kV doc pm an cdv ct)
theorem fun_mk {x qual : Str} {st : Stmt} {f : Addr} {oc : Value} {od an : Option Addr} {osl : Array (Option Value)} {kV doc pm cdv ct : Value} (l : K.lookup f = some ⟨oc, od, .func (PySem.W.fnOf x qual (defArgs st) (defBody st) (defScope st) .none kV doc pm an cdv ct), osl⟩)
    (c : PySem.W.codeIn K cdv qual = true) (k : PySem.W.keepIn K (.ref f) = true) : Fun K x qual st f (PySem.W.fnOf x qual (defArgs st) (defBody st) (defScope st) .none kV doc pm an cdv ct) := ⟨⟨oc, od, kV, doc, pm, an, cdv, ct, osl, rfl, l, c⟩, k⟩
end
theorem small1000 {n : Nat} (h : n ≤ 1000) : n < sizeLine := Nat.lt_of_le_of_lt h (by decide)
section
variable {X : Cx}
theorem pv (i : Nat) {x : Str} {pos : Pos} (hN : X.N[i]? = some x := by rfl) (hv : Vis X.env.scope x := by first | exact Or.inl rfl | exact Or.inr (Or.inl rfl) | exact Or.inr (Or.inr rfl)) (hd : (x == ("__debug__" : Str)) = false := by decide)
    (hcd : (x == ("__classdict__" : Str)) = false := by decide) : PE X (.Name x pos) (tVar i) := pe_var hN hv hd hcd
end
theorem iteF {A B : Prop} (h : B) : if false = true then A else B := by
  rw [if_neg Bool.false_ne_true]
  exact h
theorem iteT {A B : Prop} (h : A) : if true = true then A else B := by
  rw [if_pos rfl]
  exact h
theorem ite2 {c A B : Prop} [Decidable c] (h1 : c → A) (h2 : ¬ c → B) : if c then A else B := by
  by_cases h : c
  · rw [if_pos h]
    exact h1 h
  · rw [if_neg h]
    exact h2 h
theorem iteNS {c A B : Prop} [Decidable c] (hc : c) (h : B) : if (!decide c) = true then A else B := by
  rw [decide_eq_true hc]
  exact iteF h
def Same (H H' : Hp) : Prop := ∀ b o, H b = some o → H' b = some o
theorem Same.refl (H : Hp) : Same H H := fun _ _ h => h
theorem Same.trans {H H1 H2 : Hp} (a : Same H H1) (b : Same H1 H2) : Same H H2 := fun c o h => b c o (a c o h)
theorem Same.free {H H' : Hp} (e : Same H H') {l : Addr} (h : H' l = Option.none) : H l = Option.none := by
  cases q : H l with
  | none => rfl
  | some o =>
    rw [e l o q] at h
    cases h
theorem Same.seq {K : PySem.W.Frag} {H H' : Hp} {a : Addr} {xs : List V} (e : Same H H') (h : SqL K H a xs) : SqL K H' a xs := by
  rcases h with (h | ⟨o, h⟩) | h
  · exact .inl (.inl (e _ _ h))
  · exact .inl (.inr ⟨o, e _ _ h⟩)
  · exact .inr h
end L2
namespace L2
open PySem PySem.Spec PyProof.Rows
def clOf (scope : Scope) (env : Env) : List (Str × Addr) :=
  (scope.names.filterMap fun x => if x.2 == NameKind.free then (env.cells.lookup x.1).map fun c => (x.1, c) else none).reverse
theorem clos_go {env : Env} (f : Str × NameKind → List (Str × Addr) → Sem (ForInStep (List (Str × Addr))))
    (hf : ∀ n k r, f (n, k) r = (if (k == NameKind.free) = true then (do let c ← cellOf env n; pure (.yield ((n, c) :: r))) else pure (.yield r))) :
    ∀ (ns : List (Str × NameKind)) (cs : List (Str × Addr)), (∀ x ∈ ns, x.2 = .free → ∃ c, env.cells.lookup x.1 = some c) →
      forIn ns cs f = pure ((ns.filterMap fun x => if x.2 == NameKind.free then (env.cells.lookup x.1).map fun c => (x.1, c) else none).reverse ++ cs)
  | [], cs, _ => by rw [List.forIn_nil]; rfl
  | (n, k) :: r, cs, h => by
    rw [List.forIn_cons, hf]
    have hr : ∀ x ∈ r, x.2 = .free → ∃ c, env.cells.lookup x.1 = some c := fun x hx => h x (List.mem_cons_of_mem _ hx)
    by_cases hk : k = .free
    · subst hk
      obtain ⟨c, hc⟩ := h (n, .free) List.mem_cons_self rfl
      have e1 : cellOf env n = pure c := by unfold cellOf; rw [hc]
      rw [if_pos (by rfl), e1, pure_bind, pure_bind]
      show forIn r ((n, c) :: cs) f = _
      rw [clos_go f hf r _ hr, List.filterMap_cons]
      simp [hc]
    · have hb : (k == NameKind.free) = false := by simpa using hk
      rw [if_neg (by rw [hb]; decide), pure_bind]
      show forIn r cs f = _
      rw [clos_go f hf r _ hr, List.filterMap_cons]
      simp [hb]
theorem clos_ok {scope : Scope} {env : Env} (h : ∀ x ∈ scope.names, x.2 = .free → ∃ c, env.cells.lookup x.1 = some c) : closureFor scope env = pure (clOf scope env) := by
  simp only [closureFor]
  rw [clos_go (env := env) _ (fun n k r => by cases hk : k == NameKind.free <;> simp [hk]) scope.names [] h]
  rw [List.append_nil]
  rfl
theorem lookup_clOf_go {env : Env} {x : Str} : ∀ {l : List (Str × Addr)} {c : Addr}, (∀ p ∈ l, env.cells.lookup p.1 = some p.2) → l.lookup x = some c → env.cells.lookup x = some c
  | [], _, _, e => by simp at e
  | (n, d) :: r, c, h, e => by
    rw [List.lookup_cons] at e
    cases hb : x == n with
    | true =>
      rw [hb] at e
      have e' : d = c := Option.some.inj e
      have hx : x = n := by simpa using hb
      subst hx e'
      exact h _ List.mem_cons_self
    | false =>
      rw [hb] at e
      exact lookup_clOf_go (fun p hp => h p (List.mem_cons_of_mem _ hp)) e
theorem mem_clOf {scope : Scope} {env : Env} {p : Str × Addr} (h : p ∈ clOf scope env) : env.cells.lookup p.1 = some p.2 := by
  unfold clOf at h
  rw [List.mem_reverse, List.mem_filterMap] at h
  obtain ⟨x, _, e⟩ := h
  split at e
  · cases q : env.cells.lookup x.1 with
    | none => rw [q] at e; cases e
    | some c =>
      rw [q] at e
      have e' : (x.1, c) = p := Option.some.inj e
      subst e'
      exact q
  · cases e
theorem mem_clOf_free {scope : Scope} {env : Env} {x : Str} {c : Addr} (h : (x, c) ∈ clOf scope env) : (x, NameKind.free) ∈ scope.names := by
  unfold clOf at h
  rw [List.mem_reverse, List.mem_filterMap] at h
  obtain ⟨⟨y, k⟩, hy, e⟩ := h
  split at e
  · rename_i hk
    have hk' : k = .free := by simpa using hk
    cases q : env.cells.lookup y with
    | none => simp [q] at e
    | some d =>
      simp [q] at e
      rw [← e.1, ← hk']
      exact hy
  · cases e
theorem lookup_clOf {scope : Scope} {env : Env} {x : Str} {c : Addr} (e : (clOf scope env).lookup x = some c) : env.cells.lookup x = some c :=
  lookup_clOf_go (fun _ hp => mem_clOf hp) e
theorem lookup_of_mem_fst {x : Str} : ∀ {l : List (Str × Addr)}, (∃ c, (x, c) ∈ l) → ∃ c, l.lookup x = some c
  | [], ⟨_, h⟩ => by cases h
  | (n, d) :: r, ⟨c, h⟩ => by
    rw [List.lookup_cons]
    cases hb : x == n with
    | true => exact ⟨d, rfl⟩
    | false =>
      rcases List.mem_cons.mp h with q | q
      · injection q with q1 _
        rw [q1] at hb
        simp at hb
      · exact lookup_of_mem_fst ⟨c, q⟩
theorem clOf_has {scope : Scope} {env : Env} {x : Str} {c : Addr} (hm : (x, NameKind.free) ∈ scope.names) (e : env.cells.lookup x = some c) : (clOf scope env).lookup x = some c := by
  have hmem : (x, c) ∈ clOf scope env := by
    unfold clOf
    rw [List.mem_reverse, List.mem_filterMap]
    exact ⟨(x, .free), hm, by simp [e]⟩
  obtain ⟨d, hd⟩ := lookup_of_mem_fst ⟨c, hmem⟩
  have := lookup_clOf hd
  rw [e] at this
  cases this
  exact hd
def capS (caps : List (Option Nat)) (σ : St) : St := caps.map fun o => o.bind fun i => (σ[i]?).bind id
structure CompOk (scope sc : Scope) (NX N : List Str) (caps : List (Option Nat)) : Prop where
  kind : scope.kind = .function
  nd : N.Nodup
  own : ∀ y ∈ scope.names, y.2 = .cell → scope.names.lookup y.1 = some .cell
  loc : ∀ y ∈ scope.names, y.2 = .local → scope.names.lookup y.1 = some .local
  free : ∀ y ∈ scope.names, y.2 = .free → scope.names.lookup y.1 = some .free ∧ (sc.names.lookup y.1 = some .cell ∨ sc.names.lookup y.1 = some .free)
  len : caps.length = N.length
  cap : ∀ p ∈ (caps.zip N), ∀ i, p.1 = some i → NX[i]? = some p.2 ∧ scope.names.lookup p.2 = some .free
def compOkB (scope sc : Scope) (NX N : List Str) (caps : List (Option Nat)) : Bool :=
  (scope.kind == .function) && decide N.Nodup && scope.names.all (fun y => y.2 != .cell || scope.names.lookup y.1 == some .cell) && scope.names.all (fun y => y.2 != .local || scope.names.lookup y.1 == some .local) &&
  scope.names.all (fun y => y.2 != .free || (scope.names.lookup y.1 == some .free && (sc.names.lookup y.1 == some .cell || sc.names.lookup y.1 == some .free))) && (caps.length == N.length) &&
  (caps.zip N).all (fun p => match p.1 with | none => true | some i => NX[i]? == some p.2 && scope.names.lookup p.2 == some .free)
theorem CompOk.of {scope sc : Scope} {NX N : List Str} {caps : List (Option Nat)} (h : compOkB scope sc NX N caps = true) : CompOk scope sc NX N caps := by
  unfold compOkB at h
  simp only [Bool.and_eq_true] at h
  obtain ⟨⟨⟨⟨⟨⟨h1, h2⟩, h3⟩, h4⟩, h5⟩, h6⟩, h7⟩ := h
  refine ⟨by simpa using h1, of_decide_eq_true h2, fun y hy hc => ?_, fun y hy hl => ?_, fun y hy hf => ?_, by simpa using h6, fun p hp i hi => ?_⟩
  · have := List.all_eq_true.mp h3 y hy
    rw [hc] at this
    simpa using this
  · have := List.all_eq_true.mp h4 y hy
    rw [hl] at this
    simpa using this
  · have := List.all_eq_true.mp h5 y hy
    rw [hf] at this
    simpa using this
  · have := List.all_eq_true.mp h7 p hp
    rw [hi] at this
    simpa using this
def csOf (scope : Scope) (C : Addr) (env : Env) : List (Str × Addr) := cellsFrom (C + 1) scope.names (clOf scope env)
theorem cells_lk : ∀ (names : List (Str × NameKind)) (n : Nat) (acc : List (Str × Addr)) {x : Str} {c : Addr}, (cellsFrom n names acc).lookup x = some c → (n ≤ c ∧ (x, NameKind.cell) ∈ names) ∨ acc.lookup x = some c
  | [], _, _, _, _, h => .inr h
  | (y, k) :: r, n, acc, x, c, h => by
    unfold cellsFrom at h
    split at h
    · rename_i hk
      have hk' : k = .cell := by simpa using hk
      rcases cells_lk r (n + 1) _ h with ⟨h1, h2⟩ | h2
      · exact .inl ⟨by omega, List.mem_cons_of_mem _ h2⟩
      · rw [List.lookup_cons] at h2
        cases hb : x == y with
        | true =>
          rw [hb] at h2
          have e : n = c := Option.some.inj h2
          have ex : x = y := by simpa using hb
          exact .inl ⟨by omega, by rw [ex, hk']; exact List.mem_cons_self⟩
        | false => rw [hb] at h2; exact .inr h2
    · rcases cells_lk r n acc h with ⟨h1, h2⟩ | h2
      · exact .inl ⟨h1, List.mem_cons_of_mem _ h2⟩
      · exact .inr h2
theorem cells_skip : ∀ (names : List (Str × NameKind)) (n : Nat) (acc : List (Str × Addr)) {x : Str}, (x, NameKind.cell) ∉ names → (cellsFrom n names acc).lookup x = acc.lookup x
  | [], _, _, _, _ => rfl
  | (y, k) :: r, n, acc, x, h => by
    unfold cellsFrom
    have hr : (x, NameKind.cell) ∉ r := fun z => h (List.mem_cons_of_mem _ z)
    split
    · rename_i hk
      have hk' : k = .cell := by simpa using hk
      rw [cells_skip r _ _ hr, List.lookup_cons]
      have hb : (x == y) = false := by
        cases hb : x == y with
        | false => rfl
        | true =>
          have ex : x = y := by simpa using hb
          exact absurd (by rw [ex, hk']; exact List.mem_cons_self) h
      rw [hb]
    · exact cells_skip r n acc hr
theorem cells_has : ∀ (names : List (Str × NameKind)) (n : Nat) (acc : List (Str × Addr)) {x : Str}, ((x, NameKind.cell) ∈ names ∨ ∃ c, acc.lookup x = some c) → ∃ c, (cellsFrom n names acc).lookup x = some c
  | [], _, _, _, h => by
    rcases h with h | h
    · cases h
    · exact h
  | (y, k) :: r, n, acc, x, h => by
    unfold cellsFrom
    split
    · rename_i hk
      refine cells_has r _ _ ?_
      by_cases hb : x = y
      · subst hb; exact .inr ⟨n, by simp [List.lookup_cons]⟩
      · rcases h with h | ⟨c, h⟩
        · rcases List.mem_cons.mp h with z | z
          · injection z with z1 _; exact absurd z1 hb
          · exact .inl z
        · exact .inr ⟨c, by rw [List.lookup_cons, show (x == y) = false by simpa using hb]; exact h⟩
    · rename_i hk
      refine cells_has r _ _ ?_
      rcases h with h | h
      · rcases List.mem_cons.mp h with z | z
        · injection z with _ z2
          rw [← z2] at hk
          exact absurd rfl hk
        · exact .inl z
      · exact .inr h
theorem cells_inj : ∀ (names : List (Str × NameKind)) (n : Nat) (acc : List (Str × Addr)), (∀ x y c, acc.lookup x = some c → acc.lookup y = some c → x = y) → (∀ x c, acc.lookup x = some c → c < n) →
    ∀ x y c, (cellsFrom n names acc).lookup x = some c → (cellsFrom n names acc).lookup y = some c → x = y
  | [], _, _, hi, _ => hi
  | (w, k) :: r, n, acc, hi, hb => by
    unfold cellsFrom
    split
    · refine cells_inj r (n + 1) _ (fun x y c h1 h2 => ?_) (fun x c h => ?_)
      · rw [List.lookup_cons] at h1 h2
        cases e1 : x == w <;> cases e2 : y == w <;> rw [e1] at h1 <;> rw [e2] at h2
        · exact hi x y c h1 h2
        · cases h2; exact absurd (hb x _ h1) (Nat.lt_irrefl _)
        · cases h1; exact absurd (hb y _ h2) (Nat.lt_irrefl _)
        · have a1 : x = w := by simpa using e1
          have a2 : y = w := by simpa using e2
          rw [a1, a2]
      · rw [List.lookup_cons] at h
        cases e1 : x == w <;> rw [e1] at h
        · exact Nat.lt_succ_of_lt (hb x c h)
        · cases h; exact Nat.lt_succ_self _
    · exact cells_inj r n acc hi hb
theorem cells_new : ∀ (names : List (Str × NameKind)) (h : Heap) (acc : List (Str × Addr)) {x : Str} {c : Addr}, (x, c) ∈ cellsFrom h.objs.size names acc → (x, c) ∈ acc ∨ (h.objs.size ≤ c ∧ (pushCells h names).IsCell c none)
  | [], _, _, _, _, hm => .inl hm
  | (y, k) :: r, h, acc, x, c, hm => by
    unfold cellsFrom at hm
    unfold pushCells
    split at hm
    · rename_i hk
      rw [if_pos hk]
      have hm' : (x, c) ∈ cellsFrom (h.push { cls := .type "cell", data := .cell none }).objs.size r ((y, h.objs.size) :: acc) := by rw [Heap.size_push]; exact hm
      rcases cells_new r _ _ hm' with z | ⟨z1, z2⟩
      · rcases List.mem_cons.mp z with z | z
        · injection z with _ z2
          subst z2
          refine .inr ⟨Nat.le_refl _, _, pushCells_keeps r _ _ _ (Heap.get?_push_size _ rfl), rfl⟩
        · exact .inl z
      · rw [Heap.size_push] at z1
        exact .inr ⟨by omega, z2⟩
    · rename_i hk
      rw [if_neg hk]
      exact cells_new r h acc hm
theorem newEnv_comp {M : Model} {A : Around} {E : Value → Shared → Prop} {s : Shared} {scope : Scope} {globals : Addr} {cl : List (Str × Addr)} {qual : Str} {env : Env} {Q : Env → Shared → Prop} (hcl : ∀ x c, (x, c) ∈ cl → c < s.heap.objs.size)
    (h : ∀ h' : Heap, h'.Ns s.heap.objs.size (fun _ => none) → (∀ b o, s.heap.get? b = some o → h'.get? b = some o) → (∀ x c, (cellsFrom (s.heap.objs.size + 1) scope.names cl).lookup x = some c → s.heap.objs.size + 1 ≤ c → h'.IsCell c none) →
      Q { scope := scope, locals := s.heap.objs.size, globals := globals, cells := cellsFrom (s.heap.objs.size + 1) scope.names cl, qual := qual, func := none, code := env.code, frame := env.frame, builtins := env.builtins } { s with heap := h' }) :
    wpAny M A (newFunctionEnv scope globals cl [] qual none .none (some env)) Q E s := by
  simp only [newFunctionEnv, Option.isSome_some, if_true]
  refine wpAny_bind (wpAny_alloc ?_)
  refine wpAny_bind (wpAny_layCells _ (fun name kind cells => by cases hkc : kind == NameKind.cell <;> simp [hkc]) _ _ _ _ ?_)
  rw [show ({ s with heap := s.heap.push { cls := .type "dict", data := .dict #[] } } : Shared).heap.objs.size = s.heap.objs.size + 1 from Heap.size_push ..]
  refine wpAny_bind ?_
  rw [List.forIn_nil]
  refine wpAny_pure (wpAny_pure (h _ ?_ (fun b o e => pushCells_keeps _ _ _ _ (Heap.get?_push_of_some _ e)) fun x c e hc => ?_))
  · refine ⟨_, #[], 0, pushCells_keeps _ _ _ _ (Heap.get?_push_size _ rfl), rfl, ?_, fun x => rfl⟩
    first | exact fun e he => by simp at he | simp
  · have hm := PySem.mem_of_lookup e
    have hm' : (x, c) ∈ cellsFrom (s.heap.push { cls := .type "dict", data := .dict #[] }).objs.size scope.names cl := by rw [Heap.size_push]; exact hm
    rcases cells_new _ _ _ hm' with z | z
    · exact absurd (Nat.lt_of_lt_of_le (hcl x c z) (Nat.le_of_succ_le hc)) (Nat.lt_irrefl _)
    · exact z.2
def compCx (X : Cx) (scope : Scope) (N : List Str) (C : Addr) (s₀ : Shared) (H₀ : Hp) (ex : List Addr) : Cx where
  prog := X.prog
  w := X.w
  K := X.K
  mg := X.mg
  base := X.base
  A := X.A
  N := N
  s₀ := s₀
  H₀ := H₀
  env := compEnvC scope (csOf scope C X.env) C X.env
  outer := X.stack
  stack := X.stack
  ex := ex
  fn := fun x => scope.names.lookup x == some .cell
  calm := X.calm
  pn := []
  xe := fun _ _ => False
theorem relabel_free {scope : Scope} {env : Env} {x : Str} {k : NameKind} (hk : k = .cell ∨ k = .free) (h : (relabel scope env).names.lookup x = some k) : (x, NameKind.free) ∈ scope.names ∨ (x, NameKind.cell) ∈ scope.names := by
  have hm : (x, k) ∈ (relabel scope env).names := PySem.mem_of_lookup h
  unfold relabel at hm
  rw [List.mem_map] at hm
  obtain ⟨⟨n, k'⟩, hn, e⟩ := hm
  dsimp only at e
  by_cases hc : (k' == NameKind.free && env.scope.kind == .function && env.kindOf n == some .cell) = true
  · rw [if_pos hc] at e
    injection e with e1 e2
    have : k' = .free := by
      rw [Bool.and_eq_true, Bool.and_eq_true] at hc
      simpa using hc.1.1
    subst this e1
    exact .inl hn
  · rw [if_neg hc] at e
    injection e with e1 e2
    subst e1 e2
    rcases hk with hk | hk
    · subst hk; exact .inr hn
    · subst hk; exact .inl hn
theorem lookup_relabel_free {env : Env} : ∀ {names : List (Str × NameKind)} {x : Str}, names.lookup x = some .free →
    (names.map fun (n, k) => if (k == NameKind.free && env.scope.kind == .function && env.kindOf n == some .cell) then (n, NameKind.cell) else (n, k)).lookup x = some .cell ∨
    (names.map fun (n, k) => if (k == NameKind.free && env.scope.kind == .function && env.kindOf n == some .cell) then (n, NameKind.cell) else (n, k)).lookup x = some .free
  | [], _, h => by simp at h
  | (n, k) :: r, x, h => by
    have ih := @lookup_relabel_free env r x
    rw [List.map_cons]
    dsimp only
    cases hx : x == n with
    | true =>
      simp only [List.lookup_cons, hx] at h
      cases h
      by_cases hc : (NameKind.free == NameKind.free && env.scope.kind == .function && env.kindOf n == some .cell) = true
      · rw [if_pos hc]; left; simp [List.lookup_cons, hx]
      · rw [if_neg hc]; right; simp [List.lookup_cons, hx]
    | false =>
      simp only [List.lookup_cons, hx] at h
      by_cases hc : (k == NameKind.free && env.scope.kind == .function && env.kindOf n == some .cell) = true
      · rw [if_pos hc]; simp only [List.lookup_cons, hx]; exact ih h
      · rw [if_neg hc]; simp only [List.lookup_cons, hx]; exact ih h
section
variable {X : Cx} {pins : List (Addr × Obj)} {σ : St} {H : Hp} {s : Shared} {scope : Scope} {N : List Str} {caps : List (Option Nat)} {fp : List Addr}
theorem comp_start {h1 : Heap} {tk : Nat} (I : Inv X pins σ H s) (O : CompOk scope X.env.scope X.N N caps) (f2 : ∀ b ∈ fp, FpOk X pins H b) (hob : ∀ b ∈ fp, b < s.heap.objs.size)
    (hns : h1.Ns (s.heap.objs.size + 1) (fun _ => none)) (hD : h1.get? s.heap.objs.size = some { cls := .type "list", data := .seq #[] }) (old : ∀ b o, s.heap.get? b = some o → h1.get? b = some o)
    (hnew : ∀ x c, (csOf scope (s.heap.objs.size + 1) X.env).lookup x = some c → s.heap.objs.size + 1 + 1 ≤ c → h1.IsCell c none) :
    Inv (compCx X scope N (s.heap.objs.size + 1) s H fp) [(s.heap.objs.size, { cls := .type "list", data := .seq #[] })] (capS caps σ) H { s with heap := h1, toks := tk } := by
  have sub : ∀ b ∈ frs X.stack, b < s.heap.objs.size := fun b hb => by
    obtain ⟨_, o, ho, _⟩ := I.stack.mem hb
    exact Heap.lt_size ho
  have cellLt : ∀ x c, X.env.cells.lookup x = some c → c < s.heap.objs.size := fun x c e => by
    obtain ⟨v, o, ho, _⟩ := I.cell x c e
    exact Heap.lt_size ho
  have cl : ∀ x c, (csOf scope (s.heap.objs.size + 1) X.env).lookup x = some c → (s.heap.objs.size + 1 + 1 ≤ c ∧ (x, NameKind.cell) ∈ scope.names) ∨ X.env.cells.lookup x = some c := fun x c e => by
    rcases cells_lk _ _ _ e with z | z
    · exact .inl z
    · exact .inr (lookup_clOf z)
  have freeHas : ∀ x, (x, NameKind.free) ∈ scope.names → ∃ c, X.env.cells.lookup x = some c := fun x hm => by
    rcases (O.free _ hm rfl).2 with q | q
    · exact I.ok.has x (.inl q)
    · exact I.ok.has x (.inr q)
  have notOwn : ∀ x, (x, NameKind.free) ∈ scope.names → (x, NameKind.cell) ∉ scope.names := fun x hm hc => by
    have h1 := (O.free _ hm rfl).1
    have h2 := O.own _ hc rfl
    dsimp only at h1 h2
    rw [h1] at h2
    cases h2
  refine ⟨⟨I.ok.mod, O.kind, I.ok.glob, I.ok.blt, Nat.le_succ _, fun x y c h1 h2 => ?_, fun x hx => ?_, fun x c hf e => ?_, I.ok.hd, I.ok.frames, .inl rfl, fun b hb => ⟨Nat.ne_of_lt (Nat.lt_succ_of_lt (hob b hb)), fun x c e => ?_⟩, I.bs, ?_, fun b o e hb => ?_, fun b hb hfs => ?_, I.stack, I.stkFree⟩,
    rfl, I.bare, Un.kept old, ⟨_, hns, fun i x v e1 e2 e3 => ?_⟩, fun x c e => ?_, I.hok.fresh (Nat.le_succ _), fun x c e => ?_, fun p hp => ?_, I.hok.kept old, ?_⟩
  · exact cells_inj scope.names _ (clOf scope X.env) (fun x y c a b => I.ok.inj x y c (lookup_clOf a) (lookup_clOf b)) (fun x c a => Nat.lt_succ_of_lt (Nat.lt_succ_of_lt (cellLt x c (lookup_clOf a)))) x y c h1 h2
  · have hm : (x, NameKind.free) ∈ scope.names ∨ (x, NameKind.cell) ∈ scope.names := by
      rcases hx with hx | hx
      · exact relabel_free (.inl rfl) hx
      · exact relabel_free (.inr rfl) hx
    rcases hm with hm | hm
    · obtain ⟨c, hc⟩ := freeHas x hm
      exact cells_has _ _ _ (.inr ⟨c, clOf_has hm hc⟩)
    · exact cells_has _ _ _ (.inl hm)
  · have hf' : scope.names.lookup x = some .cell := by simpa [compCx] using hf
    rcases cl x c e with z | z
    · exact Nat.le_of_lt (Nat.lt_of_lt_of_le (Nat.lt_succ_of_lt (Nat.lt_succ_self _)) z.1)
    · exfalso
      have hm := PySem.mem_of_lookup hf'
      rcases cells_lk _ _ _ e with w | w
      · exact absurd (Nat.lt_of_lt_of_le (cellLt x c z) (Nat.le_trans (Nat.le_succ_of_le (Nat.le_succ _)) w.1)) (Nat.lt_irrefl _)
      · have hmem := mem_clOf_free (PySem.mem_of_lookup w)
        exact notOwn x hmem hm
  · rcases cl x c e with z | z
    · exact fun w => absurd (Nat.lt_of_lt_of_le (hob b hb) (Nat.le_trans (Nat.le_succ_of_le (Nat.le_succ _)) (w ▸ z.1))) (Nat.lt_irrefl _)
    · exact (f2 b hb).2.2.2.2.1 x c z
  · exact Nat.le_trans I.ok.bsz I.sz
  · rcases (f2 b hb).2.2.2.1 with z | z
    · exact I.ok.noex b o e z
    · exact absurd (Nat.lt_of_lt_of_le (Heap.lt_size (I.ok.bs b o e).1) z) (Nat.lt_irrefl _)
  · rcases List.mem_cons.mp (I.stkSub b hfs) with z | z
    · exact (f2 b hb).2.1 z
    · exact (f2 b hb).2.2.1 z
  · -- a captured name
    have hi : i < caps.length := by
      have := (List.getElem?_eq_some_iff.mp e2).1
      unfold capS at this
      rwa [List.length_map] at this
    have hcap : ∃ j, caps[i]? = some (some j) ∧ σ[j]? = some (some v) := by
      unfold capS at e2
      rw [List.getElem?_map] at e2
      cases q : caps[i]? with
      | none => rw [q] at e2; cases e2
      | some o =>
        rw [q] at e2
        have e2' : (o.bind fun i => (σ[i]?).bind id) = some v := Option.some.inj e2
        cases o with
        | none => cases e2'
        | some j =>
          refine ⟨j, rfl, ?_⟩
          cases q2 : σ[j]? with
          | none => rw [Option.bind_some, q2] at e2'; cases e2'
          | some o2 =>
            rw [Option.bind_some, q2] at e2'
            cases o2 with
            | none => cases e2'
            | some v2 => cases e2'; rfl
    obtain ⟨j, hj, hv⟩ := hcap
    have hN : N[i]? = some x := e1
    have hz : (some j, x) ∈ caps.zip N := by
      have : (caps.zip N)[i]? = some (some j, x) := by
        rw [List.getElem?_zip_eq_some]
        exact ⟨hj, hN⟩
      exact List.mem_of_getElem? this
    obtain ⟨hX, hf⟩ := O.cap _ hz j rfl
    have hm : (x, NameKind.free) ∈ scope.names := PySem.mem_of_lookup hf
    have hvis : Vis X.env.scope x := by
      rcases (O.free _ hm rfl).2 with q | q
      · exact .inr (.inl q)
      · exact .inr (.inr q)
    obtain ⟨m, hn, hl⟩ := I.loc
    obtain ⟨u, r, l⟩ := hl j x v hX hv hvis
    refine ⟨u, r, ?_⟩
    rcases l with ⟨k, _⟩ | ⟨_, c, e, ⟨o, ho, hd⟩⟩
    · exfalso
      rcases (O.free _ hm rfl).2 with q | q
      · have : X.env.scope.names.lookup x = some .local := k
        rw [q] at this; cases this
      · have : X.env.scope.names.lookup x = some .local := k
        rw [q] at this; cases this
    · have hk2 : (compCx X scope N (s.heap.objs.size + 1) s H fp).env.kindOf x = some .cell ∨ (compCx X scope N (s.heap.objs.size + 1) s H fp).env.kindOf x = some .free := lookup_relabel_free hf
      exact .inr ⟨hk2, c, (cells_skip _ _ _ (notOwn x hm)).trans (clOf_has hm e), ⟨o, old c o ho, hd⟩⟩
  · rcases cl x c e with z | z
    · exact ⟨none, hnew x c e z.1⟩
    · obtain ⟨v, o, ho, hd⟩ := I.cell x c z
      exact ⟨v, o, old c o ho, hd⟩
  · rcases cl x c e with z | z
    · exact I.hok.fresh (Nat.le_trans (Nat.le_succ_of_le (Nat.le_succ _)) z.1)
    · exact I.freeC x c z
  · have e : p = (s.heap.objs.size, { cls := .type "list", data := .seq #[] }) := by simpa [compCx] using hp
    subst e
    refine ⟨hD, I.hok.fresh (Nat.le_refl _), Nat.ne_of_lt (Nat.lt_succ_self _), fun hb => absurd (sub _ hb) (Nat.lt_irrefl _), fun v z => by cases z⟩
  · show (capS caps σ).length = N.length
    unfold capS
    rw [List.length_map]
    exact O.len
end
end L2
namespace L2
open PySem PySem.Spec PyProof.Rows
def PTs (X : Cx) (ifs : List Expr) (t : TT) : Prop :=
  ∀ (pins : List (Addr × Obj)) (s : Shared) (σ : St) (H : Hp) (Q : Bool → Hp → Prop), Inv X pins σ H s → t σ H Q →
    wpAny (model X.prog X.w) X.A (forIn ifs true fun c r => if r = true then do let ok ← isTrue c X.env (eval c X.env); pure (ForInStep.yield ok) else pure (ForInStep.yield r)) (TP X pins σ Q) X.xe s
def tTrue : TT := fun _ H Q => Q true H
theorem pts_nil {X : Cx} : PTs X [] tTrue := fun _ _ _ H _ I h => wpAny_tests_nil ⟨H, I, h⟩
theorem pts_one {X : Cx} {c : Expr} {t : TT} (h : PT X c t) : PTs X [c] t := fun pins s σ H Q I hw => wpAny_tests_one (h pins s σ H Q I hw)
section
variable {prog : Program} {w : World} {A : Around} {R : Result → Shared → Prop} {s : Shared}
theorem comp_loop {elt target iter : Expr} {ifs : List Expr} {scope : Scope} {pos : Pos} {it acc : Value} {env : Env} (I : Nat → Shared → Prop)
    (turn : ∀ n s, I n s → wpAny (model prog w) A (pyNext it) (fun r s₁ => match r with
      | none => R (.ok .next) s₁
      | some v => wpAny (model prog w) A (letOwnedTupleGo target it v) (fun _ s₀ => wpAny (model prog w) A (assign target env v) (fun _ s₂ =>
          wpAny (model prog w) A (forIn ifs true fun c r => if r = true then do let ok ← isTrue c env (eval c env); pure (ForInStep.yield ok) else pure (ForInStep.yield r)) (fun ok s₃ =>
            if ok = true then wpAny (model prog w) A (eval elt env) (fun x s₄ =>
              wpAny (model prog w) A (call (.builtin "list.append") [acc, x]) (fun _ s₅ => ∃ m, m < n ∧ I m s₅) (fun _ _ => False) s₄) (fun _ _ => False) s₃
            else ∃ m, m < n ∧ I m s₃) (fun _ _ => False) s₂) (fun _ _ => False) s₀) (fun _ _ => False) s₁) (fun _ _ => False) s)
    (n : Nat) (h : I n s) : codeAny (model prog w) A (.compLoop (.ListComp elt [⟨target, iter, ifs, 0⟩] scope pos) 0 it acc env) R s := by
  refine codeAny_loop rfl I (fun n s hI => ?_) n h
  show wpAny _ A ((compTurn (.ListComp elt [⟨target, iter, ifs, 0⟩] scope pos) 0 it acc env).onRaise (fun x => do noteFrame x env; theTreesLotGoes x)) _ _ s
  refine wpAny_noted (wpAny_noRaise ?_)
  rw [compTurn_list]
  refine wpAny_bind (wpAny_standAt (wpAny_bind (thn (turn n s hI) fun r s₁ h₁ => ?_)))
  cases r with
  | none => exact wpAny_pure h₁
  | some v =>
    refine wpAny_bind (thn h₁ fun _ s₀ h₀ => ?_)
    refine wpAny_bind (thn h₀ fun _ s₂ h₂ => wpAny_bind (thn h₂ fun ok s₃ h₃ => ?_))
    cases ok with
    | false => exact wpAny_pure ⟨rfl, h₃⟩
    | true => exact wpAny_bind (wpAny_bind (thn h₃ fun x s₄ h₄ => wpAny_bind (thn h₄ fun _ s₅ h₅ => wpAny_pure (wpAny_pure ⟨rfl, h₅⟩))))
end
def Keep (caps : List (Option Nat)) (σ σ' : St) : Prop := ∀ (j : Nat) (v : V), (capS caps σ)[j]? = some (some v) → σ'[j]? = some (some v)
def GK (caps : List (Option Nat)) (g : TG) : Prop := ∀ σ σ1 x H (Q : St → Hp → Prop), Keep caps σ σ1 → g x σ1 H Q → g x σ1 H fun σ2 H2 => Keep caps σ σ2 ∧ Q σ2 H2
def GKs (caps : List (Option Nat)) (g : TGs) : Prop := ∀ σ σ1 xs H (Q : St → Hp → Prop), Keep caps σ σ1 → g xs σ1 H Q → g xs σ1 H fun σ2 H2 => Keep caps σ σ2 ∧ Q σ2 H2
theorem Keep.set {caps : List (Option Nat)} {σ σ' : St} {i : Nat} {x : Option V} (k : Keep caps σ σ') (h : caps[i]? = some none) : Keep caps σ (σ'.set i x) := fun j v e => by
  by_cases hj : i = j
  · subst hj
    unfold capS at e
    rw [List.getElem?_map, h] at e
    cases e
  · rw [List.getElem?_set_ne hj]
    exact k j v e
theorem gk_name {caps : List (Option Nat)} {i : Nat} (h : caps[i]? = some none) : GK caps (gName i) := fun _ _ _ _ _ k q => ⟨k.set h, q⟩
theorem gks_nil {caps : List (Option Nat)} : GKs caps gNil := fun _ _ _ _ _ k q => ⟨q.1, k, q.2⟩
theorem gks_cons {caps : List (Option Nat)} {t : TG} {u : TGs} (mono : ∀ x σ H (Q Q' : St → Hp → Prop), (∀ σ H, Q σ H → Q' σ H) → t x σ H Q → t x σ H Q') (h1 : GK caps t) (h2 : GKs caps u) : GKs caps (gCons t u) := fun σ σ1 xs H Q k q => by
  obtain ⟨v, r, e, q⟩ := q
  refine ⟨v, r, e, ?_⟩
  exact mono _ _ _ _ _ (fun σ2 H2 ⟨k2, q2⟩ => h2 σ σ2 r H2 Q k2 q2) (h1 σ σ1 v H _ k q)
theorem gName_mono {i : Nat} : ∀ x σ H (Q Q' : St → Hp → Prop), (∀ σ H, Q σ H → Q' σ H) → gName i x σ H Q → gName i x σ H Q' := fun _ _ _ _ _ h q => h _ _ q
theorem gk_tup {K : PySem.W.Frag} {caps : List (Option Nat)} {n : Nat} {t : TGs} (h : GKs caps t) : GK caps (gTup K n t) := fun σ σ1 x H Q k q => by
  obtain ⟨a, xs, e, hq, hl, q⟩ := q
  exact ⟨a, xs, e, hq, hl, h σ σ1 xs H Q k q⟩
def lstO (its : List Value) (n : Nat) : Obj := { cls := .type "list", data := .seq its.toArray n }
def tCompK (caps : List (Option Nat)) (g : TG) (tt : TT) (te : TE) (σ : St) (QQ : List V → Hp → Prop) (J : It) (H1 : Hp) : Prop :=
  ∃ W : Nat → Nat → List V → Hp → Prop, (∃ m, W 0 m [] H1) ∧ ∀ i m ys H, W i m ys H →
    (J.stop i H ∧ QQ ys H) ∨ (J.go i H ∧ ∃ N : List V → Hp → Prop, (∀ ys' H', N ys' H' → ∃ m', m' < m ∧ W (i + 1) m' ys' H') ∧
      ∀ x H', J.yld i H x H' → g x (capS caps σ) H' fun σ2 H2 => tt σ2 H2 fun b H3 => if b = true then te σ2 H3 fun y H4 => ys.length < sizeLine ∧ N (ys ++ [y]) H4 else N ys H3)
def tComp (caps : List (Option Nat)) (wi : TI) (g : TG) (tt : TT) (te : TE) : TE := fun σ H Q =>
  wi σ H (tCompK caps g tt te σ fun ys H' => ∀ D, H' D = none → Q (.ref D) (upd H' D (.lst ys)))
section
variable {X : Cx} {pins : List (Addr × Obj)} {σ : St} {scope : Scope} {N : List Str} {caps : List (Option Nat)} {fp : List Addr}
theorem comp_end {H H' : Hp} {s s' : Shared} {σ' : St} {its : List Value} {n : Nat} {ys : List V} (I : Inv X pins σ H s) (f2 : ∀ b ∈ fp, FpOk X pins H b)
    (J : Inv (compCx X scope N (s.heap.objs.size + 1) s H fp) [(s.heap.objs.size, lstO its n)] σ' H' s') (hv : Vals ys its) (hz : ys.length ≤ sizeLine) :
    Inv X pins σ (upd H' s.heap.objs.size (.lst ys)) s' ∧ H' s.heap.objs.size = none ∧ H' (s.heap.objs.size + 1) = none := by
  have hpin := J.pin (s.heap.objs.size, lstO its n) (List.mem_append_right _ (List.mem_singleton.mpr rfl))
  obtain ⟨hD, hDn, hDC, _, _⟩ := hpin
  have hD0 : H s.heap.objs.size = none := I.hok.fresh (Nat.le_refl _)
  have ltD : ∀ b o, s.heap.get? b = some o → b ≠ s.heap.objs.size := fun b o e => Nat.ne_of_lt (Heap.lt_size e)
  refine ⟨I.call' (ch := fp) J.os ⟨J.base.keep, J.base.slot, fun b o e n' hx => ?_, J.base.there, fun b xs e => ?_, fun b o u e => ?_, fun b ps e => ?_⟩ (fun a o e => ?_) J.bare (fun b hb => ?_), hDn, J.free⟩
  · rw [upd_ne (ltD b o e)]; exact J.base.free b o e n' hx
  · rw [upd_ne (ne_of_none e hD0)]; exact J.base.tups b xs e
  · rw [upd_ne (ne_of_none e hD0)]; exact J.base.frzs b o u e
  · rw [upd_ne (ne_of_none e hD0)]; exact J.base.tbls b ps e
  · by_cases ha : a = s.heap.objs.size
    · subst ha
      rw [upd_same] at e
      cases e
      exact ⟨hz, its, n, hv, hD⟩
    · rw [upd_ne ha] at e
      exact (J.hok a o e).stay (fun b u _ q => q) (fun b q => by rw [upd_ne (ne_of_none q hDn)]; exact q) fun b xs q => by rw [upd_ne (ne_of_none q hDn)]; exact q
  · obtain ⟨_, h1, _, h3, h4, h5⟩ := f2 b hb
    exact ⟨h3, h1, h4, h5⟩
theorem comp_block {elt tg iter : Expr} {ifs : List Expr} {pos : Pos} {g : TG} {tt : TT} {te : TE} {QQ : List V → Hp → Prop} {R : Value → Addr → Result → Shared → Prop} {itv : Value} {s2 : Shared} (hc : X.calm = true) (O : CompOk scope X.env.scope X.N N caps) (gk : GK caps g)
    (hg : ∀ C s H fp, PG (compCx X scope N C s H fp) tg g) (ht : ∀ C s H fp, PTs (compCx X scope N C s H fp) ifs tt) (he : ∀ C s H fp, PE (compCx X scope N C s H fp) elt te)
    (h2 : PIE X pins σ tg (tCompK caps g tt te σ QQ) itv s2)
    (fin : ∀ (D C : Addr) (s' : Shared) (H' : Hp) (ys : List V) (m : Str → Option Value), Inv X pins σ (upd H' D (.lst ys)) s' → s'.heap.Ns C m → H' D = none → H' C = none → C ≠ D → X.s₀.heap.objs.size ≤ C → C ≠ X.env.locals → (∀ x c, X.env.cells.lookup x = some c → c ≠ C) → (∀ p ∈ X.pn ++ pins, p.1 ≠ C) →
      QQ ys H' → R (.ref D) C (.ok .next) s') :
    wpAny (model X.prog X.w) X.A (newList []) (fun acc s₃ => wpAny (model X.prog X.w) X.A (newFunctionEnv scope X.env.globals (clOf scope X.env) [] X.env.qual none .none (some X.env)) (fun cenv s₄ =>
      codeAny (model X.prog X.w) X.A (.compStart (.ListComp elt [⟨tg, iter, ifs, 0⟩] scope pos) 0 itv acc { cenv with scope := relabel scope X.env }) (R acc cenv.locals) s₄) X.xe s₃) X.xe s2 := by
  obtain ⟨it, fp, tn, J, H2, e, I2, T, st2, f2, W, ⟨m0, w0⟩, turn⟩ := h2
  subst e
  have cellLt : ∀ x c, X.env.cells.lookup x = some c → c < s2.heap.objs.size := fun x c e => by
    obtain ⟨v, o, ho, _⟩ := I2.cell x c e
    exact Heap.lt_size ho
  refine wpAny_newObj_type (newEnv_comp (fun x c hm => by rw [Heap.size_push]; exact Nat.lt_succ_of_lt (cellLt x c (mem_clOf hm))) (fun h₁ hns₁ hsb₁ hnew₁ => ?_))
  dsimp only at hns₁ hsb₁ hnew₁ ⊢
  have hob : ∀ b ∈ fp, b < s2.heap.objs.size := fun b hb => by
    obtain ⟨o, ho, _⟩ := T.obj _ _ st2 b hb
    exact Heap.lt_size ho
  generalize hH2 : s2.heap.push { cls := .type "list", dict := none, data := .seq ([] : List Value).toArray } = G2 at hns₁ hsb₁ hnew₁ ⊢
  have hC : G2.objs.size = s2.heap.objs.size + 1 := by rw [← hH2, Heap.size_push]
  rw [hC] at hns₁ hnew₁ ⊢
  have old : ∀ b o, s2.heap.get? b = some o → h₁.get? b = some o := fun b o e => hsb₁ b o (hH2 ▸ Heap.get?_push_of_some _ e)
  have hD : h₁.get? s2.heap.objs.size = some { cls := .type "list", data := .seq #[] } := hsb₁ _ _ (hH2 ▸ Heap.get?_push_size _ rfl)
  have I0 := comp_start (scope := scope) (N := N) (caps := caps) (fp := fp) (tk := s2.toks) I2 O f2 hob hns₁ hD old hnew₁
  have st0 : tn 0 h₁ := T.keep _ _ _ st2 fun b _ o e => old b o e
  have f0 : ∀ {pins' : List (Addr × Obj)} {H' : Hp}, (∀ p ∈ pins', p.1 = s2.heap.objs.size) → (∀ b ∈ fp, H' b = none) → ∀ b ∈ fp, FpOk (compCx X scope N (s2.heap.objs.size + 1) s2 H2 fp) pins' H' b := fun {pins' H'} hp hn b hb => by
    obtain ⟨_, k1, k2, k3, k4, k5⟩ := f2 b hb
    refine ⟨hn b hb, Nat.ne_of_lt (Nat.lt_succ_of_lt (hob b hb)), fun hm => ?_, .inl hb, fun x c e => by
      rcases cells_lk _ _ _ e with z | z
      · exact fun w => absurd (Nat.lt_of_lt_of_le (hob b hb) (Nat.le_trans (Nat.le_succ_of_le (Nat.le_succ _)) (w ▸ z.1))) (Nat.lt_irrefl _)
      · exact k4 x c (lookup_clOf z), fun p hm => ?_⟩
    · rcases List.mem_cons.mp (I2.stkSub b hm) with z | z
      · exact k1 z
      · exact k2 z
    · have q := hp p (by simpa [compCx] using hm)
      rw [q]
      exact Nat.ne_of_gt (hob b hb)
  have loop : codeAny (model X.prog X.w) X.A (.compLoop (.ListComp elt [⟨tg, iter, ifs, 0⟩] scope pos) 0 (.ref it) (.ref s2.heap.objs.size) (compCx X scope N (s2.heap.objs.size + 1) s2 H2 fp).env)
      (R (.ref s2.heap.objs.size) (s2.heap.objs.size + 1)) { s2 with heap := h₁ } := by
    refine comp_loop (fun n s' => ∃ i ys its k H', Inv (compCx X scope N (s2.heap.objs.size + 1) s2 H2 fp) [(s2.heap.objs.size, lstO its k)] (capS caps σ) H' s' ∧ Vals ys its ∧ ys.length ≤ sizeLine ∧ tn i s'.heap ∧ (∀ b ∈ fp, H' b = none) ∧ W i n ys H')
      ?_ m0 ⟨0, [], [], 0, H2, I0, .nil, Nat.zero_le _, st0, fun b hb => (f2 b hb).1, w0⟩
    rintro n s3 ⟨i, ys, its, k, H3, I3, v3, z3, st3, fr3, w3⟩
    have one : ∀ p ∈ [(s2.heap.objs.size, lstO its k)], p.1 = s2.heap.objs.size := fun p hp => by rw [List.mem_singleton.mp hp]
    rcases turn i n ys H3 w3 with ⟨stop, qn⟩ | ⟨go, M, hM, step⟩
    · refine thn (T.done (compCx X scope N (s2.heap.objs.size + 1) s2 H2 fp) rfl rfl rfl hc i _ s3 _ H3 _ I3 (f0 one fr3) st3 stop) fun r s4 ⟨hr, I4⟩ => ?_
      subst hr
      obtain ⟨E1, E2, E3⟩ := comp_end I2 f2 I4 v3 z3
      obtain ⟨m, hm, _⟩ := I4.loc
      refine fin _ _ s4 H3 ys m E1 hm E2 E3 (Nat.ne_of_gt (Nat.lt_succ_self _)) (Nat.le_succ_of_le I2.sz) (Nat.ne_of_gt (Nat.lt_succ_of_lt I2.lt)) (fun x c e => ?_) (fun p hp => ?_) qn
      · obtain ⟨v, o, ho, _⟩ := I2.cell x c e
        exact Nat.ne_of_lt (Nat.lt_succ_of_lt (Heap.lt_size ho))
      · exact Nat.ne_of_lt (Nat.lt_succ_of_lt (Heap.lt_size (I2.pin p hp).1))
    · refine thn (T.item (compCx X scope N (s2.heap.objs.size + 1) s2 H2 fp) rfl rfl rfl hc i _ s3 _ H3 _ I3 (f0 one fr3) st3 go) fun r s4 ⟨u, hr, h4⟩ => ?_
      subst hr
      refine thn h4 fun _ s5 ⟨x, H5, I5, r5, y5, st5, fr5⟩ => ?_
      have I5' := I5.pinned (f0 one fr5) (T.obj _ _ st5)
      refine thn (hg _ _ _ _ _ s5 _ H5 x u _ I5' r5 (gk σ _ x H5 _ (fun _ _ e => e) (step x H5 y5))) fun _ s6 ⟨σ6, H6, I6, kp, q6⟩ => ?_
      refine thn (ht _ _ _ _ _ s6 σ6 H6 _ I6 q6) fun ok s7 ⟨H7, I7, q7⟩ => ?_
      have back : ∀ {σ8 : St} {H8 : Hp} {s8 : Shared} {ys' : List V}, Inv (compCx X scope N (s2.heap.objs.size + 1) s2 H2 fp) ([(s2.heap.objs.size, lstO its k)] ++ pinsAt fp s5.heap) σ8 H8 s8 → M ys' H8 →
          tn (i + 1) s8.heap ∧ (∀ b ∈ fp, H8 b = none) ∧ ∃ m', m' < n ∧ W (i + 1) m' ys' H8 := fun {σ8 H8 s8 ys'} I8 m8 => by
        refine ⟨T.keep _ _ _ st5 fun b hb o e => (I8.pin (b, o) (List.mem_append_right _ (List.mem_append_right _ (mem_pinsAt hb e)))).1, fun b hb => ?_, hM _ _ m8⟩
        obtain ⟨o, e, d⟩ := T.obj _ _ st5 b hb
        exact (I8.pin (b, o) (List.mem_append_right _ (List.mem_append_right _ (mem_pinsAt hb e)))).2.1
      have hlen : (capS caps σ).length = σ6.length := by rw [I6.len]; exact I3.len
      cases ok with
      | false =>
        have q7' : M ys H7 := q7
        obtain ⟨b1, b2, m', hm', w'⟩ := back I7 q7'
        exact ⟨m', hm', i + 1, ys, its, k, H7, (I7.weak hlen kp).unpinned, v3, z3, b1, b2, w'⟩
      | true =>
        have q7' : te σ6 H7 fun y H4 => ys.length < sizeLine ∧ M (ys ++ [y]) H4 := q7
        refine thn (he _ _ _ _ _ s7 σ6 H7 _ I7 q7') fun v8 s8 ⟨y, H8, I8, r8, hlt, m8⟩ => ?_
        obtain ⟨b1, b2, m', hm', w'⟩ := back I8 m8
        have hpin := I8.pin (s2.heap.objs.size, lstO its k) (List.mem_append_right _ (List.mem_append_left _ (List.mem_singleton.mpr rfl)))
        obtain ⟨e8, hDn, hDL, hDf, _⟩ := hpin
        have hl8 := v3.length
        refine call_meets F.slot_list_append ⟨_, e8, rfl⟩ F.entry_list_append (F.args_list_append_2 _ _) (PySem.list_append s2.heap.objs.size its.toArray k v8 (by rw [List.size_toArray]; omega)) ⟨e8, ?_⟩
        have q := PySem.IsL.update e8 (·.push v8)
        rw [show its.toArray.push v8 = (its ++ [v8]).toArray by simp] at q
        obtain ⟨k', q⟩ : ∃ k', (s8.heap.update s2.heap.objs.size (Obj.mapSeq (·.push v8))).get? s2.heap.objs.size = some (lstO (its ++ [v8]) k') := ⟨_, q⟩
        have I9 : Inv (compCx X scope N (s2.heap.objs.size + 1) s2 H2 fp) [] (capS caps σ) H8 s8 := (I8.weak hlen kp).pins_of (pins' := []) fun p hp => nomatch hp
        have I10 := I9.turned (h' := s8.heap.update s2.heap.objs.size (Obj.mapSeq (·.push v8))) (t' := s8.toks) (it := s2.heap.objs.size) (fun b o hb e => (Heap.get?_update_other s8.heap _ (Ne.symm hb)).trans e) hDn hDL (.inr (Nat.le_refl _))
          (fun x c e z => by
            rcases cells_lk _ _ _ e with w | w
            · exact absurd (Nat.lt_of_lt_of_le (Nat.lt_succ_of_lt (Nat.lt_succ_self _)) (z ▸ w.1)) (Nat.lt_irrefl _)
            · exact absurd (cellLt x c (lookup_clOf w)) (by rw [z]; exact Nat.lt_irrefl _)) (fun p hp => nomatch hp)
        refine ⟨m', hm', i + 1, ys ++ [y], its ++ [v8], k', H8, I10.pins_of fun p hp => ?_, v3.append (.cons r8 .nil), by rw [List.length_append, List.length_singleton]; omega, T.keep _ _ _ b1 fun b hb o e => ?_, b2, w'⟩
        · rw [List.mem_singleton.mp hp]
          exact ⟨q, hDn, hDL, hDf, fun v z => by cases z⟩
        · exact (Heap.get?_update_other s8.heap _ (Nat.ne_of_gt (hob b hb))).trans e
  exact codeAny_compStart_list loop (T.self _ _ _ _ _ st0 loop)
theorem pe_comp {elt tg iter : Expr} {ifs : List Expr} {pos : Pos} {wi : TI} {g : TG} {tt : TT} {te : TE} (hc : X.calm = true) (O : CompOk scope X.env.scope X.N N caps) (gk : GK caps g) (hi : PI X tg iter wi)
    (hg : ∀ C s H fp, PG (compCx X scope N C s H fp) tg g) (ht : ∀ C s H fp, PTs (compCx X scope N C s H fp) ifs tt) (he : ∀ C s H fp, PE (compCx X scope N C s H fp) elt te)
    (hs : ∀ x, foldedSetIterable iter X.env x = pure x := by intro _; rfl) : PE X (.ListComp elt [⟨tg, iter, ifs, 0⟩] scope pos) (tComp caps wi g tt te) := by
  intro pins s σ H Q I h
  rw [eval_ListComp]
  have hcl : closureFor scope X.env = pure (clOf scope X.env) := clos_ok fun x hx hf => by
    rcases (O.free x hx hf).2 with q | q
    · exact I.ok.has x.1 (.inl q)
    · exact I.ok.has x.1 (.inr q)
  refine wpAny_comprehension_free (use := none) rfl hs hcl O.kind O.loc (thn (hi pins s σ H _ I h) fun v s1 h1 => thn h1 fun itv s2 h2 => ?_)
  refine comp_block (R := fun acc C => compPost (model X.prog X.w) X.A X.xe none (EP X pins σ Q) acc C) hc O gk hg ht he h2 ?_
  intro D C s' H' ys m E1 hm E2 E3 hCD hC0 hCL hCc hCp qq
  refine ⟨m, hm, fun h' hs' => ?_⟩
  have I9 := E1.turned (h' := h') (t' := s'.toks) (it := C) (fun b o hb e => hs'.extBut b o hb e) (by rw [upd_ne hCD]; exact E3) hCL (.inr hC0) hCc hCp
  exact ⟨.ref D, _, I9, rfl, qq D E2⟩
def tSetComp (i : Nat) (caps : List (Option Nat)) (wi : TI) (g : TG) (tt : TT) (te : TE) : TS := fun D σ H =>
  wi σ H (tCompK caps g tt te σ fun ys H' => ∀ d, H' d = none → D.nx (σ.set i (some (.ref d))) (upd H' d (.lst ys)))
theorem ps_setComp {i : Nat} {y : Str} {py spos : Pos} {elt tg iter : Expr} {ifs : List Expr} {pos : Pos} {wi : TI} {g : TG} {tt : TT} {te : TE} (hN : X.N.Nodup) (hy : X.N[i]? = some y) (hl : X.env.scope.names.lookup y = some .local)
    (hsw : swapsWith (.ListComp elt [⟨tg, iter, ifs, 0⟩] scope pos) (some (.Name y py)) spos.line X.env = pure true)
    (hc : X.calm = true) (O : CompOk scope X.env.scope X.N N caps) (gk : GK caps g) (hi : PI X tg iter wi)
    (hg : ∀ C s H fp, PG (compCx X scope N C s H fp) tg g) (ht : ∀ C s H fp, PTs (compCx X scope N C s H fp) ifs tt) (he : ∀ C s H fp, PE (compCx X scope N C s H fp) elt te)
    (hs : ∀ x, foldedSetIterable iter X.env x = pure x := by intro _; rfl) : PS X (.Assign [.Name y py] (.ListComp elt [⟨tg, iter, ifs, 0⟩] scope pos) spos) (tSetComp i caps wi g tt te) := by
  intro pins s σ H D I h
  rw [exec_Assign_Name_used _ _ _ _ hsw]
  refine wpAny_bind (wpAny_standAt (wpAny_bind ?_))
  show wpAny _ X.A (do let _ ← comprehension (.ListComp elt [⟨tg, iter, ifs, 0⟩] scope pos) scope X.env _ (newList []) false (eval iter X.env) (some (assign (.Name y py) X.env))) _ _ s
  have hcl : closureFor scope X.env = pure (clOf scope X.env) := clos_ok fun x hx hf => by
    rcases (O.free x hx hf).2 with q | q
    · exact I.ok.has x.1 (.inl q)
    · exact I.ok.has x.1 (.inr q)
  refine wpAny_bind (thn (wpAny_comprehension_free (use := some (assign (.Name y py) X.env)) (Q := fun _ s' => SP X pins D .next s') rfl hs hcl O.kind O.loc
    (thn (hi pins s σ H _ I h) fun v s1 h1 => thn h1 fun itv s2 h2 => ?_)) fun _ s' hq => wpAny_pure (wpAny_pure hq))
  refine comp_block (R := fun acc C => compPost (model X.prog X.w) X.A X.xe (some (assign (.Name y py) X.env)) (fun _ s' => SP X pins D .next s') acc C) hc O gk hg ht he h2 ?_
  intro d C s' H' ys m E1 hm E2 E3 hCD hC0 hCL hCc hCp qq
  show wpAny _ X.A (assign (.Name y py) X.env (.ref d)) _ _ _
  refine wpAny_assign_Name (store_ok2 (v := .ref d) E1 hN hy (.inl hl) rfl (fun s'' I'' ⟨a, hs'', ha⟩ => ?_) (.inr hl))
  have hCa : C ≠ a := by
    rcases ha with z | z
    · rw [z]; exact hCL
    · exact fun q => hCc y a z q.symm
  refine ⟨m, hm.sameBut hs'' hCa, fun h' hs' => ?_⟩
  have I9 := I''.turned (h' := h') (t' := s''.toks) (it := C) (fun b o hb e => hs'.extBut b o hb e) (by rw [upd_ne hCD]; exact E3) hCL (.inr hC0) hCc hCp
  exact ⟨_, _, I9, qq d E2⟩
end
end L2
namespace L2
open PySem PySem.Spec PyProof.Rows
structure Dn (P : Program) (w : World) (K : PySem.W.Frag) (mg : Str → Option Value) (base : Heap) (CX : CXT) (k : Nat) (x : Str) (ps : List Str) (sp : Sp) : Prop where
  ex : ∃ f fd, FnOk P w K mg base CX k f fd ps sp ∧ mg x = some (.ref f) ∧ PySem.W.keepIn K (.ref f) = true ∧ Binds K fd ps []
theorem pe_fn {X : Cx} {CX : CXT} {k j : Nat} {x : Str} {ps : List Str} {sp : Sp} {E : XK} {p pos : Pos} {e : Expr} {es : List Expr} {t : TA} (D : Dn X.prog X.w X.K X.mg X.base CX k x ps sp) (hr : Room j X.A) (hk : k ≤ j) (hg : Gl X x) (hx : Passes CX X E)
    (ha : PA X (e :: es) t) (hdb : (x == ("__debug__" : Str)) = false := by decide) (he : starEach (e :: es) X.env = (false, eval e X.env) :: starEach es X.env := by rfl) (hpl : (backTo pos (starEach es X.env)).any (·.1) = false := by rfl) :
    PE X (.Call (.Name x p) (e :: es) [] pos) (tCall sp [] E t) := by
  obtain ⟨f, fd, F, m, kp, b⟩ := D.ex
  exact pe_call F (hr.mono hk) hg m kp b .nil hx ha hdb he hpl
def Def (K : PySem.W.Frag) (mg : Str → Option Value) (x : Str) (st : Stmt) : Prop := ∃ f fd, Fun K x x st f fd ∧ mg x = some (.ref f)
section
variable {P : Program} {w : World} {K : PySem.W.Frag} {mg : Str → Option Value} {base : Heap}
theorem Def.ok {x : Str} {st : Stmt} {N ps : List Str} {k : Nat} {sp : Sp} (F : Def K mg x st) (S : FnScope N ps (defScope st)) (len : ∀ vs H Q E, sp vs H Q E → vs.length = ps.length)
    (hb : ∀ (kV doc pm : Value) (an : Option Addr) (cdv ct : Value) (us : List Value), us.length = ps.length → bindArgs (PySem.W.fnOf x x (defArgs st) (defBody st) (defScope st) .none kV doc pm an cdv ct) ⟨us, []⟩ = pure (ps.zip us))
    (hbody : ∀ (f : Addr) (cdv : Value) (A : Around) (outer : List Env) (s : Shared) (H : Hp) (vs : List V) (Q : VK) (E : XK), Room k (A.deeper (envOfC x (defScope st) s.heap.objs.size f cdv)) → sp vs H Q E →
      ∃ t, PSs (cxOf CX0 P w K mg base N x (defScope st) f cdv A outer s H E).nox (defBody st) t ∧ t { nx := fun _ H' => Q .non H', rt := Q } (start N vs) H) : Dn P w K mg base CX0 (k + 1) x ps sp := by
  obtain ⟨f, fd, F, m⟩ := F
  exact ⟨f, fd, F.ok S len (hbody f), m, F.kp, F.binds hb⟩
theorem Def.nothing {x : Str} {st : Stmt} {ps : List Str} (F : Def K mg x st)
    (hb : ∀ (kV doc pm : Value) (an : Option Addr) (cdv ct : Value) (us : List Value), us.length = ps.length → bindArgs (PySem.W.fnOf x x (defArgs st) (defBody st) (defScope st) .none kV doc pm an cdv ct) ⟨us, []⟩ = pure (ps.zip us)) :
    Dn P w K mg base CX0 0 x ps (fun _ _ _ _ => False) := by
  obtain ⟨f, fd, F, m⟩ := F
  exact ⟨f, fd, ⟨fun _ _ _ _ h => h.elim, fun _ _ _ _ _ _ _ _ _ _ _ _ _ h => h.elim⟩, m, F.kp, F.binds hb⟩
end
def GTup (K : PySem.W.Frag) (mg : Str → Option Value) (x : Str) (xs : List V) : Prop := ∃ a, mg x = some (.ref a) ∧ ∀ H, SqT K H a xs
def tGTup (K : PySem.W.Frag) (xs : List V) : TE := fun _ H Q => ∀ a, (∀ H, SqT K H a xs) → Q (.ref a) H
theorem pe_gtup {X : Cx} {x : Str} {xs : List V} {pos : Pos} (h : GTup X.K X.mg x xs) (hg : Gl X x := by rfl) (hd : (x == ("__debug__" : Str)) = false := by decide) : PE X (.Name x pos) (tGTup X.K xs) := fun _ _ _ H _ I q => by
  obtain ⟨a, m, r⟩ := h
  exact ld_glob I hg m ⟨.ref a, H, I, rfl, q a r⟩ hd
theorem iteDF {c A B : Prop} [Decidable c] (hc : ¬ c) (h : B) : if decide c = true then A else B := by rw [if_neg (by simpa using hc)]; exact h
theorem iteDT {c A B : Prop} [Decidable c] (hc : c) (h : A) : if decide c = true then A else B := by rw [if_pos (by simpa using hc)]; exact h
theorem iteD2 {c A B : Prop} [Decidable c] (h1 : c → A) (h2 : ¬ c → B) : if decide c = true then A else B := by
  by_cases h : c
  · exact iteDT h (h1 h)
  · exact iteDF h (h2 h)
theorem iteN2 {c A B : Prop} [Decidable c] (h1 : ¬ c → A) (h2 : c → B) : if (!decide c) = true then A else B := by
  by_cases h : c
  · rw [if_neg (by simpa using h)]; exact h2 h
  · rw [if_pos (by simpa using h)]; exact h1 h
theorem Vne {i j : Int} (h : i ≠ j) : V.int i ≠ V.int j := fun z => h (V.int.inj z)
theorem Veq {i j : Int} (h : V.int i = V.int j) : i = j := V.int.inj h
theorem intBits_le {k : Int} {m : Nat} (h : k.natAbs < 2 ^ m) : Builtin.Int.intBits k ≤ m := by
  unfold Builtin.Int.intBits
  split
  · exact Nat.zero_le _
  · rcases Nat.eq_zero_or_pos k.natAbs with h0 | hp
    · rename_i hz
      exact absurd (by simpa using h0) (by simpa using hz)
    · have : k.natAbs.log2 < m := (Nat.log2_lt (Nat.ne_of_gt hp)).mpr h
      omega
theorem mulOk {i j : Int} {m n : Nat} (hi : i.natAbs < 2 ^ m) (hj : j.natAbs < 2 ^ n) (h : m + n ≤ 134217728) : IntMulOk i j := IntMulOk.of_le (intBits_le hi) (intBits_le hj) h
section
variable {X : Cx}
theorem op_mulB : OpR X (binaryOp .Mult) (rI IntMulOk fun i j => .int (i * j)) := opI fun _ _ _ _ _ _ _ c h => mul_int h c
theorem op_divB : OpR X (binaryOp .FloorDiv) (rI (fun _ j => j ≠ 0 ∧ j.natAbs < 2 ^ 9000) fun i j => .int (i.fdiv j)) := opI fun i j _ _ _ _ _ c h =>
  floordiv_int c.1 h (Or.inl (PyProof.noPylong_of_log2 ((Nat.log2_lt (by have := c.1; omega)).mpr c.2)))
theorem op_divP : OpR X (binaryOp .FloorDiv) (rI (fun _ j => 0 < j ∧ j.natAbs < 2 ^ 9000) fun i j => .int (i / j)) := opI fun i j _ _ _ _ _ c h =>
  floordiv_int (by have := c.1; omega) (by rw [Int.fdiv_eq_ediv_of_nonneg _ (by have := c.1; omega)]; exact h) (Or.inl (PyProof.noPylong_of_log2 ((Nat.log2_lt (by have := c.1; omega)).mpr c.2)))
theorem c9 {n : Int} (h0 : 0 < n) (h : n.natAbs < 2 ^ 64) : 0 < n ∧ n.natAbs < 2 ^ 9000 := ⟨h0, Nat.lt_of_lt_of_le h (Nat.pow_le_pow_right (by decide) (by decide))⟩
theorem mulL {i j : Int} (h : i.natAbs < 2 ^ 64) : IntMulOk i j := IntMulOk.of_left (intBits_le h)
theorem mulR {i j : Int} (h : j.natAbs < 2 ^ 64) : IntMulOk i j := IntMulOk.of_right (intBits_le h)
theorem pe_ty {x : Str} {T : String} {pos : Pos} (hg : Gl X x) (hm : X.mg x = none) (hv : bootBuiltins x = some (.type T)) (hn : x ≠ "__name__" := by decide) (hd : (x == ("__debug__" : Str)) = false := by decide) : PE X (.Name x pos) (tC (.ty T)) := pe_bltn hg hm hv rfl hn hd
def tyOf (K : PySem.W.Frag) (H : Hp) (x : V) (t : String) : Prop := match x with
  | .non => t = "NoneType"
  | .bl _ => t = "bool"
  | .int _ => t = "int"
  | .str _ => t = "str"
  | .ref a => (t = "list" ∧ ∃ xs, SqL K H a xs) ∨ (t = "tuple" ∧ ∃ xs, SqT K H a xs)
  | _ => False
def isTy (t T : String) : Bool := t == T || (t == "bool" && T == "int")
def Sorts : List String := ["NoneType", "bool", "int", "str", "list", "tuple"]
def Kinds : List String := ["bool", "int", "str", "list", "tuple"]
theorem isinst_ty {pins : List (Addr × Obj)} {σ : St} {H : Hp} {s : Shared} {A : Around} {E : Value → Shared → Prop} {Q : Value → Shared → Prop} {c : Value} {b : Bool} {x : V} {u : Value} {t : String} (I : Inv X pins σ H s) (rx : RelV x u) (ty : tyOf X.K H x t)
    (e : PySem.W.kitOne X.K (.type t) c = some b) (h : ∀ tk, Q (.bool b) { s with toks := tk }) : wpAny (model X.prog X.w) A (call (.builtin "isinstance") [u, c]) Q E s := by
  cases x with
  | non => cases (show u = Value.none from rx); cases (show t = "NoneType" from ty); exact PySem.W.kia_one PySem.W.kitx_none I.kIn True.intro e (fun z => nomatch z) h
  | bl y => cases (show u = Value.bool y from rx); cases (show t = "bool" from ty); exact PySem.W.kia_one PySem.W.kitx_bool I.kIn True.intro e (fun z => nomatch z) h
  | int i => obtain ⟨tk, q⟩ := (show ∃ t, u = Value.int i t from rx); cases q; cases (show t = "int" from ty); exact PySem.W.kia_one PySem.W.kitx_int I.kIn True.intro e (fun z => nomatch z) h
  | str y => obtain ⟨tk, q⟩ := (show ∃ t, u = Value.str y t from rx); cases q; cases (show t = "str" from ty); exact PySem.W.kia_one PySem.W.kitx_str I.kIn True.intro e (fun z => nomatch z) h
  | ref a =>
    cases (show u = Value.ref a from rx)
    rcases ty with ⟨rfl, xs, hq⟩ | ⟨rfl, xs, hq⟩
    · obtain ⟨its, _, ⟨o, n, h1, h2, _⟩, _⟩ := I.list hq
      exact PySem.W.kia_one PySem.W.kitx_list I.kIn ⟨o, h1, h2⟩ e (fun z => nomatch z) h
    · obtain ⟨its, _, ⟨o, h1, h2, _⟩, _⟩ := I.tuple hq
      exact PySem.W.kia_one PySem.W.kitx_tuple I.kIn ⟨o, h1, h2⟩ e (fun z => nomatch z) h
  | byt _ => exact ty.elim
  | flt _ => exact ty.elim
  | ty _ => exact ty.elim
theorem tyOf_sort {K : PySem.W.Frag} {H : Hp} {x : V} {t : String} (h : tyOf K H x t) : t ∈ Sorts := by
  cases x with
  | non => cases (show t = "NoneType" from h); decide
  | bl _ => cases (show t = "bool" from h); decide
  | int _ => cases (show t = "int" from h); decide
  | str _ => cases (show t = "str" from h); decide
  | ref a => rcases h with ⟨rfl, _⟩ | ⟨rfl, _⟩ <;> decide
  | byt _ => exact h.elim
  | flt _ => exact h.elim
  | ty _ => exact h.elim
theorem kit_tT {K : PySem.W.Frag} {t T : String} (ht : t ∈ Sorts) (hT : T ∈ Kinds) : PySem.W.kitOne K (.type t) (.type T) = some (isTy t T) := by
  simp only [Sorts, Kinds, List.mem_cons, List.not_mem_nil, or_false] at ht hT
  rcases ht with rfl | rfl | rfl | rfl | rfl | rfl <;> rcases hT with rfl | rfl | rfl | rfl | rfl <;> (unfold PySem.W.kitOne PySem.W.kitCls PySem.W.subIn; kernel_rfl)
theorem call_isT : CallR X (.builtin "isinstance") (fun xs H Q => ∃ x T t, xs = [x, .ty T] ∧ T ∈ Kinds ∧ tyOf X.K H x t ∧ Q (.bl (isTy t T)) H) := by
  intro pins s σ H xs us Q I r h
  obtain ⟨x, T, t, rfl, hT, ty, q⟩ := h
  obtain ⟨u, w', rfl, rx, rT⟩ := vals2 r
  cases (show w' = Value.type T from rT)
  exact isinst_ty I rx ty (kit_tT (tyOf_sort ty) hT) fun tk => ⟨.bl _, H, I.tok tk, rfl, q⟩
end
end L2
namespace L2
open PySem PySem.Spec PyProof.Rows
theorem Same.tup {K : PySem.W.Frag} {H H' : Hp} {a : Addr} {xs : List V} (e : Same H H') (h : SqT K H a xs) : SqT K H' a xs := by
  rcases h with (h | ⟨o, h⟩) | h
  · exact .inl (.inl (e _ _ h))
  · exact .inl (.inr ⟨o, e _ _ h⟩)
  · exact .inr h
theorem same_new {H : Hp} {p : Addr} (h : H p = none) (o : HO) : Same H (upd H p o) := fun b u q => by rw [upd_ne (ne_of_none q h)]; exact q
theorem Same.over {H H' : Hp} {p : Addr} (e : Same H H') (h : H p = none) (o : HO) : Same H (upd H' p o) := fun b u q => by
  rw [upd_ne (ne_of_none q h)]; exact e b u q
def IsF (K : PySem.W.Frag) (H : Hp) (v : V) (p : Int × Int) : Prop := ∃ a, v = .ref a ∧ SqT K H a [.int p.1, .int p.2]
theorem IsF.mono {K : PySem.W.Frag} {H H' : Hp} {v : V} {p : Int × Int} (e : Same H H') (h : IsF K H v p) : IsF K H' v p := by
  obtain ⟨a, rfl, q⟩ := h
  exact ⟨a, rfl, e.tup q⟩
theorem tup_over {K : PySem.W.Frag} {H : Hp} {a p : Addr} {xs ys zs : List V} (h : SqT K H a xs) (hp : H p = some (.lst ys)) : SqT K (upd H p (.lst zs)) a xs := by
  rcases h with (h | ⟨o, h⟩) | h
  · exact .inl (.inl (by rw [upd_ne (ne_of h hp (by intro z; cases z))]; exact h))
  · exact .inl (.inr ⟨o, by rw [upd_ne (ne_of h hp (by intro z; cases z))]; exact h⟩)
  · exact .inr h
theorem IsF.over {K : PySem.W.Frag} {H : Hp} {v : V} {p : Addr} {ys zs : List V} {q : Int × Int} (h : IsF K H v q) (hp : H p = some (.lst ys)) : IsF K (upd H p (.lst zs)) v q := by
  obtain ⟨a, rfl, h⟩ := h
  exact ⟨a, rfl, tup_over h hp⟩
theorem Paired.get {α β : Type} {F : α → β → Prop} : ∀ {xs : List α} {ys : List β} {i : Nat} {y : β}, Paired F xs ys → ys[i]? = some y → ∃ x, xs[i]? = some x ∧ F x y
  | _, _, _, _, .nil, e => by simp at e
  | _, _, 0, _, .cons r _, e => by simp at e; subst e; exact ⟨_, rfl, r⟩
  | _, _, i + 1, y, .cons _ t, e => by
    obtain ⟨x, h1, h2⟩ := Paired.get (i := i) t (by simpa using e)
    exact ⟨x, by simpa using h1, h2⟩
theorem Paired.get' {α β : Type} {F : α → β → Prop} : ∀ {xs : List α} {ys : List β} {i : Nat} {x : α}, Paired F xs ys → xs[i]? = some x → ∃ y, ys[i]? = some y ∧ F x y
  | _, _, _, _, .nil, e => by simp at e
  | _, _, 0, _, .cons r _, e => by simp at e; subst e; exact ⟨_, rfl, r⟩
  | _, _, i + 1, y, .cons _ t, e => by
    obtain ⟨x, h1, h2⟩ := Paired.get' (i := i) t (by simpa using e)
    exact ⟨x, by simpa using h1, h2⟩
theorem Paired.app {α β : Type} {F : α → β → Prop} : ∀ {xs xs' : List α} {ys ys' : List β}, Paired F xs ys → Paired F xs' ys' → Paired F (xs ++ xs') (ys ++ ys')
  | _, _, _, _, .nil, t => t
  | _, _, _, _, .cons r s, t => .cons r (Paired.app s t)
theorem atI_ok {α : Type} {xs : List α} {i : Int} {v : α} (h0 : 0 ≤ i) (h : xs[i.toNat]? = some v) : atI xs i = some v := by
  have e : i = ((i.toNat : Nat) : Int) := by omega
  rw [e]; exact atI_nat h
theorem map_int_get {ns : List Int} {i : Nat} (h : i < ns.length) : (ns.map V.int)[i]? = some (.int (ns.getD i 0)) := by
  simp [h]
theorem while_of {c : TT} {tb : TS} {D : Ends} {σ : St} {H : Hp} (Pv : Nat → St → Hp → Prop) (h0 : ∃ m, Pv m σ H)
    (hs : ∀ m σ H, Pv m σ H → c σ H fun b H1 => if b = true then tb { D with nx := fun σ' H' => ∃ m', m' < m ∧ Pv m' σ' H', ct := fun σ' H' => ∃ m', m' < m ∧ Pv m' σ' H', bk := D.nx } σ H1 else D.nx σ H1)
    (mono : ∀ σ H Q Q', (∀ b H1, Q b H1 → Q' b H1) → c σ H Q → c σ H Q') : tWhile c tb D σ H := by
  refine ⟨Pv, h0, fun m σ H p => ?_⟩
  refine mono σ H _ _ (fun b H1 q => ?_) (hs m σ H p)
  cases b with
  | true => exact ⟨_, fun σ' H' z => z, q⟩
  | false => exact q
end L2
namespace FQ
structure Low (p : Int × Int) : Prop where
  pos : 0 < p.2
  cop : Int.gcd p.1 p.2 = 1
def red (t b : Int) : Int × Int := (t * b.sign / (Int.gcd t b : Int), b * b.sign / (Int.gcd t b : Int))
theorem gcd_turn {a b : Int} : Int.gcd b (a % b) = Int.gcd a b := by
  have h := Int.gcd_add_mul_left_right b (a % b) (a / b)
  rw [Int.emod_add_mul_ediv] at h
  rw [← h, Int.gcd_comm]
theorem dvd_of_cop {k m n : Int} (h : Int.gcd k m = 1) (d : k ∣ m * n) : k ∣ n := by
  have h1 : k.natAbs ∣ m.natAbs * n.natAbs := by
    have := Int.natAbs_dvd_natAbs.mpr d
    rwa [Int.natAbs_mul] at this
  exact Int.natAbs_dvd_natAbs.mp (Nat.Coprime.dvd_of_dvd_mul_left h h1)
theorem red_spec {t b : Int} (hb : b ≠ 0) : ∃ u v : Int, t * b.sign = u * (Int.gcd t b : Int) ∧ b * b.sign = v * (Int.gcd t b : Int) ∧ red t b = (u, v) ∧ 0 < v ∧ Int.gcd u v = 1 := by
  have hg : 0 < Int.gcd t b := Int.gcd_pos_of_ne_zero_right _ hb
  have hg' : (0 : Int) < (Int.gcd t b : Int) := by omega
  have d1 : (Int.gcd t b : Int) ∣ t := Int.gcd_dvd_left ..
  have d2 : (Int.gcd t b : Int) ∣ b := Int.gcd_dvd_right ..
  obtain ⟨u, hu⟩ := d1
  obtain ⟨v, hv⟩ := d2
  refine ⟨u * b.sign, v * b.sign, ?_, ?_, ?_, ?_, ?_⟩
  · rw [Int.mul_right_comm, Int.mul_comm u, ← hu]
  · rw [Int.mul_right_comm, Int.mul_comm v, ← hv]
  · unfold red
    congr 1
    · apply Int.ediv_eq_of_eq_mul_left (by omega)
      rw [Int.mul_right_comm, Int.mul_comm u, ← hu]
    · apply Int.ediv_eq_of_eq_mul_left (by omega)
      rw [Int.mul_right_comm, Int.mul_comm v, ← hv]
  · have h1 : 0 < b * b.sign := by rw [Int.mul_sign_self]; omega
    have h2 : b * b.sign = (v * b.sign) * (Int.gcd t b : Int) := by rw [Int.mul_right_comm, Int.mul_comm v, ← hv]
    rw [h2] at h1
    rcases Int.lt_or_le 0 (v * b.sign) with h | h
    · exact h
    · exact absurd h1 (Int.not_lt.mpr (Int.mul_nonpos_of_nonpos_of_nonneg h (Int.le_of_lt hg')))
  · have hs : b.sign = 1 ∨ b.sign = -1 := by
      rcases Int.lt_or_gt_of_ne hb with h | h
      · exact .inr (Int.sign_eq_neg_one_of_neg h)
      · exact .inl (Int.sign_eq_one_of_pos h)
    have hc : Int.gcd u v = 1 := by
      have e := Int.gcd_mul_left (Int.gcd t b : Int) u v
      rw [← hu, ← hv, Int.natAbs_natCast] at e
      have : Int.gcd t b * 1 = Int.gcd t b * Int.gcd u v := by rw [Nat.mul_one]; exact e
      exact (Nat.eq_of_mul_eq_mul_left hg this).symm
    rcases hs with h | h <;> rw [h] <;> simp [hc]
theorem red_low {t b : Int} (hb : b ≠ 0) : Low (red t b) := by
  obtain ⟨u, v, _, _, e, h1, h2⟩ := red_spec (t := t) hb
  rw [e]
  exact ⟨h1, h2⟩
theorem red_worth {t b : Int} (hb : b ≠ 0) : (red t b).1 * b = t * (red t b).2 := by
  obtain ⟨u, v, h1, h2, e, _, _⟩ := red_spec (t := t) hb
  rw [e]
  have hg : (Int.gcd t b : Int) ≠ 0 := by have := Int.gcd_pos_of_ne_zero_right t hb; omega
  have hs : b.sign ≠ 0 := by simpa using hb
  have key : (u * b) * ((Int.gcd t b : Int) * b.sign) = (t * v) * ((Int.gcd t b : Int) * b.sign) := by
    calc (u * b) * ((Int.gcd t b : Int) * b.sign) = (u * (Int.gcd t b : Int)) * (b * b.sign) := by ac_rfl
      _ = (t * b.sign) * (v * (Int.gcd t b : Int)) := by rw [← h1, ← h2]
      _ = (t * v) * ((Int.gcd t b : Int) * b.sign) := by ac_rfl
  exact Int.eq_of_mul_eq_mul_right (Int.mul_ne_zero hg hs) key
theorem low_unique {p q : Int × Int} (hp : Low p) (hq : Low q) (h : p.1 * q.2 = q.1 * p.2) : p = q := by
  obtain ⟨a, b⟩ := p
  obtain ⟨c, d⟩ := q
  obtain ⟨hb, hab⟩ := hp
  obtain ⟨hd, hcd⟩ := hq
  dsimp only at *
  have d1 : b ∣ d := by
    have : b ∣ a * d := ⟨c, by rw [h, Int.mul_comm]⟩
    exact dvd_of_cop (by rw [Int.gcd_comm]; exact hab) this
  have d2 : d ∣ b := by
    have : d ∣ c * b := ⟨a, by rw [← h, Int.mul_comm]⟩
    exact dvd_of_cop (by rw [Int.gcd_comm]; exact hcd) this
  have e : b = d := Int.dvd_antisymm (by omega) (by omega) d1 d2
  subst e
  have : a = c := Int.eq_of_mul_eq_mul_right (by omega) h
  rw [this]
theorem red_eq {t b t' b' : Int} (hb : b ≠ 0) (hb' : b' ≠ 0) (h : t * b' = t' * b) : red t b = red t' b' := by
  refine low_unique (red_low hb) (red_low hb') ?_
  have e1 := red_worth (t := t) hb
  have e2 := red_worth (t := t') hb'
  have key : ((red t b).1 * (red t' b').2) * (b * b') = ((red t' b').1 * (red t b).2) * (b * b') := by
    calc ((red t b).1 * (red t' b').2) * (b * b') = ((red t b).1 * b) * ((red t' b').2 * b') := by ac_rfl
      _ = (t * (red t b).2) * ((red t' b').2 * b') := by rw [e1]
      _ = (t * b') * ((red t b).2 * (red t' b').2) := by ac_rfl
      _ = (t' * b) * ((red t b).2 * (red t' b').2) := by rw [h]
      _ = (t' * (red t' b').2) * ((red t b).2 * b) := by ac_rfl
      _ = ((red t' b').1 * b') * ((red t b).2 * b) := by rw [e2]
      _ = ((red t' b').1 * (red t b).2) * (b * b') := by ac_rfl
  exact Int.eq_of_mul_eq_mul_right (Int.mul_ne_zero hb hb') key
theorem red_eq_iff {t b : Int} (hb : b ≠ 0) {p : Int × Int} (hp : Low p) (h : p.1 * b = t * p.2) : red t b = p := by
  refine low_unique (red_low hb) hp ?_
  have e1 := red_worth (t := t) hb
  have key : ((red t b).1 * p.2) * b = (p.1 * (red t b).2) * b := by
    calc ((red t b).1 * p.2) * b = ((red t b).1 * b) * p.2 := by ac_rfl
      _ = (t * p.2) * (red t b).2 := by rw [e1]; ac_rfl
      _ = (p.1 * (red t b).2) * b := by rw [← h]; ac_rfl
  exact Int.eq_of_mul_eq_mul_right hb key
theorem red_small {t b : Int} (hb : b ≠ 0) : (red t b).1.natAbs ≤ t.natAbs ∧ (red t b).2.natAbs ≤ b.natAbs := by
  obtain ⟨u, v, h1, h2, e, _, _⟩ := red_spec (t := t) hb
  rw [e]
  have hg : 1 ≤ Int.gcd t b := Int.gcd_pos_of_ne_zero_right _ hb
  have hs : b.sign.natAbs = 1 := by
    rcases Int.lt_or_gt_of_ne hb with h | h
    · rw [Int.sign_eq_neg_one_of_neg h]; rfl
    · rw [Int.sign_eq_one_of_pos h]; rfl
  have k1 := congrArg Int.natAbs h1
  have k2 := congrArg Int.natAbs h2
  rw [Int.natAbs_mul, Int.natAbs_mul, hs, Nat.mul_one, Int.natAbs_natCast] at k1 k2
  constructor
  · show u.natAbs ≤ _
    rw [k1]
    exact Nat.le_mul_of_pos_right _ hg
  · show v.natAbs ≤ _
    rw [k2]
    exact Nat.le_mul_of_pos_right _ hg
theorem fdiv_red {t b : Int} (hb : b ≠ 0) : ((t.fdiv ((Int.gcd t b : Int) * b.sign), b.fdiv ((Int.gcd t b : Int) * b.sign)) : Int × Int) = red t b := by
  obtain ⟨u, v, h1, h2, e, _, _⟩ := red_spec (t := t) hb
  rw [e]
  have hg : (Int.gcd t b : Int) ≠ 0 := by have := Int.gcd_pos_of_ne_zero_right t hb; omega
  have hs : b.sign ≠ 0 := by simpa using hb
  have hs2 : b.sign * b.sign = 1 := by
    rcases Int.lt_or_gt_of_ne hb with h | h
    · rw [Int.sign_eq_neg_one_of_neg h]; rfl
    · rw [Int.sign_eq_one_of_pos h]; rfl
  have k1 : t = u * ((Int.gcd t b : Int) * b.sign) := by
    calc t = t * (b.sign * b.sign) := by rw [hs2, Int.mul_one]
      _ = (t * b.sign) * b.sign := by ac_rfl
      _ = u * ((Int.gcd t b : Int) * b.sign) := by rw [h1]; ac_rfl
  have k2 : b = v * ((Int.gcd t b : Int) * b.sign) := by
    calc b = b * (b.sign * b.sign) := by rw [hs2, Int.mul_one]
      _ = (b * b.sign) * b.sign := by ac_rfl
      _ = v * ((Int.gcd t b : Int) * b.sign) := by rw [h2]; ac_rfl
  generalize hd : (Int.gcd t b : Int) * b.sign = d at k1 k2 ⊢
  have hd0 : d ≠ 0 := by rw [← hd]; exact Int.mul_ne_zero hg hs
  rw [k1, k2, Int.mul_fdiv_cancel _ hd0, Int.mul_fdiv_cancel _ hd0]
end FQ
namespace LM
def cellAt (ns : List Int) (k : Int) : Int := if k < ns.length then ns.getD k.toNat 0 else 0
def addOne (r : List Int) (t : Int) (w : Int) : List Int := r.set t.toNat (r.getD t.toNat 0 + w)
theorem addOne_len (r : List Int) (t w : Int) : (addOne r t w).length = r.length := by simp [addOne]
theorem sum_set : ∀ (r : List Int) (i : Nat) (w : Int), i < r.length → (r.set i (r.getD i 0 + w)).sum = r.sum + w
  | [], i, _, h => by cases h
  | x :: r, 0, w, _ => by simp; omega
  | x :: r, i + 1, w, h => by
    have ih := sum_set r i w (by simpa using h)
    simp only [List.set_cons_succ, List.getD_cons_succ, List.sum_cons, ih]
    omega
theorem sum_addOne {r : List Int} {t w : Int} (h0 : 0 ≤ t) (h : t < r.length) : (addOne r t w).sum = r.sum + w := sum_set r t.toNat w (by omega)
def addDeal (M : List (List Int)) (o : List Int) (w : Int) : List (List Int) := List.zipWith (fun r t => addOne r t w) M o
structure SumsOk (n : Nat) (M : List (List Int)) (T : Int) : Prop where
  rows : M.length = n
  cols : ∀ r ∈ M, r.length = n
  nn : ∀ r ∈ M, ∀ x ∈ r, 0 ≤ x
  sum : ∀ r ∈ M, r.sum = T
theorem mem_set_nn {r : List Int} {i : Nat} {x y : Int} (h : ∀ z ∈ r, 0 ≤ z) (hx : 0 ≤ x) (hy : y ∈ r.set i x) : 0 ≤ y := by
  rcases List.mem_or_eq_of_mem_set hy with h1 | h1
  · exact h y h1
  · rw [h1]; exact hx
theorem getD_nn {r : List Int} (h : ∀ z ∈ r, 0 ≤ z) (i : Nat) : 0 ≤ r.getD i 0 := by
  by_cases hi : i < r.length
  · have : r.getD i 0 = r[i] := by simp [hi]
    rw [this]; exact h _ (List.getElem_mem hi)
  · rw [List.getD_eq_getElem?_getD, List.getElem?_eq_none (by omega)]; decide
theorem addDeal_ok {n : Nat} {M : List (List Int)} {T w : Int} {o : List Int} (h : SumsOk n M T) (hw : 0 ≤ w) (ho : o.length = n) (hm : ∀ t ∈ o, 0 ≤ t ∧ t < n) : SumsOk n (addDeal M o w) (T + w) := by
  have key : ∀ r ∈ addDeal M o w, ∃ r0 ∈ M, ∃ t ∈ o, r = addOne r0 t w := by
    intro r hr
    unfold addDeal at hr
    rw [← List.map_uncurry_zip_eq_zipWith, List.mem_map] at hr
    obtain ⟨⟨r0, t⟩, hz, rfl⟩ := hr
    exact ⟨r0, (List.of_mem_zip hz).1, t, (List.of_mem_zip hz).2, rfl⟩
  refine ⟨by simp [addDeal, h.rows, ho], fun r hr => ?_, fun r hr x hx => ?_, fun r hr => ?_⟩
  · obtain ⟨r0, h0, t, ht, rfl⟩ := key r hr
    rw [addOne_len]; exact h.cols r0 h0
  · obtain ⟨r0, h0, t, ht, rfl⟩ := key r hr
    exact mem_set_nn (h.nn r0 h0) (Int.add_nonneg (getD_nn (h.nn r0 h0) _) hw) hx
  · obtain ⟨r0, h0, t, ht, rfl⟩ := key r hr
    have l := h.cols r0 h0
    rw [sum_addOne (hm t ht).1 (by rw [l]; exact (hm t ht).2), h.sum r0 h0]
end LM
namespace L2
open PySem PySem.Spec PyProof.Rows
def spWhole : Sp := fun vs H Q _ => ∃ i : Int, vs = [.int i] ∧ Q (.bl true) H
def spGcd : Sp := fun vs H Q _ => ∃ i j : Int, vs = [.int i, .int j] ∧ Q (.int (Int.gcd i j : Int)) H
def tupF (p : Int × Int) : HO := .tup [.int p.1, .int p.2]
def Sz (n : Nat) (p : Int × Int) : Prop := p.1.natAbs < 2 ^ n ∧ p.2.natAbs < 2 ^ n ∧ p.2 ≠ 0
def fAdd (x y : Int × Int) : Int × Int := FQ.red (x.1 * y.2 + y.1 * x.2) (x.2 * y.2)
def fSub (x y : Int × Int) : Int × Int := FQ.red (x.1 * y.2 - y.1 * x.2) (x.2 * y.2)
def sp2F (f : (Int × Int) → (Int × Int) → (Int × Int)) (K : PySem.W.Frag) : Sp := fun vs H Q _ => ∃ a b x y, vs = [.ref a, .ref b] ∧ SqT K H a [.int x.1, .int x.2] ∧ SqT K H b [.int y.1, .int y.2] ∧ Sz 4000 x ∧ Sz 4000 y ∧
  ∀ p H', Same H H' → H' p = some (tupF (f x y)) → Q (.ref p) H'
def spCell (K : PySem.W.Frag) : Sp := fun vs H Q _ => ∃ a ns k, vs = [.ref a, .int k] ∧ SqL K H a (ns.map V.int) ∧ 0 ≤ k ∧ Q (.int (LM.cellAt ns k)) H
def spDivisor : Sp := fun vs H Q _ => ∃ i j : Int, vs = [.int i, .int j] ∧ 0 ≤ j ∧ Q (.int (Int.gcd i j : Int)) H
def spLowest : Sp := fun vs H Q _ => ∃ t b : Int, vs = [.int t, .int b] ∧ 0 < b ∧ b.natAbs < 2 ^ 9000 ∧ ∀ p H', Same H H' → H' p = some (tupF (FQ.red t b)) → Q (.ref p) H'
theorem gcd_le {t b : Int} (hb : b ≠ 0) : Int.gcd t b ≤ b.natAbs := Nat.le_of_dvd (by omega) (Int.gcd_dvd_natAbs_right ..)
theorem fraction_div {t b : Int} (hb : b ≠ 0) (hz : b.natAbs < 2 ^ 9000) :
    (b < 0 → (-(Int.gcd t b : Int) ≠ 0 ∧ (-(Int.gcd t b : Int)).natAbs < 2 ^ 9000) ∧ t.fdiv (-(Int.gcd t b : Int)) = (FQ.red t b).1 ∧ b.fdiv (-(Int.gcd t b : Int)) = (FQ.red t b).2) ∧
    (¬ b < 0 → ((Int.gcd t b : Int) ≠ 0 ∧ (Int.gcd t b : Int).natAbs < 2 ^ 9000) ∧ t.fdiv (Int.gcd t b : Int) = (FQ.red t b).1 ∧ b.fdiv (Int.gcd t b : Int) = (FQ.red t b).2) := by
  have hg : 0 < Int.gcd t b := Int.gcd_pos_of_ne_zero_right _ hb
  have hl := gcd_le (t := t) hb
  have e := FQ.fdiv_red (t := t) hb
  constructor
  · intro hn
    rw [Int.sign_eq_neg_one_of_neg hn, Int.mul_neg_one] at e
    exact ⟨⟨by omega, by rw [Int.natAbs_neg, Int.natAbs_natCast]; exact Nat.lt_of_le_of_lt hl hz⟩, congrArg Prod.fst e, congrArg Prod.snd e⟩
  · intro hn
    rw [Int.sign_eq_one_of_pos (by omega), Int.mul_one] at e
    exact ⟨⟨by omega, by rw [Int.natAbs_natCast]; exact Nat.lt_of_le_of_lt hl hz⟩, congrArg Prod.fst e, congrArg Prod.snd e⟩
theorem pow_lt_mul {a b m n : Nat} (h1 : a < 2 ^ m) (h2 : b < 2 ^ n) : a * b < 2 ^ (m + n) := by
  rw [Nat.pow_add]
  exact Nat.mul_lt_mul'' h1 h2
theorem mul_size {a b : Int} {m n : Nat} (h1 : a.natAbs < 2 ^ m) (h2 : b.natAbs < 2 ^ n) : (a * b).natAbs < 2 ^ (m + n) := by
  rw [Int.natAbs_mul]
  exact pow_lt_mul h1 h2
theorem size_up {a : Int} {m n : Nat} (h : a.natAbs < 2 ^ m) (hmn : m ≤ n) : a.natAbs < 2 ^ n := Nat.lt_of_lt_of_le h (Nat.pow_le_pow_right (by decide) hmn)
theorem mul4 {a b : Int} (h1 : a.natAbs < 2 ^ 4000) (h2 : b.natAbs < 2 ^ 4000) : IntMulOk a b := mulOk h1 h2 (by decide)
theorem bot4 {a b : Int} (h1 : a.natAbs < 2 ^ 4000) (h2 : b.natAbs < 2 ^ 4000) : (a * b).natAbs < 2 ^ 9000 := size_up (mul_size h1 h2) (by decide)
end L2
namespace L2
open PySem PySem.Spec PyProof.Rows
mutual
inductive Rep (K : PySem.W.Frag) (H : Hp) : V → PyData → Prop
  | non : Rep K H .non .none
  | bl (b : Bool) : Rep K H (.bl b) (.bool b)
  | int (i : Int) : Rep K H (.int i) (.int i)
  | str (x : Str) : Rep K H (.str x) (.str x)
  | lst {a : Addr} {xs : List V} {ds : List PyData} : SqL K H a xs → Reps K H xs ds → xs.length ≤ 1000 → Rep K H (.ref a) (.list ds)
  | tup {a : Addr} {xs : List V} {ds : List PyData} : SqT K H a xs → Reps K H xs ds → xs.length ≤ 1000 → Rep K H (.ref a) (.tuple ds)
inductive Reps (K : PySem.W.Frag) (H : Hp) : List V → List PyData → Prop
  | nil : Reps K H [] []
  | cons {x : V} {d : PyData} {xs : List V} {ds : List PyData} : Rep K H x d → Reps K H xs ds → Reps K H (x :: xs) (d :: ds)
end
section
variable {X : Cx} {pins : List (Addr × Obj)} {σ : St} {H : Hp} {s : Shared}
mutual
theorem Rep.reads (I : Inv X pins σ H s) {x : V} {d : PyData} {u : Value} (r : Rep X.K H x d) (q : RelV x u) : ∃ as, Reads s.heap u d as := by
  cases r with
  | non => cases (show u = Value.none from q); exact ⟨_, .none⟩
  | bl b => cases (show u = Value.bool b from q); exact ⟨_, .bool b⟩
  | int i => obtain ⟨t, e⟩ := (show ∃ t, u = Value.int i t from q); cases e; exact ⟨_, .int i t⟩
  | str x => obtain ⟨t, e⟩ := (show ∃ t, u = Value.str x t from q); cases e; exact ⟨_, .str x t⟩
  | @lst a xs ds hq hs hl =>
    cases (show u = Value.ref a from q)
    obtain ⟨its, rv, ⟨o, n, h1, h2, _, h3⟩, _⟩ := I.list hq
    obtain ⟨as, ra⟩ := Reps.reads I hs rv
    exact ⟨_, .list h1 h2 h3 (by simpa using ra)⟩
  | @tup a xs ds hq hs hl =>
    cases (show u = Value.ref a from q)
    obtain ⟨its, rv, ⟨o, h1, h2, n, h3⟩, _⟩ := I.tuple hq
    obtain ⟨as, ra⟩ := Reps.reads I hs rv
    exact ⟨_, .tuple h1 h2 h3 (by simpa using ra)⟩
theorem Reps.reads (I : Inv X pins σ H s) {xs : List V} {ds : List PyData} {us : List Value} (r : Reps X.K H xs ds) (q : Vals xs us) : ∃ as, ReadsAll s.heap us ds as := by
  cases r with
  | nil => cases q; exact ⟨_, .nil⟩
  | cons r rs =>
    cases q with
    | cons q qs =>
      obtain ⟨as, h1⟩ := Rep.reads I r q
      obtain ⟨bs, h2⟩ := Reps.reads I rs qs
      exact ⟨_, .cons h1 h2⟩
end
def rEqD (K : PySem.W.Frag) : R2 := fun x y H Q => ∃ d e, Rep K H x d ∧ Rep K H y e ∧ SeqAt.shaped d = true ∧ SeqAt.shaped e = true ∧ Q (.bl (PyData.eqv d e)) H
def rNeD (K : PySem.W.Frag) : R2 := fun x y H Q => ∃ d e, Rep K H x d ∧ Rep K H y e ∧ SeqAt.shaped d = true ∧ SeqAt.shaped e = true ∧ Q (.bl (!PyData.eqv d e)) H
theorem op_eqD {k : Nat} (hr : Room k X.A) : OpR X (compareOp .Eq) (rEqD X.K) := by
  intro pins s σ H x y v u Q I rx ry h
  obtain ⟨d, e, r1, r2, s1, s2, q⟩ := h
  obtain ⟨as, h1⟩ := r1.reads I rx
  obtain ⟨bs, h2⟩ := r2.reads I ry
  exact eq_dataH h1 h2 s1 s2 hr.units ⟨.bl _, H, I, rfl, q⟩
theorem op_neD {k : Nat} (hr : Room k X.A) : OpR X (compareOp .NotEq) (rNeD X.K) := by
  intro pins s σ H x y v u Q I rx ry h
  obtain ⟨d, e, r1, r2, s1, s2, q⟩ := h
  obtain ⟨as, h1⟩ := r1.reads I rx
  obtain ⟨bs, h2⟩ := r2.reads I ry
  exact ne_dataH h1 h2 s1 s2 hr.units ⟨.bl _, H, I, rfl, q⟩
end
theorem Reps.length {K : PySem.W.Frag} {H : Hp} : ∀ {xs : List V} {ds : List PyData}, Reps K H xs ds → xs.length = ds.length
  | _, _, .nil => rfl
  | _, _, .cons _ r => by simp [Reps.length r]
theorem Reps.get {K : PySem.W.Frag} {H : Hp} : ∀ {xs : List V} {ds : List PyData} {i : Nat} {d : PyData}, Reps K H xs ds → ds[i]? = some d → ∃ x, xs[i]? = some x ∧ Rep K H x d
  | _, _, _, _, .nil, e => by simp at e
  | _, _, 0, _, .cons r _, e => by simp at e; subst e; exact ⟨_, rfl, r⟩
  | _, _, i + 1, d, .cons _ t, e => by
    obtain ⟨x, h1, h2⟩ := Reps.get (i := i) t (by simpa using e)
    exact ⟨x, by simpa using h1, h2⟩
theorem Reps.ints {K : PySem.W.Frag} {H : Hp} : ∀ ns : List Int, Reps K H (ns.map V.int) (ns.map PyData.int)
  | [] => .nil
  | n :: ns => .cons (.int n) (Reps.ints ns)
def dF (p : Int × Int) : PyData := .tuple [.int p.1, .int p.2]
theorem IsF.rep {K : PySem.W.Frag} {H : Hp} {v : V} {p : Int × Int} (h : IsF K H v p) : Rep K H v (dF p) := by
  obtain ⟨a, rfl, q⟩ := h
  exact .tup q (.cons (.int _) (.cons (.int _) .nil)) (by simp)
theorem Reps.of_fracs {K : PySem.W.Frag} {H : Hp} : ∀ {xs : List V} {ps : List (Int × Int)}, Paired (IsF K H) xs ps → Reps K H xs (ps.map dF)
  | _, _, .nil => .nil
  | _, _, .cons r t => .cons r.rep (Reps.of_fracs t)
theorem Paired.len {α β : Type} {F : α → β → Prop} {xs : List α} {ys : List β} (h : Paired F xs ys) : xs.length = ys.length := Paired.length h
theorem comp_range {lo : Int} {n : Nat} {caps : List (Option Nat)} {g : TG} {tt : TT} {te : TE} {σ : St} {QQ : List V → Hp → Prop} {H : Hp} (Pv : Nat → List V → Hp → Prop) (h0 : Pv 0 [] H)
    (hs : ∀ i ys H, i < n → Pv i ys H → g (.int (lo + i)) (capS caps σ) H fun σ2 H2 => tt σ2 H2 fun b H3 => if b = true then te σ2 H3 fun y H4 => ys.length < sizeLine ∧ Pv (i + 1) (ys ++ [y]) H4 else Pv (i + 1) ys H3)
    (hd : ∀ ys H, Pv n ys H → QQ ys H) : tCompK caps g tt te σ QQ (Itr lo n) H := by
  refine ⟨fun i m ys H => m = n - i ∧ i ≤ n ∧ Pv i ys H, ⟨n, by simp, Nat.zero_le _, h0⟩, ?_⟩
  rintro i m ys H ⟨rfl, hi, p⟩
  by_cases hlt : i < n
  · refine .inr ⟨hlt, Pv (i + 1), fun ys' H' p' => ⟨n - (i + 1), by omega, rfl, hlt, p'⟩, fun x H' y => ?_⟩
    obtain ⟨e, y⟩ := y
    subst e y
    exact hs i ys _ hlt p
  · have e : i = n := by omega
    subst e
    exact .inl ⟨Nat.le_refl _, hd ys H p⟩
theorem comp_list {K : PySem.W.Frag} {a : Addr} {xs : List V} {caps : List (Option Nat)} {g : TG} {tt : TT} {te : TE} {σ : St} {QQ : List V → Hp → Prop} {H : Hp} (Pv : Nat → List V → Hp → Prop) (h0 : Pv 0 [] H)
    (hl : ∀ i ys H, i ≤ xs.length → Pv i ys H → SqL K H a xs)
    (hs : ∀ i x ys H, xs[i]? = some x → Pv i ys H → g x (capS caps σ) H fun σ2 H2 => tt σ2 H2 fun b H3 => if b = true then te σ2 H3 fun y H4 => ys.length < sizeLine ∧ Pv (i + 1) (ys ++ [y]) H4 else Pv (i + 1) ys H3)
    (hd : ∀ ys H, Pv xs.length ys H → QQ ys H) : tCompK caps g tt te σ QQ (Itl K a) H := by
  refine ⟨fun i m ys H => m = xs.length - i ∧ i ≤ xs.length ∧ Pv i ys H, ⟨xs.length, by simp, Nat.zero_le _, h0⟩, ?_⟩
  rintro i m ys H ⟨rfl, hi, p⟩
  have q := hl i ys H hi p
  by_cases hlt : i < xs.length
  · refine .inr ⟨⟨xs, xs[i], q, by simp [hlt]⟩, Pv (i + 1), fun ys' H' p' => ⟨xs.length - (i + 1), by omega, rfl, hlt, p'⟩, fun x H' y => ?_⟩
    obtain ⟨e, y⟩ := y
    subst e
    exact hs i x ys _ (y xs q) p
  · have e : i = xs.length := by omega
    subst e
    exact .inl ⟨⟨xs, q, Nat.le_refl _⟩, hd ys H p⟩
theorem comp_tup {K : PySem.W.Frag} {a : Addr} {xs : List V} {caps : List (Option Nat)} {g : TG} {tt : TT} {te : TE} {σ : St} {QQ : List V → Hp → Prop} {H : Hp} (Pv : Nat → List V → Hp → Prop) (h0 : Pv 0 [] H)
    (hl : ∀ i ys H, i ≤ xs.length → Pv i ys H → SqT K H a xs)
    (hs : ∀ i x ys H, xs[i]? = some x → Pv i ys H → g x (capS caps σ) H fun σ2 H2 => tt σ2 H2 fun b H3 => if b = true then te σ2 H3 fun y H4 => ys.length < sizeLine ∧ Pv (i + 1) (ys ++ [y]) H4 else Pv (i + 1) ys H3)
    (hd : ∀ ys H, Pv xs.length ys H → QQ ys H) : tCompK caps g tt te σ QQ (Itt K a) H := by
  refine ⟨fun i m ys H => m = xs.length - i ∧ i ≤ xs.length ∧ Pv i ys H, ⟨xs.length, by simp, Nat.zero_le _, h0⟩, ?_⟩
  rintro i m ys H ⟨rfl, hi, p⟩
  have q := hl i ys H hi p
  by_cases hlt : i < xs.length
  · refine .inr ⟨⟨xs, xs[i], q, by simp [hlt]⟩, Pv (i + 1), fun ys' H' p' => ⟨xs.length - (i + 1), by omega, rfl, hlt, p'⟩, fun x H' y => ?_⟩
    obtain ⟨e, y⟩ := y
    subst e
    exact hs i x ys _ (y xs q) p
  · have e : i = xs.length := by omega
    subst e
    exact .inl ⟨⟨xs, q, Nat.le_refl _⟩, hd ys H p⟩
theorem tTrue_ite {σ : St} {H : Hp} {A : Hp → Prop} {B : Hp → Prop} : (tTrue σ H fun b H3 => if b = true then A H3 else B H3) = A H := by
  unfold tTrue
  exact if_pos rfl
theorem comp_range1 {lo : Int} {n : Nat} {caps : List (Option Nat)} {g : TG} {te : TE} {σ : St} {QQ : List V → Hp → Prop} {H : Hp} (Pv : Nat → List V → Hp → Prop) (h0 : Pv 0 [] H)
    (hs : ∀ i ys H, i < n → Pv i ys H → g (.int (lo + i)) (capS caps σ) H fun σ2 H2 => te σ2 H2 fun y H4 => ys.length < sizeLine ∧ Pv (i + 1) (ys ++ [y]) H4)
    (hd : ∀ ys H, Pv n ys H → QQ ys H) : tCompK caps g tTrue te σ QQ (Itr lo n) H :=
  comp_range Pv h0 (fun i ys H hi p => by simp only [tTrue_ite]; exact hs i ys H hi p) hd
theorem comp_list1 {K : PySem.W.Frag} {a : Addr} {xs : List V} {caps : List (Option Nat)} {g : TG} {te : TE} {σ : St} {QQ : List V → Hp → Prop} {H : Hp} (Pv : Nat → List V → Hp → Prop) (h0 : Pv 0 [] H)
    (hl : ∀ i ys H, i ≤ xs.length → Pv i ys H → SqL K H a xs)
    (hs : ∀ i x ys H, xs[i]? = some x → Pv i ys H → g x (capS caps σ) H fun σ2 H2 => te σ2 H2 fun y H4 => ys.length < sizeLine ∧ Pv (i + 1) (ys ++ [y]) H4)
    (hd : ∀ ys H, Pv xs.length ys H → QQ ys H) : tCompK caps g tTrue te σ QQ (Itl K a) H :=
  comp_list Pv h0 hl (fun i x ys H hx p => by simp only [tTrue_ite]; exact hs i x ys H hx p) hd
theorem comp_tup1 {K : PySem.W.Frag} {a : Addr} {xs : List V} {caps : List (Option Nat)} {g : TG} {te : TE} {σ : St} {QQ : List V → Hp → Prop} {H : Hp} (Pv : Nat → List V → Hp → Prop) (h0 : Pv 0 [] H)
    (hl : ∀ i ys H, i ≤ xs.length → Pv i ys H → SqT K H a xs)
    (hs : ∀ i x ys H, xs[i]? = some x → Pv i ys H → g x (capS caps σ) H fun σ2 H2 => te σ2 H2 fun y H4 => ys.length < sizeLine ∧ Pv (i + 1) (ys ++ [y]) H4)
    (hd : ∀ ys H, Pv xs.length ys H → QQ ys H) : tCompK caps g tTrue te σ QQ (Itt K a) H :=
  comp_tup Pv h0 hl (fun i x ys H hx p => by simp only [tTrue_ite]; exact hs i x ys H hx p) hd
end L2
namespace L2
open PySem PySem.Spec PyProof.Rows
theorem fAdd_red {a b T : Int} (hT : T ≠ 0) : fAdd (FQ.red a T) (FQ.red b T) = FQ.red (a + b) T := by
  have h1 := FQ.red_worth (t := a) hT
  have h2 := FQ.red_worth (t := b) hT
  have p1 := (FQ.red_low (t := a) hT).pos
  have p2 := (FQ.red_low (t := b) hT).pos
  unfold fAdd
  refine FQ.red_eq (Int.mul_ne_zero (by omega) (by omega)) hT ?_
  generalize FQ.red a T = p at *
  generalize FQ.red b T = q at *
  calc (p.1 * q.2 + q.1 * p.2) * T = (p.1 * T) * q.2 + (q.1 * T) * p.2 := by rw [Int.add_mul]; ac_rfl
    _ = (a * p.2) * q.2 + (b * q.2) * p.2 := by rw [h1, h2]
    _ = (a + b) * (p.2 * q.2) := by rw [Int.add_mul]; ac_rfl
theorem red_zero {T : Int} (hT : T ≠ 0) : FQ.red 0 T = (0, 1) := FQ.red_eq_iff hT ⟨by decide, by decide⟩ (by simp)
theorem Sz_red {a T : Int} (hT : T ≠ 0) (h1 : a.natAbs < 2 ^ 100) (h2 : T.natAbs < 2 ^ 100) : Sz 4000 (FQ.red a T) := by
  have s := FQ.red_small (t := a) hT
  have p := (FQ.red_low (t := a) hT).pos
  refine ⟨Nat.lt_of_le_of_lt s.1 (Nat.lt_of_lt_of_le h1 (Nat.pow_le_pow_right (by decide) (by decide))), Nat.lt_of_le_of_lt s.2 (Nat.lt_of_lt_of_le h2 (Nat.pow_le_pow_right (by decide) (by decide))), by omega⟩
def spLaw (K : PySem.W.Frag) : Sp := fun vs H Q _ => ∃ (a : Addr) (ns : List Int), vs = [.ref a] ∧ SqL K H a (ns.map V.int) ∧ ns.length ≤ 63 ∧ ∀ H', Q (.bl true) H'
end L2
namespace L2
open PySem PySem.Spec PyProof.Rows
def okD : Nat → PyData → Bool
  | _, .none => true
  | _, .bool _ => true
  | _, .int _ => true
  | _, .str x => SeqAt.shaped (.str x)
  | n + 1, .tuple ds => ds.all (okD n)
  | n + 1, .list ds => ds.all (okD n)
  | _, _ => false
def spSame (K : PySem.W.Frag) (n : Nat) : Sp := fun vs H Q _ => ∃ v u d, vs = [v, u] ∧ Rep K H v d ∧ Rep K H u d ∧ okD n d = true ∧ Q (.bl true) H
def spPrev (sp : Nat → Sp) : Nat → Sp
  | 0 => fun _ _ _ _ => False
  | n + 1 => sp n
structure RowsAt (H0 H : Hp) (L : Addr) (rs : List Addr) (M : List (List Int)) : Prop where
  lst : H L = some (.lst (rs.map V.ref))
  rows : Paired (fun r (m : List Int) => H r = some (.lst (m.map V.int))) rs M
  nd : rs.Nodup
  fr : ∀ r ∈ rs, H0 r = none
  frL : H0 L = none
  nL : L ∉ rs
theorem RowsAt.get {H0 H : Hp} {L : Addr} {rs : List Addr} {M : List (List Int)} (R : RowsAt H0 H L rs M) {i : Nat} {m : List Int} (h : M[i]? = some m) : ∃ r, rs[i]? = some r ∧ H r = some (.lst (m.map V.int)) := Paired.get (F := fun r (m : List Int) => H r = some (.lst (m.map V.int))) R.rows h
theorem RowsAt.mono {H0 H H' : Hp} {L : Addr} {rs : List Addr} {M : List (List Int)} (R : RowsAt H0 H L rs M) (e : Same H H') : RowsAt H0 H' L rs M :=
  ⟨e _ _ R.lst, Paired.mapP R.rows fun _ _ h => e _ _ h, R.nd, R.fr, R.frL, R.nL⟩
theorem paired_keep {H : Hp} {r : Addr} {o : HO} : ∀ {rs : List Addr} {M : List (List Int)}, Paired (fun r (m : List Int) => H r = some (.lst (m.map V.int))) rs M → r ∉ rs →
    Paired (fun r' (m : List Int) => (upd H r o) r' = some (.lst (m.map V.int))) rs M
  | _, _, .nil, _ => .nil
  | _, _, .cons h t, n => .cons (by rw [upd_ne (fun z => n (by rw [z]; exact List.mem_cons_self))]; exact h) (paired_keep t fun z => n (List.mem_cons_of_mem _ z))
theorem paired_upd {H : Hp} {r : Addr} {m' : List Int} : ∀ {rs : List Addr} {M : List (List Int)} {j : Nat}, Paired (fun r (m : List Int) => H r = some (.lst (m.map V.int))) rs M → rs.Nodup → rs[j]? = some r →
    Paired (fun r' (m : List Int) => (upd H r (.lst (m'.map V.int))) r' = some (.lst (m.map V.int))) rs (M.set j m')
  | _, _, _, .nil, _, e => by simp at e
  | _, _, 0, .cons h t, nd, e => by
    simp at e
    subst e
    exact .cons upd_same (paired_keep t (List.nodup_cons.mp nd).1)
  | _, _, j + 1, .cons h t, nd, e => by
    have e' : _ := (by simpa using e : _)
    refine .cons ?_ (paired_upd t (List.nodup_cons.mp nd).2 e')
    rw [upd_ne (fun z => (List.nodup_cons.mp nd).1 (by rw [z]; exact List.mem_of_getElem? e'))]
    exact h
theorem RowsAt.upd {H0 H : Hp} {L r : Addr} {rs : List Addr} {M : List (List Int)} {j : Nat} (R : RowsAt H0 H L rs M) (m' : List Int) (h : rs[j]? = some r) : RowsAt H0 (L2.upd H r (.lst (m'.map V.int))) L rs (M.set j m') :=
  ⟨by rw [upd_ne (fun z => R.nL (by rw [z]; exact List.mem_of_getElem? h))]; exact R.lst, paired_upd R.rows R.nd h, R.nd, R.fr, R.frL, R.nL⟩
def mid (M : List (List Int)) (o : List Int) (w : Int) (j : Nat) : List (List Int) := LM.addDeal (M.take j) (o.take j) w ++ M.drop j
theorem mid_zero (M : List (List Int)) (o : List Int) (w : Int) : mid M o w 0 = M := by simp [mid, LM.addDeal]
theorem mid_all {M : List (List Int)} {o : List Int} {w : Int} {n : Nat} (h1 : M.length = n) (h2 : o.length = n) : mid M o w n = LM.addDeal M o w := by
  unfold mid
  rw [List.take_of_length_le (by omega), List.take_of_length_le (by omega), List.drop_eq_nil_of_le (by omega), List.append_nil]
theorem addDeal_snoc {M : List (List Int)} {o : List Int} {w t : Int} {m : List Int} {j : Nat} (h1 : M[j]? = some m) (h2 : o[j]? = some t) : LM.addDeal (M.take (j + 1)) (o.take (j + 1)) w = LM.addDeal (M.take j) (o.take j) w ++ [LM.addOne m t w] := by
  have l1 := (List.getElem?_eq_some_iff.mp h1).1
  have l2 := (List.getElem?_eq_some_iff.mp h2).1
  unfold LM.addDeal
  rw [List.take_add_one, List.take_add_one, h1, h2]
  simp only [Option.toList_some]
  rw [List.zipWith_append (by rw [List.length_take, List.length_take]; omega)]
  rfl
theorem mid_len {M : List (List Int)} {o : List Int} {w : Int} {j : Nat} (h1 : j ≤ M.length) (h2 : j ≤ o.length) : (LM.addDeal (M.take j) (o.take j) w).length = j := by
  unfold LM.addDeal
  rw [List.length_zipWith, List.length_take, List.length_take]
  omega
theorem mid_at {M : List (List Int)} {o : List Int} {w : Int} {j : Nat} {m : List Int} (h : M[j]? = some m) (h2 : j ≤ o.length) : (mid M o w j)[j]? = some m := by
  have l1 := (List.getElem?_eq_some_iff.mp h).1
  have hl := mid_len (w := w) (Nat.le_of_lt l1) h2
  unfold mid
  rw [List.getElem?_append_right (by omega), hl, Nat.sub_self, List.getElem?_drop, Nat.add_zero]
  exact h
theorem mid_succ {M : List (List Int)} {o : List Int} {w t : Int} {m : List Int} {j : Nat} (h1 : M[j]? = some m) (h2 : o[j]? = some t) : (mid M o w j).set j (LM.addOne m t w) = mid M o w (j + 1) := by
  have l1 := (List.getElem?_eq_some_iff.mp h1).1
  have l2 := (List.getElem?_eq_some_iff.mp h2).1
  have hl := mid_len (w := w) (Nat.le_of_lt l1) (Nat.le_of_lt l2)
  have e1 : m = M[j] := by rw [List.getElem?_eq_getElem l1] at h1; exact (Option.some.inj h1).symm
  unfold mid
  rw [addDeal_snoc h1 h2, List.append_assoc, List.set_append_right _ _ (by omega), hl, Nat.sub_self, List.drop_eq_getElem_cons l1]
  rfl
end L2
namespace L2
open PySem PySem.Spec PyProof.Rows
structure Flies (P : Program) (w : World) (outer : List Env) (H : Hp) (s : Shared) (a C : Addr) (B : Heap) (a0 : Value) (H' : Hp) (s' : Shared) : Prop where
  os : s'.os = s.os
  bare : AllBare s'.gens
  un : Un (frs outer) [] H H' s.heap s'.heap
  hok : HOk P w H' B
  keep : ∀ b o, s.heap.get? b = some o → H b = none → b ∉ frs outer → B.get? b = some o
  has : ∀ b o, s.heap.get? b = some o → b ∉ frs outer → ∃ o', B.get? b = some o'
  fly : Heap.FlyingW B outer a (.ref C) a0 s'.heap
def CXE (P : Program) (w : World) : CXT := fun outer H s E e s' => ∃ a C B a0 H', e = .ref a ∧ Flies P w outer H s a C B a0 H' s' ∧ E (.ref C) none H'
theorem hok_hide {P : Program} {w : World} {H : Hp} {h : Heap} {l : List Addr} (x : HOk P w H h) (n : ∀ b ∈ l, H b = none) : HOk P w H (PySem.W.hideAll h l) := fun a o e =>
  (x a o e).stay (fun b u hb q => PySem.W.hideAll_get _ q fun z => by
    rcases hb with rfl | hb
    · rw [n _ z] at e; cases e
    · rw [n _ z] at hb; cases hb) (fun _ q => q) fun _ _ q => q
section
variable {P : Program} {w : World} {K : PySem.W.Frag} {mg : Str → Option Value} {base : Heap} {N : List Str} {qual : Str} {scope : Scope} {f : Addr} {cd : Value} {A : Around} {outer : List Env} {s₀ : Shared} {H₀ : Hp} {E : XK}
abbrev cxE (P : Program) (w : World) (K : PySem.W.Frag) (mg : Str → Option Value) (base : Heap) (N : List Str) (qual : Str) (scope : Scope) (f : Addr) (cd : Value) (A : Around) (outer : List Env) (s₀ : Shared) (H₀ : Hp) (E : XK) : Cx := cxOf (CXE P w) P w K mg base N qual scope f cd A outer s₀ H₀ E
theorem frs_cons {env : Env} {l : List Env} {L : Addr} (h : env.frame = some L) : frs (env :: l) = L :: frs l := by unfold frs; rw [List.filterMap_cons, h]
theorem made_leaves {pins : List (Addr × Obj)} {σ : St} {H : Hp} {s : Shared} {h' : Heap} {e C : Addr} {vs : List Value} (I : Inv (cxE P w K mg base N qual scope f cd A outer s₀ H₀ E) pins σ H s) (hx : Heap.MadeExcOf s.heap h' e (.ref C) vs) (hE : E (.ref C) none H) :
    (cxE P w K mg base N qual scope f cd A outer s₀ H₀ E).xe (.ref e) { s with heap := h' } := by
  have hf : (envOfC qual scope s₀.heap.objs.size f cd).frame = some s₀.heap.objs.size := rfl
  have hst : (cxE P w K mg base N qual scope f cd A outer s₀ H₀ E).stack = envOfC qual scope s₀.heap.objs.size f cd :: outer := rfl
  have hin : ∀ env ∈ (envOfC qual scope s₀.heap.objs.size f cd :: outer), ∀ b, env.frame = some b → b ∈ frs (envOfC qual scope s₀.heap.objs.size f cd :: outer) := fun env he b hb => List.mem_filterMap.mpr ⟨env, he, hb⟩
  have FF : s.heap.FunFrames base (envOfC qual scope s₀.heap.objs.size f cd :: outer) := I.stack
  have fr0 : ∀ b ∈ frs (envOfC qual scope s₀.heap.objs.size f cd :: outer), H b = none := I.stkFree
  have nin : ∀ b o, s₀.heap.get? b = some o → b ∉ frs outer → b ∉ frs (envOfC qual scope s₀.heap.objs.size f cd :: outer) := fun b o q nb => by
    rw [frs_cons hf]
    intro z
    rcases List.mem_cons.mp z with z | z
    · exact absurd (Heap.lt_size q) (by rw [z]; exact Nat.lt_irrefl _)
    · exact nb z
  have U : Un (frs outer) [] H₀ H s₀.heap s.heap := I.base
  show wpAny _ _ (leaving _ _) _ _ _
  refine wpAny_leaves_madeW (base := PySem.W.hideAll s.heap (frs (envOfC qual scope s₀.heap.objs.size f cd :: outer))) (h := s.heap) I.ok.frames hf (fun b o q => PySem.W.of_hideAll _ q) (PySem.W.funFrames_hide FF hin) hx fun h'' t x1 _ _ x4 => ?_
  have stay := x1.1
  refine ⟨e, C, _, _, H, rfl, ⟨I.os, I.bare, ⟨fun b o q n nb _ => ?_, fun b o q n hb _ => ?_, fun b o q n hx' => U.free b o q n hx', fun b o q _ => ?_, U.tups, U.frzs, U.tbls⟩, hok_hide I.hok fr0, fun b o q n nb => ?_, fun b o q nb => ?_, x1⟩, hE⟩
  · exact stay _ _ (PySem.W.hideAll_get _ (U.keep b o q n nb (by simp)) (nin b o q nb))
  · obtain ⟨sl, q1⟩ := U.slot b o q n hb (by simp)
    obtain ⟨_, o2, ho2, hnf⟩ := I.funs.mem hb
    have e2 : o2 = { o with slots := sl } := Option.some.inj (ho2.symm.trans q1)
    obtain ⟨sl', q2⟩ := x4 b o2 (hx.keeps _ _ ho2) hnf
    rw [e2] at q2
    exact ⟨sl', q2⟩
  · obtain ⟨o', q1⟩ := U.there b o q (by simp)
    by_cases hb : b ∈ frs outer
    · obtain ⟨_, o2, ho2, hnf⟩ := I.funs.mem hb
      obtain ⟨sl', q2⟩ := x4 b o2 (hx.keeps _ _ ho2) hnf
      exact ⟨_, q2⟩
    · exact ⟨o', stay _ _ (PySem.W.hideAll_get _ q1 (nin b o q hb))⟩
  · exact PySem.W.hideAll_get _ (U.keep b o q n nb (by simp)) (nin b o q nb)
  · obtain ⟨o', q1⟩ := U.there b o q (by simp)
    exact ⟨o', PySem.W.hideAll_get _ q1 (nin b o q nb)⟩
end
end L2
namespace L2
open PySem PySem.Spec PyProof.Rows
def bmV : List Value := [.type "ValueError", .type "Exception", .type "BaseException", .type "object"]
structure XCls (K : PySem.W.Frag) (mg : Str → Option Value) (x : Str) (C : Addr) : Prop where
  bound : mg x = some (.ref C)
  exc : PySem.W.excIn K C bmV "ValueError.__new__" = true
theorem exc_obj {K : PySem.W.Frag} {h : Heap} {C : Addr} {bmB : List Value} {nid : String} (X : K.In h) (q : PySem.W.excIn K C bmB nid = true) :
    ∃ bm N nm qn bs hdct sn sub ab col dd k0 k1 k2 k3 k5 mN, h.get? C = some (excClassObj nm qn C N bs bm hdct sn sub ab col dd k0 k1 k2 k3 k5 nid) ∧ h.Ns N mN ∧ mN "__init__" = none ∧ OwnTail h bmB bm := by
  unfold PySem.W.excIn at q
  split at q
  · rename_i dd cd sl hlk
    split at q
    · rename_i C' bm u0 u1 u2 u3 n u5 hmro hsl
      simp only [Bool.and_eq_true, beq_iff_eq, Bool.not_eq_true'] at q
      obtain ⟨⟨⟨⟨⟨rfl, rfl⟩, q3⟩, q4⟩, q5⟩, q6⟩ := q
      obtain ⟨nm, bs, mro, ns, qn, hd, sn, sub, ab, col, del⟩ := cd
      dsimp only at hmro q3 q5 q6
      subst hmro q3
      obtain ⟨l⟩ := sl
      simp only at hsl
      subst hsl
      exact ⟨bm, ns, nm, qn, bs, hd, sn, sub, ab, col, dd, u0, u1, u2, u3, u5, _, X _ _ hlk, .of_isNs (PySem.W.isNs_of_in X q5), PySem.W.nsMap_none_of_in X q5 q6, PySem.W.tail_of_in X q4⟩
    · cases q
  · cases q
section
variable {P : Program} {w : World} {K : PySem.W.Frag} {mg : Str → Option Value} {base : Heap} {N : List Str} {qual : Str} {scope : Scope} {f : Addr} {cd : Value} {A : Around} {outer : List Env} {s₀ : Shared} {H₀ : Hp} {E : XK}
def tRaise (C : Addr) (E : XK) (t : TA) : TS := fun _ σ H => t σ H fun vs H1 => vs.length ≤ sizeLine ∧ E (.ref C) none H1
theorem ps_raise {x : Str} {C : Addr} {e₀ : Expr} {es : List Expr} {np cpos pos : Pos} {t : TA} (hC : XCls K mg x C) (hg : Gl (cxE P w K mg base N qual scope f cd A outer s₀ H₀ E) x)
    (ha : PA (cxE P w K mg base N qual scope f cd A outer s₀ H₀ E).nox (e₀ :: es) t)
    (hd : (x == ("__debug__" : Str)) = false := by decide) (he : starEach (e₀ :: es) (cxE P w K mg base N qual scope f cd A outer s₀ H₀ E).env = (false, eval e₀ (cxE P w K mg base N qual scope f cd A outer s₀ H₀ E).env) :: starEach es (cxE P w K mg base N qual scope f cd A outer s₀ H₀ E).env := by rfl)
    (hpl : (backTo cpos (starEach es (cxE P w K mg base N qual scope f cd A outer s₀ H₀ E).env)).any (·.1) = false := by rfl) :
    PS (cxE P w K mg base N qual scope f cd A outer s₀ H₀ E) (.Raise (some (.Call (.Name x np) (e₀ :: es) [] cpos)) none pos) (tRaise C E t) := by
  intro pins s σ H D I h
  obtain ⟨bm, Nn, nm, qn, bs, hdct, sn, sub, ab, col, dd, k0, k1, k2, k3, k5, mN, hCo, hN, hni, T⟩ := exc_obj I.ok.mod.kin hC.exc
  refine wpAny_Raise_call_subT (C := C) (nm := nm) (q := qn) (N := Nn) (bs := bs) (bm := bm) (hdct := hdct) (sn := sn) (sub := sub) (ab := ab) (col := col) (dd := dd) (k0 := k0) (k1 := k1) (k2 := k2) (k3 := k3) (k5 := k5) (mN := mN) (bmB := bmV) (newId := "ValueError.__new__")
    PySem.F.excBase_ValueError (T.hasType (by decide)) (I.ok.hd rfl) (by rw [he]; exact hpl) hni (ld_glob I hg hC.bound ⟨rfl, ?_⟩ hd)
  have z := ha cpos pins s σ H _ (I.wish _) h
  have he' : starEach (e₀ :: es) (cxE P w K mg base N qual scope f cd A outer s₀ H₀ E).nox.env = (false, eval e₀ (cxE P w K mg base N qual scope f cd A outer s₀ H₀ E).env) :: starEach es (cxE P w K mg base N qual scope f cd A outer s₀ H₀ E).env := he
  rw [he'] at z
  rw [he]
  refine Calls.evalArgs_plain ?_
  refine wpAny_mono z (fun us s1 h1 => ?_) fun _ _ z => False.elim z
  obtain ⟨vs, H1, I1, r, hl, hE⟩ := h1
  have I1 := I1.unwish
  exact ⟨rfl, by rw [← r.length]; exact hl, I1.bk _ _ hCo, hN.keeps I1.bk, T.keeps I1.bk, fun h' e hm => made_leaves I1 hm hE⟩
end
end L2
namespace L2
open PySem PySem.Spec PyProof.Rows
section
variable {P : Program} {w : World} {K : PySem.W.Frag} {mg : Str → Option Value} {base : Heap}
theorem Def.okE {x : Str} {st : Stmt} {N ps : List Str} {k : Nat} {sp : Sp} (F : Def K mg x st) (S : FnScope N ps (defScope st)) (len : ∀ vs H Q E, sp vs H Q E → vs.length = ps.length)
    (hb : ∀ (kV doc pm : Value) (an : Option Addr) (cdv ct : Value) (us : List Value), us.length = ps.length → bindArgs (PySem.W.fnOf x x (defArgs st) (defBody st) (defScope st) .none kV doc pm an cdv ct) ⟨us, []⟩ = pure (ps.zip us))
    (hbody : ∀ (f : Addr) (cdv : Value) (A : Around) (outer : List Env) (s : Shared) (H : Hp) (vs : List V) (Q : VK) (E : XK), Room k (A.deeper (envOfC x (defScope st) s.heap.objs.size f cdv)) → sp vs H Q E →
      ∃ t, PSs (cxE P w K mg base N x (defScope st) f cdv A outer s H E) (defBody st) t ∧ t { nx := fun _ H' => Q .non H', rt := Q } (start N vs) H) : Dn P w K mg base (CXE P w) (k + 1) x ps sp := by
  obtain ⟨f, fd, F, m⟩ := F
  have hbd := F.binds hb
  have kp := F.kp
  obtain ⟨oc, od, kV, doc, pm, an, cdv, ct, osl, rfl, lk, hcd⟩ := F.ex
  exact ⟨f, _, fn_of lk hcd S len fun A outer s H vs Q E hr hsp => hbody f cdv A outer s H vs Q E hr hsp, m, kp, hbd⟩
theorem passN {X : Cx} : Passes (CXE X.prog X.w) X E0 := fun _ _ _ _ _ _ _ ⟨_, _, _, _, _, _, _, z⟩ => z.elim
end
structure Xs where
  WishError : Addr
  NoFraction : Addr
  NoWishes : Addr
  NoTable : Addr
  NoPick : Addr
  NoOrder : Addr
  NoRoll : Addr
  NoPerson : Addr
  Unready : Addr
  NoWay : Addr
end L2
namespace L2
open PySem PySem.Spec PyProof.Rows
def spFractionE (x : Xs) : Sp := fun vs H Q E => ∃ t b : Int, vs = [.int t, .int b] ∧ (b = 0 → E (.ref x.NoFraction) none H) ∧ (b ≠ 0 → b.natAbs < 2 ^ 9000 ∧ ∀ p H', Same H H' → H' p = some (tupF (FQ.red t b)) → Q (.ref p) H')
def spBefore (K : PySem.W.Frag) : Sp := fun vs H Q _ => ∃ a b x y, vs = [.ref a, .ref b] ∧ SqT K H a [.int x.1, .int x.2] ∧ SqT K H b [.int y.1, .int y.2] ∧ Sz 4000 x ∧ Sz 4000 y ∧ Q (.bl (decide (x.1 * y.2 < y.1 * x.2))) H
end L2
namespace L2
open PySem PySem.Spec PyProof.Rows
section
variable {X : Cx}
theorem vals_at {xs : List V} {us : List Value} (r : Vals xs us) {i : Nat} {u : Value} (h : us[i]? = some u) : ∃ x, xs[i]? = some x ∧ RelV x u := by
  have hl := r.length
  have hi : i < us.length := (List.getElem?_eq_some_iff.mp h).1
  have e : xs[i]? = some xs[i] := by simp [show i < xs.length by omega]
  obtain ⟨u', h1, h2⟩ := r.get e
  rw [h] at h1
  cases h1
  exact ⟨_, e, h2⟩
theorem vals_of : ∀ {xs : List V} {us : List Value}, xs.length = us.length → (∀ (i : Nat) (v : V) (u : Value), xs[i]? = some v → us[i]? = some u → RelV v u) → Vals xs us
  | [], [], _, _ => .nil
  | x :: xs, u :: us, hl, h => .cons (h 0 x u rfl rfl) (vals_of (by simpa using hl) fun i v w h1 h2 => h (i + 1) v w (by simpa using h1) (by simpa using h2))
theorem call_all (hc : X.calm = true) : CallR X (.builtin "all") (fun xs H Q => ∃ (p : Addr) (bs : List Bool), xs = [.ref p] ∧ SqL X.K H p (bs.map V.bl) ∧ Q (.bl (bs.all id)) H) := by
  intro pins s σ H xs us Q I r h
  obtain ⟨p, bs, rfl, hq, q⟩ := h
  obtain ⟨u, rfl, rx⟩ := vals1 r
  cases (show u = Value.ref p from rx)
  obtain ⟨its, rv, pl, hz⟩ := I.list hq
  have hl := rv.length
  rw [List.length_map] at hl
  have hp : p < s.heap.objs.size := by obtain ⟨_, e, _⟩ := pl.isList; exact Heap.lt_size e
  have htr : TruthOf X.prog X.w X.A.in1 (fun i v => its.toArray[i]? = some v) (fun i => bs.getD i false) := fun i v s Q E hv hQ => by
    dsimp only at hv hQ
    rw [List.getElem?_toArray] at hv
    obtain ⟨x, hx, rx⟩ := vals_at rv hv
    rw [List.getElem?_map] at hx
    cases hb : bs[i]? with
    | none => rw [hb] at hx; cases hx
    | some b =>
      rw [hb] at hx
      cases hx
      cases (show v = Value.bool b from rx)
      have e : bs.getD i false = b := by simp [List.getD_eq_getElem?_getD, hb]
      rw [e] at hQ
      exact wpAny_pure hQ
  refine call_all_walk (wpAny_pyIter_list pl.isList ⟨s.heap.objs.size, _, _, _, _, _, _, rfl, Walks.list (A := X.A.in1) (I.ok.hd hc) s.heap.objs.size p (Nat.ne_of_lt hp) its.toArray, ⟨⟨_, Heap.get?_push_size _ rfl, rfl, rfl⟩, pl.isList.push _⟩, htr, fun h' tk hk => ?_⟩)
  have e : (List.range its.toArray.size).all (fun i => bs.getD i false) = bs.all id := by
    rw [List.size_toArray, ← hl]
    apply Bool.eq_iff_iff.mpr
    rw [List.all_eq_true, List.all_eq_true]
    constructor
    · intro h x hx
      obtain ⟨i, hi, rfl⟩ := List.mem_iff_getElem.mp hx
      have := h i (List.mem_range.mpr hi)
      simpa [hi] using this
    · intro h i hi
      have hi' := List.mem_range.mp hi
      have := h bs[i] (List.getElem_mem hi')
      simpa [hi'] using this
  rw [e]
  refine ⟨.bl _, H, I.kept fun b o ho => hk b o (fun hm => ?_) (Heap.get?_push_of_some _ ho), rfl, q⟩
  rw [List.mem_singleton] at hm
  subst hm
  exact absurd (Heap.lt_size ho) (Nat.lt_irrefl _)
theorem ints_are {ns : List Int} : ∀ {vs : List Value}, Vals (ns.map V.int) vs → IntsAre vs ns := by
  induction ns with
  | nil => intro vs r; cases r; exact .nil
  | cons n ns ih =>
    intro vs r
    cases r with
    | cons r rs =>
      obtain ⟨t, rfl⟩ := (show ∃ t, _ = Value.int n t from r)
      exact .cons _ _ (ih rs)
theorem collect_tup {prog : Program} {w : World} {A : Around} {E : Value → Shared → Prop} {s : Shared} {l : Addr} {vs : List Value} {Q : List Value → Shared → Prop} (ht : IsTup s.heap l vs.toArray) (hsz : vs.length ≤ sizeLine)
    (h : Q vs { s with heap := (s.heap.push (seqObj "list" #[] 0)).update s.heap.objs.size (Obj.mapSeq (· ++ vs.toArray)) }) : wpAny (model prog w) A (collect (.ref l)) Q E s := by
  obtain ⟨o, ho, hcl, n, hd⟩ := ht
  have ho' : (s.heap.push (seqObj "list" #[] 0)).get? l = some o := Heap.get?_push_of_some _ ho
  have hnew : (s.heap.push (seqObj "list" #[] 0)).get? s.heap.objs.size = some (seqObj "list" #[] 0) := Heap.get?_push_size _ rfl
  unfold collect
  refine wpAny_bind (wpAny_runValue (codeAny_builtin F.entry_proto_collect ?_))
  change wpAny _ _ (do again (.builtin "list.__iadd__" ⟨[← newList [], .ref l], []⟩)) _ _ s
  refine wpAny_bind (wpAny_newList (wpAny_pure ⟨Code.quiet_builtin _ (by decide +kernel), codeAny_builtin F.entry_list_iadd ?_⟩))
  change wpAny _ _ (Builtin.List.listExtendWith (.ref s.heap.objs.size) (.ref l) (.ref s.heap.objs.size)) _ _ { s with heap := s.heap.push (seqObj "list" #[] 0) }
  unfold Builtin.List.listExtendWith
  refine wpAny_bind (wpAny_typeOf (T := "tuple") ⟨o, ho', hcl⟩ ?_)
  rw [if_pos (by rw [show (Value.type "tuple" == Value.type "tuple") = true from rfl]; simp)]
  refine wpAny_bind (listItems_at ho' hd ?_)
  refine wpAny_bind (listItems_at (xs := #[]) (n := 0) hnew rfl ?_)
  rw [if_neg (by simp)]
  refine wpAny_bind (listUpdate_at (xs := #[]) (n := 0) hnew rfl ?_ (Nat.zero_le _) (by change (#[] ++ vs.toArray).size ≤ sizeLine + 1; simp only [Array.size_append, List.size_toArray, List.length_nil]; omega))
  refine wpAny_pure ?_
  change wpAny (model prog w) A (do
      let o ← load s.heap.objs.size
      match o.data with
      | .seq xs _ => pure xs.toList
      | _ => unsupported "internal:collect") Q E { s with heap := (s.heap.push (seqObj "list" #[] 0)).update s.heap.objs.size (Obj.mapSeq (· ++ vs.toArray)) }
  refine wpAny_bind (wpAny_load (get?_update_seq hnew _) ?_)
  change wpAny _ _ (pure ((#[] : Array Value) ++ vs.toArray).toList) Q E _
  have e : ((#[] : Array Value) ++ vs.toArray).toList = vs := by simp
  rw [e]
  exact wpAny_pure h
theorem sorted_tup {prog : Program} {w : World} {A : Around} {E : Value → Shared → Prop} {s : Shared} {l : Addr} {vs : List Value} {ns : List Int} {Q : Value → Shared → Prop} (ht : IsTup s.heap l vs.toArray) (hI : IntsAre vs ns) (h64 : vs.length < 64)
    (h : ∀ (out : Array Value) (ns' : List Int), IntsAre out.toList ns' → ns'.Perm ns → ns'.Pairwise (· ≤ ·) → Q (.ref (s.heap.objs.size + 1)) { s with heap := sortedAll s.heap vs out }) :
    wpAny (model prog w) A (call (.builtin "sorted") [.ref l]) Q E s := by
  have e1 : ((s.heap.push (seqObj "list" #[] 0)).update s.heap.objs.size (Obj.mapSeq (· ++ vs.toArray))).objs.size = s.heap.objs.size + 1 := by rw [Heap.size_update, size_push']
  have e2 : (((s.heap.push (seqObj "list" #[] 0)).update s.heap.objs.size (Obj.mapSeq (· ++ vs.toArray))).push (seqObj "list" vs.toArray 0)).get? (s.heap.objs.size + 1) = some (seqObj "list" vs.toArray 0) := by
    rw [← e1]; exact Heap.get?_push_size _ rfl
  refine Calls.call_function_entry kind_sorted plain_sorted entry_sorted (args_sorted1 _) ?_
  unfold Builtin.«sorted»
  refine wpAny_bind (m := checkCount "sorted" 1 1 _) (wpAny_pure ?_)
  have hn : vs.length ≤ sizeLine := Nat.le_of_lt (small1000 (by omega))
  refine wpAny_bind (collect_tup ht hn (wpAny_bind (wpAny_newList ?_)))
  change wpAny _ _ _ _ _ { s with heap := ((s.heap.push (seqObj "list" #[] 0)).update s.heap.objs.size (Obj.mapSeq (· ++ vs.toArray))).push (seqObj "list" vs.toArray 0) }
  rw [e1]
  refine wpAny_bind (wpAny_holding (wpAny_call_entry slot_list_sort ⟨_, e2, rfl⟩ entry_list_sort (list_sort_tree e2 hI h64 fun out ns' a1 a2 a3 => ⟨_, rfl, ?_⟩) (args_list_sort _)))
  exact wpAny_pure ⟨_, rfl, h out ns' a1 a2 a3⟩
theorem call_sorted : CallR X (.builtin "sorted") (fun xs H Q => ∃ (p : Addr) (ns : List Int), xs = [.ref p] ∧ (SqL X.K H p (ns.map V.int) ∨ SqT X.K H p (ns.map V.int)) ∧ ns.length < 64 ∧ ∀ (l : Addr) (ns' : List Int), H l = none → ns'.Perm ns → ns'.Pairwise (· ≤ ·) → Q (.ref l) (upd H l (.lst (ns'.map V.int)))) := by
  intro pins s σ H xs us Q I r h
  obtain ⟨p, ns, rfl, hq, h64, q⟩ := h
  obtain ⟨u, rfl, rx⟩ := vals1 r
  cases (show u = Value.ref p from rx)
  have fin : ∀ (its : List Value), Vals (ns.map V.int) its → ∀ (out : Array Value) (ns' : List Int), IntsAre out.toList ns' → ns'.Perm ns → ns'.Pairwise (· ≤ ·) → EP X pins σ Q (.ref (s.heap.objs.size + 1)) { s with heap := sortedAll s.heap its out } := fun its rv out ns' a1 a2 a3 => by
    obtain ⟨e, he⟩ := sortedAll_at s.heap its out
    refine ⟨.ref (s.heap.objs.size + 1), _, I.laid (t' := s.toks) (fun b o ho => sortedAll_old ho) (Nat.le_succ _) (show ObjOk X.prog X.w _ _ _ (.lst (ns'.map V.int)) from ⟨?_, out.toList, e, vals_ints a1, by rw [he]⟩), rfl, q _ ns' (I.hok.fresh (Nat.le_succ _)) a2 a3⟩
    rw [List.length_map, a2.length_eq]
    exact Nat.le_of_lt (small1000 (by omega))
  rcases hq with hq | hq
  · obtain ⟨its, rv, pl, hz⟩ := I.list hq
    have hl := rv.length
    rw [List.length_map] at hl
    exact sorted_ints pl.isList (ints_are rv) (by omega) (fin its rv)
  · obtain ⟨its, rv, pl, hz⟩ := I.tuple hq
    have hl := rv.length
    rw [List.length_map] at hl
    exact sorted_tup pl (ints_are rv) (by omega) (fin its rv)
theorem call_range : CallR X (.type "range") (fun xs H Q => ∃ n : Int, xs = [.int n] ∧ ∀ l, H l = none → Q (.ref l) (upd H l (.rng 0 n))) := by
  intro pins s σ H xs us Q I r h
  obtain ⟨n, rfl, q⟩ := h
  obtain ⟨u, rfl, t, rfl⟩ := vals1 r
  exact call_range_1 ⟨.ref s.heap.objs.size, _, I.laid (fun b o ho => Heap.get?_push_of_some _ ho) (Nat.le_refl _) (show ObjOk X.prog X.w _ _ _ (.rng 0 n) from ⟨_, _, _, Heap.get?_push_size _ rfl⟩), rfl, q _ I.fresh⟩
theorem call_list_rng (hc : X.calm = true) : CallR X (.type "list") (fun xs H Q => ∃ p n, xs = [.ref p] ∧ H p = some (.rng 0 (n : Nat)) ∧ n ≤ 1000 ∧ ∀ l, H l = none → Q (.ref l) (upd H l (.lst ((List.range n).map fun (i : Nat) => V.int (i : Int))))) := by
  intro pins s σ H xs us Q I r h
  obtain ⟨p, n, rfl, hq, hn, q⟩ := h
  obtain ⟨u, rfl, rx⟩ := vals1 r
  cases (show u = Value.ref p from rx)
  obtain ⟨t, t2, t3, hr⟩ := I.hok p _ hq
  have hs : Builtin.Range.rangeSize 0 (n : Int) 1 = (n : Int) := by rw [rangeSize_one]; split <;> omega
  have hsm : Builtin.Range.small 0 (n : Int) 1 = true := small_one (by decide) (by decide) (by omega) (by omega)
  refine call_list_range (I.ok.hd hc) hr hsm hs (by omega) fun h' tk acc' c' hk hS hacc => ?_
  refine ⟨.ref s.heap.objs.size, _, I.laid hk (Nat.le_refl _) (show ObjOk X.prog X.w _ _ _ (.lst _) from ⟨?_, acc'.toList, c', ?_, ?_⟩), rfl, q _ I.fresh⟩
  · rw [List.length_map, List.length_range]; exact Nat.le_of_lt (small1000 hn)
  · refine vals_of (by rw [List.length_map, List.length_range, Array.length_toList, hacc.1]) fun i v u h1 h2 => ?_
    rw [List.getElem?_map] at h1
    have hi : i < n := by
      by_cases z : i < n
      · exact z
      · rw [List.getElem?_eq_none (by simpa using z)] at h1; cases h1
    rw [List.getElem?_range hi] at h1
    cases h1
    obtain ⟨t', e⟩ := hacc.2 i u (by rw [← h2]; simp)
    rw [e]
    exact ⟨t', by simp⟩
  · simpa using hS
end
end L2
namespace L2
open PySem PySem.Spec PyProof.Rows
mutual
theorem okD_lay : ∀ (n : Nat) (d : PyData), okD n d = true → d.canLay0 = true ∧ d.depth ≤ n
  | _, .none, _ => by simp [PyData.canLay0, PyData.depth]
  | _, .bool _, _ => by simp [PyData.canLay0, PyData.depth]
  | _, .int _, _ => by simp [PyData.canLay0, PyData.depth]
  | n, .str x, h => by
    have h' : SeqAt.shaped (.str x) = true := by cases n <;> simpa [okD] using h
    exact ⟨SeqAt.canLay_of_shaped h', by simp [PyData.depth]⟩
  | n + 1, .tuple ds, h => by
    have := okD_lays n ds (by simpa [okD] using h)
    simp [PyData.canLay0, PyData.depth, this]
  | n + 1, .list ds, h => by
    have := okD_lays n ds (by simpa [okD] using h)
    simp [PyData.canLay0, PyData.depth, this]
  | 0, .tuple _, h => by simp [okD] at h
  | 0, .list _, h => by simp [okD] at h
  | 0, .dict _, h => by simp [okD] at h
  | _ + 1, .dict _, h => by simp [okD] at h
theorem okD_lays : ∀ (n : Nat) (ds : List PyData), (∀ d ∈ ds, okD n d = true) → PyData.canLayAll0 ds = true ∧ PyData.depthAll ds ≤ n
  | n, [], _ => by simp [PyData.canLayAll0, PyData.depthAll]
  | n, d :: ds, h => by
    have h1 := okD_lay n d (h d List.mem_cons_self)
    have h2 := okD_lays n ds fun x hx => h x (List.mem_cons_of_mem _ hx)
    simp only [PyData.canLayAll0, PyData.depthAll, h1.1, h2.1, Bool.and_self, true_and]
    omega
end
theorem shaped_ok {n : Nat} {d : PyData} (h : okD n d = true) (hn : n ≤ 64) : SeqAt.shaped d = true := by
  have := okD_lay n d h
  unfold SeqAt.shaped
  rw [this.1]
  simp
  omega
theorem eqvAll_ints : ∀ a b : List Int, PyData.eqvAll (a.map PyData.int) (b.map PyData.int) = decide (a = b)
  | [], [] => by simp [PyData.eqvAll]
  | [], _ :: _ => by simp [PyData.eqvAll]
  | _ :: _, [] => by simp [PyData.eqvAll]
  | x :: a, y :: b => by
    simp only [List.map_cons, PyData.eqvAll, PyData.eqv, eqvAll_ints a b]
    by_cases h1 : x = y <;> by_cases h2 : a = b <;> simp [h1, h2]
theorem eqv_ints (a b : List Int) : PyData.eqv (.list (a.map PyData.int)) (.list (b.map PyData.int)) = decide (a = b) := by
  rw [PyData.eqv, eqvAll_ints]
end L2
namespace L2
open PySem PySem.Spec PyProof.Rows
section
variable {X : Cx} {K : PySem.W.Frag}
theorem call_tuple_ofK (h : X.K = K) : CallR X (.type "tuple") (fun xs H Q => ∃ p ys, xs = [.ref p] ∧ ((SqL K H p ys ∧ ∀ l, H l = none → Q (.ref l) (upd H l (.tup ys))) ∨ (SqT K H p ys ∧ Q (.ref p) H))) := by subst h; exact call_tuple_of
theorem call_list_ofK (h : X.K = K) : CallR X (.type "list") (fun xs H Q => ∃ p ys, xs = [.ref p] ∧ (SqL K H p ys ∨ SqT K H p ys) ∧ ∀ l, H l = none → Q (.ref l) (upd H l (.lst ys))) := by subst h; exact call_list_of
theorem ix_listK (h : X.K = K) : IxR X (rIxL K) := by subst h; exact ix_list
theorem ix_tupK (h : X.K = K) : IxR X (rIxT K) := by subst h; exact ix_tup
theorem pi_listK {tg l : Expr} {tl : TE} (h : X.K = K) (hl : PE X l tl) : PI X tg l (iList K tl) := by subst h; exact pi_list hl
end
end L2
namespace LM
def rng (n : Nat) : List Int := (List.range n).map Int.ofNat
theorem rng_len (n : Nat) : (rng n).length = n := by simp [rng]
theorem mem_rng {n : Nat} {x : Int} : x ∈ rng n ↔ 0 ≤ x ∧ x < n := by
  unfold rng
  simp only [List.mem_map, List.mem_range]
  constructor
  · rintro ⟨a, h, rfl⟩; simp; omega
  · rintro ⟨h0, h1⟩; exact ⟨x.toNat, by omega, by simp; omega⟩
theorem rng_sorted (n : Nat) : (rng n).Pairwise (· ≤ ·) := by
  unfold rng
  rw [List.pairwise_map]
  refine List.Pairwise.imp ?_ (List.pairwise_lt_range (n := n))
  intro a b h
  simp
  omega
theorem rng_nodup (n : Nat) : (rng n).Nodup := by
  unfold rng
  rw [List.nodup_iff_pairwise_ne, List.pairwise_map]
  refine List.Pairwise.imp ?_ (List.pairwise_lt_range (n := n))
  intro a b h z
  have : a = b := Int.ofNat.inj z
  omega
theorem sorted_same {a b r : List Int} (ha : a.Perm r) (hs : a.Pairwise (· ≤ ·)) (hr : r.Pairwise (· ≤ ·)) : a = r :=
  List.Perm.eq_of_pairwise (fun x y _ _ h1 h2 => Int.le_antisymm h1 h2) hs hr ha
theorem sorted_iff {ns ns' : List Int} {n : Nat} (hp : ns'.Perm ns) (hs : ns'.Pairwise (· ≤ ·)) : ns' = rng n ↔ ns.Perm (rng n) :=
  ⟨fun e => e ▸ hp.symm, fun h => sorted_same (b := []) (hp.trans h) hs (rng_sorted n)⟩
end LM
namespace L2
open PySem PySem.Spec PyProof.Rows
theorem map_erase : ∀ (m : List Int) (j : Nat), (m.eraseIdx j).map V.int = (m.map V.int).eraseIdx j
  | [], _ => rfl
  | _ :: _, 0 => rfl
  | x :: m, j + 1 => by simp [map_erase m j]
end L2
namespace L2
open PySem PySem.Spec PyProof.Rows
def fr (T : Int) (m : List Int) : List (Int × Int) := m.map fun x => FQ.red x T
def dFr (T : Int) (m : List Int) : List PyData := (fr T m).map dF
theorem okD_dFr (T : Int) (m : List Int) : ∀ d ∈ dFr T m, okD 1 d = true := by
  intro d hd
  obtain ⟨p, _, rfl⟩ := List.mem_map.mp hd
  simp [dF, okD]
def RwFT (K : PySem.W.Frag) (H : Hp) (T : Int) (v : V) (m : List Int) : Prop := ∃ a gs, v = .ref a ∧ SqT K H a gs ∧ Paired (IsF K H) gs (fr T m)
theorem fracs_mono {K : PySem.W.Frag} {H H' : Hp} {gs : List V} {ps : List (Int × Int)} (e : Same H H') (h : Paired (IsF K H) gs ps) : Paired (IsF K H') gs ps := Paired.mapP h fun _ _ q => q.mono e
theorem RwFT.mono {K : PySem.W.Frag} {H H' : Hp} {T : Int} {v : V} {m : List Int} (e : Same H H') (h : RwFT K H T v m) : RwFT K H' T v m := by
  obtain ⟨a, gs, rfl, q, hg⟩ := h
  exact ⟨a, gs, rfl, e.tup q, fracs_mono e hg⟩
theorem RwFT.rep {K : PySem.W.Frag} {H : Hp} {T : Int} {v : V} {m : List Int} (h : RwFT K H T v m) (hl : m.length ≤ 1000) : Rep K H v (.tuple (dFr T m)) := by
  obtain ⟨a, gs, rfl, q, hg⟩ := h
  have := Paired.len hg
  exact .tup q (Reps.of_fracs hg) (by rw [this, fr, List.length_map]; exact hl)
theorem Reps.of_frows {K : PySem.W.Frag} {H : Hp} {T : Int} : ∀ {xs : List V} {Z : List (List Int)}, Paired (RwFT K H T) xs Z → (∀ r ∈ Z, r.length ≤ 1000) → Reps K H xs (Z.map fun m => .tuple (dFr T m))
  | _, _, .nil, _ => .nil
  | _, _, .cons r t, h => .cons (r.rep (h _ List.mem_cons_self)) (Reps.of_frows t fun x hx => h x (List.mem_cons_of_mem _ hx))
end L2
namespace LN
open LM
def m1 (c p : Int) : Int := (c % 2147483629 * 16807 + 69621 * p + 11) % 2147483629
def m2 (n p : Int) : Int := (n * n + 48271 * p + 7) % 2147483629
def m3 (n : Int) : Int := (n * n + 69621) % 2147483587
def mixed (c p : Int) : Int := m3 (m2 (m1 c p) p)
theorem m1_bd (c p : Int) : 0 ≤ m1 c p ∧ m1 c p < 2147483629 := ⟨Int.emod_nonneg _ (by decide), Int.emod_lt_of_pos _ (by decide)⟩
theorem m2_bd (c p : Int) : 0 ≤ m2 c p ∧ m2 c p < 2147483629 := ⟨Int.emod_nonneg _ (by decide), Int.emod_lt_of_pos _ (by decide)⟩
def ordGo (n : Nat) (num : Int) : Nat → List Int × List Int × Int
  | 0 => ([], rng n, num)
  | k + 1 =>
    let p := ordGo n num k
    (p.1 ++ [p.2.1.getD (p.2.2 % p.2.1.length).toNat 0], p.2.1.eraseIdx (p.2.2 % p.2.1.length).toNat, p.2.2 / 6)
def order (num : Int) (n : Nat) : List Int := (ordGo n num n).1
theorem erase_perm : ∀ {l : List Int} {i : Nat}, i < l.length → (l.getD i 0 :: l.eraseIdx i).Perm l
  | x :: l, 0, _ => by simp
  | x :: l, i + 1, h => by
    have ih := erase_perm (l := l) (i := i) (by simpa using h)
    rw [List.getD_cons_succ, List.eraseIdx_cons_succ]
    exact (List.Perm.swap x (l.getD i 0) _).trans (List.Perm.cons x ih)
theorem ordGo_ok (n : Nat) (num : Int) : ∀ k, k ≤ n → ((ordGo n num k).1 ++ (ordGo n num k).2.1).Perm (rng n) ∧ (ordGo n num k).1.length = k ∧ (ordGo n num k).2.1.length = n - k
  | 0, _ => by simp [ordGo, rng_len]
  | k + 1, h => by
    obtain ⟨ih, h1, h2⟩ := ordGo_ok n num k (by omega)
    have hl : ((ordGo n num k).2.2 % (ordGo n num k).2.1.length).toNat < (ordGo n num k).2.1.length := by
      have b0 := Int.emod_nonneg (ordGo n num k).2.2 (show ((ordGo n num k).2.1.length : Int) ≠ 0 by omega)
      have b1 := Int.emod_lt_of_pos (ordGo n num k).2.2 (show (0 : Int) < ((ordGo n num k).2.1.length : Int) by omega)
      omega
    refine ⟨?_, ?_, ?_⟩
    · show (((ordGo n num k).1 ++ [_]) ++ _).Perm _
      rw [List.append_assoc]
      exact (List.Perm.append_left _ (erase_perm hl)).trans ih
    · show ((ordGo n num k).1 ++ [_]).length = _
      rw [List.length_append, h1]; rfl
    · show (List.eraseIdx _ _).length = _
      rw [List.length_eraseIdx, if_pos hl, h2]
      omega
def Pm (n : Nat) (l : List Int) : Prop := l.Perm (rng n)
theorem order_pm (num : Int) (n : Nat) : Pm n (order num n) := by
  obtain ⟨h, h1, h2⟩ := ordGo_ok n num n (Nat.le_refl _)
  have e : (ordGo n num n).2.1 = [] := List.eq_nil_of_length_eq_zero (by omega)
  rw [e, List.append_nil] at h
  exact h
theorem Pm.len {n : Nat} {l : List Int} (h : Pm n l) : l.length = n := by rw [List.Perm.length_eq h, rng_len]
theorem Pm.mem {n : Nat} {l : List Int} (h : Pm n l) {x : Int} : x ∈ l ↔ 0 ≤ x ∧ x < n := by rw [List.Perm.mem_iff h]; exact mem_rng
theorem Pm.nodup {n : Nat} {l : List Int} (h : Pm n l) : l.Nodup := (List.Perm.nodup_iff h).mpr (rng_nodup n)
def wishGo (ns : List Int) (at' : Int) (n : Nat) : Nat → List (List Int)
  | 0 => []
  | k + 1 => wishGo ns at' n k ++ [if 0 < k ∧ cellAt ns (at' + k) % 4 = 1 then (wishGo ns at' n k).getD (cellAt ns (at' + k) / 4 % k).toNat [] else order (mixed (cellAt ns (at' + k)) k) n]
theorem wishGo_len (ns : List Int) (at' : Int) (n : Nat) : ∀ k, (wishGo ns at' n k).length = k
  | 0 => rfl
  | k + 1 => by rw [wishGo, List.length_append, wishGo_len]; rfl
theorem wishGo_pm (ns : List Int) (at' : Int) (n : Nat) : ∀ k, ∀ w ∈ wishGo ns at' n k, Pm n w
  | 0, w, h => by cases h
  | k + 1, w, h => by
    rw [wishGo] at h
    rcases List.mem_append.mp h with z | z
    · exact wishGo_pm ns at' n k w z
    · rw [List.mem_singleton.mp z]
      split
      · rename_i c
        have b0 := Int.emod_nonneg (cellAt ns (at' + k) / 4) (show (k : Int) ≠ 0 by omega)
        have b1 := Int.emod_lt_of_pos (cellAt ns (at' + k) / 4) (show (0 : Int) < k by omega)
        have hl : (cellAt ns (at' + k) / 4 % k).toNat < (wishGo ns at' n k).length := by rw [wishGo_len]; omega
        rw [List.getD_eq_getElem?_getD, List.getElem?_eq_getElem hl]
        exact wishGo_pm ns at' n k _ (List.getElem_mem hl)
      · exact order_pm _ _
def wishes (ns : List Int) (at' : Int) (n : Nat) : List (List Int) := wishGo ns at' n n
theorem wishes_len (ns : List Int) (at' : Int) (n : Nat) : (wishes ns at' n).length = n := wishGo_len ns at' n n
theorem wishes_pm {ns : List Int} {at' : Int} {n : Nat} {w : List Int} (h : w ∈ wishes ns at' n) : Pm n w := wishGo_pm ns at' n n w h
def deals (f : Int) : Int := if f / 54 % 8 = 1 then 9 + f / 432 % 17 else f / 6 % 9
theorem deals_bd (f : Int) : 0 ≤ deals f ∧ deals f ≤ 25 := by
  unfold deals
  split <;> omega
def sizes : List Int := [2, 7, 60, 1000000000000]
def size (x : Int) : Int := sizes.getD (x % 4).toNat 0
theorem size_bd (x : Int) : 0 < size x ∧ size x ≤ 1000000000000 := by
  have h : x % 4 = 0 ∨ x % 4 = 1 ∨ x % 4 = 2 ∨ x % 4 = 3 := by omega
  unfold size
  rcases h with e | e | e | e <;> rw [e] <;> decide
def tabGo (ns : List Int) (at' : Int) (n : Nat) (sz : Int) : Nat → List (List Int) × Int
  | 0 => (List.replicate n (List.replicate n 0), 0)
  | k + 1 =>
    (addDeal (tabGo ns at' n sz k).1 (order (mixed (cellAt ns (at' + 1 + k)) (20 + k)) n) (1 + cellAt ns (at' + 1 + k) / 5 % sz), (tabGo ns at' n sz k).2 + (1 + cellAt ns (at' + 1 + k) / 5 % sz))
theorem tabGo_ok {ns : List Int} {at' : Int} {n : Nat} {sz : Int} (h0 : 0 < sz) (h1 : sz ≤ 1000000000000) : ∀ k, SumsOk n (tabGo ns at' n sz k).1 (tabGo ns at' n sz k).2 ∧ (k : Int) ≤ (tabGo ns at' n sz k).2 ∧ (tabGo ns at' n sz k).2 ≤ k * 1000000000000
  | 0 => by
    refine ⟨⟨by simp [tabGo], fun r hr => ?_, fun r hr x hx => ?_, fun r hr => ?_⟩, by simp [tabGo], by simp [tabGo]⟩
    · rw [(List.mem_replicate.mp hr).2]; simp
    · rw [(List.mem_replicate.mp hr).2] at hx
      rw [(List.mem_replicate.mp hx).2]
      exact Int.le_refl _
    · rw [(List.mem_replicate.mp hr).2]; simp [tabGo]
  | k + 1 => by
    obtain ⟨ih, a, b⟩ := tabGo_ok (ns := ns) (at' := at') (n := n) h0 h1 k
    have p := order_pm (mixed (cellAt ns (at' + 1 + k)) (20 + k)) n
    have b0 := Int.emod_nonneg (cellAt ns (at' + 1 + k) / 5) (show sz ≠ 0 by omega)
    have b1 := Int.emod_lt_of_pos (cellAt ns (at' + 1 + k) / 5) h0
    refine ⟨addDeal_ok ih (by omega) p.len fun t ht => p.mem.mp ht, ?_, ?_⟩
    · show ((k + 1 : Nat) : Int) ≤ (tabGo ns at' n sz k).2 + _
      omega
    · show (tabGo ns at' n sz k).2 + _ ≤ ((k + 1 : Nat) : Int) * 1000000000000
      omega
def table (ns : List Int) (at' : Int) (many : Nat) (n : Nat) : List (List Int) × Int := tabGo ns at' n (size (mixed (cellAt ns at') 40)) (1 + many)
theorem table_ok (ns : List Int) (at' : Int) {many : Nat} (n : Nat) (h : many ≤ 25) : SumsOk n (table ns at' many n).1 (table ns at' many n).2 ∧ 0 < (table ns at' many n).2 ∧ (table ns at' many n).2 < 2 ^ 80 := by
  have b := size_bd (mixed (cellAt ns at') 40)
  obtain ⟨h1, h2, h3⟩ := tabGo_ok (ns := ns) (at' := at') (n := n) b.1 b.2 (1 + many)
  refine ⟨h1, ?_, ?_⟩
  · show 0 < (tabGo ns at' n (size (mixed (cellAt ns at') 40)) (1 + many)).2
    omega
  · show (tabGo ns at' n (size (mixed (cellAt ns at') 40)) (1 + many)).2 < 2 ^ 80
    omega
end LN
namespace L2
open PySem PySem.Spec PyProof.Rows
section
variable {X : Cx} {pins : List (Addr × Obj)} {σ : St} {H : Hp} {s : Shared} {h' : Heap}
theorem Inv.turnedL {t' : Nat} {fp : List Addr} (I : Inv X pins σ H s) (k : ∀ b o, b ∉ fp → s.heap.get? b = some o → h'.get? b = some o) (hf : ∀ b ∈ fp, FpOk X pins H b) : Inv X pins σ H { s with heap := h', toks := t' } := by
  have nit : ∀ b u, H b = some u → b ∉ fp := fun b u e z => by rw [(hf b z).1] at e; cases e
  refine I.step (g' := s.gens) (d' := s.drawn) (ch := fp) (fun b hb => ?_) (fun b o _ _ hc e _ => k b o hc e) (fun b o _ _ hc e _ => ⟨o.slots, k b o hc e⟩) (fun _ _ _ _ n => n)
    (fun b o hc e => ⟨o, k b o hc e⟩) (fun _ _ e => e) (fun _ _ _ e => e) (fun b ps e => ⟨#[], by rw [e]; simp⟩) (fun m hm => ?_) (fun b u e => ?_) I.bare
  · obtain ⟨f0, f1, f2, f3, f4, f5⟩ := hf b hb
    exact ⟨f3, f1, f4, f5⟩
  · obtain ⟨o, es, ep, ho, r⟩ := hm
    exact ⟨o, es, ep, k _ o (fun z => (hf _ z).2.1 rfl) ho, r⟩
  · refine (I.hok b u e).stay (fun c v hc q => k c v ?_ q) (fun _ q => q) fun _ _ q => q
    rcases hc with z | z
    · rw [z]; exact nit b u e
    · exact nit c _ z
theorem get?_push_cases {h : Heap} {o u : Obj} {b : Addr} (e : (h.push o).get? b = some u) (ho : o.isFreed = false) : h.get? b = some u ∨ (b = h.objs.size ∧ u = o) := by
  rcases Nat.lt_trichotomy b h.objs.size with q | q | q
  · left
    cases hb : h.get? b with
    | some u' => rw [Heap.get?_push_of_some _ hb] at e; exact e
    | none =>
      exfalso
      unfold Heap.get? at hb e
      unfold Heap.push at e
      simp only [Array.getElem?_push] at e
      rw [if_neg (by omega)] at e
      rw [hb] at e
      cases e
  · right
    subst q
    rw [Heap.get?_push_size _ ho] at e
    cases e
    exact ⟨rfl, rfl⟩
  · exfalso
    have e2 : (h.push o).objs.size = h.objs.size + 1 := by unfold Heap.push; simp
    have e3 : b < h.objs.size + 1 := by rw [← e2]; exact Heap.lt_size e
    exact Nat.lt_irrefl _ (Nat.lt_of_lt_of_le q (Nat.le_of_lt_succ e3))
def Ite (K : PySem.W.Frag) (a : Addr) : It :=
  ⟨fun i H => ∃ xs x, SqL K H a xs ∧ xs[i]? = some x, fun i H x H' => ∃ y t, (∀ xs, SqL K H a xs → xs[i]? = some y) ∧ x = .ref t ∧ H t = none ∧ H' = upd H t (.tup [.int i, y]), fun i H => ∃ xs, SqL K H a xs ∧ xs.length ≤ i⟩
theorem turn_enum {P : Program} {w : World} {K : PySem.W.Frag} {elts : List Expr} {x1 : Nat} {pos : Pos} (a it e : Addr) (hne : e ≠ it) : Turn P w K (.Tuple elts x1 pos) (Ite K a) [e, it] e (fun i h => (∃ old, IsEnum h e it i old) ∧ h.IsListIter it a i) where
  mem := by simp
  obj := fun i h st b hb => by
    obtain ⟨⟨old, s1⟩, o, s2, c, d⟩ := st
    rcases List.mem_cons.mp hb with z | z
    · subst z
      exact ⟨_, s1, fun v z => by cases z⟩
    · have e := List.mem_singleton.mp z
      subst e
      exact ⟨o, s2, fun v z => by rw [d] at z; cases z⟩
  keep := fun i h h' st k => by
    obtain ⟨⟨old, s1⟩, s2⟩ := st
    exact ⟨⟨old, k e (by simp) _ s1⟩, s2.at fun o q => k it (by simp) o q⟩
  item := by
    intro X hP hw hK hc i pins s σ H E I hf st hg
    subst hP hw hK
    obtain ⟨xs, x, hq, hx⟩ := hg
    obtain ⟨its, rv, p, hz⟩ := I.list hq
    obtain ⟨u, hu, ru⟩ := rv.get hx
    obtain ⟨⟨old, s1⟩, s2⟩ := st
    refine wpAny_pyNext_enum_item s1 s2 p.isList (x := u) (by simpa using hu) hne fun h' so si ht hsz kk => ?_
    have lt : ∀ b o, s.heap.get? b = some o → b ≠ s.heap.objs.size := fun b o q => Nat.ne_of_lt (Heap.lt_size q)
    have le : e ≠ s.heap.objs.size := lt _ _ s1
    have li : it ≠ s.heap.objs.size := by obtain ⟨o, q, _⟩ := s2; exact lt _ _ q
    have hn : H s.heap.objs.size = none := I.hok.fresh (Nat.le_refl _)
    have I0 : Inv X pins σ (upd H s.heap.objs.size (.tup [.int i, x])) { s with heap := s.heap.push { cls := .type "tuple", data := .seq #[.int i s.toks, u] }, toks := s.toks } :=
      I.laid (t' := s.toks) (fun b o q => Heap.get?_push_of_some _ q) (Nat.le_refl _) ⟨by show 2 ≤ sizeLine; decide, [.int i s.toks, u], .cons ⟨_, rfl⟩ (.cons ru .nil), ⟨_, Heap.get?_push_size _ rfl, rfl, _, rfl⟩⟩
    have hf' : ∀ b ∈ [e, it], FpOk X pins (upd H s.heap.objs.size (.tup [.int i, x])) b := fun b hb => by
      have q := hf b hb
      refine ⟨?_, q.2⟩
      have hb' : b ≠ s.heap.objs.size := by
        rcases List.mem_cons.mp hb with z | z
        · rw [z]; exact le
        · rw [List.mem_singleton.mp z]; exact li
      rw [upd_ne hb']
      exact q.1
    have I1 : Inv X pins σ (upd H s.heap.objs.size (.tup [.int i, x])) { s with heap := h', toks := s.toks + 1 } :=
      Inv.turnedL (s := { s with heap := s.heap.push { cls := .type "tuple", data := .seq #[.int i s.toks, u] }, toks := s.toks }) I0 (fp := [e, it]) (t' := s.toks + 1) (fun b o hb q => by
        rcases get?_push_cases q rfl with q | ⟨rfl, rfl⟩
        · exact kk b o (fun z => hb (by simp [z])) (fun z => hb (by simp [z])) q
        · exact ht) hf'
    refine ⟨_, rfl, wpAny_letOwnedTupleGo_enum (s := { s with heap := h', toks := s.toks + 1 }) so fun h2 se sb => ?_⟩
    have I2 : Inv X pins σ (upd H s.heap.objs.size (.tup [.int i, x])) { s with heap := h2, toks := s.toks + 1 } :=
      Inv.turnedL (s := { s with heap := h', toks := s.toks + 1 }) I1 (fp := [e, it]) (t' := s.toks + 1) (fun b o hb q => (sb.2 b (fun z => hb (by simp [z]))).trans q) hf'
    refine ⟨.ref s.heap.objs.size, _, I2, rfl, ⟨x, _, fun ys hy => by rw [I.list_inj hy hq]; exact hx, rfl, hn, rfl⟩, ⟨⟨_, se⟩, si.at fun o q => (sb.2 it (Ne.symm hne)).trans q⟩, fun b hb => (hf' b hb).1⟩
  done := by
    intro X hP hw hK hc i pins s σ H E I hf st hg
    subst hP hw hK
    obtain ⟨xs, hq, hx⟩ := hg
    obtain ⟨its, rv, p, hz⟩ := I.list hq
    obtain ⟨⟨old, s1⟩, s2⟩ := st
    have hl := rv.length
    exact wpAny_pyNext_enum_end (I.ok.hd hc) s1 s2 p.isList (by simp; omega) fun h' eb => ⟨rfl, I.turnedL (fp := [e, it]) (t' := s.toks) (fun b o hb q => eb b o (fun z => hb (by simp [z])) q) hf⟩
  self := fun _ _ _ _ _ st h => by
    obtain ⟨⟨old, s1⟩, s2⟩ := st
    exact wpAny_pyIter_enum s1 h
def iEnum (K : PySem.W.Frag) (ta : TA) : TI := fun σ H R => ta σ H fun vs H1 => ∃ a, vs = [.ref a] ∧ (∃ xs, SqL K H1 a xs) ∧ R (Ite K a) H1
theorem pi_enum {elts : List Expr} {x1 : Nat} {tpos : Pos} {a : Expr} {ta : TA} {p pos : Pos} (hg : Gl X "enumerate") (hm : X.mg "enumerate" = none) (ha : PA X [a] ta) (hs : starEach [a] X.env = [(false, eval a X.env)] := by rfl) :
    PI X (.Tuple elts x1 tpos) (.Call (.Name "enumerate" p) [a] [] pos) (iEnum X.K ta) := by
  intro pins s σ H R I h
  refine Call_ (ld_blt I hg hm PyProof.Rows.boot_enumerate (PyProof.Rows.callWith_type1 (thn (ha pos pins s σ H _ I h) fun us s1 ⟨vs, H1, I1, r1, q1⟩ => ?_) hs rfl))
  obtain ⟨l, e, ⟨xs, hq⟩, q⟩ := q1
  subst e
  cases r1 with
  | cons r rr =>
    cases rr
    cases r
    obtain ⟨its, rv, pl, hz⟩ := I1.list hq
    refine call_enumerate_list pl.isList fun h' se si hsz kk => ?_
    refine wpAny_pyIter_enum (s := { s1 with heap := h' }) se ?_
    have I2 : Inv X pins σ H1 { s1 with heap := h' } := I1.kept (t' := s1.toks) kk
    refine ⟨_, [s1.heap.objs.size + 1, s1.heap.objs.size], _, _, H1, rfl, I2, turn_enum l _ _ (Nat.succ_ne_self _), ⟨⟨_, se⟩, si⟩, fun b hb => ?_, q⟩
    rcases List.mem_cons.mp hb with z | z
    · subst z
      exact I1.fpOk (Nat.le_succ _) (I1.hok.fresh (Nat.le_succ _))
    · rw [List.mem_singleton.mp z]
      exact I1.fpOk (Nat.le_refl _) (I1.hok.fresh (Nat.le_refl _))
end
section
variable {X : Cx} {K : PySem.W.Frag}
theorem pg_tupK {es : List Expr} {k : Nat} {pos : Pos} {t : TGs} (hK : X.K = K) (n : Nat) (hc : X.calm = true) (h : PGs X es t) (hn : (assignEach es X.env).length = n := by rfl) (hst : (assignEach es X.env).findIdx? (·.1) = none := by rfl) :
    PG X (.Tuple es k pos) (gTup K n t) := by subst hK; exact pg_tup hc h hn hst
theorem pe_bmK {T : String} {name : Str} {id : String} {r : V → List V → Hp → VK → Prop} {o e : Expr} {es : List Expr} {apos cpos : Pos} {to : TE} {t : TA} (hK : X.K = K) (pa : PlainAttrs T) (slot : Slot T name id) (hty : typeOf (.builtin id) = pure (.type "method_descriptor")) (hm : MtR X id r) (ho : PE X o to) (ha : PA X (e :: es) t)
    (hbase : attributeBase o name X.env (eval o X.env) = eval o X.env := by rfl)
    (hfew : ((backTo cpos (starEach (e :: es) X.env)).all (fun x => !x.1) && (backToKw cpos (keywordEach [] X.env)).all (fun x => x.1.isSome)
      && decide ((e :: es).length + ([] : List Keyword).length + (if ([] : List Keyword).isEmpty then 0 else 1) < 30)) = true := by rfl)
    (hline : (apos.endLine == cpos.line) = true := by rfl) (hs : starEach (e :: es) X.env = (false, eval e X.env) :: starEach es X.env := by rfl) (hplain : (backTo cpos (starEach es X.env)).any (·.1) = false := by rfl) :
    PE X (.Call (.Attribute o name apos) (e :: es) [] cpos) (tBM K T r to t) := by subst hK; exact pe_bm pa slot hty hm ho ha hbase hfew hline hs hplain
end
theorem for_enum {K : PySem.W.Frag} {a : Addr} {xs : List V} {g : TG} {tb : TS} {D : Ends} {σ : St} {H : Hp} (Pv : Nat → St → Hp → Prop) (h0 : Pv 0 σ H) (hl : ∀ i σ H, i ≤ xs.length → Pv i σ H → SqL K H a xs)
    (hs : ∀ i x σ H t, xs[i]? = some x → H t = none → Pv i σ H → g (.ref t) σ (upd H t (.tup [.int i, x])) fun σ2 H2 => tb { D with nx := Pv (i + 1), ct := Pv (i + 1), bk := D.nx } σ2 H2) (hd : ∀ σ H, Pv xs.length σ H → D.nx σ H) :
    ∃ W : Nat → Nat → St → Hp → Prop, (∃ m, W 0 m σ H) ∧ ∀ i m σ H, W i m σ H →
      ((Ite K a).stop i H ∧ D.nx σ H) ∨ ((Ite K a).go i H ∧ ∃ N : St → Hp → Prop, (∀ σ' H', N σ' H' → ∃ m', m' < m ∧ W (i + 1) m' σ' H') ∧ ∀ x H', (Ite K a).yld i H x H' → g x σ H' fun σ2 H2 => tb { D with nx := N, ct := N, bk := D.nx } σ2 H2) := by
  refine ⟨fun i m σ H => m = xs.length - i ∧ i ≤ xs.length ∧ Pv i σ H, ⟨xs.length, by simp, Nat.zero_le _, h0⟩, ?_⟩
  rintro i m σ H ⟨rfl, hi, p⟩
  have q := hl i σ H hi p
  by_cases hlt : i < xs.length
  · refine .inr ⟨⟨xs, xs[i], q, by simp [hlt]⟩, Pv (i + 1), fun σ' H' p' => ⟨xs.length - (i + 1), by omega, rfl, hlt, p'⟩, fun x H' y => ?_⟩
    obtain ⟨y, t, h1, rfl, h3, rfl⟩ := y
    exact hs i y σ H t (h1 xs q) h3 p
  · have e : i = xs.length := by omega
    subst e
    exact .inl ⟨⟨xs, q, Nat.le_refl _⟩, hd σ H p⟩
end L2
namespace L2
open PySem PySem.Spec PyProof.Rows
def IsR (K : PySem.W.Frag) (H : Hp) (v : V) (row : List Int) : Prop := ∃ a, v = .ref a ∧ SqT K H a (row.map V.int)
theorem IsR.mono {K : PySem.W.Frag} {H H' : Hp} {v : V} {row : List Int} (e : Same H H') (h : IsR K H v row) : IsR K H' v row := by
  obtain ⟨a, rfl, q⟩ := h
  exact ⟨a, rfl, e.tup q⟩
theorem IsR.rep {K : PySem.W.Frag} {H : Hp} {v : V} {row : List Int} (h : IsR K H v row) (hl : row.length ≤ 1000) : Rep K H v (.tuple (row.map PyData.int)) := by
  obtain ⟨a, rfl, h⟩ := h
  exact .tup h (Reps.ints _) (by rw [List.length_map]; exact hl)
theorem Reps.of_irows {K : PySem.W.Frag} {H : Hp} : ∀ {xs : List V} {Z : List (List Int)}, Paired (IsR K H) xs Z → (∀ r ∈ Z, r.length ≤ 1000) → Reps K H xs (Z.map fun m => .tuple (m.map PyData.int))
  | _, _, .nil, _ => .nil
  | _, _, .cons h t, hl => .cons (h.rep (hl _ List.mem_cons_self)) (Reps.of_irows t fun r hr => hl r (List.mem_cons_of_mem _ hr))
theorem seqIx_ok {i : Int} {n : Nat} (h0 : 0 ≤ i) (h1 : i < n) : seqIndex? i n = some i.toNat := PySem.StrLaws.seqIndex_nonneg h0 h1
theorem size_at (x : Int) : atI [V.int 2, V.int 7, V.int 60, V.int (10 ^ (12 : Int).toNat)] (x % 4) = some (.int (LN.size x)) := by
  have e : (10 : Int) ^ (12 : Int).toNat = 1000000000000 := by decide
  rw [e]
  have h : x % 4 = 0 ∨ x % 4 = 1 ∨ x % 4 = 2 ∨ x % 4 = 3 := by omega
  unfold LN.size
  rcases h with e | e | e | e <;> rw [e] <;> rfl
theorem rows_fresh {H : Hp} {rs : List Addr} {M : List (List Int)} {p : Addr} (h : Paired (fun r (m : List Int) => H r = some (.lst (m.map V.int))) rs M) (hp : H p = none) : p ∉ rs := fun z => by
  obtain ⟨i', hi', e⟩ := List.mem_iff_getElem.mp z
  obtain ⟨r', h1, h2⟩ := Paired.get' h (show rs[i']? = some p by rw [List.getElem?_eq_getElem hi', e])
  rw [hp] at h2; cases h2
def spMixN : Sp := fun vs H Q _ => ∃ c p : Int, vs = [.int c, .int p] ∧ Q (.int (LN.mixed c p)) H
def spDeals : Sp := fun vs H Q _ => ∃ f : Int, vs = [.int f] ∧ Q (.int (LN.deals f)) H
def spTableN (K : PySem.W.Frag) : Sp := fun vs H Q _ => ∃ (a : Addr) (ns : List Int) (at' : Int) (many n : Nat), vs = [.ref a, .int at', .int many, .int n] ∧ SqL K H a (ns.map V.int) ∧ 0 ≤ at' ∧ many ≤ 25 ∧ 1 ≤ n ∧ n ≤ 6 ∧
  ∀ p us H', Same H H' → H p = none → H' p = some (.lst us) → Paired (RwFT K H' (LN.table ns at' many n).2) us (LN.table ns at' many n).1 → Q (.ref p) H'
def sp2P (f : (Int × Int) → (Int × Int) → (Int × Int)) (K : PySem.W.Frag) : Sp := fun vs H Q _ => ∃ a b x y, vs = [.ref a, .ref b] ∧ SqT K H a [.int x.1, .int x.2] ∧ SqT K H b [.int y.1, .int y.2] ∧ Sz 4000 x ∧ Sz 4000 y ∧ 0 < x.2 ∧ 0 < y.2 ∧
  ∀ p H', Same H H' → H' p = some (tupF (f x y)) → Q (.ref p) H'
def lessF (x y : Int × Int) : Bool := decide (x.1 * y.2 < y.1 * x.2)
mutual
theorem eqv_self : ∀ (n : Nat) (d : PyData), okD n d = true → PyData.eqv d d = true
  | _, .none, _ => by simp [PyData.eqv]
  | _, .bool _, _ => by simp [PyData.eqv]
  | _, .int _, _ => by simp [PyData.eqv]
  | n, .str x, h => by simp [PyData.eqv]
  | n + 1, .tuple ds, h => by
    have := eqvs_self n ds (by simpa [okD] using h)
    simp [PyData.eqv, this]
  | n + 1, .list ds, h => by
    have := eqvs_self n ds (by simpa [okD] using h)
    simp [PyData.eqv, this]
  | 0, .tuple _, h => by simp [okD] at h
  | 0, .list _, h => by simp [okD] at h
  | 0, .dict _, h => by simp [okD] at h
  | _ + 1, .dict _, h => by simp [okD] at h
theorem eqvs_self : ∀ (n : Nat) (ds : List PyData), (∀ d ∈ ds, okD n d = true) → PyData.eqvAll ds ds = true
  | n, [], _ => by simp [PyData.eqvAll]
  | n, d :: ds, h => by
    have h1 := eqv_self n d (h d List.mem_cons_self)
    have h2 := eqvs_self n ds fun x hx => h x (List.mem_cons_of_mem _ hx)
    simp [PyData.eqvAll, h1, h2]
end
theorem okD_ints (n : Nat) (l : List Int) : ∀ d ∈ l.map PyData.int, okD n d = true := fun d hd => by
  obtain ⟨i, _, rfl⟩ := List.mem_map.mp hd
  cases n <;> rfl
theorem okD_irows (n : Nat) (W : List (List Int)) : okD (n + 2) (.list (W.map fun m => .tuple (m.map PyData.int))) = true := by
  show (W.map fun m => PyData.tuple (m.map PyData.int)).all (okD (n + 1)) = true
  rw [List.all_eq_true]
  intro d hd
  obtain ⟨m, _, rfl⟩ := List.mem_map.mp hd
  show (m.map PyData.int).all (okD n) = true
  rw [List.all_eq_true]
  exact okD_ints n m
theorem okD_frows (T : Int) (Z : List (List Int)) : okD 3 (.list (Z.map fun m => .tuple (dFr T m))) = true := by
  show (Z.map fun m => PyData.tuple (dFr T m)).all (okD 2) = true
  rw [List.all_eq_true]
  intro d hd
  obtain ⟨m, _, rfl⟩ := List.mem_map.mp hd
  show (dFr T m).all (okD 1) = true
  rw [List.all_eq_true]
  exact okD_dFr T m
end L2
namespace EM
open LM
theorem nodup_len : ∀ (n : Nat) {l : List Int}, l.Nodup → (∀ x ∈ l, 0 ≤ x ∧ x < (n : Int)) → l.length ≤ n
  | 0, l, _, h => by
    cases l with
    | nil => exact Nat.le_refl _
    | cons x r => have := h x List.mem_cons_self; omega
  | n + 1, l, hn, h => by
    have ih := nodup_len n (l := l.erase (n : Int)) (hn.erase _) fun x hx => by
      have h1 := h x (List.mem_of_mem_erase hx)
      have h2 : x ≠ (n : Int) := fun z => by rw [z] at hx; exact (hn.not_mem_erase) hx
      omega
    have := List.length_erase (a := (n : Int)) (l := l)
    split at this <;> omega
end EM
namespace L2
open PySem PySem.Spec PyProof.Rows
def smallS (b : Nat → Bool) : List Nat := (List.range 6).filter b
def tabS (S : List Nat) (led : Bool) : SetTable := ⟨if S.length ≤ 4 then 7 else 31, S.toArray, #[], 0, led, if S.length ≤ 4 then 0 else 1, true⟩
def subs : List Nat → List (List Nat)
  | [] => [[]]
  | a :: r => subs r ++ (subs r).map (a :: ·)
theorem mem_subs : ∀ {l S : List Nat}, S.Sublist l → S ∈ subs l
  | _, _, .slnil => List.mem_singleton.mpr rfl
  | _, _, .cons a h => List.mem_append.mpr (.inl (mem_subs h))
  | _, _, .cons₂ a h => List.mem_append.mpr (.inr (List.mem_map.mpr ⟨_, mem_subs h, rfl⟩))
theorem smallS_subs (b : Nat → Bool) : smallS b ∈ subs (List.range 6) := mem_subs List.filter_sublist
def rankS (S : List Nat) (v : Nat) : Nat := (S.filter (· < v)).length
def insS (S : List Nat) (v : Nat) : List Nat := S.take (rankS S v) ++ v :: S.drop (rankS S v)
def tabOne (S : List Nat) (v : Nat) (led : Bool) : Bool :=
  match (tabS S led).freeSlot (v : Int) with
  | some (j, d) =>
    let q := (tabS S led).put j
    decide (j = v) && !d && decide (q.2 = rankS S v) && q.1.fits (S.length + 1) && decide (q.1.plain = true) &&
    (if q.1.tooFull then
      match q.1.relaid ((insS S v).map Int.ofNat).toArray (SetTable.grown (S.length + 1)) with
      | some (t', o) => decide (t' = tabS (insS S v) led) && decide (o = (List.range (S.length + 1)).toArray) && t'.fits (S.length + 1) && coversAll o (S.length + 1)
      | none => false
    else decide (q.1 = tabS (insS S v) led))
  | none => false
theorem tab_all : ∀ S ∈ subs (List.range 6), ∀ v ∈ List.range 6, v ∉ S → tabOne S v true = true ∧ tabOne S v false = true := by decide +kernel
theorem ins_all : ∀ S ∈ subs (List.range 6), ∀ v ∈ List.range 6, v ∉ S → insS S v = (List.range 6).filter fun x => decide (x ∈ S) || x == v := by decide +kernel
theorem fits_all : ∀ S ∈ subs (List.range 6), (tabS S true).fits S.length = true ∧ (tabS S false).fits S.length = true := by decide +kernel
def valS (tok : Nat → Tok) (v : Nat) : Int × Value := ((v : Int), Value.int (v : Int) (tok v))
def SetIs (h : Heap) (a : Addr) (b : Nat → Bool) (led : Bool) : Prop :=
  ∃ (o : Obj) (es : Array (Int × Value)) (ep : Nat) (tok : Nat → Tok), h.get? a = some o ∧ o.ExactSet ∧ o.data = .set es ep (tabS (smallS b) led) ∧ es.toList = (smallS b).map (valS tok)
theorem mem_small {b : Nat → Bool} {v : Nat} : v ∈ smallS b ↔ v < 6 ∧ b v = true := by
  unfold smallS; rw [List.mem_filter, List.mem_range]
theorem small_le (b : Nat → Bool) : (smallS b).length ≤ 6 := by
  unfold smallS; exact Nat.le_trans (List.length_filter_le ..) (by rw [List.length_range]; exact Nat.le_refl _)
theorem small_fits (b : Nat → Bool) (led : Bool) : (tabS (smallS b) led).fits (smallS b).length = true := by
  have := fits_all _ (smallS_subs b)
  cases led
  · exact this.2
  · exact this.1
theorem small_add {b : Nat → Bool} {v : Nat} (hv : v < 6) (hb : b v = false) : insS (smallS b) v = smallS fun x => b x || x == v := by
  rw [ins_all _ (smallS_subs b) v (List.mem_range.mpr hv) fun z => by rw [(mem_small.mp z).2] at hb; cases hb]
  unfold smallS
  refine List.filter_congr fun x hx => ?_
  have : decide (x ∈ List.filter b (List.range 6)) = b x := by
    rw [Bool.eq_iff_iff, decide_eq_true_iff, List.mem_filter]
    exact ⟨fun h => h.2, fun h => ⟨hx, h⟩⟩
  rw [this]
theorem small_old {b : Nat → Bool} {v : Nat} (hb : b v = true) : (smallS fun x => b x || x == v) = smallS b := by
  unfold smallS
  refine List.filter_congr fun x hx => ?_
  by_cases e : x = v
  · subst e; rw [hb]; rfl
  · rw [beq_false_of_ne e, Bool.or_false]
theorem hash_small (v : Nat) (hv : v < 6) : hashInt (v : Int) = v :=
  (show ∀ v ∈ List.range 6, hashInt ((v : Nat) : Int) = v by decide +kernel) v (List.mem_range.mpr hv)
theorem filterMap_all {α : Type} (xs : Array α) : Array.filterMap (fun x => xs[x]?) (List.range xs.size).toArray = xs := by
  apply Array.ext'
  rw [Array.toList_filterMap]
  have : ∀ (l : List α), List.filterMap (fun x => l[x]?) (List.range l.length) = l := by
    intro l
    induction l with
    | nil => rfl
    | cons a r ih =>
      rw [List.length_cons, List.range_succ_eq_map, List.filterMap_cons, List.filterMap_map]
      show a :: List.filterMap (fun x => r[x]?) (List.range r.length) = a :: r
      rw [ih]
  have := this xs.toList
  simpa using this
theorem ints_small {prog : Program} {w : World} {b : Nat → Bool} {tok : Nat → Tok} {es : Array (Int × Value)} (he : es.toList = (smallS b).map (valS tok)) : ElemsOf (intKind prog w) es.toList := by
  intro e hm
  rw [he] at hm
  obtain ⟨u, hu, rfl⟩ := List.mem_map.mp hm
  exact ⟨⟨(u : Int), beq_self_eq_true _, (hash_small u (mem_small.mp hu).1).symm⟩, rfl⟩
theorem lay_small {b : Nat → Bool} {v : Nat} {led : Bool} {es : Array (Int × Value)} {x : Value} {tok : Nat → Tok} (hv : v < 6) (hb : b v = false) (he : es.toList = (smallS b).map (valS tok)) :
    ∃ t, layNew (tabS (smallS b) led) es (v : Int) x = (SetTable.insertAt es (rankS (smallS b) v) ((v : Int), x), t, false, false) ∧ t.plain = true ∧ t.fits (es.size + 1) = true ∧
      (t.tooFull = false → t = tabS (insS (smallS b) v) led) ∧ (t.tooFull = true → t.relaid ((insS (smallS b) v).map Int.ofNat).toArray (SetTable.grown (es.size + 1)) = some (tabS (insS (smallS b) v) led, (List.range (es.size + 1)).toArray) ∧
        (tabS (insS (smallS b) v) led).fits (es.size + 1) = true ∧ coversAll (List.range (es.size + 1)).toArray (es.size + 1) = true) := by
  have hsz : es.size = (smallS b).length := by rw [← Array.length_toList, he, List.length_map]
  have h := tab_all _ (smallS_subs b) v (List.mem_range.mpr hv) fun z => by rw [(mem_small.mp z).2] at hb; cases hb
  have h1 : tabOne (smallS b) v led = true := by
    cases led
    · exact h.2
    · exact h.1
  unfold tabOne at h1
  cases hfs : (tabS (smallS b) led).freeSlot (v : Int) with
  | none => rw [hfs] at h1; cases h1
  | some jd =>
    obtain ⟨j, d⟩ := jd
    rw [hfs] at h1
    dsimp only at h1
    rw [Bool.and_eq_true, Bool.and_eq_true, Bool.and_eq_true, Bool.and_eq_true, Bool.and_eq_true, decide_eq_true_iff, decide_eq_true_iff, decide_eq_true_iff] at h1
    obtain ⟨⟨⟨⟨⟨rfl, hd⟩, hp⟩, hfit⟩, hpl⟩, hrest⟩ := h1
    have hd' : d = false := by cases d <;> first | rfl | cases hd
    subst hd'
    rw [← hsz] at hfit hrest
    have hsi : (SetTable.insertAt es (rankS (smallS b) j) ((j : Int), x)).size = es.size + 1 := by
      have := (SetTable.insertAt_perm es (rankS (smallS b) j) ((j : Int), x)).length_eq
      simpa using this
    refine ⟨((tabS (smallS b) led).put j).1, ?_, hpl, hfit, fun hn => ?_, fun ht => ?_⟩
    · unfold layNew
      rw [hfs]
      dsimp only
      rw [hp, hsi, hfit]
      have ho : ((tabS (smallS b) led).put j).1.orStandIn (es.size + 1) = ((tabS (smallS b) led).put j).1 := by
        unfold SetTable.orStandIn; rw [if_pos hfit]
      rw [ho]
      rfl
    · rw [hn, if_neg (by decide)] at hrest
      exact of_decide_eq_true hrest
    · rw [ht, if_pos rfl] at hrest
      cases hre : ((tabS (smallS b) led).put j).1.relaid ((insS (smallS b) j).map Int.ofNat).toArray (SetTable.grown (es.size + 1)) with
      | none => rw [hre] at hrest; cases hrest
      | some to =>
        obtain ⟨t', o⟩ := to
        rw [hre] at hrest
        dsimp only at hrest
        rw [Bool.and_eq_true, Bool.and_eq_true, Bool.and_eq_true, decide_eq_true_iff, decide_eq_true_iff] at hrest
        obtain ⟨⟨⟨rfl, rfl⟩, z1⟩, z2⟩ := hrest
        exact ⟨rfl, z1, z2⟩
theorem setAdd_small {prog : Program} {w : World} {A : Around} {E : Value → Shared → Prop} {s : Shared} {a : Addr} {b : Nat → Bool} {led : Bool} {v : Nat} {tk : Tok} {Q : Bool → Shared → Prop} (hv : v < 6) (hS : SetIs s.heap a b led)
    (q : ∀ h', Heap.SameBut a s.heap h' → SetIs h' a (fun x => b x || x == v) led → Q (!b v) { s with heap := h' }) :
    wpAny (model prog w) A (setAddHashed a (.int v tk) ((intKind prog w).hash (v : Int))) Q E s := by
  obtain ⟨o, es, ep, tok, ho, hx, hd, he⟩ := hS
  have hsz : es.size = (smallS b).length := by rw [← Array.length_toList, he, List.length_map]
  have h6 := small_le b
  have hf : (tabS (smallS b) led).fits es.size = true := by rw [hsz]; exact small_fits b led
  have hE : ElemsOf (intKind prog w) es.toList := ints_small he
  have hh : (intKind prog w).hash (v : Int) = v := hash_small v hv
  have h64 : 64 ≤ scanBound := by decide +kernel
  unfold setAddHashed
  refine wpAny_holding ?_
  rw [setAddHashedIn.eq_def]
  dsimp only
  refine wpAny_bind (wpAny_setState_of ho hd hf ?_)
  dsimp only
  rw [if_pos (byScan_of (knd := intKind prog w) (x := .int v tk) rfl (by omega) hE)]
  unfold setAddByScan
  refine wpAny_bind (wpAny_bind (wpAny_rule ?_))
  refine wpAny_bind (wpAny_setScan_of (knd := intKind prog w) (k := (v : Int)) (beq_self_eq_true _) ho hd hf hE ?_)
  cases hb : b v with
  | true =>
    cases hfi : List.findIdx? (fun e : Int × Value => (intKind prog w).is (v : Int) e.2) es.toList with
    | none =>
      have := List.findIdx?_eq_none_iff.mp hfi (valS tok v) (by rw [he]; exact List.mem_map.mpr ⟨v, mem_small.mpr ⟨hv, hb⟩, rfl⟩)
      rw [show (intKind prog w).is (v : Int) (valS tok v).2 = true from beq_self_eq_true _] at this
      cases this
    | some j =>
      refine wpAny_pure (wpAny_pure ?_)
      have := q s.heap (Heap.SameBut.refl a _) ⟨o, es, ep, tok, ho, hx, by rw [small_old hb]; exact hd, by rw [small_old hb]; exact he⟩
      rw [hb] at this
      exact this
  | false =>
    cases hfi : List.findIdx? (fun e : Int × Value => (intKind prog w).is (v : Int) e.2) es.toList with
    | some j =>
      obtain ⟨e, h1, h2⟩ := List.findIdx?_eq_some_iff_getElem.mp hfi
      have hm : es.toList[j] ∈ (smallS b).map (valS tok) := by rw [← he]; exact List.getElem_mem e
      obtain ⟨u, hu, hue⟩ := List.mem_map.mp hm
      have h3 := (mem_small.mp hu).2
      have h4 : (intKind prog w).is (v : Int) (valS tok u).2 = true := by rw [hue]; exact h1
      have h5 : (u : Int) = v := eq_of_beq h4
      have : u = v := by omega
      rw [this, hb] at h3
      cases h3
    | none =>
      obtain ⟨t, hl, hpl, hfit, hfew, hfull⟩ := lay_small (led := led) (x := .int v tk) hv hb he
      dsimp only
      rw [hh, hl]
      dsimp only
      refine wpAny_bind (wpAny_pure ?_)
      rw [if_pos hpl, hashByValue_scannable 8 (x := .int v tk) rfl]
      refine wpAny_bind (wpAny_pure ?_)
      rw [if_pos (show plainKind (Value.int (v : Int) tk) = true from rfl)]
      have hes' : (SetTable.insertAt es (rankS (smallS b) v) ((v : Int), Value.int (v : Int) tk)).toList = (smallS fun x => b x || x == v).map (valS fun u => if u = v then tk else tok u) := by
        rw [SetTable.toList_insertAt, he, ← small_add hv hb]
        have e1 : (smallS b).map (valS tok) = (smallS b).map (valS fun u => if u = v then tk else tok u) := List.map_congr_left fun u hu => by
          have : u ≠ v := fun z => by rw [z] at hu; rw [(mem_small.mp hu).2] at hb; cases hb
          show ((u : Int), Value.int (u : Int) (tok u)) = ((u : Int), Value.int (u : Int) (if u = v then tk else tok u))
          rw [if_neg this]
        rw [e1]
        unfold insS
        rw [List.map_append, List.map_cons, List.map_take, List.map_drop]
        have e2 : valS (fun u => if u = v then tk else tok u) v = ((v : Int), Value.int (v : Int) tk) := by
          show ((v : Int), Value.int (v : Int) (if v = v then tk else tok v)) = _
          rw [if_pos rfl]
        rw [e2]
      have hsi : (SetTable.insertAt es (rankS (smallS b) v) ((v : Int), Value.int (v : Int) tk)).size = es.size + 1 := by
        have := (SetTable.insertAt_perm es (rankS (smallS b) v) ((v : Int), Value.int (v : Int) tk)).length_eq
        simpa using this
      rw [small_add hv hb] at hfew hfull
      generalize SetTable.insertAt es (rankS (smallS b) v) ((v : Int), Value.int (v : Int) tk) = es' at *
      have hline : es'.size ≤ sizeLine := Nat.le_of_lt (small1000 (by omega))
      rw [hsi] at hline
      have p1 := putSet_of es' t hd
      have g1 : (s.heap.update a (Obj.putSet es' t)).get? a = some ⟨o.cls, o.dict, .set es' (ep + 1) t, o.slots⟩ := by
        rw [← p1]
        exact Heap.get?_update_self _ ho (by rw [p1]; rfl)
      refine wpAny_bind (wpAny_storeSet_of ho hd ?_ (by rw [hsi]; exact hline))
      cases hfu : t.tooFull with
      | false =>
        rw [if_neg (by simp)]
        refine wpAny_pure (wpAny_pure ?_)
        have := q _ (Heap.SameBut.update s.heap a (Obj.putSet es' t)) ⟨_, es', ep + 1, _, g1, hx, by rw [hfew hfu], hes'⟩
        rw [hb] at this
        exact this
      | true =>
        obtain ⟨r1, r2, r3⟩ := hfull hfu
        have hm : Array.map (fun x : Int × Value => x.1) es' = ((smallS fun x => b x || x == v).map Int.ofNat).toArray := by
          apply Array.ext'
          rw [Array.toList_map, hes', List.map_map]
          rfl
        have hr : relayAll t es' (SetTable.grown es'.size) = (es', tabS (smallS fun x => b x || x == v) led, false) := by
          unfold relayAll
          rw [hm, hsi, r1]
          dsimp only
          rw [← hsi, filterMap_all, hsi, r2, r3]
          rfl
        rw [if_pos (by simp), hr]
        dsimp only
        refine wpAny_bind (wpAny_pure (wpAny_bind (wpAny_storeSet_of g1 rfl (wpAny_pure (wpAny_pure ?_)) (by rw [hsi]; exact hline))))
        have p2 := putSet_of (o := ⟨o.cls, o.dict, .set es' (ep + 1) t, o.slots⟩) es' (tabS (smallS fun x => b x || x == v) led) rfl
        have g2 : ((s.heap.update a (Obj.putSet es' t)).update a (Obj.putSet es' (tabS (smallS fun x => b x || x == v) led))).get? a = some ⟨o.cls, o.dict, .set es' (ep + 1 + 1) (tabS (smallS fun x => b x || x == v) led), o.slots⟩ := by
          rw [← p2]
          exact Heap.get?_update_self _ g1 (by rw [p2]; rfl)
        have := q _ ((Heap.SameBut.update s.heap a _).trans (Heap.SameBut.update _ a _)) ⟨_, es', ep + 1 + 1, _, g2, hx, rfl, hes'⟩
        rw [hb] at this
        exact this
end L2
namespace L2
open PySem PySem.Spec PyProof.Rows
def ledOf (w : World) : Bool := !w.params.followText "set-order"
theorem set_new {prog : Program} {w : World} {A : Around} {E : Value → Shared → Prop} {s : Shared} (a : Value) {Q₁ : Value → Shared → Prop}
    (h : Q₁ (.ref s.heap.objs.size) { s with heap := s.heap.push { cls := .type "set", data := .set #[] 0 (SetTable.fresh 0 0 (ledOf w)) } }) :
    codeAny (model prog w) A (.call (.builtin "set.__new__") ⟨[.type "set", a], []⟩) (wants Q₁ E) s := by
  refine codeAny_of_tree ?_
  refine wpAny_bind (wpAny_of_eq (F.newCall_set_1 a) (wpAny_pure ⟨plainId_quiet F.plain_set_new _, codeAny_builtin F.entry_set_new ?_⟩))
  rw [Around.under_plainId F.plain_set_new _]
  have hsub := sub_set_self
  unfold Builtin.«set.__new__» Builtin.Frozenset.newClass
  refine wpAny_bind (wpAny_bind (wpAny_pure ?_))
  refine wpAny_ite_false rfl (wpAny_bind (wpAny_of_eq hsub (wpAny_ite_false rfl (wpAny_pure ?_))))
  unfold newSet setsByText
  refine wpAny_bind (wpAny_bind (wpAny_bind (wpAny_askSetting (wpAny_pure ?_))))
  show wpAny _ _ (newObj _ _) _ _ _
  unfold newObj
  dsimp only
  rw [if_neg (by decide)]
  unfold newObjAsIs
  exact wpAny_bind (wpAny_alloc (wpAny_pure (wpAny_pure h)))
theorem SetIs.congr {h h' : Heap} {a : Addr} {b : Nat → Bool} {led : Bool} (H : SetIs h a b led) (e : ∀ o, h.get? a = some o → h'.get? a = some o) : SetIs h' a b led := by
  obtain ⟨o, es, ep, tok, ho, r⟩ := H
  exact ⟨o, es, ep, tok, e o ho, r⟩
theorem SetIs.by {h : Heap} {a : Addr} {b b' : Nat → Bool} {led : Bool} (H : SetIs h a b led) (e : ∀ x, x < 6 → b x = b' x) : SetIs h a b' led := by
  have : smallS b = smallS b' := List.filter_congr fun x hx => e x (List.mem_range.mp hx)
  unfold SetIs at H ⊢
  rw [this] at H
  exact H
theorem set_loop {prog : Program} {w : World} {A : Around} {R : Result → Shared → Prop} {I : Addr} {fp wr : List Addr} {G : Array GenState → Array GenState → Prop} {n : Nat} {P : Nat → Value → Prop} {St : Nat → Shared → Prop} {led : Bool}
    (W : WalksS prog w A.in1 I fp wr G n P St) (S : Addr) (hS : S ∉ fp) (val : Nat → Nat) (hP : ∀ i v, P i v → val i < 6 ∧ ∃ t, v = Value.int (val i : Nat) t) :
    ∀ (k i : Nat) (s : Shared) (b : Nat → Bool), n - i = k → i ≤ n → St i s → SetIs s.heap S b led →
      (∀ s', Moved (S :: wr) G s s' → SetIs s'.heap S (fun x => b x || (List.range' i (n - i)).any fun j => x == val j) led → R (.ok (.ret .none)) s') →
      codeAny (model prog w) A (.builtin "set.update.loop" ⟨[.ref S, .ref I], []⟩) R s := by
  have hSw : S ∉ wr := fun z => hS (W.sub S z)
  intro k
  induction k with
  | zero =>
    intro i s b hk hi hSt hset h
    have e : i = n := by omega
    subst e
    refine codeAny_builtin F.entry_set_update_loop ?_
    rw [Around.under_plainId F.plain_set_update_loop _]
    unfold Builtin.«set.update.loop»
    refine wpAny_bind (W.done s _ _ hSt fun s' m => ?_)
    refine wpAny_pure (h s' ⟨fun c o hc => m.heap c o fun z => hc (List.mem_cons_of_mem _ z), m.gens, m.drawn, m.os, m.toks⟩ ((hset.congr fun o => m.heap S o hSw).by fun x _ => ?_))
    rw [Nat.sub_self]
    simp
  | succ k ih =>
    intro i s b hk hi hSt hset h
    refine codeAny_builtin F.entry_set_update_loop ?_
    rw [Around.under_plainId F.plain_set_update_loop _]
    unfold Builtin.«set.update.loop»
    refine wpAny_bind (W.item i s _ _ (by omega) hSt fun v s' hv hSt' m => ?_)
    obtain ⟨hlt, t, rfl⟩ := hP i v hv
    dsimp only
    refine wpAny_bind (wpAny_holding ?_)
    unfold setAdd
    refine wpAny_holding (wpAny_bind ((intKind prog w).pyHash (k := ((val i : Nat) : Int)) (beq_self_eq_true _) ?_))
    refine setAdd_small hlt (SetIs.congr hset fun o => m.heap S o hSw) fun h' hb hs' => ?_
    refine wpAny_pure ⟨plainId_quiet F.plain_set_update_loop _, ih (i + 1) _ _ (by omega) (by omega) (W.frame (i + 1) s' h' (s'.toks + 1) hSt' (Nat.le_succ _) fun c hc o ho => by rw [hb.2 c fun z => hS (z ▸ hc)]; exact ho) hs' fun s'' m2 hset2 => h s'' ?_ (hset2.by fun x _ => ?_)⟩
    · refine ⟨fun c o hc ho => m2.heap c o hc ?_, W.gtrans _ _ _ m.gens m2.gens, m2.drawn.trans m.drawn, m2.os.trans m.os, Nat.le_trans m.toks (Nat.le_trans (Nat.le_succ _) m2.toks)⟩
      show h'.get? c = some o
      rw [hb.2 c fun z => hc (by rw [z]; exact List.mem_cons_self)]
      exact m.heap c o (fun z => hc (List.mem_cons_of_mem _ z)) ho
    · have e : n - i = (n - (i + 1)) + 1 := by omega
      rw [e, List.range'_succ, List.any_cons, Bool.or_assoc]
end L2
namespace L2
open PySem PySem.Spec PyProof.Rows
theorem call_set_small {prog : Program} {w : World} {A : Around} {E : Value → Shared → Prop} {s : Shared} {l : Addr} {items : Array Value} {Q : Value → Shared → Prop} (hh : A.handled = none) (hl : s.heap.IsList l items) (val : Nat → Nat)
    (hv : ∀ i v, items[i]? = some v → val i < 6 ∧ ∃ t, v = Value.int (val i : Nat) t)
    (h : ∀ (h' : Heap) (tk : Nat), SetIs h' s.heap.objs.size (fun x => (List.range' 0 items.size).any fun j => x == val j) (ledOf w) → (∀ b o, s.heap.get? b = some o → h'.get? b = some o) → Q (.ref s.heap.objs.size) { s with heap := h', toks := tk }) :
    wpAny (model prog w) A (call (.type "set") [.ref l]) Q E s := by
  obtain ⟨c, tl, hmro⟩ := F.called_set.mro
  have hmade := F.called_set.made
  have hsub := F.called_set.sub
  refine wpAny_call (codeAny_of_tree (wpAny_pure ⟨Code.quiet_builtin _ (by decide +kernel), codeAny_builtin F.entry_type_call ?_⟩))
  rw [Around.under_plain (weight_type_call_type "set" [.ref l] []) rfl]
  have h1 := F.called_set.notType
  have h2 := F.called_set.canCreate
  have hct := F.typeCall_set_1 (.ref l)
  unfold Builtin.«type.__call__»
  refine wpAny_ite_false (by rw [h1]; rfl) (wpAny_ite_false (by rw [h2]; rfl) (wpAny_bind (wpAny_of_eq hct (wpAny_bind (wpAny_of_eq hmro (wpAny_ite_false rfl (wpAny_bind (wpAny_of_eq hmade (wpAny_bind (wpAny_pure ?_))))))))))
  refine wpAny_bind (wpAny_holding (wpAny_call (codeAny_mono (set_new (E := E) (.ref l) (Q₁ := fun v s1 => v = .ref s.heap.objs.size ∧ s1 = _) ⟨rfl, rfl⟩) fun r s₁ hr => ?_)))
  cases r with
  | error e => exact hr
  | ok fl =>
    cases fl with
    | ret v =>
      obtain ⟨rfl, rfl⟩ := (show v = _ ∧ s₁ = _ from hr)
      have hnew : (s.heap.push { cls := Value.type "set", data := Data.set #[] 0 (SetTable.fresh 0 0 (ledOf w)) }).get? s.heap.objs.size = some { cls := Value.type "set", data := Data.set #[] 0 (SetTable.fresh 0 0 (ledOf w)) } := Heap.get?_push_size _ rfl
      refine wpAny_bind (wpAny_isInstance (T := "set") ⟨_, hnew, rfl⟩ hsub (wpAny_ite_false rfl (wpAny_bind (wpAny_holding ?_))))
      unfold callSpecial?
      refine wpAny_bind (wpAny_specialOf (T := "set") ⟨_, hnew, rfl⟩ F.called_set.init.lookup ?_)
      refine wpAny_holding (wpAny_bind (wpAny_of_eq (F.called_set.init.bind _) (wpAny_bind (wpAny_call (codeAny_call_builtin F.called_set.init.plain F.entry_set_init (check_set_init_1 ⟨_, hnew, rfl⟩ ?_))))))
      unfold Builtin.«set.__init__»
      refine wpAny_bind (wpAny_pure ?_)
      dsimp only [List.cons_append, List.nil_append]
      unfold typeNameOfCut
      unfold shownTypeOf
      refine wpAny_bind (wpAny_bind ?_)
      refine wpAny_bind (wpAny_typeOf (T := "set") ⟨_, hnew, rfl⟩ (wpAny_ite_false rfl (wpAny_pure (wpAny_pure (wpAny_bind (wpAny_pure (wpAny_bind (wpAny_pure ?_))))))))
      unfold setUsed
      refine wpAny_bind (wpAny_bind (wpAny_setState_of hnew rfl (by cases ledOf w <;> rfl) (wpAny_pure (wpAny_ite_false rfl ?_))))
      have hl1 := hl.push { cls := Value.type "set", data := Data.set #[] 0 (SetTable.fresh 0 0 (ledOf w)) }
      have ht : Shared.TypeIs { s with heap := s.heap.push { cls := Value.type "set", data := Data.set #[] 0 (SetTable.fresh 0 0 (ledOf w)) } } (.ref l) "list" := by
        obtain ⟨o, h1, h2, _⟩ := hl1
        exact ⟨o, h1, h2⟩
      unfold Builtin.Frozenset.updateFrom Builtin.Frozenset.isAnySet orM
      refine wpAny_bind (wpAny_bind (wpAny_bind (wpAny_isInstance ht F.sub_list_set (wpAny_isInstance ht F.sub_list_frozenset ?_))))
      refine wpAny_ite_false rfl (wpAny_bind (wpAny_typeOf ht (wpAny_ite_false rfl (wpAny_bind (wpAny_pyIter_list hl1 ?_)))))
      refine wpAny_bind (wpAny_runValue ?_)
      have hS1 : s.heap.get? s.heap.objs.size = none := by
        cases e : s.heap.get? s.heap.objs.size with
        | none => rfl
        | some o => exact absurd (Heap.lt_size e) (Nat.lt_irrefl _)
      have hlS : l ≠ s.heap.objs.size := fun z => by
        obtain ⟨o, h1, _⟩ := hl
        rw [z, hS1] at h1; cases h1
      have hsz : (s.heap.push { cls := Value.type "set", data := Data.set #[] 0 (SetTable.fresh 0 0 (ledOf w)) }).objs.size = s.heap.objs.size + 1 := size_push' ..
      have hIl : l ≠ s.heap.objs.size + 1 := fun z => by
        obtain ⟨o, h1, _⟩ := hl
        rw [z] at h1
        exact absurd (Nat.lt_of_succ_lt (Heap.lt_size h1)) (Nat.lt_irrefl _)
      dsimp only
      rw [hsz]
      refine set_loop (Walks.toS (Walks.list (A := A.in1.in1.in1) hh (s.heap.objs.size + 1) l hIl items)) s.heap.objs.size (fun z => ?_) val hv items.size 0 _ (fun _ => false) rfl (Nat.zero_le _) ⟨?_, hl1.push _⟩ (led := ledOf w) ?_ fun s' m hs => ?_
      · rcases List.mem_cons.mp z with z | z
        · exact absurd z (Nat.ne_of_lt (Nat.lt_succ_self _))
        · exact hlS (List.mem_singleton.mp z).symm
      · exact ⟨_, (by rw [← hsz]; exact Heap.get?_push_size _ rfl), rfl, rfl⟩
      · exact ⟨_, #[], 0, fun _ => 0, Heap.get?_push_of_some _ hnew, ⟨rfl, rfl, rfl⟩, rfl, rfl⟩
      · refine wpAny_pure (wpAny_pure (wpAny_pure (wpAny_ite_false rfl (wpAny_pure ?_))))
        obtain ⟨h', g', d', t', o'⟩ := s'
        have e1 : g' = s.gens := m.gens
        have e2 : d' = s.drawn := m.drawn
        have e3 : o' = s.os := m.os
        subst e1 e2 e3
        refine h h' t' (hs.by fun x _ => by rw [Bool.false_or]; rfl) fun b o hb => m.heap b o (fun z => ?_) (Heap.get?_push_of_some _ (Heap.get?_push_of_some _ hb))
        rcases List.mem_cons.mp z with z | z
        · rw [z, hS1] at hb; cases hb
        · rw [List.mem_singleton.mp z] at hb
          exact absurd (Nat.lt_of_succ_lt (Heap.lt_size hb)) (Nat.lt_irrefl _)
    | _ => exact hr.elim
end L2
namespace L2
open PySem PySem.Spec PyProof.Rows
theorem int_nth : ∀ {vs : List Value} {ns : List Int}, IntsAre vs ns → ∀ (i : Nat) (v : Value), vs[i]? = some v → i < ns.length ∧ ∃ t, v = Value.int (ns.getD i 0) t
  | _, _, .nil, i, v, h => by simp at h
  | _, _, .cons n t hr, 0, v, h => by
    rw [List.getElem?_cons_zero] at h
    cases h
    exact ⟨Nat.zero_lt_succ _, t, rfl⟩
  | _, _, .cons n t hr, i + 1, v, h => by
    rw [List.getElem?_cons_succ] at h
    obtain ⟨h1, t', e⟩ := int_nth hr i v h
    exact ⟨Nat.succ_lt_succ h1, t', e⟩
end L2
namespace L2
open PySem PySem.Spec PyProof.Rows
structure Wt (p : Int × Int) (a D : Int) : Prop where
  w : p.1 * D = a * p.2
  p2 : p.2 ≠ 0
  d : D ≠ 0
theorem wt_red {a D : Int} (hD : D ≠ 0) : Wt (FQ.red a D) a D := ⟨FQ.red_worth hD, by have := (FQ.red_low (t := a) hD).pos; omega, hD⟩
theorem fSub_wt {p q : Int × Int} {a D b E : Int} (h : Wt p a D) (k : Wt q b E) : fSub p q = FQ.red (a * E - b * D) (D * E) := by
  unfold fSub
  refine FQ.red_eq (Int.mul_ne_zero h.p2 k.p2) (Int.mul_ne_zero h.d k.d) ?_
  calc (p.1 * q.2 - q.1 * p.2) * (D * E) = (p.1 * D) * (q.2 * E) - (q.1 * E) * (p.2 * D) := by rw [Int.sub_mul]; ac_rfl
    _ = (a * p.2) * (q.2 * E) - (b * q.2) * (p.2 * D) := by rw [h.w, k.w]
    _ = (a * E - b * D) * (p.2 * q.2) := by rw [Int.sub_mul]; ac_rfl
theorem fSub_next {a b D c : Int} (hD : D ≠ 0) (hc : c ≠ 0) : fSub (FQ.red a D) (FQ.red b (D * c)) = FQ.red (a * c - b) (D * c) := by
  rw [fSub_wt (wt_red hD) (wt_red (Int.mul_ne_zero hD hc))]
  refine FQ.red_eq (Int.mul_ne_zero hD (Int.mul_ne_zero hD hc)) (Int.mul_ne_zero hD hc) ?_
  rw [Int.sub_mul, Int.sub_mul]
  congr 1 <;> ac_rfl
theorem lessF_wt {p q : Int × Int} {a D b E : Int} (h : Wt p a D) (k : Wt q b E) (hp : 0 < p.2) (hq : 0 < q.2) (hD : 0 < D) (hE : 0 < E) : lessF p q = decide (a * E < b * D) := by
  have key : (p.1 * q.2) * (D * E) = (a * E) * (p.2 * q.2) ∧ (q.1 * p.2) * (D * E) = (b * D) * (p.2 * q.2) := by
    constructor
    · calc (p.1 * q.2) * (D * E) = (p.1 * D) * (q.2 * E) := by ac_rfl
        _ = (a * p.2) * (q.2 * E) := by rw [h.w]
        _ = _ := by ac_rfl
    · calc (q.1 * p.2) * (D * E) = (q.1 * E) * (p.2 * D) := by ac_rfl
        _ = (b * q.2) * (p.2 * D) := by rw [k.w]
        _ = _ := by ac_rfl
  have h1 : 0 < D * E := Int.mul_pos hD hE
  have h2 : 0 < p.2 * q.2 := Int.mul_pos hp hq
  unfold lessF
  refine decide_eq_decide.mpr ⟨fun z => ?_, fun z => ?_⟩
  · have := Int.mul_lt_mul_of_pos_right z h1
    rw [key.1, key.2] at this
    exact Int.lt_of_mul_lt_mul_right this (Int.le_of_lt h2)
  · have := Int.mul_lt_mul_of_pos_right z h2
    rw [← key.1, ← key.2] at this
    exact Int.lt_of_mul_lt_mul_right this (Int.le_of_lt h1)
theorem lessF_red {a D b E : Int} (hD : 0 < D) (hE : 0 < E) : lessF (FQ.red a D) (FQ.red b E) = decide (a * E < b * D) :=
  lessF_wt (wt_red (by omega)) (wt_red (by omega)) (FQ.red_low (by omega)).pos (FQ.red_low (by omega)).pos hD hE
def leastGo (s : Int × Int) (ps : List (Int × Int)) : Int × Int := ps.foldl (fun s p => if lessF p s = true then p else s) s
def leastF (ps : List (Int × Int)) : Int × Int := leastGo (ps.headD (0, 1)) ps
def spLeast (K : PySem.W.Frag) : Sp := fun vs H Q _ => ∃ (a : Addr) (gs : List V) (ps : List (Int × Int)), vs = [.ref a] ∧ SqL K H a gs ∧ Paired (IsF K H) gs ps ∧ ps ≠ [] ∧ ps.length ≤ 60 ∧ (∀ p ∈ ps, Sz 4000 p) ∧ ∀ v, IsF K H v (leastF ps) → Q v H
structure RowsF (K : PySem.W.Frag) (H0 H : Hp) (L : Addr) (rs : List Addr) (D : Int) (M : List (List Int)) : Prop where
  lst : H L = some (.lst (rs.map V.ref))
  rows : Paired (fun r (m : List Int) => ∃ gs, H r = some (.lst gs) ∧ Paired (IsF K H) gs (fr D m)) rs M
  nd : rs.Nodup
  fresh : ∀ r ∈ rs, H0 r = none
  frL : H0 L = none
  nL : L ∉ rs
section
variable {K : PySem.W.Frag} {H0 H H' : Hp} {L : Addr} {rs : List Addr} {D : Int} {M : List (List Int)}
theorem RowsF.mono (R : RowsF K H0 H L rs D M) (e : Same H H') : RowsF K H0 H' L rs D M :=
  ⟨e _ _ R.lst, Paired.mapP R.rows fun _ _ ⟨gs, h1, h2⟩ => ⟨gs, e _ _ h1, fracs_mono e h2⟩, R.nd, R.fresh, R.frL, R.nL⟩
theorem RowsF.get (R : RowsF K H0 H L rs D M) {i : Nat} {m : List Int} (h : M[i]? = some m) : ∃ r gs, rs[i]? = some r ∧ H r = some (.lst gs) ∧ Paired (IsF K H) gs (fr D m) := by
  obtain ⟨r, h1, gs, h2, h3⟩ := Paired.get R.rows h
  exact ⟨r, gs, h1, h2, h3⟩
theorem RowsF.len (R : RowsF K H0 H L rs D M) : rs.length = M.length := Paired.len R.rows
theorem RowsF.upd {r : Addr} {j : Nat} {gs gs' : List V} {m' : List Int} (R : RowsF K H0 H L rs D M) (h : rs[j]? = some r) (hr : H r = some (.lst gs)) (hg : Paired (IsF K H) gs' (fr D m')) : RowsF K H0 (L2.upd H r (.lst gs')) L rs D (M.set j m') := by
  refine ⟨by rw [upd_ne (fun z => R.nL (by rw [z]; exact List.mem_of_getElem? h))]; exact R.lst, ?_, R.nd, R.fresh, R.frL, R.nL⟩
  have keep : ∀ {rs : List Addr} {M : List (List Int)}, r ∉ rs → Paired (fun r (m : List Int) => ∃ gs, H r = some (.lst gs) ∧ Paired (IsF K H) gs (fr D m)) rs M → Paired (fun r' (m : List Int) => ∃ gs, L2.upd H r (.lst gs') r' = some (.lst gs) ∧ Paired (IsF K (L2.upd H r (.lst gs'))) gs (fr D m)) rs M := by
    intro rs M hn h
    induction h with
    | nil => exact .nil
    | cons a b ih =>
      obtain ⟨gs, h1, h2⟩ := a
      refine .cons ⟨gs, ?_, Paired.mapP h2 fun _ _ q => q.over hr⟩ (ih fun z => hn (List.mem_cons_of_mem _ z))
      rw [upd_ne (fun z => hn (by rw [z]; exact List.mem_cons_self))]
      exact h1
  have : ∀ {rs : List Addr} {M : List (List Int)} {j : Nat}, rs.Nodup → rs[j]? = some r → Paired (fun r (m : List Int) => ∃ gs, H r = some (.lst gs) ∧ Paired (IsF K H) gs (fr D m)) rs M → Paired (fun r' (m : List Int) => ∃ gs, L2.upd H r (.lst gs') r' = some (.lst gs) ∧ Paired (IsF K (L2.upd H r (.lst gs'))) gs (fr D m)) rs (M.set j m') := by
    intro rs M j nd e h
    induction h generalizing j with
    | nil => simp at e
    | cons a b ih =>
      cases j with
      | zero =>
        simp at e
        subst e
        exact .cons ⟨gs', upd_same, Paired.mapP hg fun _ _ q => q.over hr⟩ (keep (List.nodup_cons.mp nd).1 b)
      | succ j =>
        have e' : _ := (by simpa using e : _)
        obtain ⟨gs1, h1, h2⟩ := a
        refine .cons ⟨gs1, ?_, Paired.mapP h2 fun _ _ q => q.over hr⟩ (ih (List.nodup_cons.mp nd).2 e')
        rw [upd_ne (fun z => (List.nodup_cons.mp nd).1 (by rw [z]; exact List.mem_of_getElem? e'))]
        exact h1
  exact this R.nd h R.rows
end
theorem paired_set {α β : Type} {F : α → β → Prop} {x : α} {y : β} : ∀ {xs : List α} {ys : List β} {k : Nat}, Paired F xs ys → F x y → Paired F (xs.set k x) (ys.set k y)
  | _, _, _, .nil, _ => .nil
  | _, _, 0, .cons _ t, h => .cons h t
  | _, _, k + 1, .cons r t, h => .cons r (paired_set t h)
theorem fr_get {D : Int} {m : List Int} {k : Nat} (h : k < m.length) : (fr D m)[k]? = some (FQ.red (m.getD k 0) D) := by
  unfold fr
  rw [List.getElem?_map, List.getD_eq_getElem?_getD, List.getElem?_eq_getElem h]
  rfl
end L2
namespace L2
open PySem PySem.Spec PyProof.Rows
theorem nextOf_tuple_item {prog : Program} {w : World} {A : Around} {E : Value → Shared → Prop} {s : Shared} {it l : Addr} {i : Nat} {items : Array Value} {x : Value} {Q : Value → Shared → Prop} (hit : s.heap.IsTupleIter it l i) (hl : s.heap.IsTuple l items) (hx : items[i]? = some x)
    (hQ : ∀ h' : Heap, h'.IsTupleIter it l (i + 1) → Heap.SameBut it s.heap h' → Q x { s with heap := h' }) : wpAny (model prog w) A (Builtin.SmallTypes.nextOf (.ref it)) Q E s := by
  obtain ⟨o, ho, hc, hd⟩ := id hit
  obtain ⟨ol, hol, hcl, nl, hdl⟩ := hl
  unfold Builtin.SmallTypes.nextOf
  refine wpAny_bind (wpAny_callSpecial?_slot (Heap.IsTupleIter.typeIs hit) F.slot_tuple_iterator_next (wpAny_call_entry F.slot_tuple_iterator_next (Heap.IsTupleIter.typeIs hit) F.entry_tuple_iterator_next ?_ (F.args_tuple_iterator_next_1 _)))
  refine wpAny_bind (wpAny_pure ?_)
  refine wpAny_bind (wpAny_field ho hd rfl ?_)
  refine wpAny_ite_false rfl ?_
  refine wpAny_bind (wpAny_field ho hd rfl ?_)
  refine wpAny_bind (wpAny_seqItems hol hdl ?_)
  dsimp only
  rw [show items[((i : Nat) : Int).toNat]? = some x from hx]
  refine wpAny_bind (wpAny_setField ho hd (by simp) ?_)
  refine wpAny_pure ⟨x, rfl, wpAny_pure (hQ _ ⟨_, Heap.get?_update_self _ ho (Obj.isFreed_of_fields (Obj.data_mapFields hd _)), (Obj.cls_mapFields o _).trans hc, ?_⟩ (Heap.SameBut.update _ _ _))⟩
  rw [Obj.data_mapFields hd]
  rfl
theorem nextOf_tuple_end {prog : Program} {w : World} {A : Around} {E : Value → Shared → Prop} {s : Shared} {it l : Addr} {i : Nat} {items : Array Value} {Q : Value → Shared → Prop} (hh : A.handled = none) (hit : s.heap.IsTupleIter it l i) (hl : s.heap.IsTuple l items) (hx : items[i]? = none)
    (hE : ∀ (h' : Heap) (e : Addr), Heap.ExtBut it s.heap h' → (∃ o, h'.get? e = some o ∧ o.cls = .type "StopIteration") → E (.ref e) { s with heap := h' }) : wpAny (model prog w) A (Builtin.SmallTypes.nextOf (.ref it)) Q E s := by
  obtain ⟨o, ho, hc, hd⟩ := id hit
  obtain ⟨ol, hol, hcl, nl, hdl⟩ := hl
  unfold Builtin.SmallTypes.nextOf
  refine wpAny_bind (wpAny_callSpecial?_slot (Heap.IsTupleIter.typeIs hit) F.slot_tuple_iterator_next (wpAny_call_entry F.slot_tuple_iterator_next (Heap.IsTupleIter.typeIs hit) F.entry_tuple_iterator_next ?_ (F.args_tuple_iterator_next_1 _)))
  refine wpAny_bind (wpAny_pure ?_)
  refine wpAny_bind (wpAny_field ho hd rfl ?_)
  refine wpAny_ite_false rfl ?_
  refine wpAny_bind (wpAny_field ho hd rfl ?_)
  refine wpAny_bind (wpAny_seqItems hol hdl ?_)
  dsimp only
  rw [show items[((i : Nat) : Int).toNat]? = none from hx]
  refine wpAny_bind (wpAny_rule (wpAny_bind (wpAny_setField ho hd (by simp) ?_)))
  unfold Builtin.SmallTypes.stopIteration newExc raiseNew
  refine wpAny_bind (wpAny_bind (wpAny_newTuple ?_ (by show (0 : Nat) ≤ sizeLine; decide)))
  refine wpAny_bind (wpAny_of_eq rfl (wpAny_newObj_type ?_ ?_))
  · refine wpAny_bind (wpAny_handled ?_)
    rw [show A.in1.handled = none from hh]
    refine wpAny_throw ?_
    exact hE _ _ (((Heap.SameBut.update _ _ _).extBut.push _).push _) ⟨_, Heap.get?_push_size _ rfl, rfl⟩
  · exact sizeOk_excFields _ _ _ _ _ _ _ _
theorem draws_tuple {prog : Program} {w : World} {A : Around} (hh : A.handled = none) (it l : Addr) (hl : l ≠ it) (items : Array Value) : Draws prog w A it [it, l] items.size (fun i v => items[i]? = some v) (fun i h => h.IsTupleIter it l i ∧ h.IsTuple l items) where
  live := fun i h st => by obtain ⟨⟨o, ho, _⟩, _⟩ := st; exact ⟨o, ho⟩
  frame := fun i h h' st k => by
    obtain ⟨s1, o, s2, r⟩ := st
    exact ⟨s1.at fun o q => k it (by simp) o q, o, k l (by simp) o s2, r⟩
  item := fun i s Q E hi st h => by
    obtain ⟨s1, s2⟩ := st
    refine nextOf_tuple_item s1 s2 (x := items[i]) (by simp [hi]) fun h' st' sb => h _ _ s.toks (by simp [hi]) ⟨st', ?_⟩ sb
    obtain ⟨o, q, r⟩ := s2
    exact ⟨o, (sb.2 l hl).trans q, r⟩
  done := fun s Q E st h => by
    obtain ⟨s1, s2⟩ := st
    exact nextOf_tuple_end hh s1 s2 (by simp) h
structure ZipA (z TI TO i1 i2 : Addr) (fp1 fp2 : List Addr) : Prop where
  TIz : TI ≠ z
  TOz : TO ≠ z
  i1z : i1 ≠ z
  i2z : i2 ≠ z
  TITO : TI ≠ TO
  TIi1 : TI ≠ i1
  TIi2 : TI ≠ i2
  TOi1 : TO ≠ i1
  TOi2 : TO ≠ i2
  i12 : i1 ≠ i2
  z1 : z ∉ fp1
  T1 : TO ∉ fp1
  i21 : i2 ∉ fp1
  z2 : z ∉ fp2
  T2 : TO ∉ fp2
  i12' : i1 ∉ fp2
theorem zip_item {prog : Program} {w : World} {A : Around} {E : Value → Shared → Prop} {s : Shared} {z TI TO i1 i2 : Addr} {fp1 fp2 : List Addr} {n1 n2 k1 k2 : Nat} {P1 P2 : Nat → Value → Prop} {St1 St2 : Nat → Heap → Prop} {a b : Value} {Q : Value → Shared → Prop}
    (D1 : Draws prog w A i1 fp1 n1 P1 St1) (D2 : Draws prog w A i2 fp2 n2 P2 St2) (ap : ZipA z TI TO i1 i2 fp1 fp2) (hz : IsZip s.heap z TI TO .none) (hTI : IsPair s.heap TI (.ref i1) (.ref i2)) (hTO : IsPair s.heap TO a b)
    (s1 : St1 k1 s.heap) (s2 : St2 k2 s.heap) (hk1 : k1 < n1) (hk2 : k2 < n2)
    (hQ : ∀ (x y : Value) (h' : Heap) (tk : Nat), P1 k1 x → P2 k2 y → IsZip h' z TI TO (rawInt s.heap.objs.size) → IsPair h' TO x y → St1 (k1 + 1) h' → St2 (k2 + 1) h' → IsPair h' s.heap.objs.size x y → h'.objs.size = s.heap.objs.size + 1 →
      (∀ c o, c ≠ z → c ≠ TO → c ≠ i1 → c ≠ i2 → s.heap.get? c = some o → h'.get? c = some o) → Q (.ref s.heap.objs.size) { s with heap := h', toks := tk }) :
    wpAny (model prog w) A (Builtin.«zip.__next__» { pos := [.ref z] }) (fun fin s' => ∃ v, fin = Fin.done (Flow.ret v) ∧ Q v s') E s := by
  unfold Builtin.«zip.__next__»
  refine wpAny_bind (wpAny_pure ?_)
  refine wpAny_bind (wpAny_field hz rfl rfl ?_)
  refine wpAny_bind (wpAny_field hz rfl rfl ?_)
  refine wpAny_bind (wpAny_seqItems hTI rfl ?_)
  refine wpAny_ite_false rfl ?_
  unfold Builtin.SmallTypes.ownedTupleIsFree
  refine wpAny_bind (wpAny_bind (wpAny_field hz rfl rfl (wpAny_pure ?_)))
  refine wpAny_bind (wpAny_rule (wpAny_bind (wpAny_field hz rfl rfl ?_)))
  refine wpAny_bind (wpAny_setField_rec hz (by simp) fun h1 hz1 sb1 => ?_)
  rw [show #[Value.ref i1, Value.ref i2].toList.zipIdx = [(Value.ref i1, 0), (Value.ref i2, 1)] from rfl, List.forIn_cons, bind_assoc]
  have hTO1 : IsPair h1 TO a b := (sb1.2 TO ap.TOz).trans hTO
  have s11 : St1 k1 h1 := D1.frame _ _ _ s1 fun c hc o q => (sb1.2 c (fun e => ap.z1 (e ▸ hc))).trans q
  have s21 : St2 k2 h1 := D2.frame _ _ _ s2 fun c hc o q => (sb1.2 c (fun e => ap.z2 (e ▸ hc))).trans q
  refine wpAny_bind (wpAny_bind (wpAny_onRaise ?_))
  refine (show wpAny (model prog w) A (if (Value.bool false == Value.bool true) = true then Builtin.SmallTypes.nextOrEnd (.ref i1) else do let x ← Builtin.SmallTypes.nextOf (.ref i1); pure (some x)) _ _ _ from wpAny_ite_false rfl (wpAny_bind (D1.item k1 _ _ _ hk1 s11 fun x h2 tk2 px s12 sb2 => wpAny_pure ?_)))
  have hTO2 : IsPair h2 TO a b := (sb2.2 TO ap.TOi1).trans hTO1
  refine wpAny_bind (wpAny_seqItems hTO2 rfl ?_)
  refine wpAny_bind (wpAny_updateSeq_pair hTO2 fun h3 hTO3 sb3 => ?_)
  refine wpAny_bind (wpAny_letGo (wpAny_pure ?_))
  dsimp only
  have hTO3' : IsPair h3 TO x b := hTO3
  have s13 : St1 (k1 + 1) h3 := D1.frame _ _ _ s12 fun c hc o q => (sb3.2 c (fun e => ap.T1 (e ▸ hc))).trans q
  have s23 : St2 k2 h3 := D2.frame _ _ _ s21 fun c hc o q => (sb3.2 c (fun e => ap.T2 (e ▸ hc))).trans ((sb2.2 c (fun e => ap.i12' (e ▸ hc))).trans q)
  rw [List.forIn_cons, bind_assoc]
  refine wpAny_bind (wpAny_bind (wpAny_onRaise ?_))
  refine (show wpAny (model prog w) A (if (Value.bool false == Value.bool true) = true then Builtin.SmallTypes.nextOrEnd (.ref i2) else do let x ← Builtin.SmallTypes.nextOf (.ref i2); pure (some x)) _ _ _ from wpAny_ite_false rfl (wpAny_bind (D2.item k2 _ _ _ hk2 s23 fun y h4 tk4 py s24 sb4 => wpAny_pure ?_)))
  have hTO4 : IsPair h4 TO x b := (sb4.2 TO ap.TOi2).trans hTO3'
  refine wpAny_bind (wpAny_seqItems hTO4 rfl ?_)
  refine wpAny_bind (wpAny_updateSeq_pair hTO4 fun h5 hTO5 sb5 => ?_)
  refine wpAny_bind (wpAny_letGo (wpAny_pure ?_))
  dsimp only
  have hTO5' : IsPair h5 TO x y := hTO5
  rw [List.forIn_nil]
  refine wpAny_bind (wpAny_pure ?_)
  refine wpAny_bind (wpAny_seqItems hTO5' rfl ?_)
  refine wpAny_bind (wpAny_newTuple ?_ (by show 2 ≤ sizeLine; decide))
  have hz5 : h5.get? z = some { cls := Value.type "zip", data := Data.fields #[Value.ellipsis, Value.bool false, Value.bool false, Value.ref TI, Value.ref TO] } :=
    (sb5.2 z (Ne.symm ap.TOz)).trans ((sb4.2 z (Ne.symm ap.i2z)).trans ((sb3.2 z (Ne.symm ap.TOz)).trans ((sb2.2 z (Ne.symm ap.i1z)).trans hz1)))
  unfold Builtin.SmallTypes.ownedTupleHandOut
  dsimp only
  have hz6 := Heap.get?_push_of_some (o := { cls := Value.type "tuple", data := Data.seq [x, y].toArray }) hz5
  refine wpAny_bind (wpAny_bind (wpAny_setField_rec hz6 (by simp) fun h7 hz7 sb7 => ?_))
  refine wpAny_setField_rec hz7 (by simp) fun h8 hz8 sb8 => ?_
  have e5 : h5.objs.size = s.heap.objs.size := by rw [sb5.1, sb4.1, sb3.1, sb2.1, sb1.1]
  have hnew : (h5.push { cls := Value.type "tuple", data := Data.seq [x, y].toArray }).get? h5.objs.size = some { cls := Value.type "tuple", data := Data.seq [x, y].toArray } := Heap.get?_push_size _ rfl
  have nz : h5.objs.size ≠ z := Ne.symm (Nat.ne_of_lt (Heap.lt_size hz5))
  have s15 : St1 (k1 + 1) h5 := D1.frame _ _ _ s13 fun c hc o q => (sb5.2 c (fun e => ap.T1 (e ▸ hc))).trans ((sb4.2 c (fun e => ap.i21 (e ▸ hc))).trans q)
  have s25 : St2 (k2 + 1) h5 := D2.frame _ _ _ s24 fun c hc o q => (sb5.2 c (fun e => ap.T2 (e ▸ hc))).trans q
  have keep8 : ∀ c o, c ≠ z → h5.get? c = some o → h8.get? c = some o := fun c o hc q => (sb8.2 c hc).trans ((sb7.2 c hc).trans (Heap.get?_push_of_some _ q))
  refine wpAny_pure ⟨_, rfl, ?_⟩
  dsimp only
  rw [e5]
  refine hQ x y h8 tk4 px py ?_ (keep8 TO _ ap.TOz hTO5') (D1.frame _ _ _ s15 fun c hc o q => keep8 c o (fun e => ap.z1 (e ▸ hc)) q) (D2.frame _ _ _ s25 fun c hc o q => keep8 c o (fun e => ap.z2 (e ▸ hc)) q) ?_ ?_ (fun c o c1 c2 c3 c4 q => ?_)
  · rw [← e5]; exact hz8
  · rw [← e5]; exact (sb8.2 _ nz).trans ((sb7.2 _ nz).trans hnew)
  · rw [sb8.1, sb7.1]
    show (h5.push _).objs.size = _
    unfold Heap.push
    simp [e5]
  · exact keep8 c o c1 ((sb5.2 c c2).trans ((sb4.2 c c4).trans ((sb3.2 c c2).trans ((sb2.2 c c3).trans ((sb1.2 c c1).trans q)))))
theorem pyNext_zip {prog : Program} {w : World} {A : Around} {E : Value → Shared → Prop} {s : Shared} {z : Addr} {Q : Option Value → Shared → Prop} (ht : s.TypeIs (.ref z) "zip")
    (h : wpAny (model prog w) A.in1 (Builtin.«zip.__next__» { pos := [.ref z] }) (fun fin s' => ∃ v, fin = Fin.done (Flow.ret v) ∧ Q (some v) s') (fun e s' => (∃ a o, e = .ref a ∧ s'.heap.get? a = some o ∧ o.cls = .type "StopIteration") ∧ Q none s') s) :
    wpAny (model prog w) A (pyNext (.ref z)) Q E s := by
  unfold pyNext
  refine wpAny_bind (wpAny_attempt (wpAny_callSpecial?_slot ht F.slot_zip_next (wpAny_call_entry F.slot_zip_next ht F.entry_zip_next ?_ (F.args_zip_next_1 _))))
  refine wpAny_mono h (fun fin s' hq => ?_) (fun e s' hq => ?_)
  · obtain ⟨v, e, q⟩ := hq
    exact ⟨v, e, wpAny_pure q⟩
  · obtain ⟨⟨a, o, rfl, ho, hc⟩, q⟩ := hq
    refine wpAny_bind (wpAny_isInstance (T := "StopIteration") ⟨o, ho, hc⟩ isSubtype_stop ?_)
    exact wpAny_pure q
theorem zip_end {prog : Program} {w : World} {A : Around} {E : Value → Shared → Prop} {s : Shared} {z TI TO i1 i2 : Addr} {fp1 : List Addr} {n1 : Nat} {P1 : Nat → Value → Prop} {St1 : Nat → Heap → Prop} {a b : Value} {Q : PySem.Fin → Shared → Prop}
    (D1 : Draws prog w A i1 fp1 n1 P1 St1) (i1z : i1 ≠ z) (z1 : z ∉ fp1) (hz : IsZip s.heap z TI TO .none) (hTI : IsPair s.heap TI (.ref i1) (.ref i2)) (hTO : IsPair s.heap TO a b) (s1 : St1 n1 s.heap)
    (hE : ∀ (h' : Heap) (e : Addr), (∀ c o, c ≠ z → c ≠ i1 → s.heap.get? c = some o → h'.get? c = some o) → (∃ o, h'.get? e = some o ∧ o.cls = .type "StopIteration") → E (.ref e) { s with heap := h' }) :
    wpAny (model prog w) A (Builtin.«zip.__next__» { pos := [.ref z] }) Q E s := by
  unfold Builtin.«zip.__next__»
  refine wpAny_bind (wpAny_pure ?_)
  refine wpAny_bind (wpAny_field hz rfl rfl ?_)
  refine wpAny_bind (wpAny_field hz rfl rfl ?_)
  refine wpAny_bind (wpAny_seqItems hTI rfl ?_)
  refine wpAny_ite_false rfl ?_
  unfold Builtin.SmallTypes.ownedTupleIsFree
  refine wpAny_bind (wpAny_bind (wpAny_field hz rfl rfl (wpAny_pure ?_)))
  refine wpAny_bind (wpAny_rule (wpAny_bind (wpAny_field hz rfl rfl ?_)))
  refine wpAny_bind (wpAny_setField_rec hz (by simp) fun h1 hz1 sb1 => ?_)
  rw [show #[Value.ref i1, Value.ref i2].toList.zipIdx = [(Value.ref i1, 0), (Value.ref i2, 1)] from rfl, List.forIn_cons, bind_assoc]
  have s11 : St1 n1 h1 := D1.frame _ _ _ s1 fun c hc o q => (sb1.2 c (fun e => z1 (e ▸ hc))).trans q
  refine wpAny_bind (wpAny_bind (wpAny_onRaise ?_))
  refine (show wpAny (model prog w) A (if (Value.bool false == Value.bool true) = true then Builtin.SmallTypes.nextOrEnd (.ref i1) else do let x ← Builtin.SmallTypes.nextOf (.ref i1); pure (some x)) _ _ _ from wpAny_ite_false rfl (wpAny_bind (D1.done _ _ _ s11 fun h2 e eb2 ho => ?_)))
  have hz2 : h2.get? z = some _ := eb2 z _ (Ne.symm i1z) hz1
  refine wpAny_setField_rec hz2 (by simp) fun h3 hz3 sb3 => ?_
  obtain ⟨o, ho, hc⟩ := ho
  have nez : e ≠ z := fun q => by
    rw [q, hz2] at ho
    cases ho
    exact absurd (Value.type.inj hc) (by decide)
  exact hE h3 e (fun c o c1 c2 q => (sb3.2 c c1).trans (eb2 c o c2 ((sb1.2 c c1).trans q))) ⟨o, (sb3.2 e nez).trans ho, hc⟩
def Sqx (h : Heap) (tp : Bool) (l : Addr) (items : Array Value) : Prop := if tp = true then h.IsTuple l items else h.IsList l items
def Itx (h : Heap) (tp : Bool) (it l : Addr) (i : Nat) : Prop := if tp = true then h.IsTupleIter it l i else h.IsListIter it l i
def itObj (tp : Bool) (l : Addr) : Obj := { cls := .type (if tp = true then "tuple_iterator" else "list_iterator"), data := .fields #[.ref l, .int 0 0] }
theorem pyIter_sqx {prog : Program} {w : World} {A : Around} {E : Value → Shared → Prop} {s : Shared} {tp : Bool} {l : Addr} {items : Array Value} {Q : Value → Shared → Prop} (h : Sqx s.heap tp l items) (hQ : Q (.ref s.heap.objs.size) { s with heap := s.heap.push (itObj tp l) }) : wpAny (model prog w) A (pyIter (.ref l)) Q E s := by
  cases tp with
  | true => exact wpAny_pyIter_tuple h hQ
  | false => exact wpAny_pyIter_list h hQ
theorem Sqx.keep {h h' : Heap} {tp : Bool} {l : Addr} {items : Array Value} (q : Sqx h tp l items) (k : ∀ o, h.get? l = some o → h'.get? l = some o) : Sqx h' tp l items := by
  cases tp with
  | true => obtain ⟨o, q1, r⟩ := (show h.IsTuple l items from q); exact ⟨o, k o q1, r⟩
  | false => obtain ⟨o, q1, r⟩ := (show h.IsList l items from q); exact ⟨o, k o q1, r⟩
theorem Sqx.lt {h : Heap} {tp : Bool} {l : Addr} {items : Array Value} (q : Sqx h tp l items) : l < h.objs.size := by
  cases tp with
  | true => obtain ⟨o, q1, r⟩ := (show h.IsTuple l items from q); exact Heap.lt_size q1
  | false => obtain ⟨o, q1, r⟩ := (show h.IsList l items from q); exact Heap.lt_size q1
theorem Itx.new {h : Heap} {tp : Bool} {it l : Addr} (e : h.get? it = some (itObj tp l)) : Itx h tp it l 0 := by
  cases tp with
  | true => exact ⟨_, e, rfl, rfl⟩
  | false => exact ⟨_, e, rfl, rfl⟩
theorem Itx.keep {h h' : Heap} {tp : Bool} {it l : Addr} {i : Nat} (q : Itx h tp it l i) (k : ∀ o, h.get? it = some o → h'.get? it = some o) : Itx h' tp it l i := by
  cases tp with
  | true => exact Heap.IsTupleIter.at q k
  | false => exact Heap.IsListIter.at q k
theorem Itx.get {h : Heap} {tp : Bool} {it l : Addr} {i : Nat} (q : Itx h tp it l i) : ∃ vs n, h.get? it = some { cls := .type n, data := .fields vs } ∨ ∃ o, h.get? it = some o ∧ o.data = .fields vs := by
  cases tp with
  | true => obtain ⟨o, e, c, d⟩ := (show h.IsTupleIter it l i from q); exact ⟨_, "", .inr ⟨o, e, d⟩⟩
  | false => obtain ⟨o, e, c, d⟩ := (show h.IsListIter it l i from q); exact ⟨_, "", .inr ⟨o, e, d⟩⟩
theorem draws_sqx {prog : Program} {w : World} {A : Around} (hh : A.handled = none) (tp : Bool) (it l : Addr) (hl : l ≠ it) (items : Array Value) : Draws prog w A it [it, l] items.size (fun i v => items[i]? = some v) (fun i h => Itx h tp it l i ∧ Sqx h tp l items) := by
  cases tp with
  | true => exact draws_tuple hh it l hl items
  | false => exact Draws.list hh it l hl items
theorem meets_zipx (l1 l2 : Addr) (t1 t2 : Bool) (xs ys : Array Value) : Meets (Builtin.«zip.__new__» { pos := [.type "zip", .ref l1, .ref l2] }) (fun _ R s => Sqx s.heap t1 l1 xs ∧ Sqx s.heap t2 l2 ys ∧
    R (.ok (.ret (.ref (s.heap.objs.size + 4)))) { s with heap := ((((s.heap.push (itObj t1 l1)).push (itObj t2 l2)).push { cls := .type "tuple", data := .seq #[.ref s.heap.objs.size, .ref (s.heap.objs.size + 1)] }).push { cls := .type "tuple", data := .seq #[.none, .none] }).push { cls := .type "zip", data := .fields #[.none, .bool false, .bool false, .ref (s.heap.objs.size + 2), .ref (s.heap.objs.size + 3)] } }) := by
  refine Meets.of_wp fun prog w A R s h => ?_
  obtain ⟨h1, h2, hR⟩ := h
  have hsub := sub_zip
  unfold Builtin.«zip.__new__» Builtin.SmallTypes.newClass
  refine wpAny_bind (wpAny_bind (wpAny_pure ?_))
  refine wpAny_ite_false rfl (wpAny_bind (wpAny_of_eq hsub (wpAny_ite_false rfl (wpAny_pure ?_))))
  refine wpAny_ite_false rfl ?_
  unfold Builtin.SmallTypes.iterAll
  dsimp only
  rw [List.forIn_cons]
  refine wpAny_bind (wpAny_bind (wpAny_bind (wpAny_bind (wpAny_holding (pyIter_sqx h1 (wpAny_pure ?_))))))
  dsimp only
  rw [List.forIn_cons]
  have h21 : Sqx (s.heap.push (itObj t1 l1)) t2 l2 ys := h2.keep fun o q => Heap.get?_push_of_some _ q
  refine wpAny_bind (wpAny_bind (wpAny_holding (pyIter_sqx (s := { s with heap := s.heap.push (itObj t1 l1) }) h21 (wpAny_pure ?_))))
  dsimp only
  rw [List.forIn_nil]
  have e1 : ∀ (h : Heap) (o : Obj), (h.push o).objs.size = h.objs.size + 1 := fun h o => by unfold Heap.push; simp
  refine wpAny_pure (wpAny_pure ?_)
  refine wpAny_bind (wpAny_newTuple ?_ (by show 2 ≤ sizeLine; decide))
  refine wpAny_bind (wpAny_newTuple ?_ (by show 2 ≤ sizeLine; decide))
  unfold Builtin.SmallTypes.newRecord
  refine wpAny_bind (wpAny_newObj_type ?_ (by show (5 : Nat) ≤ sizeLine + 2; decide))
  refine wpAny_pure ⟨_, rfl, ?_⟩
  simp only [e1]
  exact hR
def SqB (K : PySem.W.Frag) (H : Hp) (tp : Bool) (a : Addr) (xs : List V) : Prop := if tp = true then SqT K H a xs else SqL K H a xs
structure ZipB (z TI TO i1 i2 l1 l2 : Addr) : Prop where
  TIz : TI ≠ z
  TOz : TO ≠ z
  i1z : i1 ≠ z
  i2z : i2 ≠ z
  TITO : TI ≠ TO
  TIi1 : TI ≠ i1
  TIi2 : TI ≠ i2
  TOi1 : TO ≠ i1
  TOi2 : TO ≠ i2
  i12 : i1 ≠ i2
  l1z : l1 ≠ z
  l1T : l1 ≠ TO
  l1i : l1 ≠ i1
  l1j : l1 ≠ i2
  l2z : l2 ≠ z
  l2T : l2 ≠ TO
  l2i : l2 ≠ i1
  l2j : l2 ≠ i2
theorem ZipB.a {z TI TO i1 i2 l1 l2 : Addr} (b : ZipB z TI TO i1 i2 l1 l2) : ZipA z TI TO i1 i2 [i1, l1] [i2, l2] :=
  ⟨b.TIz, b.TOz, b.i1z, b.i2z, b.TITO, b.TIi1, b.TIi2, b.TOi1, b.TOi2, b.i12, by simp [Ne.symm b.i1z, Ne.symm b.l1z], by simp [b.TOi1, Ne.symm b.l1T], by simp [Ne.symm b.i12, Ne.symm b.l1j], by simp [Ne.symm b.i2z, Ne.symm b.l2z], by simp [b.TOi2, Ne.symm b.l2T], by simp [b.i12, Ne.symm b.l2i]⟩
section
variable {X : Cx} {pins : List (Addr × Obj)} {σ : St} {H : Hp} {s : Shared}
theorem Inv.sqx (I : Inv X pins σ H s) {tp : Bool} {a : Addr} {xs : List V} (h : SqB X.K H tp a xs) : ∃ its : List Value, Vals xs its ∧ Sqx s.heap tp a its.toArray := by
  cases tp with
  | true => obtain ⟨its, r, p, _⟩ := I.tuple h; exact ⟨its, r, p⟩
  | false => obtain ⟨its, r, p, _⟩ := I.list h; exact ⟨its, r, p.isList⟩
theorem Inv.sqb_inj (I : Inv X pins σ H s) {tp : Bool} {a : Addr} {xs ys : List V} (h : SqB X.K H tp a xs) (h' : SqB X.K H tp a ys) : xs = ys := by
  cases tp with
  | true => exact I.tuple_inj h h'
  | false => exact I.list_inj h h'
end
def Itz (K : PySem.W.Frag) (t1 t2 : Bool) (a b : Addr) : It :=
  ⟨fun i H => ∃ xs ys x y, SqB K H t1 a xs ∧ SqB K H t2 b ys ∧ xs[i]? = some x ∧ ys[i]? = some y,
   fun i H v H' => ∃ x y t, (∀ xs, SqB K H t1 a xs → xs[i]? = some x) ∧ (∀ ys, SqB K H t2 b ys → ys[i]? = some y) ∧ v = .ref t ∧ H t = none ∧ H' = upd H t (.tup [x, y]),
   fun i H => ∃ xs, SqB K H t1 a xs ∧ xs.length = i⟩
theorem turn_zip {P : Program} {w : World} {K : PySem.W.Frag} {elts : List Expr} {x1 : Nat} {pos : Pos} (t1 t2 : Bool) (l1 l2 z TI TO i1 i2 : Addr) (ap : ZipB z TI TO i1 i2 l1 l2) :
    Turn P w K (.Tuple elts x1 pos) (Itz K t1 t2 l1 l2) [z, TI, TO, i1, i2] z (fun i h => IsZip h z TI TO .none ∧ IsPair h TI (.ref i1) (.ref i2) ∧ (∃ a b, IsPair h TO a b) ∧ Itx h t1 i1 l1 i ∧ Itx h t2 i2 l2 i) where
  mem := by simp
  obj := fun i h st b hb => by
    obtain ⟨q1, q2, ⟨a, c, q3⟩, q4, q5⟩ := st
    simp only [List.mem_cons, List.not_mem_nil, or_false] at hb
    rcases hb with rfl | rfl | rfl | rfl | rfl
    · exact ⟨_, q1, fun v z => by cases z⟩
    · exact ⟨_, q2, fun v z => by cases z⟩
    · exact ⟨_, q3, fun v z => by cases z⟩
    · cases t1 with
      | true => obtain ⟨o, e, _, d⟩ := (show h.IsTupleIter _ _ _ from q4); exact ⟨o, e, fun v z => by rw [d] at z; cases z⟩
      | false => obtain ⟨o, e, _, d⟩ := (show h.IsListIter _ _ _ from q4); exact ⟨o, e, fun v z => by rw [d] at z; cases z⟩
    · cases t2 with
      | true => obtain ⟨o, e, _, d⟩ := (show h.IsTupleIter _ _ _ from q5); exact ⟨o, e, fun v z => by rw [d] at z; cases z⟩
      | false => obtain ⟨o, e, _, d⟩ := (show h.IsListIter _ _ _ from q5); exact ⟨o, e, fun v z => by rw [d] at z; cases z⟩
  keep := fun i h h' st k => by
    obtain ⟨q1, q2, ⟨a, c, q3⟩, q4, q5⟩ := st
    exact ⟨k z (by simp) _ q1, k TI (by simp) _ q2, ⟨a, c, k TO (by simp) _ q3⟩, q4.keep fun o q => k i1 (by simp) o q, q5.keep fun o q => k i2 (by simp) o q⟩
  item := by
    intro X hP hw hK hc i pins s σ H E I hf st hg
    subst hP hw hK
    obtain ⟨xs, ys, x, y, hx1, hy1, hx, hy⟩ := hg
    obtain ⟨its1, rv1, p1⟩ := I.sqx hx1
    obtain ⟨its2, rv2, p2⟩ := I.sqx hy1
    obtain ⟨u, hu, ru⟩ := rv1.get hx
    obtain ⟨v, hv, rv⟩ := rv2.get hy
    obtain ⟨q1, q2, ⟨a, c, q3⟩, q4, q5⟩ := st
    have hh := I.ok.hd hc
    have hul : i < its1.toArray.size := by rw [List.size_toArray]; exact (List.getElem?_eq_some_iff.mp hu).1
    have hvl : i < its2.toArray.size := by rw [List.size_toArray]; exact (List.getElem?_eq_some_iff.mp hv).1
    refine pyNext_zip ⟨_, q1, rfl⟩ (zip_item (draws_sqx (A := X.A.in1) hh t1 i1 l1 ap.l1i its1.toArray) (draws_sqx (A := X.A.in1) hh t2 i2 l2 ap.l2j its2.toArray) ap.a q1 q2 q3 ⟨q4, p1⟩ ⟨q5, p2⟩ hul hvl fun x' y' h' tk px py hz' hTO' s1' s2' hnew hsz kk => ?_)
    have ex : x' = u := by
      have : its1.toArray[i]? = some x' := px
      rw [List.getElem?_toArray, hu] at this
      exact (Option.some.inj this).symm
    have ey : y' = v := by
      have : its2.toArray[i]? = some y' := py
      rw [List.getElem?_toArray, hv] at this
      exact (Option.some.inj this).symm
    subst ex ey
    have lt : ∀ b o, s.heap.get? b = some o → b ≠ s.heap.objs.size := fun b o q => Nat.ne_of_lt (Heap.lt_size q)
    have hn : H s.heap.objs.size = none := I.hok.fresh (Nat.le_refl _)
    have lts : ∀ b ∈ [z, TI, TO, i1, i2], b ≠ s.heap.objs.size := fun b hb => by
      simp only [List.mem_cons, List.not_mem_nil, or_false] at hb
      rcases hb with rfl | rfl | rfl | rfl | rfl
      · exact lt _ _ q1
      · exact lt _ _ q2
      · exact lt _ _ q3
      · obtain ⟨vs, n, e | ⟨o, e, _⟩⟩ := q4.get
        · exact lt _ _ e
        · exact lt _ _ e
      · obtain ⟨vs, n, e | ⟨o, e, _⟩⟩ := q5.get
        · exact lt _ _ e
        · exact lt _ _ e
    have I0 : Inv X pins σ (upd H s.heap.objs.size (.tup [x, y])) { s with heap := s.heap.push { cls := .type "tuple", data := .seq #[x', y'] }, toks := s.toks } :=
      I.laid (t' := s.toks) (fun b o q => Heap.get?_push_of_some _ q) (Nat.le_refl _) ⟨by show 2 ≤ sizeLine; decide, [x', y'], .cons ru (.cons rv .nil), ⟨_, Heap.get?_push_size _ rfl, rfl, _, rfl⟩⟩
    have hf' : ∀ b ∈ [z, TI, TO, i1, i2], FpOk X pins (upd H s.heap.objs.size (.tup [x, y])) b := fun b hb => by
      have q := hf b hb
      exact ⟨by rw [upd_ne (lts b hb)]; exact q.1, q.2⟩
    have I1 : Inv X pins σ (upd H s.heap.objs.size (.tup [x, y])) { s with heap := h', toks := tk } :=
      Inv.turnedL (s := { s with heap := s.heap.push { cls := .type "tuple", data := .seq #[x', y'] }, toks := s.toks }) I0 (fp := [z, TI, TO, i1, i2]) (t' := tk) (fun b o hb q => by
        simp only [List.mem_cons, List.not_mem_nil, or_false, not_or] at hb
        rcases get?_push_cases q rfl with q | ⟨rfl, rfl⟩
        · exact kk b o hb.1 hb.2.2.1 hb.2.2.2.1 hb.2.2.2.2 q
        · exact hnew) hf'
    refine ⟨_, rfl, wpAny_letOwnedTupleGo_zip (s := { s with heap := h', toks := tk }) hz' fun h2 hz2 sb => ?_⟩
    have I2 : Inv X pins σ (upd H s.heap.objs.size (.tup [x, y])) { s with heap := h2, toks := tk } :=
      Inv.turnedL (s := { s with heap := h', toks := tk }) I1 (fp := [z, TI, TO, i1, i2]) (t' := tk) (fun b o hb q => (sb.2 b (fun e => hb (by simp [e]))).trans q) hf'
    have hTI' : IsPair h' TI (.ref i1) (.ref i2) := kk TI _ ap.TIz ap.TITO ap.TIi1 ap.TIi2 q2
    refine ⟨.ref s.heap.objs.size, _, I2, rfl, ⟨x, y, _, fun xs' h => by rw [I.sqb_inj h hx1]; exact hx, fun ys' h => by rw [I.sqb_inj h hy1]; exact hy, rfl, hn, rfl⟩, ⟨hz2, (sb.2 TI ap.TIz).trans hTI', ⟨_, _, (sb.2 TO ap.TOz).trans hTO'⟩, s1'.1.keep fun o q => (sb.2 i1 ap.i1z).trans q, s2'.1.keep fun o q => (sb.2 i2 ap.i2z).trans q⟩, fun b hb => (hf' b hb).1⟩
  done := by
    intro X hP hw hK hc i pins s σ H E I hf st hg
    subst hP hw hK
    obtain ⟨xs, hx1, hxl⟩ := hg
    obtain ⟨its1, rv1, p1⟩ := I.sqx hx1
    obtain ⟨q1, q2, ⟨a, c, q3⟩, q4, q5⟩ := st
    have hh := I.ok.hd hc
    have hl := rv1.length
    have en : i = its1.toArray.size := by rw [List.size_toArray]; omega
    subst en
    refine pyNext_zip ⟨_, q1, rfl⟩ (zip_end (draws_sqx (A := X.A.in1) hh t1 i1 l1 ap.l1i its1.toArray) ap.i1z (by simp [Ne.symm ap.i1z, Ne.symm ap.l1z]) q1 q2 q3 ⟨q4, p1⟩ fun h' e kk ho => ?_)
    obtain ⟨o, ho, hcl⟩ := ho
    exact ⟨⟨e, o, rfl, ho, hcl⟩, rfl, I.turnedL (fp := [z, TI, TO, i1, i2]) (t' := s.toks) (fun b o hb q => kk b o (fun z => hb (by simp [z])) (fun z => hb (by simp [z])) q) hf⟩
  self := fun _ _ _ _ _ st h => by
    obtain ⟨q1, _⟩ := st
    exact wpAny_pyIter_zip q1 h
theorem call_zipx {prog : Program} {w : World} {A : Around} {E : Value → Shared → Prop} {s : Shared} {l1 l2 : Addr} {t1 t2 : Bool} {xs ys : Array Value} {Q : Value → Shared → Prop} (h1 : Sqx s.heap t1 l1 xs) (h2 : Sqx s.heap t2 l2 ys)
    (h : ∀ h' : Heap, IsZip h' (s.heap.objs.size + 4) (s.heap.objs.size + 2) (s.heap.objs.size + 3) .none → IsPair h' (s.heap.objs.size + 2) (.ref s.heap.objs.size) (.ref (s.heap.objs.size + 1)) → IsPair h' (s.heap.objs.size + 3) .none .none →
      Itx h' t1 s.heap.objs.size l1 0 → Itx h' t2 (s.heap.objs.size + 1) l2 0 → h'.objs.size = s.heap.objs.size + 5 → (∀ c o, s.heap.get? c = some o → h'.get? c = some o) → Q (.ref (s.heap.objs.size + 4)) { s with heap := h' }) :
    wpAny (model prog w) A (call (.type "zip") [.ref l1, .ref l2]) Q E s := by
  refine callType_new F.called_zip (by decide) (F.typeCall_zip_2 _ _) (F.newCall_zip_2 _ _) (fun obj => F.args_object_init_3 obj _ _) F.entry_zip_new (meets_zipx l1 l2 t1 t2 xs ys) ⟨h1, h2, ?_⟩
  have e1 : ∀ (h : Heap) (o : Obj), (h.push o).objs.size = h.objs.size + 1 := fun h o => by unfold Heap.push; simp
  have ps : ∀ (h : Heap) (o : Obj) (n : Nat), h.objs.size = n → o.isFreed = false → (h.push o).get? n = some o := fun h o n e f => by rw [← e]; exact Heap.get?_push_size _ f
  have fr : ∀ tp l, (itObj tp l).isFreed = false := fun tp l => rfl
  generalize ho1 : itObj t1 l1 = o1
  generalize ho2 : itObj t2 l2 = o2
  have f1 : o1.isFreed = false := by rw [← ho1]; rfl
  have f2 : o2.isFreed = false := by rw [← ho2]; rfl
  generalize hq1 : s.heap.push o1 = q1
  have z1 : q1.objs.size = s.heap.objs.size + 1 := by rw [← hq1]; exact e1 _ _
  have g1 : q1.get? s.heap.objs.size = some o1 := by rw [← hq1]; exact Heap.get?_push_size _ f1
  have k1 : ∀ c o, s.heap.get? c = some o → q1.get? c = some o := fun c o q => by rw [← hq1]; exact Heap.get?_push_of_some _ q
  generalize hq2 : q1.push o2 = q2
  have z2 : q2.objs.size = s.heap.objs.size + 2 := by rw [← hq2, e1, z1]
  have g2 : q2.get? (s.heap.objs.size + 1) = some o2 := by rw [← hq2]; exact ps _ _ _ z1 f2
  have k2 : ∀ c o, q1.get? c = some o → q2.get? c = some o := fun c o q => by rw [← hq2]; exact Heap.get?_push_of_some _ q
  generalize hq3 : q2.push { cls := Value.type "tuple", data := Data.seq #[Value.ref s.heap.objs.size, Value.ref (s.heap.objs.size + 1)] } = q3
  have z3 : q3.objs.size = s.heap.objs.size + 3 := by rw [← hq3, e1, z2]
  have g3 : q3.get? (s.heap.objs.size + 2) = some { cls := Value.type "tuple", data := Data.seq #[Value.ref s.heap.objs.size, Value.ref (s.heap.objs.size + 1)] } := by rw [← hq3]; exact ps _ _ _ z2 rfl
  have k3 : ∀ c o, q2.get? c = some o → q3.get? c = some o := fun c o q => by rw [← hq3]; exact Heap.get?_push_of_some _ q
  generalize hq4 : q3.push { cls := Value.type "tuple", data := Data.seq #[Value.none, Value.none] } = q4
  have z4 : q4.objs.size = s.heap.objs.size + 4 := by rw [← hq4, e1, z3]
  have g4 : q4.get? (s.heap.objs.size + 3) = some { cls := Value.type "tuple", data := Data.seq #[Value.none, Value.none] } := by rw [← hq4]; exact ps _ _ _ z3 rfl
  have k4 : ∀ c o, q3.get? c = some o → q4.get? c = some o := fun c o q => by rw [← hq4]; exact Heap.get?_push_of_some _ q
  generalize hq5 : q4.push { cls := Value.type "zip", data := Data.fields #[Value.none, Value.bool false, Value.bool false, Value.ref (s.heap.objs.size + 2), Value.ref (s.heap.objs.size + 3)] } = q5
  have z5 : q5.objs.size = s.heap.objs.size + 5 := by rw [← hq5, e1, z4]
  have g5 : q5.get? (s.heap.objs.size + 4) = some { cls := Value.type "zip", data := Data.fields #[Value.none, Value.bool false, Value.bool false, Value.ref (s.heap.objs.size + 2), Value.ref (s.heap.objs.size + 3)] } := by rw [← hq5]; exact ps _ _ _ z4 rfl
  have k5 : ∀ c o, q4.get? c = some o → q5.get? c = some o := fun c o q => by rw [← hq5]; exact Heap.get?_push_of_some _ q
  exact ⟨⟨_, g5, rfl⟩, h q5 g5 (k5 _ _ (k4 _ _ g3)) (k5 _ _ g4) (Itx.new (by rw [ho1]; exact k5 _ _ (k4 _ _ (k3 _ _ (k2 _ _ g1))))) (Itx.new (by rw [ho2]; exact k5 _ _ (k4 _ _ (k3 _ _ g2)))) z5 fun c o q => k5 _ _ (k4 _ _ (k3 _ _ (k2 _ _ (k1 _ _ q))))⟩
theorem zipB_new {n l1 l2 : Nat} (h1 : l1 < n) (h2 : l2 < n) : ZipB (n + 4) (n + 2) (n + 3) n (n + 1) l1 l2 := by
  have d : ∀ a b : Nat, a < b → a ≠ b := fun a b h => Nat.ne_of_lt h
  exact ⟨d _ _ (by omega), d _ _ (by omega), d _ _ (by omega), d _ _ (by omega), d _ _ (by omega), (d _ _ (by omega)).symm, (d _ _ (by omega)).symm, (d _ _ (by omega)).symm, (d _ _ (by omega)).symm, d _ _ (by omega),
    d _ _ (by omega), d _ _ (by omega), d _ _ (by omega), d _ _ (by omega), d _ _ (by omega), d _ _ (by omega), d _ _ (by omega), d _ _ (by omega)⟩
def iZip (K : PySem.W.Frag) (ta : TA) : TI := fun σ H R => ta σ H fun vs H1 => ∃ (t1 t2 : Bool) (a b : Addr), vs = [.ref a, .ref b] ∧ (∃ xs, SqB K H1 t1 a xs) ∧ (∃ ys, SqB K H1 t2 b ys) ∧ R (Itz K t1 t2 a b) H1
section
variable {X : Cx}
theorem pi_zip {elts : List Expr} {x1 : Nat} {tpos : Pos} {a b : Expr} {ta : TA} {p pos : Pos} (hg : Gl X "zip") (hm : X.mg "zip" = none) (ha : PA X [a, b] ta) (hs : starEach [a, b] X.env = [(false, eval a X.env), (false, eval b X.env)] := by rfl) (hs2 : starEach [b] X.env = [(false, eval b X.env)] := by rfl) :
    PI X (.Tuple elts x1 tpos) (.Call (.Name "zip" p) [a, b] [] pos) (iZip X.K ta) := by
  intro pins s σ H R I h
  refine Call_ (ld_blt I hg hm PyProof.Rows.boot_zip (PyProof.Rows.callWith_type1 (thn (ha pos pins s σ H _ I h) fun us s1 ⟨vs, H1, I1, r1, q1⟩ => ?_) (by rw [hs, hs2]) (by rw [hs2]; rfl)))
  obtain ⟨t1, t2, l1, l2, e, ⟨xs, hx⟩, ⟨ys, hy⟩, q⟩ := q1
  subst e
  obtain ⟨u, v, rfl, ru, rv⟩ := vals2 r1
  cases ru
  cases rv
  obtain ⟨its1, rv1, p1⟩ := I1.sqx hx
  obtain ⟨its2, rv2, p2⟩ := I1.sqx hy
  refine call_zipx p1 p2 fun h' hz hTI hTO s1' s2' hsz kk => ?_
  refine wpAny_pyIter_zip (s := { s1 with heap := h' }) hz ?_
  have I2 : Inv X pins σ H1 { s1 with heap := h' } := I1.kept (t' := s1.toks) kk
  refine ⟨_, [s1.heap.objs.size + 4, s1.heap.objs.size + 2, s1.heap.objs.size + 3, s1.heap.objs.size, s1.heap.objs.size + 1], _, _, H1, rfl, I2, turn_zip t1 t2 l1 l2 _ _ _ _ _ (zipB_new p1.lt p2.lt), ⟨hz, hTI, ⟨_, _, hTO⟩, s1', s2'⟩, fun b hb => ?_, q⟩
  have hle : s1.heap.objs.size ≤ b := by
    simp only [List.mem_cons, List.not_mem_nil, or_false] at hb
    rcases hb with rfl | rfl | rfl | rfl | rfl <;> omega
  exact I1.fpOk hle (I1.hok.fresh hle)
end
theorem comp_zip1 {K : PySem.W.Frag} {t1 t2 : Bool} {a b : Addr} {xs ys : List V} {caps : List (Option Nat)} {g : TG} {te : TE} {σ : St} {QQ : List V → Hp → Prop} {H : Hp} (Pv : Nat → List V → Hp → Prop) (he : xs.length = ys.length) (h0 : Pv 0 [] H)
    (hl : ∀ i zs H, i ≤ xs.length → Pv i zs H → SqB K H t1 a xs ∧ SqB K H t2 b ys)
    (hs : ∀ i x y zs H t, xs[i]? = some x → ys[i]? = some y → H t = none → Pv i zs H → g (.ref t) (capS caps σ) (upd H t (.tup [x, y])) fun σ2 H2 => te σ2 H2 fun v H4 => zs.length < sizeLine ∧ Pv (i + 1) (zs ++ [v]) H4)
    (hd : ∀ zs H, Pv xs.length zs H → QQ zs H) : tCompK caps g tTrue te σ QQ (Itz K t1 t2 a b) H := by
  refine ⟨fun i m zs H => m = xs.length - i ∧ i ≤ xs.length ∧ Pv i zs H, ⟨xs.length, by simp, Nat.zero_le _, h0⟩, ?_⟩
  rintro i m zs H ⟨rfl, hi, p⟩
  obtain ⟨q1, q2⟩ := hl i zs H hi p
  by_cases hlt : i < xs.length
  · refine .inr ⟨⟨xs, ys, xs[i], ys[i], q1, q2, by simp [hlt], by simp [show i < ys.length by omega]⟩, Pv (i + 1), fun ys' H' p' => ⟨xs.length - (i + 1), by omega, rfl, hlt, p'⟩, fun x H' y => ?_⟩
    obtain ⟨x', y', t, h1, h2, rfl, h3, rfl⟩ := y
    simp only [tTrue_ite]
    exact hs i x' y' zs H t (h1 xs q1) (h2 ys q2) h3 p
  · have e : i = xs.length := by omega
    subst e
    exact .inl ⟨⟨xs, q1, rfl⟩, hd zs H p⟩
end L2
namespace L2
open PySem PySem.Spec PyProof.Rows
theorem stored_new {κ : Type} [DecidableEq κ] {kvs : List (κ × Value)} {k : κ} {v : Value} (h : k ∉ kvs.map (·.1)) : stored kvs k v = kvs ++ [(k, v)] := by
  unfold stored
  rw [if_neg]
  intro z
  obtain ⟨p, hp, e⟩ := List.any_eq_true.mp z
  exact h (List.mem_map.mpr ⟨p, hp, of_decide_eq_true e⟩)
end L2
namespace L2
open PySem PySem.Spec PyProof.Rows
theorem cut_to {xs : List V} {k : Nat} (h : k ≤ xs.length) : cutV xs none (some (k : Int)) = xs.take k := by
  unfold cutV
  rw [HT.sIx_none, HT.sIx_nat, Nat.sub_zero, Nat.min_eq_left h]
  rfl
theorem cut_from {xs : List V} {k : Nat} (h : k ≤ xs.length) : cutV xs (some (k : Int)) none = xs.drop k := by
  unfold cutV
  rw [HT.sIx_none, HT.sIx_nat, Nat.min_eq_left h, List.take_of_length_le (by rw [List.length_drop]; omega)]
structure Ws41 (n : Nat) (W : List (List Int)) : Prop where
  lo : 1 ≤ n
  hi : n ≤ 6
  len : W.length = n
  pm : ∀ w ∈ W, LN.Pm n w
theorem sl_to {K : PySem.W.Frag} {H : Hp} {a : Addr} {o : List Int} {k : Nat} {Q : VK} (hA : SqT K H a (o.map V.int)) (hk : k < o.length) (q : ∀ p H', Same H H' → SqT K H' p ((o.take k).map V.int) → Q (.ref p) H') : rSlT K (.ref a) none (some (k : Int)) H Q := by
  refine ⟨a, _, rfl, hA, ?_, fun p hp => q p _ (same_new hp _) (SqT.of ?_)⟩
  · rw [HT.sIx_nat, List.length_map]
    omega
  · rw [upd_same, cut_to (by rw [List.length_map]; omega), List.map_take]
end L2
namespace HM
open LM LN
def cnt (n : Nat) (S : Nat → Bool) : Nat := (List.range n).countP S
theorem cnt_succ (n : Nat) (S : Nat → Bool) : cnt (n + 1) S = cnt n S + if S n = true then 1 else 0 := by
  unfold cnt
  rw [List.range_succ, List.countP_append]
  simp [List.countP_cons]
theorem cnt_mono {S S' : Nat → Bool} : ∀ {n : Nat}, (∀ i, i < n → S i = true → S' i = true) → cnt n S ≤ cnt n S'
  | 0, _ => Nat.le_refl _
  | n + 1, h => by
    have ih := cnt_mono (n := n) fun i hi => h i (Nat.lt_succ_of_lt hi)
    rw [cnt_succ, cnt_succ]
    by_cases e : S n = true
    · rw [if_pos e, if_pos (h n (Nat.lt_succ_self n) e)]; omega
    · rw [if_neg e]; omega
theorem cnt_or_le (S S' : Nat → Bool) : ∀ n : Nat, cnt n (fun i => S i || S' i) ≤ cnt n S + cnt n S'
  | 0 => Nat.le_refl _
  | n + 1 => by
    have ih := cnt_or_le S S' n
    rw [cnt_succ, cnt_succ, cnt_succ]
    cases S n <;> cases S' n <;> simp <;> omega
theorem cnt_one (c : Nat) : ∀ n : Nat, cnt n (fun i => i == c) = if c < n then 1 else 0
  | 0 => rfl
  | n + 1 => by
    rw [cnt_succ, cnt_one c n]
    by_cases e : n = c
    · subst e; simp
    · by_cases h : c < n
      · simp [e, h, show c < n + 1 by omega]
      · simp [e, h, show ¬ c < n + 1 by omega]
def sm : Nat → (Nat → Int) → Int
  | 0, _ => 0
  | n + 1, f => sm n f + f n
theorem sm_congr {f g : Nat → Int} : ∀ {n : Nat}, (∀ i, i < n → f i = g i) → sm n f = sm n g
  | 0, _ => rfl
  | n + 1, h => by
    show sm n f + f n = sm n g + g n
    rw [sm_congr fun i hi => h i (Nat.lt_succ_of_lt hi), h n (Nat.lt_succ_self n)]
theorem sm_le {f g : Nat → Int} : ∀ {n : Nat}, (∀ i, i < n → f i ≤ g i) → sm n f ≤ sm n g
  | 0, _ => Int.le_refl _
  | n + 1, h => by
    have h1 := sm_le fun i hi => h i (Nat.lt_succ_of_lt hi)
    have h2 := h n (Nat.lt_succ_self n)
    show sm n f + f n ≤ sm n g + g n
    omega
theorem sm_add (f g : Nat → Int) : ∀ n : Nat, sm n (fun i => f i + g i) = sm n f + sm n g
  | 0 => rfl
  | n + 1 => by
    show sm n (fun i => f i + g i) + (f n + g n) = (sm n f + f n) + (sm n g + g n)
    rw [sm_add f g n]
    omega
theorem sm_zero : ∀ n : Nat, sm n (fun _ => 0) = 0
  | 0 => rfl
  | n + 1 => by show sm n (fun _ => 0) + 0 = 0; rw [sm_zero n]; rfl
theorem sm_cnt (S : Nat → Bool) (R : Int) : ∀ n : Nat, sm n (fun i => if S i = true then R else 0) = R * cnt n S
  | 0 => by show (0 : Int) = R * 0; simp
  | n + 1 => by
    show sm n _ + (if S n = true then R else 0) = _
    rw [sm_cnt S R n, cnt_succ]
    by_cases e : S n = true
    · rw [if_pos e, if_pos e]; push_cast; rw [Int.mul_add, Int.mul_one]
    · rw [if_neg e, if_neg e]; simp
end HM
namespace HM
open LM LN
def ent (M : List (List Int)) (p t : Nat) : Int := (M.getD p []).getD t 0
structure Reg (n : Nat) (M : List (List Int)) (R : Int) : Prop where
  len : M.length = n
  cols : ∀ r ∈ M, r.length = n
  nn : ∀ p t, 0 ≤ ent M p t
  row : ∀ i, i < n → sm n (ent M i) = R
  col : ∀ j, j < n → sm n (fun i => ent M i j) = R
theorem getD_lt {α : Type} {l : List α} {i : Nat} {d : α} (h : i < l.length) : l.getD i d = l[i] := by rw [List.getD_eq_getElem?_getD, List.getElem?_eq_getElem h]; rfl
theorem addDeal_len {M : List (List Int)} {d : List Int} {w : Int} (h : M.length = d.length) : (addDeal M d w).length = M.length := by simp [addDeal, h]
theorem addDeal_get {M : List (List Int)} {d : List Int} {w : Int} {p : Nat} (h : M.length = d.length) (hp : p < M.length) : (addDeal M d w)[p]? = some (addOne (M.getD p []) (d.getD p 0) w) := by
  unfold addDeal
  rw [List.getElem?_zipWith, List.getElem?_eq_getElem hp, List.getElem?_eq_getElem (show p < d.length by omega), getD_lt hp, getD_lt (show p < d.length by omega)]
theorem ent_add {n : Nat} {M : List (List Int)} {R : Int} {d : List Int} {w : Int} (h : Reg n M R) (hd : d.length = n) (hb : ∀ t ∈ d, 0 ≤ t ∧ t < n) {p : Nat} (hp : p < n) (t : Nat) :
    ent (addDeal M d w) p t = ent M p t + if (d.getD p 0).toNat = t then w else 0 := by
  have hl : M.length = d.length := by rw [h.len, hd]
  have hpm : p < M.length := by rw [h.len]; exact hp
  have hrow : (M.getD p []).length = n := by rw [getD_lt hpm]; exact h.cols _ (List.getElem_mem hpm)
  have hdp := hb (d.getD p 0) (by rw [getD_lt (show p < d.length by omega)]; exact List.getElem_mem _)
  unfold ent
  rw [show (addDeal M d w).getD p [] = addOne (M.getD p []) (d.getD p 0) w by rw [List.getD_eq_getElem?_getD, addDeal_get hl hpm]; rfl]
  generalize M.getD p [] = r at hrow
  generalize d.getD p 0 = x at hdp
  unfold addOne
  rw [List.getD_eq_getElem?_getD, List.getElem?_set]
  by_cases e : x.toNat = t
  · subst e
    rw [if_pos rfl, if_pos rfl, if_pos (by omega)]
    rfl
  · rw [if_neg e, if_neg e, ← List.getD_eq_getElem?_getD]
    omega
theorem cnt_congr {S S' : Nat → Bool} {n : Nat} (h : ∀ i, i < n → S i = S' i) : cnt n S = cnt n S' :=
  Nat.le_antisymm (cnt_mono fun i hi e => by rw [← h i hi]; exact e) (cnt_mono fun i hi e => by rw [h i hi]; exact e)
theorem pm_at {n : Nat} {d : List Int} (h : Pm n d) {t : Nat} (ht : t < n) : ∃ p, p < n ∧ d.getD p 0 = (t : Int) ∧ ∀ q, q < n → (d.getD q 0).toNat = t → q = p := by
  obtain ⟨p, hp, e⟩ := List.mem_iff_getElem.mp (h.mem.mpr (show (0 : Int) ≤ (t : Int) ∧ (t : Int) < n by omega))
  have hl := h.len
  refine ⟨p, by omega, by rw [getD_lt hp, e], fun q hq eq => ?_⟩
  have hq' : q < d.length := by omega
  have b := h.mem.mp (List.getElem_mem hq')
  rw [getD_lt hq'] at eq
  have : d[q] = d[p] := by rw [e]; omega
  exact (List.getElem?_inj hq' h.nodup).mp (by rw [List.getElem?_eq_getElem hq', List.getElem?_eq_getElem hp, this])
theorem sm_one {n : Nat} {p : Nat} (hp : p < n) {S : Nat → Bool} (hS : ∀ q, q < n → (S q = true ↔ q = p)) (w : Int) : sm n (fun q => if S q = true then w else 0) = w := by
  rw [sm_cnt, cnt_congr (S' := fun q => q == p) fun i hi => by
    rw [Bool.eq_iff_iff, hS i hi]
    exact ⟨fun e => by rw [e]; exact beq_self_eq_true _, fun e => eq_of_beq e⟩, cnt_one, if_pos hp]
  simp
theorem mem_ent {n : Nat} {M : List (List Int)} {r : List Int} (hl : M.length = n) (hr : r ∈ M) : ∃ p, p < n ∧ M.getD p [] = r := by
  obtain ⟨p, hp, e⟩ := List.mem_iff_getElem.mp hr
  exact ⟨p, by omega, by rw [getD_lt hp, e]⟩
theorem Reg.add {n : Nat} {M : List (List Int)} {R : Int} {d : List Int} {w : Int} (h : Reg n M R) (hd : Pm n d) (hw : ∀ p, p < n → 0 ≤ ent M p (d.getD p 0).toNat + w) : Reg n (addDeal M d w) (R + w) := by
  have hdl := hd.len
  have hl : M.length = d.length := by rw [h.len, hdl]
  have hb : ∀ t ∈ d, 0 ≤ t ∧ t < n := fun t ht => hd.mem.mp ht
  have hE := fun {p} (hp : p < n) t => ent_add (w := w) h hdl hb hp t
  have hlen : (addDeal M d w).length = n := by rw [addDeal_len hl, h.len]
  have bd : ∀ p, p < n → 0 ≤ d.getD p 0 ∧ d.getD p 0 < n := fun p hp => hb _ (by rw [getD_lt (show p < d.length by omega)]; exact List.getElem_mem _)
  refine ⟨hlen, fun r hr => ?_, fun p t => ?_, fun i hi => ?_, fun j hj => ?_⟩
  · obtain ⟨p, hp, e⟩ := mem_ent hlen hr
    rw [← e, List.getD_eq_getElem?_getD, addDeal_get hl (by rw [h.len]; exact hp)]
    show (addOne _ _ _).length = n
    rw [addOne_len]
    have hpm : p < M.length := by rw [h.len]; exact hp
    rw [getD_lt hpm]
    exact h.cols _ (List.getElem_mem hpm)
  · by_cases hp : p < n
    · rw [hE hp]
      by_cases e : (d.getD p 0).toNat = t
      · rw [if_pos e, ← e]; exact hw p hp
      · rw [if_neg e, Int.add_zero]; exact h.nn p t
    · unfold ent
      rw [show (addDeal M d w).getD p [] = [] by rw [List.getD_eq_getElem?_getD, List.getElem?_eq_none (by omega)]; rfl]
      exact Int.le_refl 0
  · rw [sm_congr (g := fun t => ent M i t + if decide ((d.getD i 0).toNat = t) = true then w else 0) fun t _ => by rw [hE hi]; simp, sm_add, h.row i hi, sm_one (p := (d.getD i 0).toNat) (by have := bd i hi; omega) (fun q _ => by rw [decide_eq_true_iff]; exact eq_comm)]
  · obtain ⟨p, hp, e, hu⟩ := pm_at hd hj
    rw [sm_congr (g := fun i => ent M i j + if decide ((d.getD i 0).toNat = j) = true then w else 0) fun t ht => by rw [hE ht]; simp, sm_add, h.col j hj, sm_one (p := p) hp (fun q hq => by
      rw [decide_eq_true_iff]
      exact ⟨hu q hq, fun z => by rw [z, e]; rfl⟩)]
theorem Reg.zero (n : Nat) : Reg n (List.replicate n (List.replicate n 0)) 0 := by
  have e : ∀ p t, ent (List.replicate n (List.replicate n 0)) p t = 0 := fun p t => by
    unfold ent
    by_cases hp : p < n
    · rw [show (List.replicate n (List.replicate n (0 : Int))).getD p [] = List.replicate n 0 by rw [getD_lt (by simpa using hp), List.getElem_replicate]]
      by_cases ht : t < n
      · rw [getD_lt (by simpa using ht), List.getElem_replicate]
      · rw [List.getD_eq_getElem?_getD, List.getElem?_eq_none (by simpa using ht)]; rfl
    · rw [show (List.replicate n (List.replicate n (0 : Int))).getD p [] = [] by rw [List.getD_eq_getElem?_getD, List.getElem?_eq_none (by simpa using hp)]; rfl]
      rfl
  refine ⟨by simp, fun r hr => by rw [(List.mem_replicate.mp hr).2]; simp, fun p t => by rw [e]; decide, fun i _ => ?_, fun j _ => ?_⟩
  · exact (sm_congr fun t _ => e i t).trans (sm_zero n)
  · exact (sm_congr fun t _ => e t j).trans (sm_zero n)
theorem tabGo_reg {ns : List Int} {at' : Int} {n : Nat} {sz : Int} (h0 : 0 < sz) : ∀ k, Reg n (tabGo ns at' n sz k).1 (tabGo ns at' n sz k).2
  | 0 => Reg.zero n
  | k + 1 => by
    have ih := tabGo_reg (ns := ns) (at' := at') (n := n) h0 k
    have b0 := Int.emod_nonneg (cellAt ns (at' + 1 + k) / 5) (show sz ≠ 0 by omega)
    exact ih.add (order_pm _ n) fun p _ => by have := ih.nn p ((order (mixed (cellAt ns (at' + 1 + k)) (20 + k)) n).getD p 0).toNat; omega
theorem table_reg (ns : List Int) (at' : Int) (many n : Nat) : Reg n (table ns at' many n).1 (table ns at' many n).2 := tabGo_reg (size_bd _).1 _
def minGo (s : Int) (l : List Int) : Int := l.foldl (fun s p => if p < s then p else s) s
def minL (l : List Int) : Int := minGo (l.headD 0) l
theorem minGo_le : ∀ (l : List Int) (s : Int), minGo s l ≤ s ∧ (∀ x ∈ l, minGo s l ≤ x) ∧ (minGo s l = s ∨ minGo s l ∈ l)
  | [], s => ⟨Int.le_refl _, (fun _ h => nomatch h), .inl rfl⟩
  | a :: l, s => by
    obtain ⟨h1, h2, h3⟩ := minGo_le l (if a < s then a else s)
    have e : minGo s (a :: l) = minGo (if a < s then a else s) l := rfl
    rw [e]
    by_cases c : a < s
    · rw [if_pos c] at h1 h2 h3 ⊢
      refine ⟨by omega, fun x hx => ?_, .inr ?_⟩
      · rcases List.mem_cons.mp hx with z | z
        · rw [z]; exact h1
        · exact h2 x z
      · rcases h3 with z | z
        · rw [z]; exact List.mem_cons_self
        · exact List.mem_cons_of_mem _ z
    · rw [if_neg c] at h1 h2 h3 ⊢
      refine ⟨h1, fun x hx => ?_, ?_⟩
      · rcases List.mem_cons.mp hx with z | z
        · rw [z]; omega
        · exact h2 x z
      · rcases h3 with z | z
        · exact .inl z
        · exact .inr (List.mem_cons_of_mem _ z)
theorem minL_ok {l : List Int} (h : l ≠ []) : minL l ∈ l ∧ ∀ x ∈ l, minL l ≤ x := by
  cases l with
  | nil => exact absurd rfl h
  | cons a l =>
    obtain ⟨h1, h2, h3⟩ := minGo_le (a :: l) a
    refine ⟨?_, h2⟩
    rcases h3 with z | z
    · show minGo a (a :: l) ∈ _
      rw [z]; exact List.mem_cons_self
    · exact z
end HM
namespace L2
open PySem PySem.Spec PyProof.Rows
section
variable {prog : Program} {w : World} {A : Around} {E : Value → Shared → Prop} {s : Shared}
def TupV (prog : Program) (w : World) (h : Heap) (k : List Int) (v : Value) : Prop := ∃ b, v = .ref b ∧ IsTupleKey (intKind prog w) h k b
end
end L2
namespace L2
open PySem PySem.Spec PyProof.Rows
theorem items_of_vals {prog : Program} {w : World} : ∀ {r : List Int} {its : List Value}, Vals (r.map V.int) its → ItemsAre (intKind prog w) r its
  | [], [], _ => .nil
  | i :: r, v :: its, h => by
    cases h with
    | cons h1 h2 =>
      obtain ⟨t, rfl⟩ := h1
      exact .cons (beq_self_eq_true _) (items_of_vals h2)
theorem Inv.tupV {X : Cx} {pins : List (Addr × Obj)} {σ : St} {H : Hp} {s : Shared} (I : Inv X pins σ H s) {v : V} {u : Value} {r : List Int} (h : IsR X.K H v r) (rv : RelV v u) : TupV X.prog X.w s.heap r u := by
  obtain ⟨a, rfl, hq⟩ := h
  cases (show u = Value.ref a from rv)
  obtain ⟨its, rs, ⟨o, h1, h2, n, h3⟩, _⟩ := I.tuple hq
  exact ⟨a, rfl, o, its.toArray, n, h1, h2, h3, items_of_vals rs⟩
end L2
namespace L2
open PySem PySem.Spec PyProof.Rows
theorem fSub_red {a b T : Int} (hT : T ≠ 0) : fSub (FQ.red a T) (FQ.red b T) = FQ.red (a - b) T := by
  have := fSub_next (a := a) (b := b) (c := 1) hT (by decide)
  rw [Int.mul_one, Int.mul_one] at this
  exact this
theorem fr_len (T : Int) (m : List Int) : (fr T m).length = m.length := by unfold fr; rw [List.length_map]
structure Tb31 (n : Nat) (T : Int) (Z : List (List Int)) : Prop where
  lo : 1 ≤ n
  hi : n ≤ 6
  t0 : 0 < T
  t1 : T < 2 ^ 80
  reg : HM.Reg n Z T
theorem leastGo_min {T : Int} (hT : 0 < T) : ∀ (l : List Int) (s : Int), leastGo (FQ.red s T) (l.map fun x => FQ.red x T) = FQ.red (HM.minGo s l) T
  | [], s => rfl
  | a :: l, s => by
    show leastGo (if lessF (FQ.red a T) (FQ.red s T) = true then FQ.red a T else FQ.red s T) (l.map fun x => FQ.red x T) = FQ.red (HM.minGo (if a < s then a else s) l) T
    rw [lessF_red hT hT]
    by_cases h : a < s
    · rw [if_pos (decide_eq_true (Int.mul_lt_mul_of_pos_right h hT)), if_pos h]
      exact leastGo_min hT l a
    · rw [if_neg (by rw [decide_eq_true_iff]; exact fun z => h (Int.lt_of_mul_lt_mul_right z (Int.le_of_lt hT))), if_neg h]
      exact leastGo_min hT l s
theorem leastF_min {T : Int} (hT : 0 < T) {l : List Int} (h : l ≠ []) : leastF (l.map fun x => FQ.red x T) = FQ.red (HM.minL l) T := by
  cases l with
  | nil => exact absurd rfl h
  | cons a l => exact leastGo_min hT (a :: l) a
end L2
namespace L2
open PySem PySem.Spec PyProof.Rows
structure KW (κ : Type) [DecidableEq κ] where
  knd : (prog : Program) → (w : World) → HeapKind prog w κ
  at' : PySem.W.Frag → Hp → κ → Addr → Prop
  ok : ∀ {X : Cx} {pins : List (Addr × Obj)} {σ : St} {H : Hp} {s : Shared} {k : κ} {a : Addr}, Inv X pins σ H s → at' X.K H k a → (knd X.prog X.w).is s.heap k a
  map : ∀ {K : PySem.W.Frag} {H H' : Hp} {k : κ} {a : Addr}, (∀ b xs, SqT K H b xs → SqT K H' b xs) → at' K H k a → at' K H' k a
  room : ∀ {prog : Program} {w : World} {A : Around}, A.units + 3 < cLine → (knd prog w).room A.in1
  room' : ∀ {prog : Program} {w : World} {A : Around}, A.units + 3 < cLine → (knd prog w).room A
def DXe {P : Program} {w : World} {κ : Type} [DecidableEq κ] (knd : HeapKind P w κ) (xs : List (κ × Addr × Value)) (ep : Nat) (d : Addr) (h : Heap) : Prop :=
  (d == sysModules) = false ∧ ∃ o es, h.get? d = some o ∧ o.ExactDict ∧ o.data = .dict es ep ∧ es.toList = xs.map (entryOfKey knd) ∧ (xs.map (·.1)).Nodup
def DictE {κ : Type} [DecidableEq κ] (W : KW κ) (P : Program) (w : World) (K : PySem.W.Frag) (H : Hp) (d : Addr) (ep : Nat) (kvs : List (κ × Int)) : Prop :=
  ∃ xs, H d = some (.ext (DXe (W.knd P w) xs ep d)) ∧ Paired (fun (p : κ × Int) (q : κ × Addr × Value) => p.1 = q.1 ∧ (∃ t, q.2.2 = Value.int p.2 t) ∧ W.at' K H p.1 q.2.1) kvs xs
def DictI {κ : Type} [DecidableEq κ] (W : KW κ) (P : Program) (w : World) (K : PySem.W.Frag) (H : Hp) (d : Addr) (kvs : List (κ × Int)) : Prop := ∃ ep, DictE W P w K H d ep kvs
section
variable {κ : Type} [DecidableEq κ] {W : KW κ} {P : Program} {w : World} {K : PySem.W.Frag} {H H' : Hp} {d : Addr} {ep : Nat} {kvs : List (κ × Int)}
theorem DictE.mono (e : Same H H') (h : DictE W P w K H d ep kvs) : DictE W P w K H' d ep kvs := by
  obtain ⟨xs, h1, h2⟩ := h
  exact ⟨xs, e _ _ h1, Paired.mapP h2 fun _ _ ⟨a, b, c⟩ => ⟨a, b, W.map (fun _ _ q => e.tup q) c⟩⟩
theorem DictI.mono (e : Same H H') (h : DictI W P w K H d kvs) : DictI W P w K H' d kvs := by
  obtain ⟨ep, h⟩ := h
  exact ⟨ep, h.mono e⟩
theorem xtup_over {p a : Addr} {φ : Heap → Prop} {o : HO} {xs : List V} (h : SqT K H a xs) (hp : H p = some (.ext φ)) : SqT K (upd H p o) a xs := by
  rcases h with (h | ⟨u, h⟩) | h
  · exact .inl (.inl (by rw [upd_ne (fun z => by rw [z, hp] at h; cases h)]; exact h))
  · exact .inl (.inr ⟨u, by rw [upd_ne (fun z => by rw [z, hp] at h; cases h)]; exact h⟩)
  · exact .inr h
theorem DXe.frame {knd : HeapKind P w κ} {xs : List (κ × Addr × Value)} {h1 h2 : Heap} (h : DXe knd xs ep d h1) (k : ∀ o, h1.get? d = some o → h2.get? d = some o) : DXe knd xs ep d h2 := by
  obtain ⟨a, o, es, b, c⟩ := h
  exact ⟨a, o, es, k o b, c⟩
theorem objOk_x {knd : HeapKind P w κ} {xs : List (κ × Addr × Value)} {h : Heap} (hx : DXe knd xs ep d h) : ObjOk P w H h d (.ext (DXe knd xs ep d)) :=
  ⟨hx, let ⟨_, o, _, b, _⟩ := hx; ⟨o, b⟩, fun _ _ a b => a.frame b⟩
end
section
variable {κ : Type} [DecidableEq κ] {W : KW κ} {X : Cx} {pins : List (Addr × Obj)} {σ : St} {H : Hp} {s : Shared} {d : Addr} {ep : Nat} {kvs : List (κ × Int)} {A : Around} {E : Value → Shared → Prop}
theorem Inv.dx (I : Inv X pins σ H s) (h : DictE W X.prog X.w X.K H d ep kvs) : ∃ xs, DXe (W.knd X.prog X.w) xs ep d s.heap ∧ s.heap.DictOfH (W.knd X.prog X.w) d xs ∧ Paired (fun (p : κ × Int) (q : κ × Addr × Value) => p.1 = q.1 ∧ (∃ t, q.2.2 = Value.int p.2 t) ∧ W.at' X.K H p.1 q.2.1) kvs xs := by
  obtain ⟨xs, h1, h2⟩ := h
  obtain ⟨hx, _, _⟩ := I.hok d _ h1
  obtain ⟨h3, o, es, a, b, c, e, f⟩ := id hx
  refine ⟨xs, hx, ⟨o, es, ep, a, b, c, e, fun q hq => ?_, f⟩, h2⟩
  obtain ⟨i, hi, eq⟩ := List.mem_iff_getElem.mp hq
  obtain ⟨p, hp, e1, _, e3⟩ := Paired.get h2 (List.getElem?_eq_getElem hi)
  rw [eq] at e1 e3
  rw [← e1]
  exact W.ok I e3
theorem paired_find {xs : List (κ × Addr × Value)} {K : PySem.W.Frag} {H : Hp} (k : κ) : ∀ {kvs : List (κ × Int)}, Paired (fun (p : κ × Int) (q : κ × Addr × Value) => p.1 = q.1 ∧ (∃ t, q.2.2 = Value.int p.2 t) ∧ W.at' K H p.1 q.2.1) kvs xs → (kvs.lookup k = none ∧ atKey xs k = none) ∨ ∃ n a t, kvs.lookup k = some n ∧ atKey xs k = some (a, Value.int n t) := by
  induction xs with
  | nil =>
    intro kvs h
    cases h
    exact .inl ⟨rfl, rfl⟩
  | cons q xs ih =>
    intro kvs h
    cases h with
    | @cons p _ ps _ hp hr =>
      obtain ⟨e1, ⟨t, e2⟩, _⟩ := hp
      obtain ⟨pk, pn⟩ := p
      obtain ⟨qk, qa, qv⟩ := q
      dsimp only at e1 e2
      subst e1 e2
      by_cases e : pk = k
      · subst e
        refine .inr ⟨pn, qa, t, ?_, ?_⟩
        · simp [List.lookup]
        · simp [atKey]
      · have h1 : ((pk, pn) :: ps).lookup k = ps.lookup k := by
          rw [List.lookup_cons, show (k == pk) = false from beq_false_of_ne (Ne.symm e)]
        have h2 : atKey ((pk, qa, Value.int pn t) :: xs) k = atKey xs k := by
          unfold atKey
          rw [List.find?_cons_of_neg (by simpa using e)]
        rw [h1, h2]
        exact ih hr
def putD (kvs : List (κ × Int)) (k : κ) (n : Int) : List (κ × Int) := if (kvs.lookup k).isSome = true then kvs.map (fun p => if p.1 = k then (p.1, n) else p) else kvs ++ [(k, n)]
theorem paired_put {K : PySem.W.Frag} {H H' : Hp} {xs : List (κ × Addr × Value)} {kvs : List (κ × Int)} {k : κ} {a : Addr} {n : Int} {t : Tok} (rel : Paired (fun (p : κ × Int) (q : κ × Addr × Value) => p.1 = q.1 ∧ (∃ t, q.2.2 = Value.int p.2 t) ∧ W.at' K H p.1 q.2.1) kvs xs)
    (up : ∀ (k' : κ) (b : Addr), W.at' K H k' b → W.at' K H' k' b) (hk : W.at' K H k a) : Paired (fun (p : κ × Int) (q : κ × Addr × Value) => p.1 = q.1 ∧ (∃ t, q.2.2 = Value.int p.2 t) ∧ W.at' K H' p.1 q.2.1) (putD kvs k n) (storedH xs k a (.int n t)) := by
  unfold putD
  rcases paired_find k rel with ⟨e1, e2⟩ | ⟨m, b, t', e1, e2⟩
  · rw [e1, storedH_new e2]
    exact Paired.app (Paired.mapP rel fun _ _ ⟨x1, x2, x3⟩ => ⟨x1, x2, up _ _ x3⟩) (.cons ⟨rfl, ⟨t, rfl⟩, up _ _ hk⟩ .nil)
  · rw [e1, storedH_old e2]
    show Paired _ (kvs.map fun p => if p.1 = k then (p.1, n) else p) (xs.map (putAt k (.int n t)))
    clear e1 e2
    induction rel with
    | nil => exact .nil
    | @cons p q ps qs h _ ih =>
      obtain ⟨x1, x2, x3⟩ := h
      refine .cons ?_ ih
      unfold putAt
      dsimp only
      by_cases e : p.1 = k
      · rw [if_pos e, if_pos (x1 ▸ e)]
        exact ⟨x1, ⟨t, rfl⟩, up _ _ x3⟩
      · rw [if_neg e, if_neg (fun z => e (x1.trans z))]
        exact ⟨x1, x2, up _ _ x3⟩
def rSetX (W : KW κ) (P : Program) (w : World) (K : PySem.W.Frag) : V → V → V → Hp → (Hp → Prop) → Prop := fun o i v H Q => ∃ (d a : Addr) (k : κ) (n : Int) (kvs : List (κ × Int)), o = .ref d ∧ i = .ref a ∧ v = .int n ∧ DictI W P w K H d kvs ∧ W.at' K H k a ∧ kvs.length ≤ 1000000 ∧
  ∀ H', (∃ φ φ', H d = some (.ext φ) ∧ H' = upd H d (.ext φ')) → DictI W P w K H' d (putD kvs k n) → Q H'
theorem set_x {P : Program} {w : World} {K : PySem.W.Frag} {j : Nat} (hP : X.prog = P) (hw : X.w = w) (hK : X.K = K) (hr : Room j X.A) : PSet X (rSetX W P w K) := by
  subst hP hw hK
  intro pins s σ H o i v ov iv u Q I ro ri rv h
  obtain ⟨d, a, k, n, kvs, rfl, rfl, rfl, ⟨ep, dd⟩, hk, hl, q⟩ := h
  cases ro
  cases ri
  obtain ⟨t, rfl⟩ := rv
  obtain ⟨xs, ⟨hsys, o1, es1, g1, g2, g3, _⟩, hd, rel⟩ := I.dx dd
  have hxl := Paired.len rel
  refine wpAny_setItem_heap (W.room (by have := hr.units; omega)) (W.ok I hk) hd (fun h' hd' sb => ?_) (Nat.le_trans (show xs.length ≤ 1000000 by omega) (by decide))
  obtain ⟨o2, es2, ep2, a1, a2, a3, a4, a5, a6⟩ := hd'
  obtain ⟨xs0, h1, h2⟩ := dd
  have nx : DXe (W.knd X.prog X.w) (storedH xs k a (.int n t)) ep2 d h' := ⟨hsys, o2, es2, a1, a2, a3, a4, a6⟩
  have I2 := I.write (t' := s.toks + (W.knd X.prog X.w).draws k) (x := d) (e := d) (o := .ext (DXe (W.knd X.prog X.w) (storedH xs k a (.int n t)) ep2 d)) (by rw [h1]; trivial) (.inl rfl) (fun b ob hb qq => (sb.2 b hb).trans qq) ⟨o2, a1⟩ (objOk_x nx)
  refine ⟨_, I2, q _ ⟨_, _, h1, rfl⟩ ⟨ep2, storedH xs k a (.int n t), upd_same, ?_⟩⟩
  have up : ∀ (k' : κ) (b : Addr), W.at' X.K H k' b → W.at' X.K (upd H d (.ext (DXe (W.knd X.prog X.w) (storedH xs k a (.int n t)) ep2 d))) k' b := fun k' b hb => W.map (fun _ _ qq => xtup_over qq h1) hb
  generalize upd H d (.ext (DXe (W.knd X.prog X.w) (storedH xs k a (.int n t)) ep2 d)) = Hn at up
  exact paired_put rel up hk
end
end L2
namespace L2
open PySem PySem.Spec PyProof.Rows
section
variable {κ : Type} [DecidableEq κ] {W : KW κ} {X : Cx}
theorem Inv.bigS {pins : List (Addr × Obj)} {σ : St} {H : Hp} {s : Shared} (I : Inv X pins σ H s) : sysModules < s.heap.objs.size := Nat.lt_trans (by decide) ((I.mod.glob.keeps I.bk).lt)
theorem dxe_new {P : Program} {w : World} (knd : HeapKind P w κ) (h : Heap) (hb : sysModules < h.objs.size) : DXe knd [] 0 h.objs.size (h.push { cls := .type "dict", data := .dict #[] }) :=
  ⟨beq_eq_false_iff_ne.mpr (Ne.symm (Nat.ne_of_lt hb)), _, #[], Heap.get?_push_size _ rfl, ⟨rfl, rfl, rfl⟩, rfl, rfl, List.nodup_nil⟩
def tXNew (W : KW κ) (P : Program) (w : World) (K : PySem.W.Frag) : TE := fun _ H Q => ∀ d H', H d = none → (∃ φ, H' = upd H d (.ext φ)) → DictI W P w K H' d [] → Q (.ref d) H'
theorem pe_xnew {P : Program} {w : World} {K : PySem.W.Frag} {pos : Pos} (hP : X.prog = P) (hw : X.w = w) (hK : X.K = K) : PE X (.Dict [] [] pos) (tXNew W P w K) := by
  subst hP hw hK
  exact fun pins s σ H Q I h => wpAny_Dict_empty ⟨.ref s.heap.objs.size, _, I.laid (a := s.heap.objs.size) (o := .ext (DXe (W.knd X.prog X.w) [] 0 s.heap.objs.size)) (t' := s.toks) (fun _ _ q => Heap.get?_push_of_some _ q) (Nat.le_refl _) (objOk_x (dxe_new _ s.heap I.bigS)), rfl,
    h _ _ (I.hok.fresh (Nat.le_refl _)) ⟨_, rfl⟩ ⟨0, [], upd_same, .nil⟩⟩
end
end L2
namespace L2
open PySem PySem.Spec PyProof.Rows
def keyR : KW (List Int) where
  knd := fun prog w => tupleKind (intKind prog w)
  at' := fun K H k a => SqT K H a (k.map V.int)
  ok := fun {X pins σ H s k a} I h => by
    obtain ⟨b, e, hb⟩ := I.tupV (v := .ref a) (u := .ref a) ⟨a, rfl, h⟩ rfl
    cases e
    exact hb
  map := fun f h => f _ _ h
  room := fun h => by show _ + 1 < cLine; omega
  room' := fun h => by show _ < cLine; omega
end L2
namespace L2
open TM
theorem sm_one {n c : Nat} (hc : c < n) (x : Int) : HM.sm n (fun i => if i = c then x else 0) = x := by
  have h := HM.sm_cnt (fun i => i == c) x n
  rw [HM.cnt_one, if_pos hc] at h
  rw [HM.sm_congr (g := fun i => if (i == c) = true then x else 0) fun i _ => by by_cases e : i = c <;> simp [e], h]
  simp
end L2
namespace L2
open PySem PySem.Spec PyProof.Rows
section
variable {X : Cx}
theorem ints_at : ∀ {vs : List Value} {ns : List Int} (hi : IntsAre vs ns) {i : Nat} (h : i < vs.length), ∃ t, vs[i] = Value.int (ns[i]'(by rw [← hi.length]; exact h)) t
  | _, _, .cons n t r, 0, _ => ⟨t, rfl⟩
  | _, _, .cons n t r, i + 1, h => ints_at r (i := i) (by simpa using h)
theorem index_tup_ints {prog : Program} {w : World} {A : Around} {E : Value → Shared → Prop} {s : Shared} {a : Addr} {vs : List Value} {ns : List Int} {k : Int} {t : Tok} {Q : Value → Shared → Prop} (ht : IsTup s.heap a vs.toArray) (hi : IntsAre vs ns)
    (hk : k ∈ ns) (h : Q (.int (ns.idxOf k : Nat) s.toks) { s with toks := s.toks + 1 }) : wpAny (model prog w) A (call (.builtin "tuple.index") [.ref a, .int k t]) Q E s := by
  have hlen := hi.length
  have hj : ns.idxOf k < ns.length := List.idxOf_lt_length_iff.mpr hk
  refine call_meets PySem.F.slot_tuple_index ht.typeIs PySem.F.entry_tuple_index (PySem.F.args_tuple_index_2 _ _) (S := fun A R s => IsTup s.heap a vs.toArray ∧ R (.ok (.ret (.int (ns.idxOf k : Nat) s.toks))) { s with toks := s.toks + 1 }) ?_ ⟨ht, h⟩
  intro prog w A R s ⟨ht, h⟩
  show wpAny _ _ _ _ _ _
  unfold Builtin.«tuple.index»
  simp only [Std.Legacy.Range.forIn_eq_forIn_range']
  wp_walk using tupleItemsOf_ ht
  have hsz : ([:min vs.toArray.size vs.toArray.size] : Std.Legacy.Range).size = vs.length := by simp [Std.Legacy.Range.size]
  rw [hsz]
  refine wpAny_forIn_list (M := model prog w) (A := A.in1) _ (fun l b s' => b = ((none : Option PySem.Fin), ()) ∧ s' = s ∧ ∃ i, l = List.range' i (vs.length - i) ∧ i ≤ ns.idxOf k) _ (fun x rest b s' hI => ?_) (fun b s' hI => ?_) _ _ ⟨rfl, rfl, 0, rfl, Nat.zero_le _⟩
  · obtain ⟨rfl, rfl, i, hl, hile⟩ := hI
    have hin : i < vs.length := by omega
    rw [show vs.length - i = (vs.length - (i + 1)) + 1 by omega, List.range'_succ] at hl
    injection hl with hx hrest
    subst hx
    obtain ⟨tv, hv⟩ : ∃ tv, vs[x] = Value.int (ns[x]'(by omega)) tv := ints_at hi hin
    have hget : vs.toArray[x]? = some (Value.int (ns[x]'(by omega)) tv) := by simp [hin, hv]
    rw [hget]
    refine wpAny_bind (wpAny_eqBool_int ?_)
    by_cases c : ns[x]'(by omega) = k
    · have hx : ns.idxOf k = x := by
        have h1 : ns.idxOf k ≤ x := by
          refine Nat.le_of_not_lt fun z => ?_
          exact absurd c (by simpa using List.not_of_lt_findIdx z)
        omega
      rw [show (ns[x]'(by omega) == k) = true by simp [c], if_pos rfl]
      wp_walk
      rw [hx] at h
      exact h
    · rw [show (ns[x]'(by omega) == k) = false by simp [c], if_neg (by decide)]
      refine wpAny_pure ⟨rfl, rfl, x + 1, hrest, ?_⟩
      refine Nat.lt_of_le_of_ne hile fun z => c ?_
      have := List.getElem_idxOf hj
      simp only [← z] at this
      exact this
  · obtain ⟨_, _, i, hl, hile⟩ := hI
    have := congrArg List.length hl
    simp at this
    omega
theorem SqT.frz {K : PySem.W.Frag} {H : Hp} {a : Addr} {o : Obj} {xs : List V} (h : H a = some (.frz o (.tup xs))) : SqT K H a xs := .inl (.inr ⟨o, h⟩)
theorem call_tuple_ofF : CallR X (.type "tuple") (fun xs H Q => ∃ p ys, xs = [.ref p] ∧ SqL X.K H p ys ∧ ∀ l o, H l = none → o.dict = none → Q (.ref l) (upd H l (.frz o (.tup ys)))) := by
  intro pins s σ H xs us Q I r h
  obtain ⟨p, ys, rfl, hq, q⟩ := h
  obtain ⟨u, rfl, rx⟩ := vals1 r
  cases rx
  obtain ⟨its, r', pl, hz⟩ := I.list hq
  have hlen := r'.length
  refine call_tuple_list pl.isList (fun h' kp => ?_) (by simp only [List.size_toArray] <;> omega)
  have I1 : Inv X pins σ H { s with heap := h' } := I.kept (t' := s.toks) kp
  have I2 : Inv X pins σ (upd H h'.objs.size (.frz { cls := .type "tuple", data := .seq its.toArray } (.tup ys))) { s with heap := h'.push { cls := .type "tuple", data := .seq its.toArray } } :=
    I1.laid (t' := s.toks) (fun b o e => Heap.get?_push_of_some _ e) (Nat.le_refl _) (show ObjOk X.prog X.w _ _ _ (.frz _ (.tup ys)) from ⟨Heap.get?_push_size _ rfl, hz, its, r', IsTup.new _ _⟩)
  exact ⟨.ref h'.objs.size, _, I2, rfl, q _ _ (I1.hok.fresh (Nat.le_refl _)) rfl⟩
def tIdxT (K : PySem.W.Frag) (to te : TE) : TE := fun σ H Q => to σ H fun x H1 => ∃ (l : Addr) (o : Obj) (xs : List V), x = .ref l ∧ H1 l = some (.frz o (.tup xs)) ∧ o.dict = none ∧ te σ H1 fun y H2 => ∃ (ns : List Int) (k : Int), y = .int k ∧ SqT K H2 l (ns.map V.int) ∧ k ∈ ns ∧ Q (.int (ns.idxOf k : Nat)) H2
theorem pe_idxT {K : PySem.W.Frag} {o e : Expr} {apos cpos : Pos} {to te : TE} (hK : X.K = K) (ho : PE X o to) (he : PE X e te) (hbase : attributeBase o "index" X.env (eval o X.env) = eval o X.env := by rfl)
    (hfew : ((backTo cpos (starEach [e] X.env)).all (fun x => !x.1) && (backToKw cpos (keywordEach [] X.env)).all (fun x => x.1.isSome) && decide (([e] : List Expr).length + ([] : List Keyword).length + (if ([] : List Keyword).isEmpty then 0 else 1) < 30)) = true := by rfl)
    (hline : (apos.endLine == cpos.line) = true := by rfl) (htrees : backTo cpos (starEach [e] X.env) = [(false, eval e X.env)] := by rfl) : PE X (.Call (.Attribute o "index" apos) [e] [] cpos) (tIdxT K to te) := by
  subst hK
  intro pins s σ H Q I h
  refine wpAny_Call_method hbase hfew hline PySem.F.plainAttrs_tuple PySem.F.slot_tuple_index PySem.F.type_tuple_index (thn (ho pins s σ H _ I h) fun u s1 ⟨x, H1, I1, rx, l, ob, xs, ex, hx, hd, q1⟩ => ?_)
  subst ex
  obtain rfl : u = Value.ref l := rx
  obtain ⟨g1, hz, its, r, pl⟩ := (show ObjOk X.prog X.w H1 s1.heap l (.frz ob (.tup xs)) from I1.hok l _ hx)
  refine ⟨pl.typeIs, fun b z => ?_, ?_⟩
  · cases z
    exact ⟨ob, g1, hd⟩
  rw [htrees]
  refine Calls.callWith_builtin rfl (Calls.evalArgs_plain (Calls.spliced_cons (thn (he pins s1 σ H1 _ I1 q1) fun iv s2 ⟨y, H2, I2, ry, ns, k, ey, hq, hk, q2⟩ => Calls.spliced_nil ?_)))
  subst ey
  obtain ⟨tk, rfl⟩ := ry
  obtain ⟨its2, r2, pl2, _⟩ := I2.tuple hq
  exact index_tup_ints pl2 (ints_are r2) hk ⟨.int _, H2, I2.tok _, ⟨_, rfl⟩, q2⟩
end
def IsRF (K : PySem.W.Frag) (H : Hp) (v : V) (row : List Int) : Prop := ∃ a o, v = .ref a ∧ H a = some (.frz o (.tup (row.map V.int))) ∧ o.dict = none
theorem IsRF.isR {K : PySem.W.Frag} {H : Hp} {v : V} {row : List Int} (h : IsRF K H v row) : IsR K H v row := by
  obtain ⟨a, o, rfl, q, _⟩ := h
  exact ⟨a, rfl, SqT.frz q⟩
theorem IsRF.mono {K : PySem.W.Frag} {H H' : Hp} {v : V} {row : List Int} (e : Same H H') (h : IsRF K H v row) : IsRF K H' v row := by
  obtain ⟨a, o, rfl, q, d⟩ := h
  exact ⟨a, o, rfl, e _ _ q, d⟩
theorem IsRF.over {K : PySem.W.Frag} {H : Hp} {v : V} {p : Addr} {ys zs : List V} {row : List Int} (h : IsRF K H v row) (hp : H p = some (.lst ys)) : IsRF K (upd H p (.lst zs)) v row := by
  obtain ⟨a, o, rfl, q, d⟩ := h
  exact ⟨a, o, rfl, by rw [upd_ne (fun z => by rw [z, hp] at q; cases q)]; exact q, d⟩
def spOrderF : Sp := fun vs H Q _ => ∃ (num : Int) (n : Nat), vs = [.int num, .int n] ∧ n ≤ 63 ∧ ∀ p o H', Same H H' → H p = none → H' p = some (.frz o (.tup ((LN.order num n).map V.int))) → o.dict = none → Q (.ref p) H'
def spWishesF (K : PySem.W.Frag) : Sp := fun vs H Q _ => ∃ (a : Addr) (ns : List Int) (at' : Int) (n : Nat), vs = [.ref a, .int at', .int n] ∧ SqL K H a (ns.map V.int) ∧ 0 ≤ at' ∧ n ≤ 6 ∧
  ∀ p ws H', Same H H' → H p = none → H' p = some (.lst ws) → Paired (IsRF K H') ws (LN.wishes ns at' n) → Q (.ref p) H'
theorem reg_bd {n : Nat} {Z : List (List Int)} {T : Int} (h : HM.Reg n Z T) {r : List Int} (hr : r ∈ Z) : ∀ x ∈ r, 0 ≤ x ∧ x ≤ T := by
  intro x hx
  obtain ⟨p, hp, rfl⟩ := List.mem_iff_getElem.mp hr
  obtain ⟨t, ht, rfl⟩ := List.mem_iff_getElem.mp hx
  have e : HM.ent Z p t = Z[p][t] := by unfold HM.ent; rw [HM.getD_lt hp, HM.getD_lt ht]
  have hpn : p < n := by rw [← h.len]; exact hp
  have htn : t < n := by rw [← h.cols _ hr]; exact ht
  refine ⟨by rw [← e]; exact h.nn p t, ?_⟩
  rw [← e, ← h.row p hpn]
  have : HM.sm n (fun i => if i = t then HM.ent Z p t else 0) ≤ HM.sm n (HM.ent Z p) := HM.sm_le fun i _ => by
    by_cases c : i = t
    · rw [if_pos c, c]; exact Int.le_refl _
    · rw [if_neg c]; exact h.nn p i
  rw [sm_one htn] at this
  exact this
theorem Paired.setP {α β : Type} {F : α → β → Prop} : ∀ {xs : List α} {ys : List β} {p : Nat} {x : α} {y : β}, Paired F xs ys → F x y → Paired F (xs.set p x) (ys.set p y)
  | _, _, _, _, _, .nil, _ => .nil
  | _, _, 0, _, _, .cons _ t, h => .cons h t
  | _, _, p + 1, _, _, .cons a t, h => .cons a (Paired.setP t h)
end L2
namespace RG
def nx (w : List Nat) (k : Nat) : Nat := w.getD (if k + 1 < w.length then k + 1 else 0) 0
structure Closed (n : Nat) (E : Nat → Nat → Prop) (w : List Nat) : Prop where
  ne : w ≠ []
  bd : ∀ v ∈ w, v < n
  ed : ∀ k, k < w.length → E (nx w k) (w.getD k 0)
structure Path (n : Nat) (E : Nat → Nat → Prop) (s : Nat) (w : List Nat) : Prop where
  ne : w ≠ []
  hd : w.getD 0 0 = s
  bd : ∀ v ∈ w, v < n
  ed : ∀ k, k + 1 < w.length → E (w.getD (k + 1) 0) (w.getD k 0)
def lastD (w : List Nat) : Nat := w.getD (w.length - 1) 0
theorem getD_app_l {l m : List Nat} {i : Nat} (h : i < l.length) : (l ++ m).getD i 0 = l.getD i 0 := by
  rw [List.getD_eq_getElem?_getD, List.getD_eq_getElem?_getD, List.getElem?_append_left h]
theorem getD_app_r {l m : List Nat} {i : Nat} (h : l.length ≤ i) : (l ++ m).getD i 0 = m.getD (i - l.length) 0 := by
  rw [List.getD_eq_getElem?_getD, List.getD_eq_getElem?_getD, List.getElem?_append_right h]
theorem getD_mem {l : List Nat} {i : Nat} (h : i < l.length) : l.getD i 0 ∈ l := by
  rw [List.getD_eq_getElem?_getD, List.getElem?_eq_getElem h]
  exact List.getElem_mem h
theorem len_pos {w : List Nat} (h : w ≠ []) : 0 < w.length := List.length_pos_iff.mpr h
theorem lastD_snoc (w : List Nat) (g : Nat) : lastD (w ++ [g]) = g := by
  unfold lastD
  rw [List.length_append, show w.length + [g].length - 1 = w.length from rfl, getD_app_r (Nat.le_refl _), Nat.sub_self]
  rfl
theorem Path.snoc {n : Nat} {E : Nat → Nat → Prop} {s : Nat} {w : List Nat} {g : Nat} (h : Path n E s w) (hg : g < n) (he : E g (lastD w)) : Path n E s (w ++ [g]) := by
  have hp := len_pos h.ne
  refine ⟨by simp, by rw [getD_app_l hp]; exact h.hd, fun v hv => ?_, fun k hk => ?_⟩
  · rcases List.mem_append.mp hv with z | z
    · exact h.bd v z
    · rw [List.mem_singleton.mp z]; exact hg
  · rw [List.length_append] at hk
    have hk' : k + 1 < w.length + 1 := hk
    by_cases c : k + 1 < w.length
    · rw [getD_app_l c, getD_app_l (by omega)]; exact h.ed k c
    · have e : k + 1 = w.length := by omega
      rw [e, getD_app_r (Nat.le_refl _), Nat.sub_self, getD_app_l (by omega)]
      show E g (w.getD k 0)
      have : k = w.length - 1 := by omega
      rw [this]
      exact he
theorem Path.closed {n : Nat} {E : Nat → Nat → Prop} {s : Nat} {w : List Nat} (h : Path n E s w) (he : E s (lastD w)) : Closed n E w := by
  refine ⟨h.ne, h.bd, fun k hk => ?_⟩
  unfold nx
  by_cases c : k + 1 < w.length
  · rw [if_pos c]; exact h.ed k c
  · rw [if_neg c, h.hd, show k = w.length - 1 by omega]
    exact he
structure BF (n : Nat) (E : Nat → Nat → Prop) (s : Nat) (Dn Q : List (List Nat)) : Prop where
  pa : ∀ w ∈ Dn ++ Q, Path n E s w
  so : (Dn ++ Q).Pairwise fun a b => a.length ≤ b.length
  wi : ∀ a ∈ Q, ∀ b ∈ Q, b.length ≤ a.length + 1
  un : ((Dn ++ Q).map lastD).Nodup
  st : ∃ r, Dn ++ Q = [s] :: r
  cl : ∀ w ∈ Dn, ∀ g, g < n → E g (lastD w) → g ≠ s ∧ ∃ v ∈ Dn ++ Q, lastD v = g ∧ v.length ≤ w.length + 1
theorem BF.start {n : Nat} {E : Nat → Nat → Prop} {s : Nat} (hs : s < n) : BF n E s [] [[s]] := by
  refine ⟨fun w hw => ?_, ?_, fun a ha b hb => ?_, ?_, ⟨[], rfl⟩, fun w hw => by cases hw⟩
  · rw [List.mem_singleton.mp hw]
    exact ⟨by simp, rfl, fun v hv => by rw [List.mem_singleton.mp hv]; exact hs, fun k hk => by simp at hk⟩
  · simp
  · rw [List.mem_singleton.mp ha, List.mem_singleton.mp hb]; exact Nat.le_succ _
  · simp
structure BT (n : Nat) (E : Nat → Nat → Prop) (s : Nat) (Dn : List (List Nat)) (w : List Nat) (Q : List (List Nat)) (i : Nat) : Prop where
  pa : ∀ v ∈ Dn ++ w :: Q, Path n E s v
  so : (Dn ++ w :: Q).Pairwise fun a b => a.length ≤ b.length
  wi : ∀ b ∈ w :: Q, b.length ≤ w.length + 1
  un : ((Dn ++ w :: Q).map lastD).Nodup
  st : ∃ r, Dn ++ w :: Q = [s] :: r
  cl : ∀ v ∈ Dn, ∀ g, g < n → E g (lastD v) → g ≠ s ∧ ∃ u ∈ Dn ++ w :: Q, lastD u = g ∧ u.length ≤ v.length + 1
  cw : ∀ g, g < i → E g (lastD w) → g ≠ s ∧ ∃ u ∈ Dn ++ w :: Q, lastD u = g
section
variable {n : Nat} {E : Nat → Nat → Prop} {s : Nat} {Dn Q : List (List Nat)} {w : List Nat} {i : Nat}
theorem BF.turn (h : BF n E s Dn (w :: Q)) : BT n E s Dn w Q 0 :=
  ⟨h.pa, h.so, fun b hb => h.wi w List.mem_cons_self b hb, h.un, h.st, h.cl, fun g hg => absurd hg (Nat.not_lt_zero _)⟩
theorem BT.skip (h : BT n E s Dn w Q i) (hk : E i (lastD w) → i ≠ s ∧ ∃ u ∈ Dn ++ w :: Q, lastD u = i) : BT n E s Dn w Q (i + 1) :=
  ⟨h.pa, h.so, h.wi, h.un, h.st, h.cl, fun g hg he => by
    by_cases c : g = i
    · subst c; exact hk he
    · exact h.cw g (by omega) he⟩
theorem BT.add (h : BT n E s Dn w Q i) (hi : i < n) (he : E i (lastD w)) (hs : i ≠ s) (hn : ∀ u ∈ Dn ++ w :: Q, lastD u ≠ i) : BT n E s Dn w (Q ++ [w ++ [i]]) (i + 1) := by
  have hw : w ∈ Dn ++ w :: Q := List.mem_append_right _ List.mem_cons_self
  have hsub : ∀ {v}, v ∈ Dn ++ w :: Q → v ∈ Dn ++ w :: (Q ++ [w ++ [i]]) := fun {v} hv => by
    rw [show Dn ++ w :: (Q ++ [w ++ [i]]) = (Dn ++ w :: Q) ++ [w ++ [i]] by simp]
    exact List.mem_append_left _ hv
  have hnew : w ++ [i] ∈ Dn ++ w :: (Q ++ [w ++ [i]]) := by simp
  have e : Dn ++ w :: (Q ++ [w ++ [i]]) = (Dn ++ w :: Q) ++ [w ++ [i]] := by simp
  have hwl : ∀ a ∈ Dn ++ w :: Q, a.length ≤ w.length + 1 := fun a ha => by
    rcases List.mem_append.mp ha with z | z
    · have := (List.pairwise_append.mp h.so).2.2 a z w List.mem_cons_self
      omega
    · exact h.wi a z
  refine ⟨fun v hv => ?_, ?_, fun b hb => ?_, ?_, ?_, fun v hv g hg hge => ?_, fun g hg hge => ?_⟩
  · rw [e] at hv
    rcases List.mem_append.mp hv with z | z
    · exact h.pa v z
    · rw [List.mem_singleton.mp z]; exact (h.pa w hw).snoc hi he
  · rw [e]
    refine List.pairwise_append.mpr ⟨h.so, by simp, fun a ha b hb => ?_⟩
    rw [List.mem_singleton.mp hb, List.length_append]
    exact hwl a ha
  · rw [show w :: (Q ++ [w ++ [i]]) = (w :: Q) ++ [w ++ [i]] by simp] at hb
    rcases List.mem_append.mp hb with z | z
    · exact h.wi b z
    · rw [List.mem_singleton.mp z, List.length_append]; exact Nat.le_refl _
  · rw [e, List.map_append]
    refine List.nodup_append.mpr ⟨h.un, by simp, fun x hx y hy z => ?_⟩
    obtain ⟨u, hu, rfl⟩ := List.mem_map.mp hx
    have hy' : y = lastD (w ++ [i]) := by simpa using hy
    rw [hy', lastD_snoc] at z
    exact hn u hu z
  · obtain ⟨r, hr⟩ := h.st
    exact ⟨r ++ [w ++ [i]], by rw [e, hr]; rfl⟩
  · obtain ⟨h1, u, h2, h3, h4⟩ := h.cl v hv g hg hge
    exact ⟨h1, u, hsub h2, h3, h4⟩
  · by_cases c : g = i
    · subst c
      exact ⟨hs, _, hnew, lastD_snoc w g⟩
    · obtain ⟨h1, u, h2, h3⟩ := h.cw g (by omega) hge
      exact ⟨h1, u, hsub h2, h3⟩
theorem BT.done (h : BT n E s Dn w Q n) : BF n E s (Dn ++ [w]) Q := by
  have e : (Dn ++ [w]) ++ Q = Dn ++ w :: Q := by simp
  have hwl : ∀ a ∈ Dn ++ w :: Q, a.length ≤ w.length + 1 := fun a ha => by
    rcases List.mem_append.mp ha with z | z
    · have := (List.pairwise_append.mp h.so).2.2 a z w List.mem_cons_self
      omega
    · exact h.wi a z
  refine ⟨by rw [e]; exact h.pa, by rw [e]; exact h.so, fun a ha b hb => ?_, by rw [e]; exact h.un, by rw [e]; exact h.st, fun v hv g hg hge => ?_⟩
  · have h1 := (List.pairwise_append.mp h.so).2.1
    have h2 := (List.pairwise_cons.mp h1).1 a ha
    have h3 := h.wi b (List.mem_cons_of_mem _ hb)
    omega
  · rw [e]
    rcases List.mem_append.mp hv with z | z
    · exact h.cl v z g hg hge
    · have hv' : v = w := List.mem_singleton.mp z
      subst hv'
      obtain ⟨h1, u, h2, h3⟩ := h.cw g hg hge
      exact ⟨h1, u, h2, h3, hwl u h2⟩
theorem BF.walk (h : BF n E s Dn Q) {v : List Nat} (hv : Path n E s v) (hq : ∀ a ∈ Q, v.length < a.length) : ∀ k, k < v.length → ∃ u ∈ Dn, lastD u = v.getD k 0 ∧ u.length ≤ k + 1
  | 0, hk => by
    obtain ⟨r, hr⟩ := h.st
    have hm : [s] ∈ Dn ++ Q := by rw [hr]; exact List.mem_cons_self
    rcases List.mem_append.mp hm with z | z
    · exact ⟨[s], z, by rw [hv.hd]; rfl, Nat.le_refl _⟩
    · have := hq _ z
      have : [s].length = 1 := rfl
      omega
  | k + 1, hk => by
    obtain ⟨u, h1, h2, h3⟩ := BF.walk h hv hq k (by omega)
    have he := hv.ed k hk
    rw [← h2] at he
    obtain ⟨_, x, x1, x2, x3⟩ := h.cl u h1 _ (hv.bd _ (getD_mem hk)) he
    rcases List.mem_append.mp x1 with z | z
    · exact ⟨x, z, x2, by omega⟩
    · have := hq _ z
      omega
theorem BF.none (h : BF n E s Dn Q) {v : List Nat} (hv : Closed n E v) (hs : v.getD 0 0 = s) (hq : ∀ a ∈ Q, v.length < a.length) : False := by
  have hp : Path n E s v := ⟨hv.ne, hs, hv.bd, fun k hk => by
    have := hv.ed k (by omega)
    unfold nx at this
    rw [if_pos hk] at this
    exact this⟩
  have hl := len_pos hv.ne
  obtain ⟨u, h1, h2, _⟩ := h.walk hp hq (v.length - 1) (by omega)
  have he := hv.ed (v.length - 1) (by omega)
  unfold nx at he
  rw [if_neg (by omega), hs, ← h2] at he
  have hsn : s < n := by rw [← hs]; exact hv.bd _ (getD_mem hl)
  exact (h.cl u h1 s hsn he).1 rfl
theorem BT.found (h : BT n E s Dn w Q i) (he : E s (lastD w)) : Closed n E w ∧ w.getD 0 0 = s ∧ ∀ v, Closed n E v → v.getD 0 0 = s → w.length ≤ v.length := by
  have hw := h.pa w (List.mem_append_right _ List.mem_cons_self)
  refine ⟨hw.closed he, hw.hd, fun v hv hs => Nat.le_of_not_lt fun c => ?_⟩
  have hl : ∀ a ∈ w :: Q, w.length ≤ a.length := fun a ha => by
    rcases List.mem_cons.mp ha with z | z
    · rw [z]; exact Nat.le_refl _
    · exact (List.pairwise_cons.mp (List.pairwise_append.mp h.so).2.1).1 a z
  have hb : BF n E s Dn (w :: Q) := ⟨h.pa, h.so, fun a ha b hb => by have := h.wi b hb; have := hl a ha; omega, h.un, h.st, h.cl⟩
  exact hb.none hv hs fun a ha => by have := hl a ha; omega
theorem BF.count (h : BF n E s Dn Q) : (Dn ++ Q).length ≤ n := by
  have key : ∀ (l m : List Nat), l.Nodup → (∀ t ∈ l, t ∈ m) → l.length ≤ m.length := fun l m => by
    intro hn hs
    exact (List.Nodup.length_le_of_subset (l₁ := l) (l₂ := m) hn hs)
  have := key ((Dn ++ Q).map lastD) (List.range n) h.un fun t ht => by
    obtain ⟨u, hu, rfl⟩ := List.mem_map.mp ht
    have hp := h.pa u hu
    have := len_pos hp.ne
    exact List.mem_range.mpr (hp.bd _ (getD_mem (by omega)))
  rw [List.length_map, List.length_range] at this
  exact this
theorem BT.bf (h : BT n E s Dn w Q i) : BF n E s Dn (w :: Q) := by
  have hl : ∀ a ∈ w :: Q, w.length ≤ a.length := fun a ha => by
    rcases List.mem_cons.mp ha with z | z
    · rw [z]; exact Nat.le_refl _
    · exact (List.pairwise_cons.mp (List.pairwise_append.mp h.so).2.1).1 a z
  exact ⟨h.pa, h.so, fun a ha b hb => by have := h.wi b hb; have := hl a ha; omega, h.un, h.st, h.cl⟩
end
theorem nx_lt {w : List Nat} {k : Nat} (h : k + 1 < w.length) : nx w k = w.getD (k + 1) 0 := by unfold nx; rw [if_pos h]
theorem nx_end {w : List Nat} {k : Nat} (h : ¬ k + 1 < w.length) : nx w k = w.getD 0 0 := by unfold nx; rw [if_neg h]
theorem getD_take {w : List Nat} {i k : Nat} (h : k < i) : (w.take i).getD k 0 = w.getD k 0 := by
  rw [List.getD_eq_getElem?_getD, List.getD_eq_getElem?_getD, List.getElem?_take_of_lt h]
theorem getD_drop (w : List Nat) (i k : Nat) : (w.drop i).getD k 0 = w.getD (i + k) 0 := by
  rw [List.getD_eq_getElem?_getD, List.getD_eq_getElem?_getD, List.getElem?_drop]
section
variable {n : Nat} {E : Nat → Nat → Prop} {w : List Nat}
theorem Closed.cut (h : Closed n E w) {i j : Nat} (hij : i < j) (hj : j < w.length) (he : E (nx w j) (w.getD i 0)) : ∃ v, Closed n E v ∧ v.length < w.length := by
  have l1 : (w.take (i + 1)).length = i + 1 := by rw [List.length_take]; omega
  have hlen : (w.take (i + 1) ++ w.drop (j + 1)).length = i + 1 + (w.length - (j + 1)) := by rw [List.length_append, l1, List.length_drop]
  have g1 : ∀ k, k < i + 1 → (w.take (i + 1) ++ w.drop (j + 1)).getD k 0 = w.getD k 0 := fun k hk => by rw [getD_app_l (by omega), getD_take hk]
  have g2 : ∀ k, i + 1 ≤ k → (w.take (i + 1) ++ w.drop (j + 1)).getD k 0 = w.getD (k + (j - i)) 0 := fun k hk => by
    rw [getD_app_r (by omega), l1, getD_drop, show j + 1 + (k - (i + 1)) = k + (j - i) by omega]
  refine ⟨w.take (i + 1) ++ w.drop (j + 1), ⟨fun z => ?_, fun v hv => ?_, fun k hk => ?_⟩, by rw [hlen]; omega⟩
  · rw [z] at hlen; simp at hlen; omega
  · rcases List.mem_append.mp hv with z | z
    · exact h.bd v (List.mem_of_mem_take z)
    · exact h.bd v (List.mem_of_mem_drop z)
  · rw [hlen] at hk
    by_cases c1 : k < i
    · rw [nx_lt (by rw [hlen]; omega), g1 _ (by omega), g1 _ (by omega), ← nx_lt (show k + 1 < w.length by omega)]
      exact h.ed k (by omega)
    · by_cases c2 : k = i
      · subst c2
        rw [g1 k (by omega)]
        by_cases c3 : j + 1 < w.length
        · rw [nx_lt (by rw [hlen]; omega), g2 _ (Nat.le_refl _), show k + 1 + (j - k) = j + 1 by omega, ← nx_lt c3]
          exact he
        · rw [nx_end (by rw [hlen]; omega), g1 0 (by omega), ← nx_end c3]
          exact he
      · rw [g2 k (by omega)]
        have hk2 : k + (j - i) < w.length := by omega
        have := h.ed _ hk2
        by_cases c3 : k + (j - i) + 1 < w.length
        · rw [nx_lt (by rw [hlen]; omega), g2 _ (by omega), show k + 1 + (j - i) = k + (j - i) + 1 by omega, ← nx_lt c3]
          exact this
        · rw [nx_end (by rw [hlen]; omega), g1 0 (by omega), ← nx_end c3]
          exact this
theorem Closed.mid (h : Closed n E w) {i j : Nat} (hij : i < j) (hj : j < w.length) (he : E (nx w i) (w.getD j 0)) : ∃ v, Closed n E v ∧ v.length < w.length := by
  have hlen : ((w.drop (i + 1)).take (j - i)).length = j - i := by rw [List.length_take, List.length_drop]; omega
  have g : ∀ k, k < j - i → ((w.drop (i + 1)).take (j - i)).getD k 0 = w.getD (i + 1 + k) 0 := fun k hk => by rw [getD_take hk, getD_drop]
  refine ⟨(w.drop (i + 1)).take (j - i), ⟨fun z => ?_, fun v hv => h.bd v (List.mem_of_mem_drop (List.mem_of_mem_take hv)), fun k hk => ?_⟩, by rw [hlen]; omega⟩
  · rw [z] at hlen; simp at hlen; omega
  · rw [hlen] at hk
    rw [g k hk]
    by_cases c : k + 1 < j - i
    · rw [nx_lt (by rw [hlen]; exact c), g _ c, show i + 1 + (k + 1) = i + 1 + k + 1 by omega, ← nx_lt (show i + 1 + k + 1 < w.length by omega)]
      exact h.ed _ (by omega)
    · rw [nx_end (by rw [hlen]; exact c), g 0 (by omega), show i + 1 + k = j by omega, Nat.add_zero, ← nx_lt (show i + 1 < w.length by omega)]
      exact he
theorem Closed.once (h : Closed n E w) (hm : ∀ v, Closed n E v → w.length ≤ v.length) {A : Nat → Nat → Prop} {pos : Nat → Nat → Nat} (hE : ∀ p g t, A p g → pos p t < pos p g → g < n → t < n → E g t)
    {pr : Nat → Nat} (hp : ∀ k, k < w.length → A (pr k) (nx w k) ∧ pos (pr k) (w.getD k 0) < pos (pr k) (nx w k)) {i j : Nat} (hij : i < j) (hj : j < w.length) : pr i ≠ pr j := by
  intro e
  obtain ⟨a1, a2⟩ := hp i (by omega)
  obtain ⟨b1, b2⟩ := hp j hj
  rw [← e] at b1 b2
  have hb : ∀ k, k < w.length → w.getD k 0 < n := fun k hk => h.bd _ (getD_mem hk)
  have hx : ∀ k, k < w.length → nx w k < n := fun k hk => by
    unfold nx
    split
    · exact hb _ (by assumption)
    · exact hb 0 (by omega)
  by_cases c : pos (pr i) (nx w i) ≤ pos (pr i) (nx w j)
  · obtain ⟨v, h1, h2⟩ := h.cut hij hj (hE _ _ _ b1 (by omega) (hx j hj) (hb i (by omega)))
    have := hm v h1
    omega
  · obtain ⟨v, h1, h2⟩ := h.mid hij hj (hE _ _ _ a1 (by omega) (hx i (by omega)) (hb j hj))
    have := hm v h1
    omega
end
theorem kept_ex {n : Nat} {E : Nat → Nat → Prop} (hno : ∀ v, ¬ Closed n E v) {ts : List Nat} (hne : ts ≠ []) (hb : ∀ t ∈ ts, t < n) : ∃ g ∈ ts, ∀ t ∈ ts, ¬ E g t := by
  refine Classical.byContradiction fun z => ?_
  have hex : ∀ g, g ∈ ts → ∃ t, t ∈ ts ∧ E g t := fun g hg => Classical.byContradiction fun y => z ⟨g, hg, fun t ht he => y ⟨t, ht, he⟩⟩
  have : ∃ f : Nat → Nat, ∀ g, g ∈ ts → f g ∈ ts ∧ E g (f g) :=
    ⟨fun g => if h : g ∈ ts then Classical.choose (hex g h) else 0, fun g hg => by dsimp only; rw [dif_pos hg]; exact Classical.choose_spec (hex g hg)⟩
  obtain ⟨f, hf⟩ := this
  obtain ⟨x, hx⟩ := List.exists_mem_of_ne_nil ts hne
  let sq : Nat → Nat := fun k => Nat.rec x (fun _ y => f y) k
  have s0 : sq 0 = x := rfl
  have ss : ∀ k, sq (k + 1) = f (sq k) := fun k => rfl
  have sm : ∀ k, sq k ∈ ts := fun k => by
    induction k with
    | zero => exact hx
    | succ k ih => rw [ss]; exact (hf _ ih).1
  have hrep : ∃ a b, a < b ∧ sq a = sq b := by
    refine Classical.byContradiction fun y => ?_
    have hnd : ((List.range (ts.length + 1)).map sq).Nodup := by
      refine List.pairwise_map.mpr (List.nodup_range.imp_of_mem fun {a b} ha hb hab e => ?_)
      rcases Nat.lt_or_gt_of_ne hab with c | c
      · exact y ⟨a, b, c, e⟩
      · exact y ⟨b, a, c, e.symm⟩
    have := hnd.length_le_of_subset (l₂ := ts) fun t ht => by
      obtain ⟨k, _, rfl⟩ := List.mem_map.mp ht
      exact sm k
    rw [List.length_map, List.length_range] at this
    omega
  obtain ⟨a, b, hab, e⟩ := hrep
  have hg : ∀ k, k < b - a → ((List.range (b - a)).map fun k => sq (b - k)).getD k 0 = sq (b - k) := fun k hk => by
    rw [List.getD_eq_getElem?_getD, List.getElem?_map, List.getElem?_range hk]; rfl
  have hl : ((List.range (b - a)).map fun k => sq (b - k)).length = b - a := by simp
  refine hno ((List.range (b - a)).map fun k => sq (b - k)) ⟨fun y => ?_, fun v hv => ?_, fun k hk => ?_⟩
  · rw [y] at hl; simp at hl; omega
  · obtain ⟨k, _, rfl⟩ := List.mem_map.mp hv
    exact hb _ (sm _)
  · rw [hl] at hk
    rw [hg k hk]
    by_cases c : k + 1 < b - a
    · rw [nx_lt (by rw [hl]; exact c), hg _ c]
      have := (hf (sq (b - (k + 1))) (sm _)).2
      rw [← ss, show b - (k + 1) + 1 = b - k by omega] at this
      exact this
    · rw [nx_end (by rw [hl]; exact c), hg 0 (by omega), Nat.sub_zero, ← e, show b - k = a + 1 by omega, ss]
      exact (hf (sq a) (sm a)).2
structure Ord (n : Nat) (E : Nat → Nat → Prop) (os ts : List Nat) : Prop where
  pm : (os ++ ts).Perm (List.range n)
  ed : ∀ i, i < os.length → ∀ t, t < n → E (os.getD i 0) t → ∃ j, j < i ∧ os.getD j 0 = t
theorem Ord.start (n : Nat) (E : Nat → Nat → Prop) : Ord n E [] (List.range n) := ⟨List.Perm.refl _, fun i hi => by simp at hi⟩
theorem Ord.step {n : Nat} {E : Nat → Nat → Prop} {os ts : List Nat} (h : Ord n E os ts) {g : Nat} (hg : g ∈ ts) (hk : ∀ t ∈ ts, ¬ E g t) : Ord n E (os ++ [g]) (ts.erase g) := by
  refine ⟨?_, fun i hi t ht he => ?_⟩
  · refine List.Perm.trans ?_ h.pm
    rw [List.append_assoc]
    exact List.Perm.append_left os (List.perm_cons_erase hg).symm
  · rw [List.length_append] at hi
    have hi' : i < os.length + 1 := hi
    by_cases c : i < os.length
    · rw [getD_app_l c] at he
      obtain ⟨j, hj, e⟩ := h.ed i c t ht he
      exact ⟨j, hj, by rw [getD_app_l (by omega)]; exact e⟩
    · have e : i = os.length := by omega
      subst e
      rw [getD_app_r (Nat.le_refl _), Nat.sub_self] at he
      have hm : t ∈ os ++ ts := h.pm.mem_iff.mpr (List.mem_range.mpr ht)
      rcases List.mem_append.mp hm with z | z
      · obtain ⟨j, hj, e⟩ := List.mem_iff_getElem.mp z
        exact ⟨j, hj, by rw [getD_app_l hj, List.getD_eq_getElem?_getD, List.getElem?_eq_getElem hj, e]; rfl⟩
      · exact absurd he (hk t z)
theorem Ord.idx {n : Nat} {E : Nat → Nat → Prop} {os : List Nat} (h : Ord n E os []) {g t : Nat} (hg : g < n) (ht : t < n) (he : E g t) : os.idxOf t < os.idxOf g := by
  have hp : os.Perm (List.range n) := by have := h.pm; rwa [List.append_nil] at this
  have hm : g ∈ os := hp.mem_iff.mpr (List.mem_range.mpr hg)
  have hl := List.idxOf_lt_length_iff.mpr hm
  have eg : os.getD (os.idxOf g) 0 = g := by rw [List.getD_eq_getElem?_getD, List.getElem?_eq_getElem hl]; exact List.getElem_idxOf hl
  obtain ⟨j, hj, ej⟩ := h.ed _ hl t ht (by rw [eg]; exact he)
  have hjl : j < os.length := by omega
  have nd : os.Nodup := hp.nodup_iff.mpr List.nodup_range
  have : os.idxOf t = j := by
    rw [← ej, List.getD_eq_getElem?_getD, List.getElem?_eq_getElem hjl]
    exact nd.idxOf_getElem j hjl
  omega
end RG
namespace L2
section
variable {κ : Type} [DecidableEq κ]
def look (kvs : List (κ × Int)) (k : κ) : Option Int := kvs.lookup k
theorem look_cons (a : κ) (m : Int) (kvs : List (κ × Int)) (k : κ) : look ((a, m) :: kvs) k = if k = a then some m else look kvs k := by
  unfold look
  rw [List.lookup_cons]
  by_cases e : k = a
  · subst e; rw [beq_self_eq_true, if_pos rfl]
  · rw [show (k == a) = false from beq_false_of_ne e, if_neg e]
theorem look_map {k k' : κ} {x : Int} : ∀ {kvs : List (κ × Int)}, look (kvs.map fun p => if p.1 = k then (p.1, x) else p) k' = if k' = k then (look kvs k').map (fun _ => x) else look kvs k'
  | [] => by unfold look; simp [List.lookup]
  | (a, m) :: kvs => by
    rw [List.map_cons]
    have ih := look_map (k := k) (k' := k') (x := x) (kvs := kvs)
    by_cases e : a = k
    · subst e
      show look ((if a = a then (a, x) else (a, m)) :: _) k' = _
      rw [if_pos rfl, look_cons, look_cons, ih]
      by_cases c : k' = a
      · rw [if_pos c, if_pos c, if_pos c]; rfl
      · rw [if_neg c, if_neg c, if_neg c, if_neg c]
    · show look ((if a = k then (a, x) else (a, m)) :: _) k' = _
      rw [if_neg e, look_cons, look_cons, ih]
      by_cases c : k' = a
      · subst c
        rw [if_pos rfl, if_pos rfl, if_neg e]
      · rw [if_neg c, if_neg c]
theorem look_app {k k' : κ} {x : Int} : ∀ {kvs : List (κ × Int)}, look kvs k = none → look (kvs ++ [(k, x)]) k' = if k' = k then some x else look kvs k'
  | [], _ => by
    rw [List.nil_append, look_cons]
  | (a, m) :: kvs, h => by
    rw [look_cons] at h
    by_cases e : k = a
    · rw [if_pos e] at h; cases h
    · rw [if_neg e] at h
      rw [List.cons_append, look_cons, look_cons, look_app h]
      by_cases c : k' = a
      · rw [if_pos c, if_pos c, if_neg (fun z => e (z.symm.trans c))]
      · rw [if_neg c, if_neg c]
theorem look_put (kvs : List (κ × Int)) (k k' : κ) (x : Int) : look (putD kvs k x) k' = if k' = k then some x else look kvs k' := by
  unfold putD
  cases e : kvs.lookup k with
  | none =>
    rw [if_neg (by simp)]
    exact look_app e
  | some m =>
    rw [if_pos (by simp), look_map]
    by_cases c : k' = k
    · subst c
      rw [if_pos rfl, if_pos rfl]
      unfold look
      rw [e]
      rfl
    · rw [if_neg c, if_neg c]
end
structure Can (n : Nat) (W Z : List (List Int)) (c : Int) (p g t : Nat) : Prop where
  hp : p < n
  hg : g < n
  ht : t < n
  sh : c < HM.ent Z p g
  lk : (W.getD p []).idxOf (t : Int) < (W.getD p []).idxOf (g : Int)
def Edge (C : List (List Int × Int)) (g t : Nat) : Prop := (look C [(g : Int), (t : Int)]).isSome = true
structure ChOk (n : Nat) (W Z : List (List Int)) (c : Int) (C : List (List Int × Int)) : Prop where
  can : ∀ g t x, look C [g, t] = some x → ∃ p g' t' : Nat, x = p ∧ g = g' ∧ t = t' ∧ Can n W Z c p g' t'
  all : ∀ p g t, Can n W Z c p g t → Edge C g t
  len : C.length ≤ 1000
theorem ChOk.edge {n : Nat} {W Z : List (List Int)} {c : Int} {C : List (List Int × Int)} (h : ChOk n W Z c C) {g t : Nat} (he : Edge C g t) : ∃ p, look C [(g : Int), (t : Int)] = some ((p : Nat) : Int) ∧ Can n W Z c p g t := by
  unfold Edge at he
  obtain ⟨x, hx⟩ := Option.isSome_iff_exists.mp he
  obtain ⟨p, g', t', e1, e2, e3, hc⟩ := h.can _ _ _ hx
  have : g = g' := by omega
  subst this
  have : t = t' := by omega
  subst this
  exact ⟨p, by rw [hx, e1], hc⟩
structure ChI (n : Nat) (W Z : List (List Int)) (c : Int) (i j k : Nat) (C : List (List Int × Int)) : Prop where
  can : ∀ g t x, look C [g, t] = some x → ∃ p g' t' : Nat, x = p ∧ g = g' ∧ t = t' ∧ Can n W Z c p g' t'
  all : ∀ p g t, Can n W Z c p g t → (p < i ∨ (p = i ∧ (W.getD p []).idxOf (g : Int) < j) ∨ (p = i ∧ (W.getD p []).idxOf (g : Int) = j ∧ (W.getD p []).idxOf (t : Int) < k)) → Edge C g t
  len : C.length ≤ i * 36 + j * 6 + k
section
variable {n : Nat} {W Z : List (List Int)} {c : Int} {i j k : Nat} {C : List (List Int × Int)}
theorem ChI.start : ChI n W Z c 0 0 0 [] := ⟨fun g t x h => by unfold look at h; simp [List.lookup] at h, fun p g t _ h => by rcases h with z | z | z <;> omega, Nat.zero_le _⟩
theorem ChI.done (hn : n ≤ 6) (h : ChI n W Z c n 0 0 C) : ChOk n W Z c C := ⟨h.can, fun p g t hc => h.all p g t hc (.inl hc.hp), by have := h.len; omega⟩
theorem ChI.person (hj : j ≤ 6) (hW : ∀ p g t, Can n W Z c p g t → (W.getD p []).idxOf (g : Int) < j) (h : ChI n W Z c i j 0 C) : ChI n W Z c (i + 1) 0 0 C :=
  ⟨h.can, fun p g t hc z => h.all p g t hc (by
    rcases z with z | z | z
    · by_cases e : p = i
      · exact .inr (.inl ⟨e, hW p g t hc⟩)
      · exact .inl (by omega)
    · omega
    · omega), by have := h.len; omega⟩
theorem ChI.place (hk : k ≤ 6) (hW : ∀ g t, Can n W Z c i g t → (W.getD i []).idxOf (g : Int) = j → (W.getD i []).idxOf (t : Int) < k) (h : ChI n W Z c i j k C) : ChI n W Z c i (j + 1) 0 C :=
  ⟨h.can, fun p g t hc z => h.all p g t hc (by
    rcases z with z | z | z
    · exact .inl z
    · by_cases e : (W.getD p []).idxOf (g : Int) = j
      · obtain ⟨rfl, _⟩ := z
        exact .inr (.inr ⟨rfl, e, hW g t hc e⟩)
      · exact .inr (.inl ⟨z.1, by omega⟩)
    · omega), by have := h.len; omega⟩
theorem ChI.put {g t : Nat} (hc : Can n W Z c i g t) (hW : ∀ g' t', Can n W Z c i g' t' → (W.getD i []).idxOf (g' : Int) = j → (W.getD i []).idxOf (t' : Int) = k → g' = g ∧ t' = t) (h : ChI n W Z c i j k C) : ChI n W Z c i j (k + 1) (putD C [(g : Int), (t : Int)] i) := by
  refine ⟨fun g1 t1 x hx => ?_, fun p g1 t1 hc1 z => ?_, ?_⟩
  · rw [look_put] at hx
    by_cases e : [g1, t1] = [(g : Int), (t : Int)]
    · rw [if_pos e] at hx
      injection e with e1 e2
      injection e2 with e2 _
      exact ⟨i, g, t, (Option.some.inj hx).symm, e1, e2, hc⟩
    · rw [if_neg e] at hx
      exact h.can g1 t1 x hx
  · unfold Edge
    rw [look_put]
    by_cases e : [(g1 : Int), (t1 : Int)] = [(g : Int), (t : Int)]
    · rw [if_pos e]; rfl
    · rw [if_neg e]
      refine h.all p g1 t1 hc1 ?_
      rcases z with z | z | z
      · exact .inl z
      · exact .inr (.inl z)
      · by_cases ek : (W.getD p []).idxOf (t1 : Int) = k
        · obtain ⟨rfl, z2, _⟩ := z
          obtain ⟨e1, e2⟩ := hW g1 t1 hc1 z2 ek
          exact absurd (by rw [e1, e2]) e
        · exact .inr (.inr ⟨z.1, z.2.1, by omega⟩)
  · have : (putD C [(g : Int), (t : Int)] i).length ≤ C.length + 1 := by
      unfold putD
      split
      · rw [List.length_map]; omega
      · rw [List.length_append]; exact Nat.le_refl _
    have := h.len
    omega
end
end L2
namespace L2
abbrev Tri := Nat × Nat × Nat
structure RingOk (n : Nat) (W Z : List (List Int)) (c : Int) (R : List Tri) : Prop where
  two : 2 ≤ R.length
  can : ∀ x ∈ R, Can n W Z c x.1 x.2.1 x.2.2
  nxt : ∀ k x y, R[k]? = some x → R[(k + 1) % R.length]? = some y → y.2.2 = x.2.1
  once : (R.map Prod.fst).Nodup
def Edge0 (n : Nat) (W Z : List (List Int)) (g t : Nat) : Prop := ∃ p, Can n W Z 0 p g t
theorem Can.mono {n : Nat} {W Z : List (List Int)} {c c' : Int} {p g t : Nat} (h : Can n W Z c p g t) (hc : c' ≤ c) : Can n W Z c' p g t := ⟨h.hp, h.hg, h.ht, by have := h.sh; omega, h.lk⟩
theorem RingOk.mono {n : Nat} {W Z : List (List Int)} {c c' : Int} {R : List Tri} (h : RingOk n W Z c R) (hc : c' ≤ c) : RingOk n W Z c' R := ⟨h.two, fun x hx => (h.can x hx).mono hc, h.nxt, h.once⟩
def triOf (C : List (List Int × Int)) (w : List Nat) : List Tri := (List.range w.length).map fun k => (((look C [(RG.nx w k : Int), (w.getD k 0 : Int)]).getD 0).toNat, RG.nx w k, w.getD k 0)
theorem tri_at {C : List (List Int × Int)} {w : List Nat} {k : Nat} (hk : k < w.length) : (triOf C w)[k]? = some (((look C [(RG.nx w k : Int), (w.getD k 0 : Int)]).getD 0).toNat, RG.nx w k, w.getD k 0) := by
  unfold triOf; rw [List.getElem?_map, List.getElem?_range hk]; rfl
theorem tri_len (C : List (List Int × Int)) (w : List Nat) : (triOf C w).length = w.length := by unfold triOf; simp
section
variable {n : Nat} {W Z : List (List Int)} {c : Int} {C : List (List Int × Int)} {w : List Nat}
theorem tri_ok (hC : ChOk n W Z c C) (h : RG.Closed n (Edge C) w) (hm : ∀ v, RG.Closed n (Edge C) v → w.length ≤ v.length) : RingOk n W Z c (triOf C w) := by
  have hp : ∀ k, k < w.length → ∃ p, look C [(RG.nx w k : Int), (w.getD k 0 : Int)] = some ((p : Nat) : Int) ∧ Can n W Z c p (RG.nx w k) (w.getD k 0) := fun k hk => hC.edge (h.ed k hk)
  have hpr : ∀ k, k < w.length → Can n W Z c ((look C [(RG.nx w k : Int), (w.getD k 0 : Int)]).getD 0).toNat (RG.nx w k) (w.getD k 0) := fun k hk => by
    obtain ⟨p, e, hc⟩ := hp k hk
    rw [e]
    exact hc
  have hl := RG.len_pos h.ne
  refine ⟨?_, fun x hx => ?_, fun k x y hx hy => ?_, ?_⟩
  · rw [tri_len]
    refine Nat.le_of_not_lt fun z => ?_
    have h1 : w.length = 1 := by omega
    have := (hpr 0 (by omega)).lk
    rw [RG.nx_end (by omega)] at this
    omega
  · unfold triOf at hx
    obtain ⟨k, hk, rfl⟩ := List.mem_map.mp hx
    exact hpr k (List.mem_range.mp hk)
  · have hk : k < w.length := by have := (List.getElem?_eq_some_iff.mp hx).1; rw [tri_len] at this; exact this
    rw [tri_at hk] at hx
    have hx' := Option.some.inj hx
    rw [tri_len] at hy
    have hj : (k + 1) % w.length < w.length := Nat.mod_lt _ hl
    rw [tri_at hj] at hy
    have hy' := Option.some.inj hy
    rw [← hx', ← hy']
    show w.getD ((k + 1) % w.length) 0 = RG.nx w k
    by_cases e : k + 1 < w.length
    · rw [RG.nx_lt e, Nat.mod_eq_of_lt e]
    · rw [RG.nx_end e, show k + 1 = w.length by omega, Nat.mod_self]
  · unfold triOf
    rw [List.map_map]
    refine List.pairwise_map.mpr (List.nodup_range.imp_of_mem fun {a b} ha hb hab z => ?_)
    have ha' := List.mem_range.mp ha
    have hb' := List.mem_range.mp hb
    have key : ∀ i j, i < j → j < w.length → ((look C [(RG.nx w i : Int), (w.getD i 0 : Int)]).getD 0).toNat ≠ ((look C [(RG.nx w j : Int), (w.getD j 0 : Int)]).getD 0).toNat := fun i j hij hj =>
      h.once hm (A := fun p g => p < n ∧ c < HM.ent Z p g) (pos := fun p t => (W.getD p []).idxOf (t : Int)) (fun p g t hA hpos hg ht => hC.all p g t ⟨hA.1, hg, ht, hA.2, hpos⟩)
        (pr := fun k => ((look C [(RG.nx w k : Int), (w.getD k 0 : Int)]).getD 0).toNat) (fun k hk => ⟨⟨(hpr k hk).hp, (hpr k hk).sh⟩, (hpr k hk).lk⟩) hij hj
    rcases Nat.lt_or_gt_of_ne hab with q | q
    · exact key a b q hb' z
    · exact key b a q ha' z.symm
theorem ring_of_closed (hC : ChOk n W Z c C) (h0 : 0 ≤ c) (h : ∀ v, ¬ RG.Closed n (Edge0 n W Z) v) : ∀ v, ¬ RG.Closed n (Edge C) v := fun v hv =>
  h v ⟨hv.ne, hv.bd, fun k hk => by
    obtain ⟨p, _, hc⟩ := hC.edge (hv.ed k hk)
    exact ⟨p, hc.mono h0⟩⟩
theorem closed_of_none (hC : ChOk n W Z 0 C) (h : ∀ v, ¬ RG.Closed n (Edge C) v) : ∀ v, ¬ RG.Closed n (Edge0 n W Z) v := fun v hv =>
  h v ⟨hv.ne, hv.bd, fun k hk => by
    obtain ⟨p, hc⟩ := hv.ed k hk
    exact hC.all p _ _ hc⟩
end
def moveR (r : List Int) (g t : Nat) (m : Int) : List Int := (r.set g (r.getD g 0 - m)).set t (r.getD t 0 + m)
def behind (Z : List (List Int)) (m : Int) (R : List Tri) (k : Nat) : List (List Int) := (R.take k).foldl (fun Y x => Y.set x.1 (moveR (Z.getD x.1 []) x.2.1 x.2.2 m)) Z
theorem behind_succ {Z : List (List Int)} {m : Int} {R : List Tri} {k : Nat} {x : Tri} (h : R[k]? = some x) : behind Z m R (k + 1) = (behind Z m R k).set x.1 (moveR (Z.getD x.1 []) x.2.1 x.2.2 m) := by
  unfold behind
  rw [List.take_add_one, h, List.foldl_append]
  rfl
theorem behind_len (Z : List (List Int)) (m : Int) (R : List Tri) : ∀ k, (behind Z m R k).length = Z.length
  | 0 => rfl
  | k + 1 => by
    cases h : R[k]? with
    | none =>
      have e : behind Z m R (k + 1) = behind Z m R k := by unfold behind; rw [List.take_add_one, h]; simp
      rw [e, behind_len Z m R k]
    | some x => rw [behind_succ h, List.length_set, behind_len Z m R k]
theorem behind_at {Z : List (List Int)} {m : Int} {R : List Tri} {p : Nat} : ∀ k, (∀ j x, j < k → R[j]? = some x → x.1 ≠ p) → (behind Z m R k)[p]? = Z[p]?
  | 0, _ => rfl
  | k + 1, h => by
    have ih := behind_at (Z := Z) (m := m) (R := R) (p := p) k fun j x hj hx => h j x (by omega) hx
    cases e : R[k]? with
    | none =>
      have e : behind Z m R (k + 1) = behind Z m R k := by unfold behind; rw [List.take_add_one, e]; simp
      rw [e, ih]
    | some x => rw [behind_succ e, List.getElem?_set_ne (h k x (Nat.lt_succ_self k) e), ih]
theorem once_at {R : List Tri} (h : (R.map Prod.fst).Nodup) {k j : Nat} {x y : Tri} (hx : R[k]? = some x) (hy : R[j]? = some y) (e : y.1 = x.1) : j = k := by
  have h1 : (R.map Prod.fst)[k]? = some x.1 := by rw [List.getElem?_map, hx]; rfl
  have h2 : (R.map Prod.fst)[j]? = some x.1 := by rw [List.getElem?_map, hy, ← e]; rfl
  obtain ⟨a1, a2⟩ := List.getElem?_eq_some_iff.mp h1
  obtain ⟨b1, b2⟩ := List.getElem?_eq_some_iff.mp h2
  exact (List.getElem_inj h).mp (b2.trans a2.symm)
theorem behind_own {Z : List (List Int)} {m : Int} {R : List Tri} (h : (R.map Prod.fst).Nodup) {k : Nat} {x : Tri} (hx : R[k]? = some x) : (behind Z m R k)[x.1]? = Z[x.1]? :=
  behind_at k fun j y hj hy e => by have := once_at h hx hy e; omega
theorem move_len (r : List Int) (g t : Nat) (m : Int) : (moveR r g t m).length = r.length := by unfold moveR; simp
theorem behind_rows {n : Nat} {Z : List (List Int)} {m : Int} {R : List Tri} (h : ∀ r ∈ Z, r.length = n) (hb : ∀ x ∈ R, x.1 < Z.length) : ∀ k, ∀ r ∈ behind Z m R k, r.length = n
  | 0, r, hr => h r hr
  | k + 1, r, hr => by
    cases e : R[k]? with
    | none =>
      have e : behind Z m R (k + 1) = behind Z m R k := by unfold behind; rw [List.take_add_one, e]; simp
      rw [e] at hr
      exact behind_rows h hb k r hr
    | some x =>
      rw [behind_succ e] at hr
      rcases List.mem_or_eq_of_mem_set hr with z | z
      · exact behind_rows h hb k r z
      · rw [z, move_len]
        have hx := hb x (List.mem_of_getElem? e)
        rw [HM.getD_lt hx]
        exact h _ (List.getElem_mem hx)
theorem ring_closed {n : Nat} {W Z : List (List Int)} {R : List Tri} (h : RingOk n W Z 0 R) : RG.Closed n (Edge0 n W Z) (R.map fun x => x.2.2) := by
  have h2 := h.two
  have hl : (R.map fun x => x.2.2).length = R.length := List.length_map _
  have hg : ∀ k x, R[k]? = some x → (R.map fun x => x.2.2).getD k 0 = x.2.2 := fun k x hx => by rw [List.getD_eq_getElem?_getD, List.getElem?_map, hx]; rfl
  refine ⟨fun z => ?_, fun v hv => ?_, fun k hk => ?_⟩
  · rw [z] at hl
    simp at hl
    omega
  · obtain ⟨x, hx, rfl⟩ := List.mem_map.mp hv
    exact (h.can x hx).ht
  · rw [hl] at hk
    have hx : R[k]? = some R[k] := List.getElem?_eq_getElem hk
    have hj : (k + 1) % R.length < R.length := Nat.mod_lt _ (by omega)
    have hy : R[(k + 1) % R.length]? = some R[(k + 1) % R.length] := List.getElem?_eq_getElem hj
    have e := h.nxt k _ _ hx hy
    have hc := h.can _ (List.getElem_mem hk)
    have en : RG.nx (R.map fun x => x.2.2) k = R[k].2.1 := by
      by_cases c : k + 1 < R.length
      · rw [RG.nx_lt (by rw [hl]; exact c), hg (k + 1) R[(k + 1) % R.length] (by rw [← hy, Nat.mod_eq_of_lt c]), e]
      · rw [RG.nx_end (by rw [hl]; exact c), hg 0 R[(k + 1) % R.length] (by rw [← hy, show k + 1 = R.length by omega, Nat.mod_self]), e]
    rw [en, hg k _ hx]
    exact ⟨_, hc⟩
end L2
namespace L2
open PySem PySem.Spec PyProof.Rows
section
variable {κ : Type} [DecidableEq κ] {W : KW κ} {X : Cx}
def rInX (W : KW κ) (P : Program) (w : World) (K : PySem.W.Frag) : R2 := fun x y H Q => ∃ (a d : Addr) (k : κ) (kvs : List (κ × Int)), x = .ref a ∧ y = .ref d ∧ DictI W P w K H d kvs ∧ W.at' K H k a ∧ Q (.bl (kvs.lookup k).isSome) H
theorem op_inX {P : Program} {w : World} {K : PySem.W.Frag} {j : Nat} (hP : X.prog = P) (hw : X.w = w) (hK : X.K = K) (hr : Room j X.A) : OpR X (compareOp .In) (rInX W P w K) := by
  subst hP hw hK
  intro pins s σ H x y v u Q I rx ry h
  obtain ⟨a, d, k, kvs, rfl, rfl, ⟨ep, dd⟩, hk, q⟩ := h
  cases rx
  cases ry
  obtain ⟨xs, ⟨hsys, _⟩, hd, rel⟩ := I.dx dd
  refine wpAny_in_heap (W.room (by have := hr.units; omega)) (W.ok I hk) hsys hd ?_
  refine ⟨.bl _, H, I.tok _, rfl, ?_⟩
  rcases paired_find k rel with ⟨e1, e2⟩ | ⟨m, b, t, e1, e2⟩
  · rw [e2]; rw [e1] at q; exact q
  · rw [e2]; rw [e1] at q; exact q
def rIxX (W : KW κ) (P : Program) (w : World) (K : PySem.W.Frag) : R2 := fun x y H Q => ∃ (d a : Addr) (k : κ) (kvs : List (κ × Int)) (n : Int), x = .ref d ∧ y = .ref a ∧ DictI W P w K H d kvs ∧ W.at' K H k a ∧ kvs.lookup k = some n ∧ Q (.int n) H
theorem ix_x {P : Program} {w : World} {K : PySem.W.Frag} {j : Nat} (hP : X.prog = P) (hw : X.w = w) (hK : X.K = K) (hr : Room j X.A) : IxR X (rIxX W P w K) := by
  subst hP hw hK
  intro value slice pins s σ H x y v u Q I rx ry h hs
  obtain ⟨d, a, k, kvs, n, rfl, rfl, ⟨ep, dd⟩, hk, hn, q⟩ := h
  cases rx
  cases ry
  obtain ⟨xs, ⟨hsys, _⟩, hd, rel⟩ := I.dx dd
  rcases paired_find k rel with ⟨e1, e2⟩ | ⟨m, b, t, e1, e2⟩
  · rw [e1] at hn; cases hn
  · rw [e1] at hn
    cases hn
    refine subscriptTail_builtinR (x := .int n t) hd.typeIs PySem.F.slot_dict_getitem.lookup ?_ hs
    refine wpAny_getItem_heap (W.room (by have := hr.units; omega)) (W.ok I hk) hd e2 ⟨rfl, ?_⟩
    exact ⟨.int n, H, I.tok _, ⟨_, rfl⟩, q⟩
end
section
variable {X : Cx}
def trueK (R : List Int) : List (Key × V) := R.map fun i => (Sum.inl i, V.bl true)
def tTrueNew : TE := fun _ H Q => ∀ p, H p = none → Q (.ref p) (upd H p (.dK (trueK [])))
theorem pe_trueNew {pos : Pos} : PE X (.Dict [] [] pos) tTrueNew := fun pins s σ H Q I h =>
  wpAny_Dict_empty ⟨.ref s.heap.objs.size, _, I.laid (a := s.heap.objs.size) (o := .dK []) (t' := s.toks) (fun _ _ q => Heap.get?_push_of_some _ q) (Nat.le_refl _)
    (show ObjOk X.prog X.w _ _ _ (.dK []) from ⟨Nat.zero_le _, beq_eq_false_iff_ne.mpr (Ne.symm (Nat.ne_of_lt I.bigS)), [], .nil, Heap.DictOf.new s.heap⟩), rfl, h _ (I.hok.fresh (Nat.le_refl _))⟩
def rNotInTrue : R2 := fun x y H Q => ∃ (d : Addr) (R : List Int) (i : Int), x = .int i ∧ y = .ref d ∧ H d = some (.dK (trueK R)) ∧ Q (.bl (!decide (i ∈ R))) H
theorem true_at {R : List Int} {vs : List (Key × Value)} (r : KV (trueK R) vs) (i : Int) : (valueAt vs (Sum.inl i)).isSome = decide (i ∈ R) := by
  induction R generalizing vs with
  | nil => cases r; rfl
  | cons a R ih =>
    cases vs with
    | nil => cases r
    | cons q vs =>
      obtain ⟨k, v⟩ := q
      cases r with
      | cons h t =>
        obtain ⟨h1, _⟩ := h
        have hk : k = Sum.inl a := h1.symm
        subst hk
        have ih' := ih t
        unfold valueAt at ih' ⊢
        rw [List.find?_cons]
        by_cases c : a = i
        · subst c
          simp
        · have : (decide ((Sum.inl a : Key) = Sum.inl i)) = false := by simp [c]
          rw [this]
          dsimp only
          rw [ih']
          simp [Ne.symm c]
theorem op_notInTrue : OpR X (compareOp .NotIn) rNotInTrue := by
  intro pins s σ H x y v u Q I rx ry h
  obtain ⟨d, R, i, rfl, rfl, hd, q⟩ := h
  obtain ⟨t, rfl⟩ := rx
  cases ry
  obtain ⟨_, hsys, vs, rel, dd⟩ := (show ObjOk X.prog X.w H s.heap d (.dK (trueK R)) from I.hok d _ hd)
  refine wpAny_notIn_of (mixKind_int X.prog X.w i t) hsys dd.mapOf ?_
  rw [true_at rel]
  exact ⟨.bl _, H, I.tok _, rfl, q⟩
def rSetTrue : V → V → V → Hp → (Hp → Prop) → Prop := fun o i v H Q => ∃ (d : Addr) (R : List Int) (k : Int), o = .ref d ∧ i = .int k ∧ v = .bl true ∧ H d = some (.dK (trueK R)) ∧ k ∉ R ∧ R.length < 1000 ∧ Q (upd H d (.dK (trueK (R ++ [k]))))
theorem set_true : PSet X rSetTrue := by
  intro pins s σ H o i v ov iv u Q I ro ri rv h
  obtain ⟨d, R, k, rfl, rfl, rfl, hd, hk, hl, q⟩ := h
  cases ro
  obtain ⟨t, rfl⟩ := ri
  cases rv
  obtain ⟨hz, hsys, vs, rel, dd⟩ := (show ObjOk X.prog X.w H s.heap d (.dK (trueK R)) from I.hok d _ hd)
  have hvl := Paired.len rel
  have hRl : (trueK R).length = R.length := by unfold trueK; rw [List.length_map]
  refine wpAny_setItem_pairs (hsz := by omega) (mixKind_int X.prog X.w k t) dd fun h' dd' hs => ?_
  have hno : (Sum.inl k : Key) ∉ vs.map fun x => x.1 := fun z => by
    obtain ⟨x, hx, e⟩ := List.mem_map.mp z
    obtain ⟨j, hj, ej⟩ := List.mem_iff_getElem.mp hx
    obtain ⟨p, hp, hpq⟩ := Paired.get rel (show vs[j]? = some x by rw [List.getElem?_eq_getElem hj, ej])
    unfold trueK at hp
    rw [List.getElem?_map] at hp
    cases hR : R[j]? with
    | none => rw [hR] at hp; cases hp
    | some r =>
      rw [hR] at hp
      have hp' : (Sum.inl r, V.bl true) = p := Option.some.inj hp
      have e2 : (Sum.inl r : Key) = Sum.inl k := by rw [← e, ← hpq.1, ← hp']
      injection e2 with e3
      exact hk (e3 ▸ List.mem_of_getElem? hR)
  rw [stored_new hno] at dd'
  have he : ∃ ob, h'.get? d = some ob := let ⟨ob, _, _, hq, _⟩ := dd'; ⟨ob, hq⟩
  refine ⟨_, I.write (x := d) (e := d) (by rw [hd]; trivial) (.inl rfl) (fun b ob hb z => (hs.2 b hb).trans z) he (show ObjOk X.prog X.w _ _ _ (.dK (trueK (R ++ [k]))) from ⟨?_, hsys, _, ?_, dd'⟩), q⟩
  · unfold trueK
    rw [List.length_map, List.length_append]
    exact Nat.le_of_lt (small1000 (by show R.length + 1 ≤ 1000; omega))
  · unfold trueK
    rw [List.map_append]
    exact Paired.app rel (.cons ⟨rfl, rfl⟩ .nil)
end
end L2
namespace L2
open PySem PySem.Spec PyProof.Rows
section
variable {X : Cx}
theorem mt_index : MtM X "list.index" (fun x vs H Q => ∃ (l : Addr) (ns : List Int) (k : Int), x = .ref l ∧ vs = [.int k] ∧ SqL X.K H l (ns.map V.int) ∧ k ∈ ns ∧ Q (.int (ns.idxOf k : Nat)) H) := by
  intro pins s σ H x vs v us Q I rx rv h
  obtain ⟨l, ns, k, rfl, rfl, hq, hk, q⟩ := h
  cases rx
  obtain ⟨u, rfl, tk, rfl⟩ := rv.one
  obtain ⟨its, r, pl, hz⟩ := I.list hq
  have hi := ints_are r
  have hlen := hi.length
  have hz' : its.length ≤ sizeLine := by rw [← r.length]; exact hz
  rw [sizeLine_eq] at hz'
  obtain ⟨⟨cls, dd, data, sl⟩, n, ho, hc, hdn, hd⟩ := id pl
  simp only at hc hd
  subst hc hd
  have hj : ns.idxOf k < ns.length := List.idxOf_lt_length_iff.mpr hk
  refine call_meets PySem.F.slot_list_index ⟨_, ho, rfl⟩ PySem.F.entry_list_index (PySem.F.args_list_index_2 _ _)
    (SeqAt.list_indexAt l its.toArray n dd sl (.int k tk) (isInt k) (ns.idxOf k) (by simpa [hlen] using hj) (by omega) ?_ ?_) ⟨ho, fun y hy => (eq_isInt k tk hi y (by simpa using hy)).at _ _, ⟨.int _, H, I.tok _, ⟨_, rfl⟩, q⟩⟩
  · show isInt k its[ns.idxOf k] = true
    rw [isInt_at k hi _ (by omega) hj]
    simpa using List.getElem_idxOf hj
  · intro j hjs hlt
    show isInt k its[j] = false
    rw [isInt_at k hi j (by simpa using hjs) (by omega)]
    exact ne_of_lt_idxOf hlt _
theorem mt_indexK {K : PySem.W.Frag} (h : X.K = K) : MtM X "list.index" (fun x vs H Q => ∃ (l : Addr) (ns : List Int) (k : Int), x = .ref l ∧ vs = [.int k] ∧ SqL K H l (ns.map V.int) ∧ k ∈ ns ∧ Q (.int (ns.idxOf k : Nat)) H) := by
  subst h; exact mt_index
theorem erase_idx {k : Int} : ∀ {ns : List Int}, k ∈ ns → ns.eraseIdx (ns.idxOf k) = ns.erase k
  | [], h => by cases h
  | a :: ns, h => by
    by_cases c : a = k
    · subst c; rw [List.idxOf_cons_self]; simp
    · have hm : k ∈ ns := by rcases List.mem_cons.mp h with e | e; exact absurd e.symm c; exact e
      rw [List.idxOf_cons, show (a == k) = false from beq_false_of_ne c, List.erase_cons_tail (by simpa using c)]
      show a :: ns.eraseIdx (ns.idxOf k) = _
      rw [erase_idx hm]
theorem mt_remove : MtM X "list.remove" (fun x vs H Q => ∃ (l : Addr) (ns : List Int) (k : Int), x = .ref l ∧ vs = [.int k] ∧ H l = some (.lst (ns.map V.int)) ∧ k ∈ ns ∧ Q .non (upd H l (.lst ((ns.erase k).map V.int)))) := by
  intro pins s σ H x vs v us Q I rx rv h
  obtain ⟨l, ns, k, rfl, rfl, hH, hk, q⟩ := h
  cases rx
  obtain ⟨u, rfl, tk, rfl⟩ := rv.one
  obtain ⟨z, its, n, r, hl, e⟩ := I.lstM hH
  have hi := ints_are r
  have hlen := hi.length
  have hj : ns.idxOf k < ns.length := List.idxOf_lt_length_iff.mpr hk
  refine call_meets PySem.F.slot_list_remove ⟨_, e, rfl⟩ PySem.F.entry_list_remove (PySem.F.args_list_remove_2 _ _)
    (MeetsSeq.list_remove l its.toArray n (.int k tk) (isInt k) (fun y hy => eq_isInt k tk hi y (by simpa using hy)) (ns.idxOf k) (by simpa [hlen] using hj) ?_ ?_ (by rw [List.size_toArray]; omega)) ⟨e, ?_⟩
  · show isInt k its[ns.idxOf k] = true
    rw [isInt_at k hi _ (by omega) hj]
    simpa using List.getElem_idxOf hj
  · intro j hjs hlt
    show isInt k its[j] = false
    rw [isInt_at k hi j (by simpa using hjs) (by omega)]
    exact ne_of_lt_idxOf hlt _
  · have er : (ns.map V.int).eraseIdx (ns.idxOf k) = (ns.erase k).map V.int := by rw [← map_erase, erase_idx hk]
    rw [← er] at q
    refine ⟨.non, _, I.lset (its' := its.eraseIdx (ns.idxOf k)) hH e ?_ (r.eraseIdx _) ?_, rfl, q⟩
    · show its.toArray.eraseIdxIfInBounds (ns.idxOf k) = (its.eraseIdx (ns.idxOf k)).toArray
      rw [List.eraseIdxIfInBounds_toArray]
    · have := len_erase (ns.map V.int) (ns.idxOf k)
      omega
theorem call_any (hc : X.calm = true) : CallR X (.builtin "any") (fun xs H Q => ∃ (p : Addr) (bs : List Bool), xs = [.ref p] ∧ SqL X.K H p (bs.map V.bl) ∧ Q (.bl (bs.any id)) H) := by
  intro pins s σ H xs us Q I r h
  obtain ⟨p, bs, rfl, hq, q⟩ := h
  obtain ⟨u, rfl, rx⟩ := vals1 r
  cases (show u = Value.ref p from rx)
  obtain ⟨its, rv, pl, hz⟩ := I.list hq
  have hl := rv.length
  rw [List.length_map] at hl
  have hp : p < s.heap.objs.size := by obtain ⟨_, e, _⟩ := pl.isList; exact Heap.lt_size e
  have htr : TruthOf X.prog X.w X.A.in1 (fun i v => its.toArray[i]? = some v) (fun i => bs.getD i false) := fun i v s Q E hv hQ => by
    dsimp only at hv hQ
    rw [List.getElem?_toArray] at hv
    obtain ⟨x, hx, rx⟩ := vals_at rv hv
    rw [List.getElem?_map] at hx
    cases hb : bs[i]? with
    | none => rw [hb] at hx; cases hx
    | some b =>
      rw [hb] at hx
      cases hx
      cases (show v = Value.bool b from rx)
      have e : bs.getD i false = b := by simp [List.getD_eq_getElem?_getD, hb]
      rw [e] at hQ
      exact wpAny_pure hQ
  refine call_any_walk (wpAny_pyIter_list pl.isList ⟨s.heap.objs.size, _, _, _, _, _, _, rfl, Walks.list (A := X.A.in1) (I.ok.hd hc) s.heap.objs.size p (Nat.ne_of_lt hp) its.toArray, ⟨⟨_, Heap.get?_push_size _ rfl, rfl, rfl⟩, pl.isList.push _⟩, htr, fun h' tk hk => ?_⟩)
  have e : (List.range its.toArray.size).any (fun i => bs.getD i false) = bs.any id := by
    rw [List.size_toArray, ← hl]
    apply Bool.eq_iff_iff.mpr
    rw [List.any_eq_true, List.any_eq_true]
    constructor
    · rintro ⟨i, hi, hb⟩
      have hi' := List.mem_range.mp hi
      exact ⟨bs[i], List.getElem_mem hi', by simpa [hi'] using hb⟩
    · rintro ⟨x, hx, hb⟩
      obtain ⟨i, hi, rfl⟩ := List.mem_iff_getElem.mp hx
      exact ⟨i, List.mem_range.mpr hi, by simpa [hi] using hb⟩
  rw [e]
  refine ⟨.bl _, H, I.kept fun b o ho => hk b o (fun hm => ?_) (Heap.get?_push_of_some _ ho), rfl, q⟩
  rw [List.mem_singleton] at hm
  subst hm
  exact absurd (Heap.lt_size ho) (Nat.lt_irrefl _)
end
end L2
namespace L2
open PySem PySem.Spec PyProof.Rows
section
variable {X : Cx}
theorem op_isB : OpR X (compareOp .Is) (fun x y H Q => ∃ a b : Bool, x = .bl a ∧ y = .bl b ∧ Q (.bl (decide (a = b))) H) := by
  intro pins s σ H x y v u Q I rx ry h
  obtain ⟨a, b, rfl, rfl, q⟩ := h
  cases rx
  cases ry
  refine wpAny_is_plain (by cases a <;> cases b <;> rfl) (fin_bl I q ?_)
  cases a <;> cases b <;> rfl
theorem op_isNotB : OpR X (compareOp .IsNot) (fun x y H Q => ∃ a b : Bool, x = .bl a ∧ y = .bl b ∧ Q (.bl (!decide (a = b))) H) := by
  intro pins s σ H x y v u Q I rx ry h
  obtain ⟨a, b, rfl, rfl, q⟩ := h
  cases rx
  cases ry
  refine wpAny_isNot_plain (by cases a <;> cases b <;> rfl) (fin_bl I q ?_)
  cases a <;> cases b <;> rfl
end
end L2
namespace L2
open PySem PySem.Spec PyProof.Rows
section
variable {prog : Program} {w : World} {A : Around} {E : Value → Shared → Prop} {s : Shared} {h0 : Heap} {l It Sv : Addr} {vs : List Value} {R : Result → Shared → Prop}
theorem kept_list {a : Addr} {items : Array Value} {h1 h2 : Heap} (x : h1.IsList a items) (kp : ∀ o, h1.get? a = some o → h2.get? a = some o) : h2.IsList a items := by
  obtain ⟨o, e, r⟩ := x
  exact ⟨o, kp o e, r⟩
theorem minlen_loop (kf : Nat → Int) (hh : A.handled = none) (n1 : l ≠ It) (n2 : Sv ≠ It) (n3 : l ≠ Sv) (hls : h0.IsList l vs.toArray)
    (item : ∀ i v, vs[i]? = some v → ∃ r items, v = .ref r ∧ r ≠ It ∧ r ≠ Sv ∧ h0.IsList r items ∧ (items.size : Int) < 2 ^ 63 ∧ kf i = items.size)
    (hR : ∀ i v h' tk', vs[i]? = some v → (∀ j, j < vs.length → kf i ≤ kf j ∧ (j < i → kf i < kf j)) → (∀ b o, b ≠ It → b ≠ Sv → h0.get? b = some o → h'.get? b = some o) → R (.ok (.ret v)) { s with heap := h', toks := tk' }) :
    ∀ (r j i : Nat) (h : Heap) (tk : Nat) (vb : Value) (tb : Tok) (c : Nat), vs.length - (j + 1) = r → j + 1 ≤ vs.length → (∀ b o, b ≠ It → b ≠ Sv → h0.get? b = some o → h.get? b = some o) →
      h.get? Sv = some (seqObj "list" #[vb, .int (kf i) tb] c) → h.IsListIter It l (j + 1) → vs[i]? = some vb → i ≤ j → (∀ j', j' ≤ j → kf i ≤ kf j' ∧ (j' < i → kf i < kf j')) →
      codeAny (model prog w) A (.builtin "min.loop" ⟨[.ref It, .builtin "len", .ref Sv], []⟩) R { s with heap := h, toks := tk } := by
  have nm : (toString "min" ++ toString ".loop" : String) = "min.loop" := by decide
  have Wk := Walks.list (prog := prog) (w := w) (A := A.in1) hh It l n1 vs.toArray
  have sz : vs.toArray.size = vs.length := List.size_toArray ..
  intro r
  induction r with
  | zero =>
    intro j i h tk vb tb c hr hj kp hS hit hvb hij hbest
    have hin : j + 1 = vs.length := by omega
    refine codeAny_builtin (R := R) PySem.F.entry_min_loop ?_
    rw [Around.under_plainId (A := A) PySem.F.plain_min_loop _]
    show wpAny _ A.in1 (seqItems? (.ref Sv) >>= _) _ _ _
    refine wpAny_bind (wpAny_seqItems hS rfl ?_)
    show wpAny _ A.in1 (tryCatch (pyNext (.ref It)) _ >>= _) _ _ _
    refine wpAny_bind (wpAny_tryCatch (Wk.done _ _ _ ⟨by rw [sz, ← hin]; exact hit, kept_list hls fun o e => kp l o n1 n3 e⟩ fun h' tk' hk' => ?_))
    have hS' := hk' Sv _ (by simpa using n2) hS
    have s1 := Heap.SameBut.update h' Sv (Obj.mapSeq fun _ => (#[] : Array Value))
    show wpAny _ A.in1 (updateSeq Sv (fun _ => #[]) >>= _) _ _ _
    refine wpAny_bind ?_
    refine wpAny_updateSeq hS' rfl (wpAny_bind (wpAny_letGo (wpAny_pure ?_)))
    exact hR i vb _ _ hvb (fun j' hj' => hbest j' (by omega)) fun b o b1 b2 e => (s1.2 b b2).trans (hk' b o (by simpa using b1) (kp b o b1 b2 e))
  | succ r ih =>
    intro j i h tk vb tb c hr hj kp hS hit hvb hij hbest
    have hlt : j + 1 < vs.length := by omega
    refine codeAny_builtin (R := R) PySem.F.entry_min_loop ?_
    rw [Around.under_plainId (A := A) PySem.F.plain_min_loop _]
    show wpAny _ A.in1 (seqItems? (.ref Sv) >>= _) _ _ _
    refine wpAny_bind (wpAny_seqItems hS rfl ?_)
    show wpAny _ A.in1 (tryCatch (pyNext (.ref It)) _ >>= _) _ _ _
    refine wpAny_bind (wpAny_tryCatch (Wk.item (j + 1) _ _ _ (by rw [sz]; exact hlt) ⟨hit, kept_list hls fun o e => kp l o n1 n3 e⟩ fun v h' tk' hP hst' hk' => ?_))
    have hv : vs[j + 1]? = some v := by simpa using (hP)
    have hit' := hst'.1
    have kp' : ∀ b o, b ≠ It → b ≠ Sv → h0.get? b = some o → h'.get? b = some o := fun b o b1 b2 e => hk' b o (by simpa using b1) (kp b o b1 b2 e)
    have hS' := hk' Sv _ (by simpa using n2) hS
    obtain ⟨rr, items, rfl, r1, r2, r3, r4, r5⟩ := item (j + 1) v hv
    show wpAny _ A.in1 (tryCatch (holding [Value.ref rr] (call (.builtin "len") [Value.ref rr])) _ >>= _) _ _ _
    refine wpAny_bind (wpAny_tryCatch (wpAny_holding (Calls.call_len_list (kept_list r3 fun o e => kp' rr o r1 r2 e) r4 ?_)))
    rw [show (items.size : Int) = kf (j + 1) from r5.symm]
    show wpAny _ A.in1 (tryCatch (holding [Value.ref rr, .int (kf (j + 1)) _] (richCompare .Lt (.int (kf (j + 1)) _) (.int (kf i) tb) >>= _)) _ >>= _) _ _ _
    refine wpAny_bind (wpAny_tryCatch (wpAny_holding (wpAny_bind (CmpOf.ints_lt (prog := prog) (w := w) (A := A.in1) (P := fun i v => ∃ t, v = .int (kf i) t) kf (fun i v h => h) (j + 1) i _ _ _ _ _ ⟨_, rfl⟩ ⟨_, rfl⟩ ?_))))
    refine wpAny_bind (wpAny_holding (wpAny_truthy_bool ?_))
    refine wpAny_bind (wpAny_letGo (wpAny_pure ?_))
    by_cases lt : kf (j + 1) < kf i
    · simp only [lt, decide_true, if_true]
      refine wpAny_bind ?_
      refine wpAny_updateSeq hS' rfl (wpAny_bind (wpAny_letGo ?_))
      rw [nm]
      refine wpAny_pure ⟨plainId_quiet PySem.F.plain_min_loop _, ih (j + 1) (j + 1) _ _ _ _ _ (by omega) hlt (fun b o b1 b2 e => ((Heap.SameBut.update h' Sv _).2 b b2).trans (kp' b o b1 b2 e)) (get?_update_seq hS' fun _ => _) ?_ hv (Nat.le_refl _) fun j' hj' => ?_⟩
      · obtain ⟨oI, q1, q2⟩ := hit'
        exact ⟨oI, ((Heap.SameBut.update h' Sv _).2 It n2.symm).trans q1, q2⟩
      · by_cases e : j' = j + 1
        · subst e
          exact ⟨Int.le_refl _, fun z => absurd z (Nat.lt_irrefl _)⟩
        · have hb := (hbest j' (by omega)).1
          exact ⟨by omega, fun _ => by omega⟩
    · simp only [lt, decide_false, Bool.false_eq_true, if_false]
      refine wpAny_bind (wpAny_letGo ?_)
      rw [nm]
      refine wpAny_pure ⟨plainId_quiet PySem.F.plain_min_loop _, ih (j + 1) i _ _ _ _ _ (by omega) hlt kp' hS' hit' hvb (by omega) fun j' hj' => ?_⟩
      by_cases e : j' = j + 1
      · subst e
        exact ⟨by omega, fun z => absurd z (by omega)⟩
      · exact hbest j' (by omega)
theorem call_minlen {Q : Value → Shared → Prop} (kf : Nat → Int) (hh : A.handled = none) (hls : s.heap.IsList l vs.toArray) (hne : 0 < vs.length)
    (item : ∀ i v, vs[i]? = some v → ∃ r items, v = .ref r ∧ s.heap.IsList r items ∧ (items.size : Int) < 2 ^ 63 ∧ kf i = items.size)
    (hQ : ∀ i v h' tk', vs[i]? = some v → (∀ j, j < vs.length → kf i ≤ kf j ∧ (j < i → kf i < kf j)) → (∀ b o, s.heap.get? b = some o → h'.get? b = some o) → Q v { s with heap := h', toks := tk' }) :
    wpAny (model prog w) A (call (.builtin "min") [.ref l] [(Str.ofString "key", .builtin "len")]) Q E s := by
  have nm : (toString "min" ++ toString ".loop" : String) = "min.loop" := by decide
  have lt0 : ∀ b o, s.heap.get? b = some o → b < s.heap.objs.size := fun b o e => Heap.lt_size e
  have hll : l < s.heap.objs.size := by obtain ⟨o, e, _⟩ := hls; exact lt0 l o e
  refine kmb_tree (id := "min") PySem.F.kind_min PySem.F.plain_min PySem.F.entry_min (kmb_min_key _ _) ?_
  show wpAny _ A.in1 (Builtin.Builtins.bindParams "min" ["key", "default"] 0 ⟨[], [(Str.ofString "key", .builtin "len")]⟩ >>= _) _ _ s
  refine wpAny_bind (wpAny_of_eq (show Builtin.Builtins.bindParams "min" ["key", "default"] 0 ⟨[], [(Str.ofString "key", .builtin "len")]⟩ = pure [some (.builtin "len"), none] from rfl) ?_)
  refine wpAny_bind (wpAny_pure ?_)
  refine wpAny_bind (wpAny_pyIter_list hls ?_)
  refine wpAny_bind (wpAny_newList ?_ (Nat.zero_le _))
  rw [nm]
  generalize hIo : ({ cls := .type "list_iterator", data := .fields #[.ref l, .int 0 0] } : Obj) = oI
  have fI : oI.isFreed = false := by rw [← hIo]; rfl
  have e1 : (s.heap.push oI).objs.size = s.heap.objs.size + 1 := by unfold Heap.push; simp
  have n1 : l ≠ s.heap.objs.size := Nat.ne_of_lt hll
  have n2 : (s.heap.push oI).objs.size ≠ s.heap.objs.size := by rw [e1]; exact Nat.ne_of_gt (Nat.lt_succ_self _)
  have n3 : l ≠ (s.heap.push oI).objs.size := by rw [e1]; exact Nat.ne_of_lt (Nat.lt_succ_of_lt hll)
  refine wpAny_pure ⟨plainId_quiet PySem.F.plain_min_loop _, ?_⟩
  have gI : ((s.heap.push oI).push (seqObj "list" #[] 0)).get? s.heap.objs.size = some oI := Heap.get?_push_of_some _ (Heap.get?_push_size _ fI)
  have gS : ((s.heap.push oI).push (seqObj "list" #[] 0)).get? (s.heap.push oI).objs.size = some (seqObj "list" #[] 0) := Heap.get?_push_size _ rfl
  have kp0 : ∀ b o, s.heap.get? b = some o → ((s.heap.push oI).push (seqObj "list" #[] 0)).get? b = some o := fun b o e => Heap.get?_push_of_some _ (Heap.get?_push_of_some _ e)
  have sz : vs.toArray.size = vs.length := List.size_toArray ..
  have Wk := Walks.list (prog := prog) (w := w) (A := A.in1) hh s.heap.objs.size l n1 vs.toArray
  refine codeAny_builtin PySem.F.entry_min_loop (R := _) ?_
  rw [Around.under_plainId (A := A) PySem.F.plain_min_loop _]
  show wpAny _ A.in1 (seqItems? (.ref _) >>= _) _ _ _
  refine wpAny_bind (wpAny_seqItems gS rfl ?_)
  show wpAny _ A.in1 (tryCatch (pyNext (.ref s.heap.objs.size)) _ >>= _) _ _ _
  refine wpAny_bind (wpAny_tryCatch (Wk.item 0 _ _ _ (by rw [sz]; exact hne) ⟨⟨_, gI, by rw [← hIo], by rw [← hIo]; rfl⟩, kept_list hls fun o e => kp0 l o e⟩ fun v h' tk' hP hst' hk' => ?_))
  have hv : vs[0]? = some v := by simpa using (hP)
  have kp' : ∀ b o, s.heap.get? b = some o → h'.get? b = some o := fun b o e => hk' b o (by simpa using Nat.ne_of_lt (lt0 b o e)) (kp0 b o e)
  have hS' := hk' _ _ (by simpa using n2) gS
  obtain ⟨rr, items, rfl, r3, r4, r5⟩ := item 0 v hv
  show wpAny _ A.in1 (tryCatch (holding [Value.ref rr] (call (.builtin "len") [Value.ref rr])) _ >>= _) _ _ _
  refine wpAny_bind (wpAny_tryCatch (wpAny_holding (Calls.call_len_list (kept_list r3 fun o e => kp' rr o e) r4 ?_)))
  rw [show (items.size : Int) = kf 0 from r5.symm]
  show wpAny _ A.in1 (updateSeq _ (fun _ => #[Value.ref rr, .int (kf 0) _]) >>= _) _ _ _
  refine wpAny_bind ?_
  refine wpAny_updateSeq hS' rfl ?_
  rw [nm]
  refine wpAny_pure ⟨plainId_quiet PySem.F.plain_min_loop _, minlen_loop (h0 := s.heap) (s := s) kf hh n1 n2 n3 hls (fun i v hv => ?_) (fun i v h'' tk'' hv hb kp => hQ i v h'' tk'' hv hb fun b o e => kp b o (Nat.ne_of_lt (lt0 b o e)) (by rw [e1]; exact Nat.ne_of_lt (Nat.lt_succ_of_lt (lt0 b o e))) e) _ 0 0 _ _ _ _ _ rfl hne (fun b o b1 b2 e => ((Heap.SameBut.update h' _ _).2 b b2).trans (kp' b o e)) (get?_update_seq hS' fun _ => _) ?_ hv (Nat.le_refl _) fun j' hj' => ?_⟩
  · obtain ⟨r, its, e, q1, q2, q3⟩ := item i v hv
    have hr : r < s.heap.objs.size := by obtain ⟨o, e, _⟩ := q1; exact lt0 r o e
    exact ⟨r, its, e, Nat.ne_of_lt hr, by rw [e1]; exact Nat.ne_of_lt (Nat.lt_succ_of_lt hr), q1, q2, q3⟩
  · obtain ⟨oI', q1, q2⟩ := hst'.1
    exact ⟨oI', ((Heap.SameBut.update h' _ _).2 _ n2.symm).trans q1, q2⟩
  · have e : j' = 0 := by omega
    subst e
    exact ⟨Int.le_refl _, fun z => absurd z (Nat.lt_irrefl _)⟩
end
section
variable {X : Cx}
def tMinLen (K : PySem.W.Frag) (t : TA) : TE := fun σ H Q => t σ H fun xs H1 => ∃ (p : Addr) (rs : List Addr) (M : List (List V)), xs = [.ref p] ∧ SqL K H1 p (rs.map V.ref) ∧ rs ≠ [] ∧ Paired (fun r m => SqL K H1 r m) rs M ∧
  ∀ (i : Nat) (r : Addr) (m : List V), rs[i]? = some r → M[i]? = some m → (∀ m' ∈ M, m.length ≤ m'.length) → Q (.ref r) H1
theorem pe_minLen {K : PySem.W.Frag} {e : Expr} {p kp kpos pos : Pos} {t : TA} (hK : X.K = K) (hc : X.calm = true) (g1 : Gl X "min") (m1 : X.mg "min" = none) (g2 : Gl X "len") (m2 : X.mg "len" = none) (he : PA X [e] t)
    (h1 : backTo pos (starEach [e] X.env) = (false, eval e X.env) :: backTo pos (starEach [] X.env) := by rfl) (h2 : (backTo pos (starEach [e] X.env)).any (·.1) = false := by rfl) (h3 : ((backToKw pos (keywordEach [⟨some "key", .Name "len" kp, kpos⟩] X.env)).filterMap (·.1)) = [Str.ofString "key"] := by rfl)
    (h4 : (backToKw pos (keywordEach [⟨some "key", .Name "len" kp, kpos⟩] X.env)).all (·.1.isSome) = true := by rfl) (h5 : (backToKw pos (keywordEach [⟨some "key", .Name "len" kp, kpos⟩] X.env)).any (·.1.isNone) = false := by rfl) :
    PE X (.Call (.Name "min" p) [e] [⟨some "key", .Name "len" kp, kpos⟩] pos) (tMinLen K t) := by
  subst hK
  intro pins s σ H Q I h
  refine wpAny_Call_Name_kw (ld_blt I g1 m1 Boot.«min» ?_)
  refine callWith_kw (thn (he pos pins s σ H _ I h) fun us s1 ⟨xs, H1, I1, r1, q1⟩ => kws_cons (ld_blt I1 g2 m2 PySem.boot_len (kws_nil ?_))) h1 h2 h4 h5
  rw [h3]
  obtain ⟨a, rs, M, ex, hq, hne, hM, q⟩ := q1
  subst ex
  obtain ⟨u, rfl, rx⟩ := vals1 r1
  cases rx
  obtain ⟨its, rv, pl, hz⟩ := I1.list hq
  have hl := rv.length
  rw [List.length_map] at hl
  have hml := Paired.len hM
  have hrs := List.length_pos_iff.mpr hne
  have hat : ∀ i v, its[i]? = some v → ∃ r m, rs[i]? = some r ∧ M[i]? = some m ∧ v = Value.ref r ∧ SqL X.K H1 r m := fun i v hv => by
    have hi : i < rs.length := by have := (List.getElem?_eq_some_iff.mp hv).1; omega
    obtain ⟨r, hr⟩ : ∃ r, rs[i]? = some r := ⟨_, List.getElem?_eq_getElem hi⟩
    obtain ⟨m, hm, hrm⟩ := Paired.get' hM hr
    obtain ⟨u, hu, ru⟩ := rv.get (show (rs.map V.ref)[i]? = some (.ref r) by rw [List.getElem?_map, hr]; rfl)
    rw [hv] at hu
    cases hu
    exact ⟨r, m, hr, hm, ru, hrm⟩
  have hsz := line63
  refine call_minlen (fun i => ((M.getD i []).length : Int)) (I1.ok.hd hc) pl.isList (by omega) (fun i v hv => ?_) fun i v h' tk' hv hb kp => ?_
  · obtain ⟨r, m, _, hm, rfl, hrm⟩ := hat i v hv
    obtain ⟨its2, rv2, pl2, hz2⟩ := I1.list hrm
    have hl2 := rv2.length
    refine ⟨r, its2.toArray, rfl, pl2.isList, by rw [List.size_toArray]; omega, ?_⟩
    show ((M.getD i []).length : Int) = _
    rw [List.getD_eq_getElem?_getD, hm, List.size_toArray, ← hl2]
    rfl
  · obtain ⟨r, m, hr, hm, rfl, hrm⟩ := hat i v hv
    refine ⟨.ref r, H1, I1.kept kp, rfl, q i r m hr hm fun m' hm' => ?_⟩
    obtain ⟨j, hj, ej⟩ := List.mem_iff_getElem.mp hm'
    have := (hb j (by omega)).1
    rw [List.getD_eq_getElem?_getD, hm, List.getD_eq_getElem?_getD, List.getElem?_eq_getElem hj, ej] at this
    exact Int.ofNat_le.mp this
end
end L2
namespace L2
open PySem PySem.Spec PyProof.Rows
section
variable {X : Cx}
def tLenSetI (K : PySem.W.Frag) (te : TE) : TE := fun σ H Q => te σ H fun x H1 => ∃ (p : Addr) (ns : List Int), x = .ref p ∧ SqL K H1 p (ns.map V.int) ∧ (∀ i ∈ ns, 0 ≤ i ∧ i < 6) ∧ ns.Nodup ∧ Q (.int ns.length) H1
theorem small_len {ns : List Int} (hb : ∀ i ∈ ns, 0 ≤ i ∧ i < 6) (hn : ns.Nodup) : (smallS fun x => (List.range' 0 ns.length).any fun j => x == (ns.getD j 0).toNat).length = ns.length := by
  have hp : ((smallS fun x => (List.range' 0 ns.length).any fun j => x == (ns.getD j 0).toNat).map Int.ofNat).Perm ns := by
    refine (List.perm_ext_iff_of_nodup ?_ hn).mpr fun i => ?_
    · refine List.pairwise_map.mpr (List.Pairwise.imp (R := fun a b : Nat => a ≠ b) (fun {a b} hab z => hab (Int.ofNat.inj z)) ?_)
      unfold smallS
      exact List.nodup_range.filter _
    · rw [List.mem_map]
      constructor
      · rintro ⟨u, hu, rfl⟩
        obtain ⟨_, hb2⟩ := mem_small.mp hu
        obtain ⟨j, hj, e⟩ := List.any_eq_true.mp hb2
        have e' : u = (ns.getD j 0).toNat := eq_of_beq e
        have hj' : j < ns.length := by
          have := List.mem_range'.mp hj
          simp at this
          omega
        have hm : ns.getD j 0 ∈ ns := by rw [List.getD_eq_getElem?_getD, List.getElem?_eq_getElem hj']; exact List.getElem_mem hj'
        have := hb _ hm
        rw [e', show Int.ofNat (ns.getD j 0).toNat = ns.getD j 0 by show ((ns.getD j 0).toNat : Int) = _; omega]
        exact hm
      · intro hi
        have hib := hb i hi
        obtain ⟨j, hj, e⟩ := List.mem_iff_getElem.mp hi
        refine ⟨i.toNat, mem_small.mpr ⟨by omega, List.any_eq_true.mpr ⟨j, List.mem_range'.mpr ⟨j, hj, by omega⟩, ?_⟩⟩, by show ((i.toNat : Nat) : Int) = i; omega⟩
        rw [List.getD_eq_getElem?_getD, List.getElem?_eq_getElem hj, e]
        simp
  have := hp.length_eq
  rw [List.length_map] at this
  exact this
theorem pe_lenSetI {e : Expr} {te : TE} {p p2 pos pos2 : Pos} (hc : X.calm = true) (h1 : Gl X "len") (m1 : X.mg "len" = none) (h2 : Gl X "set") (m2 : X.mg "set" = none) (ha : PE X e te)
    (he : starEach [e] X.env = (false, eval e X.env) :: starEach [] X.env := by rfl) : PE X (.Call (.Name "len" p) [.Call (.Name "set" p2) [e] [] pos2] [] pos) (tLenSetI X.K te) := by
  intro pins s σ H Q I h
  refine wpAny_Call_Name_kw (ld_blt I h1 m1 PySem.boot_len ?_)
  refine PyProof.Rows.callWith_builtin1 ?_ rfl rfl
  show wpAny _ _ (spliced ((false, eval (.Call (.Name "set" p2) [e] [] pos2) X.env) :: [])) _ _ s
  refine Calls.spliced_cons ?_
  refine wpAny_Call_Name_kw (ld_blt I h2 m2 Boot.set ?_)
  refine PyProof.Rows.callWith_type1 ?_ he rfl
  rw [he]
  show wpAny _ _ (spliced ((false, eval e X.env) :: [])) _ _ s
  refine Calls.spliced_cons (thn (ha pins s σ H _ I h) fun u s1 ⟨x, H1, I1, r1, q1⟩ => ?_)
  obtain ⟨l, ns, rfl, hq, hb, hn, q⟩ := q1
  cases (show u = Value.ref l from r1)
  obtain ⟨its, rv, pl, hz⟩ := I1.list hq
  have hI := ints_are rv
  have hlen : its.length = ns.length := hI.length
  have hA : X.A.handled = none := I1.ok.hd hc
  refine wpAny_pure (call_set_small hA pl.isList (fun i => (ns.getD i 0).toNat) (fun i v hv => ?_) fun h' tk hset hk => wpAny_pure ?_)
  · rw [← Array.getElem?_toList] at hv
    obtain ⟨hi, t, e⟩ := int_nth hI i v (by simpa using hv)
    have hm : ns.getD i 0 ∈ ns := by
      rw [List.getD_eq_getElem?_getD, List.getElem?_eq_getElem hi]
      exact List.getElem_mem hi
    have := hb _ hm
    refine ⟨by omega, t, ?_⟩
    rw [e]
    congr 1
    omega
  · obtain ⟨o, es, ep, tok, g1, g2, g3, g4⟩ := hset
    rw [show its.toArray.size = ns.length by rw [List.size_toArray, hlen]] at g3 g4
    have hes : es.size = ns.length := by
      have := congrArg List.length g4
      rw [List.length_map, small_len hb hn, Array.length_toList] at this
      exact this
    have h6 := small_le (fun x => (List.range' 0 ns.length).any fun j => x == (ns.getD j 0).toNat)
    have hft := small_fits (fun x => (List.range' 0 ns.length).any fun j => x == (ns.getD j 0).toNat) (ledOf X.w)
    rw [small_len hb hn] at h6 hft
    refine call_len_set (s := { s1 with heap := h', toks := tk }) g1 g2 g3 (by rw [hes]; exact hft) (by rw [hes]; omega) ⟨.int ns.length, H1, I1.kept hk, ⟨_, by rw [hes]⟩, q⟩
end
end L2
namespace L2
open PySem PySem.Spec PyProof.Rows
section
variable {X : Cx}
theorem call_minT (hc : X.calm = true) : CallR X (.builtin "min") (fun xs H Q => ∃ (p : Addr) (ns : List Int), xs = [.ref p] ∧ SqT X.K H p (ns.map V.int) ∧ ns ≠ [] ∧ ∀ m, m ∈ ns → (∀ y ∈ ns, m ≤ y) → Q (.int m) H) := by
  intro pins s σ H xs us Q I r h
  obtain ⟨p, ns, rfl, hq, hne, q⟩ := h
  obtain ⟨u, rfl, rx⟩ := vals1 r
  cases (show u = Value.ref p from rx)
  obtain ⟨its, rv, pl, hz⟩ := I.tuple hq
  have hI := ints_are rv
  have hl : its.length = ns.length := hI.length
  have hpos : 0 < ns.length := List.length_pos_iff.mpr hne
  have hp : p < s.heap.objs.size := pl.lt
  have hat : ∀ i v, its.toArray[i]? = some v → ∃ t, v = Value.int (ns.getD i 0) t := fun i v hv => by
    rw [List.getElem?_toArray] at hv
    obtain ⟨hi, t, e⟩ := int_nth hI i v hv
    exact ⟨t, e⟩
  refine call_min_walk (wpAny_pyIter_tuple (show s.heap.IsTuple p its.toArray from pl) ⟨s.heap.objs.size, _, _, _, _, _, _, rfl, Walks.tuple (A := X.A.in1) (I.ok.hd hc) s.heap.objs.size p (Nat.ne_of_lt hp) its.toArray, ⟨⟨_, Heap.get?_push_size _ rfl, rfl, rfl⟩, pl.push _⟩, ?_, by simp; omega, CmpOf.ints_lt (fun i => ns.getD i 0) hat, fun v h' tk hv hk => ?_⟩)
  · intro b hb
    have e1 : (s.heap.push { cls := Value.type "tuple_iterator", data := Data.fields #[Value.ref p, Value.int 0 0] }).objs.size = s.heap.objs.size + 1 := by unfold Heap.push; simp
    show b < (s.heap.push _).objs.size
    rw [e1]
    rcases List.mem_cons.mp hb with z | z
    · rw [z]; exact Nat.lt_succ_self _
    · rw [List.mem_singleton.mp z]; exact Nat.lt_succ_of_lt hp
  · obtain ⟨t, rfl⟩ := hat _ v hv
    have hb := argBest_lt (fun i => ns.getD i 0) (its.toArray.size - 1)
    have hsz : its.toArray.size = ns.length := by rw [List.size_toArray, hl]
    rw [hsz] at hb ⊢
    refine ⟨.int _, H, I.kept fun b o ho => hk b o (fun hm => ?_) (Heap.get?_push_of_some _ ho), ⟨_, rfl⟩, q _ ?_ fun y hy => ?_⟩
    · rw [List.mem_singleton.mp hm] at ho
      exact absurd (Heap.lt_size ho) (Nat.lt_irrefl _)
    · generalize argBest _ (ns.length - 1) = k at hb ⊢
      have hk' : k < ns.length := by have := hb.1; omega
      rw [List.getD_eq_getElem?_getD, List.getElem?_eq_getElem hk']
      exact List.getElem_mem _
    · obtain ⟨j, hj, rfl⟩ := List.mem_iff_getElem.mp hy
      have := hb.2 j (by omega)
      have e5 : ns.getD j 0 = ns[j] := by rw [List.getD_eq_getElem?_getD, List.getElem?_eq_getElem hj]; rfl
      rw [e5] at this
      exact this
theorem call_maxT (hc : X.calm = true) : CallR X (.builtin "max") (fun xs H Q => ∃ (p : Addr) (ns : List Int), xs = [.ref p] ∧ SqT X.K H p (ns.map V.int) ∧ ns ≠ [] ∧ ∀ m, m ∈ ns → (∀ y ∈ ns, y ≤ m) → Q (.int m) H) := by
  intro pins s σ H xs us Q I r h
  obtain ⟨p, ns, rfl, hq, hne, q⟩ := h
  obtain ⟨u, rfl, rx⟩ := vals1 r
  cases (show u = Value.ref p from rx)
  obtain ⟨its, rv, pl, hz⟩ := I.tuple hq
  have hI := ints_are rv
  have hl : its.length = ns.length := hI.length
  have hpos : 0 < ns.length := List.length_pos_iff.mpr hne
  have hp : p < s.heap.objs.size := pl.lt
  have hat : ∀ i v, its.toArray[i]? = some v → ∃ t, v = Value.int (ns.getD i 0) t := fun i v hv => by
    rw [List.getElem?_toArray] at hv
    obtain ⟨hi, t, e⟩ := int_nth hI i v hv
    exact ⟨t, e⟩
  refine call_max_walk (wpAny_pyIter_tuple (show s.heap.IsTuple p its.toArray from pl) ⟨s.heap.objs.size, _, _, _, _, _, _, rfl, Walks.tuple (A := X.A.in1) (I.ok.hd hc) s.heap.objs.size p (Nat.ne_of_lt hp) its.toArray, ⟨⟨_, Heap.get?_push_size _ rfl, rfl, rfl⟩, pl.push _⟩, ?_, by simp; omega, CmpOf.ints_gt (fun i => ns.getD i 0) hat, fun v h' tk hv hk => ?_⟩)
  · intro b hb
    have e1 : (s.heap.push { cls := Value.type "tuple_iterator", data := Data.fields #[Value.ref p, Value.int 0 0] }).objs.size = s.heap.objs.size + 1 := by unfold Heap.push; simp
    show b < (s.heap.push _).objs.size
    rw [e1]
    rcases List.mem_cons.mp hb with z | z
    · rw [z]; exact Nat.lt_succ_self _
    · rw [List.mem_singleton.mp z]; exact Nat.lt_succ_of_lt hp
  · obtain ⟨t, rfl⟩ := hat _ v hv
    have hb := argBest_gt (fun i => ns.getD i 0) (its.toArray.size - 1)
    have hsz : its.toArray.size = ns.length := by rw [List.size_toArray, hl]
    rw [hsz] at hb ⊢
    refine ⟨.int _, H, I.kept fun b o ho => hk b o (fun hm => ?_) (Heap.get?_push_of_some _ ho), ⟨_, rfl⟩, q _ ?_ fun y hy => ?_⟩
    · rw [List.mem_singleton.mp hm] at ho
      exact absurd (Heap.lt_size ho) (Nat.lt_irrefl _)
    · generalize argBest _ (ns.length - 1) = k at hb ⊢
      have hk' : k < ns.length := by have := hb.1; omega
      rw [List.getD_eq_getElem?_getD, List.getElem?_eq_getElem hk']
      exact List.getElem_mem _
    · obtain ⟨j, hj, rfl⟩ := List.mem_iff_getElem.mp hy
      have := hb.2 j (by omega)
      have e5 : ns.getD j 0 = ns[j] := by rw [List.getD_eq_getElem?_getD, List.getElem?_eq_getElem hj]; rfl
      rw [e5] at this
      exact this
end
end L2
namespace L2
open PySem PySem.Spec PyProof.Rows
open PySem.AutoSeq1 (wpAny_loadPart')
theorem tupIter_of {h : Heap} {l : Addr} {o : Obj} (e : o = { cls := .type "tuple_iterator", data := .fields #[.ref l, .int 0 0] }) : (h.push o).IsTupleIter h.objs.size l 0 := by
  subst e
  exact ⟨_, Heap.get?_push_size _ rfl, rfl, rfl⟩
theorem meets_enum_newT (l : Addr) (items : Array Value) (n : Nat) (dct : Option Addr) (sl : Array (Option Value)) :
    Meets (Builtin.«enumerate.__new__» ⟨[.type "enumerate", .ref l], []⟩) (fun _ R s => s.heap.get? l = some { cls := .type "tuple", dict := dct, data := .seq items n, slots := sl } ∧
      R (.ok (.ret (.ref (s.heap.push { cls := .type "tuple_iterator", data := .fields #[.ref l, .int 0 0] }).objs.size)))
        { s with heap := (s.heap.push { cls := .type "tuple_iterator", data := .fields #[.ref l, .int 0 0] }).push { cls := .type "enumerate", data := .fields #[.none, .bool false, .ref s.heap.objs.size, rawInt 0, .none, .none] } }) :=
  .of_wp fun prog w A R s h => by
    obtain ⟨hp, g, d, tk, os⟩ := s; obtain ⟨hl, h⟩ := h
    have hsub := sub_enumerate
    have hT : Heap.IsTuple (Shared.heap ⟨hp, g, d, tk, os⟩) l items := ⟨_, hl, rfl, n, rfl⟩
    wp_walk using wpAny_loadPart' hl
    refine wpAny_stack_any fun st => wpAny_pure ?_
    split
    · rename_i c _ _ _ _ _
      cases (c == Value.type "enumerate")
      · wp_walk using wpAny_loadPart' hl, wpAny_pyIter_tuple hT
        exact ⟨_, rfl, h⟩
      · wp_walk using wpAny_loadPart' hl, wpAny_pyIter_tuple hT
        exact ⟨_, rfl, h⟩
    · wp_walk using wpAny_loadPart' hl, wpAny_pyIter_tuple hT
      exact ⟨_, rfl, h⟩
section
variable {prog : Program} {w : World} {A : Around} {E : Value → Shared → Prop} {s : Shared}
theorem call_enumerate_tup {l : Addr} {items : Array Value} {Q : Value → Shared → Prop} (hL : IsTup s.heap l items)
    (h : ∀ h', IsEnum h' (s.heap.objs.size + 1) s.heap.objs.size 0 .none → h'.IsTupleIter s.heap.objs.size l 0 → h'.objs.size = s.heap.objs.size + 2 → (∀ b o, s.heap.get? b = some o → h'.get? b = some o) → Q (.ref (s.heap.objs.size + 1)) { s with heap := h' }) :
    wpAny (model prog w) A (call (.type "enumerate") [.ref l]) Q E s := by
  obtain ⟨⟨c, dct, dt, sl⟩, hl, hc, n, hd⟩ := hL
  obtain rfl : c = .type "tuple" := hc
  obtain rfl : dt = .seq items n := hd
  refine callType_new F.called_enumerate (by decide) (F.typeCall_enumerate_1 _) (F.newCall_enumerate_1 _) (fun obj => F.args_object_init_2 obj _) F.entry_enumerate_new (meets_enum_newT l items n dct sl) ⟨hl, ?_⟩
  generalize hI : ({ cls := .type "tuple_iterator", data := .fields #[.ref l, .int 0 0] } : Obj) = oI
  have hti := tupIter_of (h := s.heap) hI.symm
  have hz : (s.heap.push oI).objs.size = s.heap.objs.size + 1 := by unfold Heap.push; simp
  show _ ∧ _
  rw [hz]
  have he : IsEnum ((s.heap.push oI).push { cls := .type "enumerate", data := .fields #[.none, .bool false, .ref s.heap.objs.size, rawInt 0, .none, .none] }) (s.heap.objs.size + 1) s.heap.objs.size 0 .none := by
    have q := Heap.get?_push_size (s.heap.push oI) (o := { cls := .type "enumerate", data := .fields #[.none, .bool false, .ref s.heap.objs.size, rawInt 0, .none, .none] }) rfl
    rw [hz] at q
    exact q
  exact ⟨⟨_, he, rfl⟩, h _ he (hti.at fun o q => Heap.get?_push_of_some _ q) (by unfold Heap.push; simp) fun b o x => Heap.get?_push_of_some _ (Heap.get?_push_of_some _ x)⟩
end
section
variable {X : Cx}
def IteT (K : PySem.W.Frag) (a : Addr) : It :=
  ⟨fun i H => ∃ xs x, SqT K H a xs ∧ xs[i]? = some x, fun i H x H' => ∃ y t, (∀ xs, SqT K H a xs → xs[i]? = some y) ∧ x = .ref t ∧ H t = none ∧ H' = upd H t (.tup [.int i, y]), fun i H => ∃ xs, SqT K H a xs ∧ xs.length = i⟩
theorem turn_enumT {P : Program} {w : World} {K : PySem.W.Frag} {elts : List Expr} {x1 : Nat} {pos : Pos} (a it e : Addr) (hne : e ≠ it) (hae : a ≠ e) (hai : a ≠ it) : Turn P w K (.Tuple elts x1 pos) (IteT K a) [e, it] e (fun i h => (∃ old, IsEnum h e it i old) ∧ h.IsTupleIter it a i) where
  mem := by simp
  obj := fun i h st b hb => by
    obtain ⟨⟨old, s1⟩, o, s2, c, d⟩ := st
    rcases List.mem_cons.mp hb with z | z
    · subst z
      exact ⟨_, s1, fun v z => by cases z⟩
    · have e := List.mem_singleton.mp z
      subst e
      exact ⟨o, s2, fun v z => by rw [d] at z; cases z⟩
  keep := fun i h h' st k => by
    obtain ⟨⟨old, s1⟩, s2⟩ := st
    exact ⟨⟨old, k e (by simp) _ s1⟩, s2.at fun o q => k it (by simp) o q⟩
  item := by
    intro X hP hw hK hc i pins s σ H E I hf st hg
    subst hP hw hK
    obtain ⟨xs, x, hq, hx⟩ := hg
    obtain ⟨its, rv, p, hz⟩ := I.tuple hq
    obtain ⟨u, hu, ru⟩ := rv.get hx
    have hil : i < its.length := (List.getElem?_eq_some_iff.mp hu).1
    obtain ⟨⟨old, s1⟩, s2⟩ := st
    refine wpAny_pyNext_enum_itemD (draws_tuple (prog := X.prog) (w := X.w) (A := X.A.in1) (I.ok.hd hc) it a hai its.toArray) s1 ⟨s2, p⟩ (by simpa using hil) hne (by simp only [List.mem_cons, List.not_mem_nil, or_false, not_or]; exact ⟨hne, Ne.symm hae⟩) fun u' h' tk hu' so si ht hsz kk => ?_
    have eu : u' = u := by
      have : its[i]? = some u' := by simpa using hu'
      rw [hu] at this
      exact (Option.some.inj this).symm
    subst eu
    have lt : ∀ b o, s.heap.get? b = some o → b ≠ s.heap.objs.size := fun b o q => Nat.ne_of_lt (Heap.lt_size q)
    have le : e ≠ s.heap.objs.size := lt _ _ s1
    have li : it ≠ s.heap.objs.size := by obtain ⟨o, q, _⟩ := s2; exact lt _ _ q
    have hn : H s.heap.objs.size = none := I.hok.fresh (Nat.le_refl _)
    have I0 : Inv X pins σ (upd H s.heap.objs.size (.tup [.int i, x])) { s with heap := s.heap.push { cls := .type "tuple", data := .seq #[.int i tk, u'] }, toks := s.toks } :=
      I.laid (t' := s.toks) (fun b o q => Heap.get?_push_of_some _ q) (Nat.le_refl _) ⟨by show 2 ≤ sizeLine; decide, [.int i tk, u'], .cons ⟨_, rfl⟩ (.cons ru .nil), ⟨_, Heap.get?_push_size _ rfl, rfl, _, rfl⟩⟩
    have hf' : ∀ b ∈ [e, it], FpOk X pins (upd H s.heap.objs.size (.tup [.int i, x])) b := fun b hb => by
      have q := hf b hb
      refine ⟨?_, q.2⟩
      have hb' : b ≠ s.heap.objs.size := by
        rcases List.mem_cons.mp hb with z | z
        · rw [z]; exact le
        · rw [List.mem_singleton.mp z]; exact li
      rw [upd_ne hb']
      exact q.1
    have I1 : Inv X pins σ (upd H s.heap.objs.size (.tup [.int i, x])) { s with heap := h', toks := tk + 1 } :=
      Inv.turnedL (s := { s with heap := s.heap.push { cls := .type "tuple", data := .seq #[.int i tk, u'] }, toks := s.toks }) I0 (fp := [e, it]) (t' := tk + 1) (fun b o hb q => by
        rcases get?_push_cases q rfl with q | ⟨rfl, rfl⟩
        · exact kk b o (fun z => hb (by simp [z])) (fun z => hb (by simp [z])) q
        · exact ht) hf'
    refine ⟨_, rfl, wpAny_letOwnedTupleGo_enum (s := { s with heap := h', toks := tk + 1 }) so fun h2 se sb => ?_⟩
    have I2 : Inv X pins σ (upd H s.heap.objs.size (.tup [.int i, x])) { s with heap := h2, toks := tk + 1 } :=
      Inv.turnedL (s := { s with heap := h', toks := tk + 1 }) I1 (fp := [e, it]) (t' := tk + 1) (fun b o hb q => (sb.2 b (fun z => hb (by simp [z]))).trans q) hf'
    refine ⟨.ref s.heap.objs.size, _, I2, rfl, ⟨x, _, fun ys hy => by rw [I.tuple_inj hy hq]; exact hx, rfl, hn, rfl⟩, ⟨⟨_, se⟩, si.1.at fun o q => (sb.2 it (Ne.symm hne)).trans q⟩, fun b hb => (hf' b hb).1⟩
  done := by
    intro X hP hw hK hc i pins s σ H E I hf st hg
    subst hP hw hK
    obtain ⟨xs, hq, hx⟩ := hg
    obtain ⟨its, rv, p, hz⟩ := I.tuple hq
    obtain ⟨⟨old, s1⟩, s2⟩ := st
    have hl := rv.length
    have hii : i = its.toArray.size := by rw [List.size_toArray]; omega
    refine wpAny_pyNext_enum_endD (draws_tuple (prog := X.prog) (w := X.w) (A := X.A.in1) (I.ok.hd hc) it a hai its.toArray) s1 ⟨by rw [← hii]; exact s2, p⟩ fun h' eb => ⟨rfl, I.turnedL (fp := [e, it]) (t' := s.toks) (fun b o hb q => eb b o (fun z => hb (by simp [z])) q) hf⟩
  self := fun _ _ _ _ _ st h => by
    obtain ⟨⟨old, s1⟩, s2⟩ := st
    exact wpAny_pyIter_enum s1 h
def iEnumT (K : PySem.W.Frag) (ta : TA) : TI := fun σ H R => ta σ H fun vs H1 => ∃ a, vs = [.ref a] ∧ (∃ xs, SqT K H1 a xs) ∧ R (IteT K a) H1
theorem pi_enumT {elts : List Expr} {x1 : Nat} {tpos : Pos} {a : Expr} {ta : TA} {p pos : Pos} (hg : Gl X "enumerate") (hm : X.mg "enumerate" = none) (ha : PA X [a] ta) (hs : starEach [a] X.env = [(false, eval a X.env)] := by rfl) :
    PI X (.Tuple elts x1 tpos) (.Call (.Name "enumerate" p) [a] [] pos) (iEnumT X.K ta) := by
  intro pins s σ H R I h
  refine Call_ (ld_blt I hg hm PyProof.Rows.boot_enumerate (PyProof.Rows.callWith_type1 (thn (ha pos pins s σ H _ I h) fun us s1 ⟨vs, H1, I1, r1, q1⟩ => ?_) hs rfl))
  obtain ⟨l, e, ⟨xs, hq⟩, q⟩ := q1
  subst e
  cases r1 with
  | cons r rr =>
    cases rr
    cases r
    obtain ⟨its, rv, pl, hz⟩ := I1.tuple hq
    have hll := pl.lt
    refine call_enumerate_tup pl fun h' se si hsz kk => ?_
    refine wpAny_pyIter_enum (s := { s1 with heap := h' }) se ?_
    have I2 : Inv X pins σ H1 { s1 with heap := h' } := I1.kept (t' := s1.toks) kk
    refine ⟨_, [s1.heap.objs.size + 1, s1.heap.objs.size], _, _, H1, rfl, I2, turn_enumT l _ _ (Nat.succ_ne_self _) (Nat.ne_of_lt (Nat.lt_succ_of_lt hll)) (Nat.ne_of_lt hll), ⟨⟨_, se⟩, si⟩, fun b hb => ?_, q⟩
    rcases List.mem_cons.mp hb with z | z
    · subst z
      exact I1.fpOk (Nat.le_succ _) (I1.hok.fresh (Nat.le_succ _))
    · rw [List.mem_singleton.mp z]
      exact I1.fpOk (Nat.le_refl _) (I1.hok.fresh (Nat.le_refl _))
end
theorem for_enumT {K : PySem.W.Frag} {a : Addr} {xs : List V} {g : TG} {tb : TS} {D : Ends} {σ : St} {H : Hp} (Pv : Nat → St → Hp → Prop) (h0 : Pv 0 σ H) (hl : ∀ i σ H, i ≤ xs.length → Pv i σ H → SqT K H a xs)
    (hs : ∀ i x σ H t, xs[i]? = some x → H t = none → Pv i σ H → g (.ref t) σ (upd H t (.tup [.int i, x])) fun σ2 H2 => tb { D with nx := Pv (i + 1), ct := Pv (i + 1), bk := D.nx } σ2 H2) (hd : ∀ σ H, Pv xs.length σ H → D.nx σ H) :
    ∃ W : Nat → Nat → St → Hp → Prop, (∃ m, W 0 m σ H) ∧ ∀ i m σ H, W i m σ H →
      ((IteT K a).stop i H ∧ D.nx σ H) ∨ ((IteT K a).go i H ∧ ∃ N : St → Hp → Prop, (∀ σ' H', N σ' H' → ∃ m', m' < m ∧ W (i + 1) m' σ' H') ∧ ∀ x H', (IteT K a).yld i H x H' → g x σ H' fun σ2 H2 => tb { D with nx := N, ct := N, bk := D.nx } σ2 H2) := by
  refine ⟨fun i m σ H => m = xs.length - i ∧ i ≤ xs.length ∧ Pv i σ H, ⟨xs.length, by simp, Nat.zero_le _, h0⟩, ?_⟩
  rintro i m σ H ⟨rfl, hi, p⟩
  have q := hl i σ H hi p
  by_cases hlt : i < xs.length
  · refine .inr ⟨⟨xs, xs[i], q, by simp [hlt]⟩, Pv (i + 1), fun σ' H' p' => ⟨xs.length - (i + 1), by omega, rfl, hlt, p'⟩, fun x H' y => ?_⟩
    obtain ⟨y', t, h1, rfl, h3, rfl⟩ := y
    exact hs i y' σ H t (h1 xs q) h3 p
  · have e : i = xs.length := by omega
    subst e
    exact .inl ⟨⟨xs, q, rfl⟩, hd σ H p⟩
end L2
namespace L2
open PySem PySem.Spec PyProof.Rows
def ni (l : List Nat) : List Int := l.map fun (x : Nat) => (x : Int)
theorem ni_len (l : List Nat) : (ni l).length = l.length := by unfold ni; simp
theorem ni_get {l : List Nat} {i : Nat} (h : i < l.length) : ((ni l).map V.int)[i]? = some (.int (l.getD i 0 : Nat)) := by
  unfold ni
  rw [List.map_map, List.getElem?_map, List.getElem?_eq_getElem h, List.getD_eq_getElem?_getD, List.getElem?_eq_getElem h]
  rfl
theorem ni_app (l m : List Nat) : ni (l ++ m) = ni l ++ ni m := by unfold ni; rw [List.map_append]
structure Tw (n : Nat) (W : List (List Int)) (T : Int) (Z : List (List Int)) : Prop where
  w : Ws41 n W
  z : Tb31 n T Z
theorem Tw.ent {n : Nat} {W : List (List Int)} {T : Int} {Z : List (List Int)} (h : Tw n W T Z) {p g : Nat} (hp : p < n) (hg : g < n) : 0 ≤ HM.ent Z p g ∧ HM.ent Z p g ≤ T := by
  have hpZ : p < Z.length := by rw [h.z.reg.len]; exact hp
  have hl := h.z.reg.cols _ (List.getElem_mem hpZ)
  refine reg_bd h.z.reg (List.getElem_mem hpZ) _ ?_
  unfold HM.ent
  rw [HM.getD_lt hpZ, HM.getD_lt (by omega)]
  exact List.getElem_mem _
theorem share_at {K : PySem.W.Frag} {H : Hp} {T : Int} {us : List V} {Z : List (List Int)} {n : Nat} (hZ : Paired (RwFT K H T) us Z) (reg : HM.Reg n Z T) {p g : Nat} (hp : p < n) (hg : g < n) :
    ∃ ra gs fa, us[p]? = some (.ref ra) ∧ SqT K H ra gs ∧ gs[g]? = some (.ref fa) ∧ SqT K H fa [.int (FQ.red (HM.ent Z p g) T).1, .int (FQ.red (HM.ent Z p g) T).2] := by
  have hpZ : p < Z.length := by rw [reg.len]; exact hp
  have hl := reg.cols _ (List.getElem_mem hpZ)
  obtain ⟨u, hu, ra, gs, rfl, h1, h2⟩ := Paired.get hZ (List.getElem?_eq_getElem hpZ)
  have e : (fr T Z[p])[g]? = some (FQ.red (HM.ent Z p g) T) := by
    unfold fr HM.ent
    rw [List.getElem?_map, List.getElem?_eq_getElem (by omega), HM.getD_lt hpZ, HM.getD_lt (by omega)]
    rfl
  obtain ⟨v, hv, fa, rfl, h3⟩ := Paired.get h2 e
  exact ⟨ra, gs, fa, hu, h1, hv, h3⟩
def spChangers (P : Program) (w : World) (K : PySem.W.Frag) : Sp := fun vs H Q _ => ∃ (a b f : Addr) (ws us : List V) (W Z : List (List Int)) (T c : Int) (n : Nat), vs = [.ref a, .ref b, .ref f] ∧ SqL K H a ws ∧ Paired (IsR K H) ws W ∧ SqL K H b us ∧ Paired (RwFT K H T) us Z ∧ Tw n W T Z ∧
  SqT K H f [.int (FQ.red c T).1, .int (FQ.red c T).2] ∧ 0 ≤ c ∧ c ≤ T ∧ ∀ d C H', Same H H' → DictI keyR P w K H' d C → ChOk n W Z c C → Q (.ref d) H'
def spWayBack (P : Program) (w : World) (K : PySem.W.Frag) : Sp := fun vs H Q _ => ∃ (d : Addr) (C : List (List Int × Int)) (s n : Nat), vs = [.ref d, .int s, .int n] ∧ DictI keyR P w K H d C ∧ s < n ∧ n ≤ 6 ∧
  ((∀ v, RG.Closed n (Edge C) v → v.getD 0 0 = s → False) → ∀ H', Same H H' → Q .non H') ∧
  ∀ wy p H', Same H H' → H p = none → H' p = some (.lst ((ni wy).map V.int)) → RG.Closed n (Edge C) wy → wy.getD 0 0 = s → (∀ v, RG.Closed n (Edge C) v → v.getD 0 0 = s → wy.length ≤ v.length) → Q (.ref p) H'
structure ReachOk (n s : Nat) (R : List Int) (L : List (List Nat)) : Prop where
  nd : R.Nodup
  bd : ∀ x ∈ R, 0 ≤ x ∧ x < (n : Int)
  mem : ∀ g : Nat, (g : Int) ∈ R ↔ g ≠ s ∧ ∃ u ∈ L, RG.lastD u = g
theorem ReachOk.start (n s : Nat) : ReachOk n s [] [[s]] := ⟨List.nodup_nil, (fun _ h => nomatch h), fun g => ⟨fun h => (nomatch h), fun ⟨h1, u, h2, h3⟩ => by
  rw [List.mem_singleton.mp h2] at h3
  exact absurd h3.symm h1⟩⟩
theorem ReachOk.len {n s : Nat} {R : List Int} {L : List (List Nat)} (h : ReachOk n s R L) : R.length ≤ n := EM.nodup_len n h.nd h.bd
theorem ReachOk.add {n s : Nat} {R : List Int} {L L2 : List (List Nat)} {w : List Nat} {i : Nat} (h : ReachOk n s R L) (hi : i < n) (hs : i ≠ s) (hn : (i : Int) ∉ R) (hL : ∀ u, u ∈ L2 ↔ u ∈ L ∨ u = w ++ [i]) : ReachOk n s (R ++ [(i : Int)]) L2 := by
  refine ⟨List.nodup_append.mpr ⟨h.nd, by simp, fun x hx y hy z => hn (by rw [List.mem_singleton.mp hy] at z; rw [← z]; exact hx)⟩, fun x hx => ?_, fun g => ?_⟩
  · rcases List.mem_append.mp hx with z | z
    · exact h.bd x z
    · rw [List.mem_singleton.mp z]; omega
  · constructor
    · intro hg
      rcases List.mem_append.mp hg with z | z
      · obtain ⟨h1, u, h2, h3⟩ := (h.mem g).mp z
        exact ⟨h1, u, (hL u).mpr (.inl h2), h3⟩
      · have e : g = i := by have := List.mem_singleton.mp z; omega
        subst e
        exact ⟨hs, _, (hL _).mpr (.inr rfl), RG.lastD_snoc w g⟩
    · rintro ⟨h1, u, h2, h3⟩
      rcases (hL u).mp h2 with z | z
      · exact List.mem_append_left _ ((h.mem g).mpr ⟨h1, u, z, h3⟩)
      · rw [z, RG.lastD_snoc] at h3
        subst h3
        exact List.mem_append_right _ (List.mem_singleton.mpr rfl)
theorem atI_lastD {w : List Nat} (h : w ≠ []) : atI ((ni w).map V.int) (-1) = some (.int (RG.lastD w : Nat)) := by
  have hl := RG.len_pos h
  have e : ((ni w).map V.int)[w.length - 1]? = some (.int (RG.lastD w : Nat)) := ni_get (by omega)
  have hlen : ((ni w).map V.int).length = w.length := by rw [List.length_map, ni_len]
  unfold atI ixN
  rw [hlen, if_neg (by decide), if_pos (by omega), show (-1 + (w.length : Int)).toNat = w.length - 1 by omega]
  exact e
def IsTri (K : PySem.W.Frag) (H : Hp) (v : V) (x : Tri) : Prop := ∃ a, v = .ref a ∧ SqT K H a [.int x.1, .int x.2.1, .int x.2.2]
theorem IsTri.mono {K : PySem.W.Frag} {H H' : Hp} {v : V} {x : Tri} (e : Same H H') (h : IsTri K H v x) : IsTri K H' v x := by
  obtain ⟨a, rfl, q⟩ := h
  exact ⟨a, rfl, e.tup q⟩
def spRingOf (P : Program) (w : World) (K : PySem.W.Frag) : Sp := fun vs H Q _ => ∃ (d : Addr) (C : List (List Int × Int)) (W Z : List (List Int)) (c : Int) (n : Nat), vs = [.ref d, .int n] ∧ DictI keyR P w K H d C ∧ ChOk n W Z c C ∧ 1 ≤ n ∧ n ≤ 6 ∧
  ((∀ v, ¬ RG.Closed n (Edge C) v) → ∀ H', Same H H' → Q .non H') ∧
  ∀ R p ls H', Same H H' → H p = none → H' p = some (.lst ls) → Paired (IsTri K H') ls R → RingOk n W Z c R → Q (.ref p) H'
structure WayOk (n : Nat) (E : Nat → Nat → Prop) (k : Nat) (wy : List Nat) : Prop where
  cl : RG.Closed n E wy
  hd : wy.getD 0 0 = k
  mn : ∀ v, RG.Closed n E v → v.getD 0 0 = k → wy.length ≤ v.length
def WayV (n : Nat) (E : Nat → Nat → Prop) (H : Hp) (k : Nat) (v : V) : Prop := (v = .non ∧ ∀ u, RG.Closed n E u → u.getD 0 0 = k → False) ∨ ∃ wy p, v = .ref p ∧ H p = some (.lst ((ni wy).map V.int)) ∧ WayOk n E k wy
theorem WayV.mono {n : Nat} {E : Nat → Nat → Prop} {H H' : Hp} {k : Nat} {v : V} (e : Same H H') (h : WayV n E H k v) : WayV n E H' k v := by
  rcases h with h | ⟨wy, p, h1, h2, h3⟩
  · exact .inl h
  · exact .inr ⟨wy, p, h1, e _ _ h2, h3⟩
def gifts (w : List Nat) : List Nat := w.drop 1 ++ w.take 1
theorem gifts_len {w : List Nat} (h : w ≠ []) : (gifts w).length = w.length := by
  have := RG.len_pos h
  unfold gifts
  rw [List.length_append, List.length_drop, List.length_take]
  omega
theorem gifts_at {w : List Nat} (h : w ≠ []) {k : Nat} (hk : k < w.length) : (gifts w).getD k 0 = RG.nx w k := by
  have hl := RG.len_pos h
  unfold gifts
  by_cases c : k + 1 < w.length
  · rw [RG.nx_lt c, RG.getD_app_l (by rw [List.length_drop]; omega), RG.getD_drop, Nat.add_comm]
  · rw [RG.nx_end c, RG.getD_app_r (by rw [List.length_drop]; omega), List.length_drop, show k - (w.length - 1) = 0 by omega, RG.getD_take (by omega)]
theorem ni_cut1 (w : List Nat) : cutV ((ni w).map V.int) (some 1) none = (ni (w.drop 1)).map V.int := by
  by_cases h : 1 ≤ w.length
  · rw [show (1 : Int) = ((1 : Nat) : Int) from rfl, cut_from (by rw [List.length_map, ni_len]; exact h)]
    unfold ni
    rw [List.map_drop, List.map_drop]
  · have : w = [] := List.eq_nil_of_length_eq_zero (by omega)
    subst this
    rfl
theorem ni_cut2 {w : List Nat} (h : 1 ≤ w.length) : cutV ((ni w).map V.int) none (some 1) = (ni (w.take 1)).map V.int := by
  rw [show (1 : Int) = ((1 : Nat) : Int) from rfl, cut_to (by rw [List.length_map, ni_len]; exact h)]
  unfold ni
  rw [List.map_take, List.map_take]
theorem Paired.mapR {α β γ : Type} {F : α → β → Prop} {G : α → γ → Prop} {g : β → γ} (h : ∀ x y, F x y → G x (g y)) : ∀ {xs : List α} {ys : List β}, Paired F xs ys → Paired G xs (ys.map g)
  | _, _, .nil => .nil
  | _, _, .cons a t => .cons (h _ _ a) (Paired.mapR h t)
theorem RingOk.len {n : Nat} {W Z : List (List Int)} {c : Int} {R : List Tri} (h : RingOk n W Z c R) : R.length ≤ n := by
  have h2 := EM.nodup_len n (l := ni (R.map Prod.fst)) (List.pairwise_map.mpr (h.once.imp fun hab z => hab (by omega))) (fun x hx => by
    unfold ni at hx
    obtain ⟨y, hy, rfl⟩ := List.mem_map.mp hx
    obtain ⟨t, ht, rfl⟩ := List.mem_map.mp hy
    have := (h.can t ht).hp
    omega)
  rw [ni_len, List.length_map] at h2
  exact h2
theorem RingOk.ne {n : Nat} {W Z : List (List Int)} {c : Int} {R : List Tri} (h : RingOk n W Z c R) : R ≠ [] := fun z => by have := h.two; rw [z] at this; simp at this
def stepR (Z : List (List Int)) (R : List Tri) : Int := HM.minL (R.map fun x => HM.ent Z x.1 x.2.1)
theorem step_gt {n : Nat} {W Z : List (List Int)} {c : Int} {R : List Tri} (h : RingOk n W Z c R) : c < stepR Z R ∧ (∀ x ∈ R, stepR Z R ≤ HM.ent Z x.1 x.2.1) ∧ ∃ x ∈ R, stepR Z R = HM.ent Z x.1 x.2.1 := by
  have hne : (R.map fun x => HM.ent Z x.1 x.2.1) ≠ [] := fun z => h.ne (List.map_eq_nil_iff.mp z)
  obtain ⟨m1, m2⟩ := HM.minL_ok hne
  obtain ⟨x, hx, e⟩ := List.mem_map.mp m1
  have e2 : stepR Z R = HM.ent Z x.1 x.2.1 := e.symm
  exact ⟨by rw [e2]; exact (h.can x hx).sh, fun y hy => m2 _ (List.mem_map.mpr ⟨y, hy, rfl⟩), x, hx, e2⟩
def spStepOf (K : PySem.W.Frag) : Sp := fun vs H Q _ => ∃ (b r : Addr) (us ls : List V) (W Z : List (List Int)) (T c : Int) (n : Nat) (R : List Tri), vs = [.ref b, .ref r] ∧ SqL K H b us ∧ Paired (RwFT K H T) us Z ∧ Tw n W T Z ∧ SqL K H r ls ∧ Paired (IsTri K H) ls R ∧ RingOk n W Z c R ∧
  ∀ v H', Same H H' → IsF K H' v (FQ.red (stepR Z R) T) → Q v H'
def spWidest (P : Program) (w : World) (K : PySem.W.Frag) : Sp := fun vs H Q _ => ∃ (a b : Addr) (ws us : List V) (W Z : List (List Int)) (T : Int) (n : Nat), vs = [.ref a, .ref b] ∧ SqL K H a ws ∧ Paired (IsR K H) ws W ∧ SqL K H b us ∧ Paired (RwFT K H T) us Z ∧ Tw n W T Z ∧
  ((∀ v, ¬ RG.Closed n (Edge0 n W Z) v) → ∀ H', Same H H' → Q .non H') ∧ ∀ R p ls H', Same H H' → H p = none → H' p = some (.lst ls) → Paired (IsTri K H') ls R → RingOk n W Z 0 R → Q (.ref p) H'
def RingV (K : PySem.W.Frag) (H0 H : Hp) (n : Nat) (W Z : List (List Int)) (c : Int) (v : V) : Prop := ∃ R p ls, v = .ref p ∧ H0 p = none ∧ H p = some (.lst ls) ∧ Paired (IsTri K H) ls R ∧ RingOk n W Z c R
theorem RingV.mono {K : PySem.W.Frag} {H0 H H' : Hp} {n : Nat} {W Z : List (List Int)} {c c' : Int} {v : V} (h : RingV K H0 H n W Z c v) (e : Same H H') (hc : c' ≤ c) : RingV K H0 H' n W Z c' v := by
  obtain ⟨R, p, ls, h1, h2, h3, h4, h5⟩ := h
  exact ⟨R, p, ls, h1, h2, e _ _ h3, Paired.mapP h4 fun _ _ q => q.mono e, h5.mono hc⟩
def spRowB (K : PySem.W.Frag) : Sp := fun vs H Q _ => ∃ (r w : Addr) (gs : List V) (m : List Int) (g t : Nat) (T x : Int), vs = [.ref r, .int g, .int t, .ref w] ∧ SqT K H r gs ∧ Paired (IsF K H) gs (fr T m) ∧ IsF K H (.ref w) (FQ.red x T) ∧ (0 < T ∧ T < 2 ^ 80) ∧ g < m.length ∧ t < m.length ∧ g ≠ t ∧ m.length ≤ 6 ∧ (∀ y ∈ m, 0 ≤ y ∧ y ≤ T) ∧ (0 ≤ x ∧ x ≤ T) ∧
  ∀ v H', Same H H' → RwFT K H' T v (moveR m g t x) → Q v H'
def spTabB (K : PySem.W.Frag) : Sp := fun vs H Q _ => ∃ (b r : Addr) (us ls : List V) (W Z : List (List Int)) (T : Int) (n : Nat) (R : List Tri), vs = [.ref b, .ref r] ∧ SqL K H b us ∧ Paired (RwFT K H T) us Z ∧ Tw n W T Z ∧ SqL K H r ls ∧ Paired (IsTri K H) ls R ∧ RingOk n W Z 0 R ∧
  ∀ p us' H', Same H H' → H p = none → H' p = some (.lst us') → Paired (RwFT K H' T) us' (behind Z (stepR Z R) R R.length) → Q (.ref p) H'
def spKept (P : Program) (w : World) (K : PySem.W.Frag) : Sp := fun vs H Q _ => ∃ (d l : Addr) (C : List (List Int × Int)) (ts : List Nat) (g : Nat), vs = [.int g, .ref l, .ref d] ∧ DictI keyR P w K H d C ∧ SqL K H l ((ni ts).map V.int) ∧ ts.length ≤ 60 ∧
  ∀ H', Same H H' → Q (.bl (!(ts.any fun t => (look C [(g : Int), (t : Int)]).isSome))) H'
def spFirstK (P : Program) (w : World) (K : PySem.W.Frag) : Sp := fun vs H Q _ => ∃ (d l : Addr) (C : List (List Int × Int)) (ts : List Nat), vs = [.ref l, .ref d] ∧ DictI keyR P w K H d C ∧ SqL K H l ((ni ts).map V.int) ∧ ts.length ≤ 60 ∧ (∃ g ∈ ts, ∀ t ∈ ts, ¬ Edge C g t) ∧
  ∀ (g : Nat) H', g ∈ ts → (∀ t ∈ ts, ¬ Edge C g t) → Same H H' → Q (.int g) H'
def spOrderOf (P : Program) (w : World) (K : PySem.W.Frag) : Sp := fun vs H Q _ => ∃ (d : Addr) (C : List (List Int × Int)) (n : Nat), vs = [.ref d, .int n] ∧ DictI keyR P w K H d C ∧ n ≤ 6 ∧ (∀ v, ¬ RG.Closed n (Edge C) v) ∧
  ∀ os p H', Same H H' → H p = none → H' p = some (.lst ((ni os).map V.int)) → RG.Ord n (Edge C) os [] → Q (.ref p) H'
def WI (K : PySem.W.Frag) (H0 H : Hp) (n : Nat) (W Z : List (List Int)) (T : Int) (m : Nat) (v2 v3 : V) : Prop :=
  (v3 = .non ∧ m = 0 ∧ ((v2 = .non ∧ ∀ v, ¬ RG.Closed n (Edge0 n W Z) v) ∨ RingV K H0 H n W Z 0 v2)) ∨ ∃ c, 0 ≤ c ∧ c ≤ T ∧ RingV K H0 H n W Z c v3 ∧ m = (T - c).toNat + 1
theorem RwFT.over {K : PySem.W.Frag} {H : Hp} {T : Int} {v : V} {p : Addr} {ys zs : List V} {m : List Int} (h : RwFT K H T v m) (hp : H p = some (.lst ys)) : RwFT K (upd H p (.lst zs)) T v m := by
  obtain ⟨a, gs, rfl, h1, h2⟩ := h
  exact ⟨a, gs, rfl, tup_over h1 hp, Paired.mapP h2 fun _ _ h => h.over hp⟩
theorem fr_move (T : Int) (m : List Int) (g t : Nat) (x : Int) : fr T (moveR m g t x) = ((fr T m).set g (FQ.red (m.getD g 0 - x) T)).set t (FQ.red (m.getD t 0 + x) T) := by
  unfold fr moveR
  rw [List.map_set, List.map_set]
theorem ni_erase (ts : List Nat) (g : Nat) : (ni ts).erase (g : Int) = ni (ts.erase g) := by
  unfold ni
  induction ts with
  | nil => rfl
  | cons a l ih =>
    rw [List.map_cons]
    by_cases c : a = g
    · subst c; simp
    · rw [List.erase_cons_tail (by simpa using (show (a : Int) ≠ g by omega)), ih, List.erase_cons_tail (by simpa using c), List.map_cons]
theorem mem_ni {ts : List Nat} {g : Nat} : (g : Int) ∈ ni ts ↔ g ∈ ts := by
  unfold ni
  rw [List.mem_map]
  exact ⟨fun ⟨x, h, e⟩ => by have : x = g := by omega
                             rw [← this]; exact h, fun h => ⟨g, h, rfl⟩⟩
theorem Ord.mono {n : Nat} {E E' : Nat → Nat → Prop} {os ts : List Nat} (h : RG.Ord n E os ts) (hE : ∀ g t, E' g t → E g t) : RG.Ord n E' os ts := ⟨h.pm, fun i hi t ht he => h.ed i hi t ht (hE _ _ he)⟩
structure RO0 (K : PySem.W.Frag) (H0 H : Hp) (n : Nat) (W Z : List (List Int)) (v : V) (o : Addr) (os : List Nat) : Prop where
  at' : ∃ a, v = .ref a ∧ SqT K H a [.bl true, .ref o]
  fr : H0 o = none
  ls : H o = some (.lst ((ni os).map V.int))
  ok : RG.Ord n (Edge0 n W Z) os []
structure RO1 (K : PySem.W.Frag) (H0 H : Hp) (n : Nat) (W Z : List (List Int)) (T : Int) (v : V) (pr r t : Addr) (R : List Tri) (ls us : List V) : Prop where
  at' : ∃ a, v = .ref a ∧ SqT K H a [.bl false, .ref pr]
  pr : SqT K H pr [.ref r, .ref t]
  fr : H0 r = none
  ft : H0 t = none
  ne : r ≠ t
  lr : H r = some (.lst ls)
  tr : Paired (IsTri K H) ls R
  ok : RingOk n W Z 0 R
  lt : H t = some (.lst us)
  rw' : Paired (RwFT K H T) us (behind Z (stepR Z R) R R.length)
def spRO (K : PySem.W.Frag) : Sp := fun vs H Q _ => ∃ (a b : Addr) (ws us : List V) (W Z : List (List Int)) (T : Int) (n : Nat), vs = [.ref a, .ref b] ∧ SqL K H a ws ∧ Paired (IsR K H) ws W ∧ SqL K H b us ∧ Paired (RwFT K H T) us Z ∧ Tw n W T Z ∧
  ((∀ v, ¬ RG.Closed n (Edge0 n W Z) v) → ∀ v o os H', Same H H' → RO0 K H H' n W Z v o os → Q v H') ∧
  ∀ v pr r t R ls us' H', Same H H' → RO1 K H H' n W Z T v pr r t R ls us' → Q v H'
theorem red_pos_iff {z T : Int} (hT : 0 < T) : 0 < (FQ.red z T).1 ↔ 0 < z := by
  have hT0 : T ≠ 0 := by omega
  have low := FQ.red_low (t := z) hT0
  have h5 := FQ.red_worth (t := z) hT0
  constructor
  · intro y
    refine Classical.byContradiction fun x => ?_
    have h6 := Int.mul_pos y hT
    have h7 := Int.mul_le_mul_of_nonneg_right (show z ≤ 0 by omega) (Int.le_of_lt low.pos)
    rw [Int.zero_mul] at h7
    omega
  · intro y
    refine Classical.byContradiction fun x => ?_
    have h6 := Int.mul_pos y low.pos
    have h7 := Int.mul_le_mul_of_nonneg_right (show (FQ.red z T).1 ≤ 0 by omega) (Int.le_of_lt hT)
    rw [Int.zero_mul] at h7
    omega
theorem ni_idx (os : List Nat) (x : Nat) : (ni os).idxOf (x : Int) = os.idxOf x := by
  unfold ni
  induction os with
  | nil => rfl
  | cons a l ih =>
    rw [List.map_cons, List.idxOf_cons, List.idxOf_cons, ih]
    by_cases c : a = x
    · subst c; simp
    · have : (a : Int) ≠ x := by omega
      rw [show ((a : Int) == (x : Int)) = false from beq_false_of_ne this, show (a == x) = false from beq_false_of_ne c]
theorem ord_pm {n : Nat} {E : Nat → Nat → Prop} {os : List Nat} (h : RG.Ord n E os []) : LN.Pm n (ni os) := by
  have hp : os.Perm (List.range n) := by have := h.pm; rwa [List.append_nil] at this
  exact List.Perm.map (fun (x : Nat) => (x : Int)) hp
def spOrdH (K : PySem.W.Frag) : Sp := fun vs H Q _ => ∃ (a b o : Addr) (ws us : List V) (W Z : List (List Int)) (T : Int) (n : Nat) (os : List Nat), vs = [.ref a, .ref b, .ref o] ∧ SqL K H a ws ∧ Paired (IsRF K H) ws W ∧ SqL K H b us ∧ Paired (RwFT K H T) us Z ∧ Tw n W T Z ∧ H o = some (.lst ((ni os).map V.int)) ∧ RG.Ord n (Edge0 n W Z) os [] ∧
  ∀ H', Same H H' → Q (.bl true) H'
def spRingH (K : PySem.W.Frag) : Sp := fun vs H Q _ => ∃ (a b r : Addr) (ws us ls : List V) (W Z : List (List Int)) (T : Int) (n : Nat) (R : List Tri), vs = [.ref a, .ref b, .ref r] ∧ SqL K H a ws ∧ Paired (IsRF K H) ws W ∧ SqL K H b us ∧ Paired (RwFT K H T) us Z ∧ Tw n W T Z ∧ SqL K H r ls ∧ Paired (IsTri K H) ls R ∧ RingOk n W Z 0 R ∧
  ∀ H', Same H H' → Q (.bl true) H'
def spChgd22 (K : PySem.W.Frag) : Sp := fun vs H Q _ => ∃ (b r : Addr) (us ls : List V) (W Z : List (List Int)) (T : Int) (n : Nat) (R : List Tri), vs = [.ref b, .ref r] ∧ SqL K H b us ∧ Paired (RwFT K H T) us Z ∧ Tw n W T Z ∧ SqL K H r ls ∧ Paired (IsTri K H) ls R ∧ RingOk n W Z 0 R ∧
  ∀ p us' H', Same H H' → H' p = some (.lst us') → Paired (RwFT K H' T) us' (behind Z (stepR Z R) R R.length) → Q (.ref p) H'
theorem fAdd_neg {z s T : Int} (hT : T ≠ 0) : fAdd (FQ.red z T) (0 - (FQ.red s T).1, (FQ.red s T).2) = FQ.red (z - s) T := by
  rw [← fSub_red hT]
  unfold fAdd fSub
  show FQ.red ((FQ.red z T).1 * (FQ.red s T).2 + (0 - (FQ.red s T).1) * (FQ.red z T).2) _ = _
  congr 1
  rw [Int.zero_sub, Int.neg_mul]
  omega
def spRight22 (K : PySem.W.Frag) : Sp := fun vs H Q _ => ∃ (a b : Addr) (v : V) (ws us : List V) (W Z : List (List Int)) (T : Int) (n : Nat), vs = [.ref a, .ref b, v] ∧ SqL K H a ws ∧ Paired (IsRF K H) ws W ∧ SqL K H b us ∧ Paired (RwFT K H T) us Z ∧ Tw n W T Z ∧
  ((∃ H0 o os, RO0 K H0 H n W Z v o os) ∨ ∃ H0 pr r t R ls us', RO1 K H0 H n W Z T v pr r t R ls us') ∧ ∀ H', Same H H' → Q (.bl true) H'
theorem okD_handed (W Z : List (List Int)) (T : Int) : okD 4 (.list [.list (W.map fun m => .tuple (m.map PyData.int)), .list (Z.map fun m => .tuple (dFr T m))]) = true := by
  show [PyData.list (W.map fun m => PyData.tuple (m.map PyData.int)), PyData.list (Z.map fun m => PyData.tuple (dFr T m))].all (okD 3) = true
  rw [List.all_cons, List.all_cons, okD_irows 1 W, okD_frows T Z]
  rfl
end L2
namespace Nk22
open PySem PySem.Spec PyProof.Rows L2
def top (i : Nat) : Stmt := PySem.Challenge.pw_wishlots_k22_a_ring_or_an_order.main.body.getD i (.Pass ⟨0, 0, 0, 0⟩)
structure Md (K : PySem.W.Frag) (mg : Str → Option Value) (x : Xs) : Prop where
  f_is_whole : Def K mg "is_whole" (top 5)
  f_common_divisor : Def K mg "common_divisor" (top 6)
  f_fraction : Def K mg "fraction" (top 7)
  f_plus : Def K mg "plus" (top 8)
  f_minus : Def K mg "minus" (top 9)
  f_before : Def K mg "before" (top 10)
  f_least : Def K mg "least" (top 11)
  f_changers_of : Def K mg "changers_of" (top 13)
  f_way_back : Def K mg "way_back" (top 14)
  f_ring_of : Def K mg "ring_of" (top 15)
  f_step_of : Def K mg "step_of" (top 16)
  f_widest_ring : Def K mg "widest_ring" (top 17)
  f_row_behind : Def K mg "row_behind" (top 18)
  f_table_behind : Def K mg "table_behind" (top 19)
  f_is_kept : Def K mg "is_kept" (top 20)
  f_first_kept : Def K mg "first_kept" (top 21)
  f_order_of : Def K mg "order_of" (top 22)
  f_ring_or_order : Def K mg "ring_or_order" (top 23)
  f__law_cell_at : Def K mg "_law_cell_at" (top 25)
  f__law_mixed : Def K mg "_law_mixed" (top 26)
  f__law_divisor : Def K mg "_law_divisor" (top 27)
  f__law_lowest : Def K mg "_law_lowest" (top 28)
  f__law_plus : Def K mg "_law_plus" (top 29)
  f__law_less : Def K mg "_law_less" (top 30)
  f__law_whole : Def K mg "_law_whole" (top 31)
  f__law_order : Def K mg "_law_order" (top 33)
  f__law_wishes : Def K mg "_law_wishes" (top 34)
  f__law_deals : Def K mg "_law_deals" (top 35)
  f__law_table : Def K mg "_law_table" (top 36)
  f__law_order_holds : Def K mg "_law_order_holds" (top 37)
  f__law_ring_holds : Def K mg "_law_ring_holds" (top 38)
  f__law_changed : Def K mg "_law_changed" (top 39)
  f__law_same : Def K mg "_law_same" (top 40)
  f__law_right : Def K mg "_law_right" (top 41)
  f_law : Def K mg "law" (top 42)
  b_isinstance : mg "isinstance" = none
  b_int : mg "int" = none
  b_bool : mg "bool" = none
  b_str : mg "str" = none
  b_list : mg "list" = none
  b_tuple : mg "tuple" = none
  b_abs : mg "abs" = none
  b_len : mg "len" = none
  b_range : mg "range" = none
  b_sorted : mg "sorted" = none
  b_set : mg "set" = none
  b_enumerate : mg "enumerate" = none
  b_zip : mg "zip" = none
  b_any : mg "any" = none
  b_all : mg "all" = none
  b_min : mg "min" = none
  b_max : mg "max" = none
  c_NOTHING : GTup K mg "NOTHING" [.int 0, .int 1]
  x_WishError : XCls K mg "WishError" x.WishError
  x_NoFraction : XCls K mg "NoFraction" x.NoFraction
theorem sc_is_whole : FnScope ["value"] ["value"] (defScope (top 5)) := ⟨rfl, rfl, rfl, by decide +kernel, rfl, by decide +kernel, by decide +kernel⟩
set_option maxHeartbeats 4000000 in
theorem d_is_whole {P : Program} {w : World} {K : PySem.W.Frag} {mg : Str → Option Value} {base : Heap} {x : Xs} (M : Md K mg x) : Dn P w K mg base CX0 1 "is_whole" ["value"] (spWhole) := by
  have nd := (sc_is_whole).nd
  refine M.f_is_whole.ok sc_is_whole (fun vs H Q E h => ?_) (fun _ _ _ _ _ _ us hl => match us, hl with | [_], _ => rfl) (fun f cdv A outer s H vs Q E hr h => ?_)
  · obtain ⟨i, rfl, q⟩ := h
    rfl
  obtain ⟨i, rfl, q⟩ := h
  refine ⟨_, (pss_one (ps_ret (pe_and (pe_callB call_isT rfl M.b_isinstance Boot.«isinstance» (pa_cons (pv 0) (pa_cons (pe_ty rfl M.b_int Boot.«int») pa_nil))) (pe_one (pe_not (pe_callB call_isT rfl M.b_isinstance Boot.«isinstance» (pa_cons (pv 0) (pa_cons (pe_ty rfl M.b_bool Boot.«bool») pa_nil)))))))), ?_⟩
  refine ⟨_, rfl, .int i, "int", "int", rfl, by decide, rfl, _, rfl, ?_⟩
  refine iteT ⟨_, rfl, .int i, "bool", "int", rfl, by decide, rfl, _, rfl, q⟩
theorem sc_common_divisor : FnScope ["one", "two", "greater", "smaller", "rest"] ["one", "two"] (defScope (top 6)) := ⟨rfl, rfl, rfl, by decide +kernel, rfl, by decide +kernel, by decide +kernel⟩
set_option maxHeartbeats 4000000 in
theorem d_common_divisor {P : Program} {w : World} {K : PySem.W.Frag} {mg : Str → Option Value} {base : Heap} {x : Xs} (M : Md K mg x) : Dn P w K mg base CX0 1 "common_divisor" ["one", "two"] (spGcd) := by
  have nd := (sc_common_divisor).nd
  refine M.f_common_divisor.ok sc_common_divisor (fun vs H Q E h => ?_) (fun _ _ _ _ _ _ us hl => match us, hl with | [_, _], _ => rfl) (fun f cdv A outer s H vs Q E hr h => ?_)
  · obtain ⟨i, j, rfl, q⟩ := h
    rfl
  obtain ⟨i, j, rfl, q⟩ := h
  refine ⟨_, (pss_cons (ps_set (i := 2) nd rfl (Or.inl rfl) (pe_callB call_abs rfl M.b_abs Boot.«abs» (pa_cons (pv 0) pa_nil)))
      (pss_cons (ps_set (i := 3) nd rfl (Or.inl rfl) (pe_callB call_abs rfl M.b_abs Boot.«abs» (pa_cons (pv 1) pa_nil)))
      (pss_cons (ps_while PassesOwn.never (pt_cmpR op_ne (pv 3) pe_int (nomark _)) (pss_cons (ps_set (i := 4) nd rfl (Or.inl rfl) (pe_op op_mod (pv 2) (pv 3)))
      (pss_cons (ps_set (i := 2) nd rfl (Or.inl rfl) (pv 3))
      (pss_one (ps_set (i := 3) nd rfl (Or.inl rfl) (pv 4))))))
      (pss_one (ps_ret (pv 2)))))), ?_⟩
  refine ⟨_, rfl, i, rfl, _, rfl, j, rfl, ?_⟩
  refine while_of (fun m σ H' => H' = H ∧ ∃ (a b : Int) (r : Option V), σ = [some (.int i), some (.int j), some (.int a), some (.int b), r] ∧ 0 ≤ a ∧ 0 ≤ b ∧ Int.gcd a b = Int.gcd i j ∧ m = b.toNat)
    ⟨_, rfl, _, _, _, rfl, ?_, ?_, ?_, rfl⟩ (fun m σ H' hP => ?_) (fun σ H' Q1 Q2 hQ h => ?_)
  · split <;> omega
  · split <;> omega
  · split <;> split <;> simp
  · obtain ⟨rfl, a, b, r, rfl, ha, hb, hg, rfl⟩ := hP
    refine ⟨_, rfl, rfl, _, rfl, ?_⟩
    refine ite2 (fun c => ?_) (fun c => ?_)
    · have hb0 : b ≠ 0 := fun z => by subst z; simp at c
      refine ⟨_, rfl, _, rfl, a, b, rfl, rfl, by show (0 : Int) < b; omega, _, rfl, _, rfl, ?_⟩
      refine ⟨(a % b).toNat, ?_, rfl, b, a % b, _, rfl, hb, Int.emod_nonneg _ hb0, ?_, rfl⟩
      · have := Int.emod_lt_of_pos a (show 0 < b by omega)
        have := Int.emod_nonneg a hb0
        omega
      · rw [FQ.gcd_turn, hg]
    · have hb0 : b = 0 := by
        by_cases z : b = 0
        · exact z
        · exact absurd (by simpa using z) c
      subst hb0
      refine ⟨_, rfl, ?_⟩
      have e : (a : Int) = (Int.gcd i j : Int) := by rw [← hg]; simp; omega
      rw [e]
      exact q
  · obtain ⟨v, e, sc, k, ek, q⟩ := h
    exact ⟨v, e, sc, k, ek, hQ _ _ q⟩
theorem sc_fraction : FnScope ["top", "bottom", "divisor"] ["top", "bottom"] (defScope (top 7)) := ⟨rfl, rfl, rfl, by decide +kernel, rfl, by decide +kernel, by decide +kernel⟩
set_option maxHeartbeats 4000000 in
theorem d_fraction {P : Program} {w : World} {K : PySem.W.Frag} {mg : Str → Option Value} {base : Heap} {x : Xs} (M : Md K mg x)
    (Gis_whole : Dn P w K mg base CX0 1 "is_whole" ["value"] (spWhole))
    (Gcommon_divisor : Dn P w K mg base CX0 1 "common_divisor" ["one", "two"] (spGcd)) : Dn P w K mg base (CXE P w) 2 "fraction" ["top", "bottom"] (spFractionE x) := by
  have nd := (sc_fraction).nd
  refine M.f_fraction.okE sc_fraction (fun vs H Q E h => ?_) (fun _ _ _ _ _ _ us hl => match us, hl with | [_, _], _ => rfl) (fun f cdv A outer s H vs Q E hr h => ?_)
  · obtain ⟨t, b, rfl, hE, q⟩ := h
    rfl
  obtain ⟨t, b, rfl, hE, q⟩ := h
  refine ⟨_, (pss_cons (ps_if (PW.pt (pw_or (pt_not (pt_val (pe_fn Gis_whole hr (by decide) rfl pass0 (pa_cons (pv 0) pa_nil)))) (pw_or (pt_not (pt_val (pe_fn Gis_whole hr (by decide) rfl pass0 (pa_cons (pv 1) pa_nil)))) (pw_or1 (pt_cmpR op_eq (pv 1) pe_int (nomark _)))))) (pss_one (ps_raise M.x_NoFraction rfl (pa_cons pe_str pa_nil))) pss_nil)
      (pss_cons (ps_set (i := 2) nd rfl (Or.inl rfl) (pe_fn Gcommon_divisor hr (by decide) rfl pass0 (pa_cons (pv 0) (pa_cons (pv 1) pa_nil))))
      (pss_cons (ps_if (pt_cmpR op_lt (pv 1) pe_int (nomark _)) (pss_one (ps_set (i := 2) nd rfl (Or.inl rfl) (pe_un un_neg (pv 2)))) pss_nil)
      (pss_one (ps_ret (pe_tup (pa_cons (pe_op op_divB (pv 0) (pv 2)) (pa_cons (pe_op op_divB (pv 1) (pv 2)) pa_nil)))))))), ?_⟩
  refine ⟨_, rfl, t, rfl, _, rfl, iteF ⟨_, rfl, b, rfl, _, rfl, iteF ⟨_, rfl, rfl, _, rfl, iteD2 (fun c => ?_) (fun c => ?_)⟩⟩⟩
  · exact ⟨by show 1 ≤ sizeLine; decide, hE (Veq c)⟩
  have hb : b ≠ 0 := fun z => c (by rw [z])
  obtain ⟨hz, q⟩ := q hb
  refine ⟨_, rfl, _, rfl, t, b, rfl, ?_⟩
  refine ⟨_, rfl, b, 0, rfl, rfl, _, rfl, ?_⟩
  have hs := fraction_div (t := t) hb hz
  refine ite2 (fun c => ?_) (fun c => ?_)
  · have hneg : b < 0 := of_decide_eq_true c
    have e := hs.1 hneg
    refine ⟨_, rfl, _, rfl, ?_⟩
    refine ⟨_, rfl, _, rfl, t, _, rfl, rfl, e.1, _, rfl, _, rfl, b, _, rfl, rfl, e.1, by show 2 ≤ sizeLine; decide, fun p hp => q p _ (same_new hp _) ?_⟩
    rw [upd_same]
    show some (HO.tup [V.int (t.fdiv _), V.int (b.fdiv _)]) = _
    rw [e.2.1, e.2.2]
    rfl
  · have hpos : ¬ b < 0 := of_decide_eq_false (Bool.eq_false_iff.mpr c)
    have e := hs.2 hpos
    refine ⟨_, rfl, _, rfl, t, _, rfl, rfl, e.1, _, rfl, _, rfl, b, _, rfl, rfl, e.1, by show 2 ≤ sizeLine; decide, fun p hp => q p _ (same_new hp _) ?_⟩
    rw [upd_same]
    show some (HO.tup [V.int (t.fdiv _), V.int (b.fdiv _)]) = _
    rw [e.2.1, e.2.2]
    rfl
theorem sc_plus : FnScope ["one", "two"] ["one", "two"] (defScope (top 8)) := ⟨rfl, rfl, rfl, by decide +kernel, rfl, by decide +kernel, by decide +kernel⟩
set_option maxHeartbeats 4000000 in
theorem d_plus {P : Program} {w : World} {K : PySem.W.Frag} {mg : Str → Option Value} {base : Heap} {x : Xs} (M : Md K mg x)
    (Gfraction : Dn P w K mg base (CXE P w) 2 "fraction" ["top", "bottom"] (spFractionE x)) : Dn P w K mg base CX0 3 "plus" ["one", "two"] (sp2F fAdd K) := by
  have nd := (sc_plus).nd
  refine M.f_plus.ok sc_plus (fun vs H Q E h => ?_) (fun _ _ _ _ _ _ us hl => match us, hl with | [_, _], _ => rfl) (fun f cdv A outer s H vs Q E hr h => ?_)
  · obtain ⟨a, b, x, y, rfl, ha, hb, bx, b_y, q⟩ := h
    rfl
  obtain ⟨a, b, x, y, rfl, ha, hb, bx, b_y, q⟩ := h
  refine ⟨_, (pss_one (ps_ret (pe_fn Gfraction hr (by decide) rfl passN (pa_cons (pe_op op_add (pe_op op_mulB (pe_ix ix_tup (pv 0) pe_int (fun _ _ => rfl)) (pe_ix ix_tup (pv 1) pe_int (fun _ _ => rfl))) (pe_op op_mulB (pe_ix ix_tup (pv 1) pe_int (fun _ _ => rfl)) (pe_ix ix_tup (pv 0) pe_int (fun _ _ => rfl)))) (pa_cons (pe_op op_mulB (pe_ix ix_tup (pv 0) pe_int (fun _ _ => rfl)) (pe_ix ix_tup (pv 1) pe_int (fun _ _ => rfl))) pa_nil))))), ?_⟩
  obtain ⟨x1, x2, x0⟩ := bx
  obtain ⟨y1, y2, y0⟩ := b_y
  refine ⟨_, rfl, a, _, 0, _, rfl, rfl, ha, rfl, ?_⟩
  refine ⟨_, rfl, b, _, 1, _, rfl, rfl, hb, rfl, ?_⟩
  refine ⟨_, _, rfl, rfl, mul4 x1 y2, ?_⟩
  refine ⟨_, rfl, b, _, 0, _, rfl, rfl, hb, rfl, ?_⟩
  refine ⟨_, rfl, a, _, 1, _, rfl, rfl, ha, rfl, ?_⟩
  refine ⟨_, _, rfl, rfl, mul4 y1 x2, ?_⟩
  refine ⟨_, _, rfl, rfl, ?_⟩
  refine ⟨_, rfl, a, _, 1, _, rfl, rfl, ha, rfl, ?_⟩
  refine ⟨_, rfl, b, _, 1, _, rfl, rfl, hb, rfl, ?_⟩
  refine ⟨_, _, rfl, rfl, mul4 x2 y2, ?_⟩
  exact ⟨_, _, rfl, fun z => absurd z (Int.mul_ne_zero x0 y0), fun _ => ⟨bot4 x2 y2, q⟩⟩
theorem sc_minus : FnScope ["one", "two"] ["one", "two"] (defScope (top 9)) := ⟨rfl, rfl, rfl, by decide +kernel, rfl, by decide +kernel, by decide +kernel⟩
set_option maxHeartbeats 4000000 in
theorem d_minus {P : Program} {w : World} {K : PySem.W.Frag} {mg : Str → Option Value} {base : Heap} {x : Xs} (M : Md K mg x)
    (Gfraction : Dn P w K mg base (CXE P w) 2 "fraction" ["top", "bottom"] (spFractionE x)) : Dn P w K mg base CX0 3 "minus" ["one", "two"] (sp2F fSub K) := by
  have nd := (sc_minus).nd
  refine M.f_minus.ok sc_minus (fun vs H Q E h => ?_) (fun _ _ _ _ _ _ us hl => match us, hl with | [_, _], _ => rfl) (fun f cdv A outer s H vs Q E hr h => ?_)
  · obtain ⟨a, b, x, y, rfl, ha, hb, bx, b_y, q⟩ := h
    rfl
  obtain ⟨a, b, x, y, rfl, ha, hb, bx, b_y, q⟩ := h
  refine ⟨_, (pss_one (ps_ret (pe_fn Gfraction hr (by decide) rfl passN (pa_cons (pe_op op_sub (pe_op op_mulB (pe_ix ix_tup (pv 0) pe_int (fun _ _ => rfl)) (pe_ix ix_tup (pv 1) pe_int (fun _ _ => rfl))) (pe_op op_mulB (pe_ix ix_tup (pv 1) pe_int (fun _ _ => rfl)) (pe_ix ix_tup (pv 0) pe_int (fun _ _ => rfl)))) (pa_cons (pe_op op_mulB (pe_ix ix_tup (pv 0) pe_int (fun _ _ => rfl)) (pe_ix ix_tup (pv 1) pe_int (fun _ _ => rfl))) pa_nil))))), ?_⟩
  obtain ⟨x1, x2, x0⟩ := bx
  obtain ⟨y1, y2, y0⟩ := b_y
  refine ⟨_, rfl, a, _, 0, _, rfl, rfl, ha, rfl, ?_⟩
  refine ⟨_, rfl, b, _, 1, _, rfl, rfl, hb, rfl, ?_⟩
  refine ⟨_, _, rfl, rfl, mul4 x1 y2, ?_⟩
  refine ⟨_, rfl, b, _, 0, _, rfl, rfl, hb, rfl, ?_⟩
  refine ⟨_, rfl, a, _, 1, _, rfl, rfl, ha, rfl, ?_⟩
  refine ⟨_, _, rfl, rfl, mul4 y1 x2, ?_⟩
  refine ⟨_, _, rfl, rfl, ?_⟩
  refine ⟨_, rfl, a, _, 1, _, rfl, rfl, ha, rfl, ?_⟩
  refine ⟨_, rfl, b, _, 1, _, rfl, rfl, hb, rfl, ?_⟩
  refine ⟨_, _, rfl, rfl, mul4 x2 y2, ?_⟩
  exact ⟨_, _, rfl, fun z => absurd z (Int.mul_ne_zero x0 y0), fun _ => ⟨bot4 x2 y2, q⟩⟩
theorem sc_before : FnScope ["one", "two"] ["one", "two"] (defScope (top 10)) := ⟨rfl, rfl, rfl, by decide +kernel, rfl, by decide +kernel, by decide +kernel⟩
set_option maxHeartbeats 4000000 in
theorem d_before {P : Program} {w : World} {K : PySem.W.Frag} {mg : Str → Option Value} {base : Heap} {x : Xs} (M : Md K mg x) : Dn P w K mg base CX0 1 "before" ["one", "two"] (spBefore K) := by
  have nd := (sc_before).nd
  refine M.f_before.ok sc_before (fun vs H Q E h => ?_) (fun _ _ _ _ _ _ us hl => match us, hl with | [_, _], _ => rfl) (fun f cdv A outer s H vs Q E hr h => ?_)
  · obtain ⟨a, b, x, y, rfl, ha, hb, bx, b_y, q⟩ := h
    rfl
  obtain ⟨a, b, x, y, rfl, ha, hb, bx, b_y, q⟩ := h
  refine ⟨_, (pss_one (ps_ret (pe_cmpR op_lt (pe_op op_mulB (pe_ix ix_tup (pv 0) pe_int (fun _ _ => rfl)) (pe_ix ix_tup (pv 1) pe_int (fun _ _ => rfl))) (pe_op op_mulB (pe_ix ix_tup (pv 1) pe_int (fun _ _ => rfl)) (pe_ix ix_tup (pv 0) pe_int (fun _ _ => rfl))) (nomark _)))), ?_⟩
  obtain ⟨x1, x2, x0⟩ := bx
  obtain ⟨y1, y2, y0⟩ := b_y
  refine ⟨_, rfl, a, _, 0, _, rfl, rfl, ha, rfl, ?_⟩
  refine ⟨_, rfl, b, _, 1, _, rfl, rfl, hb, rfl, ?_⟩
  refine ⟨_, _, rfl, rfl, mul4 x1 y2, ?_⟩
  refine ⟨_, rfl, b, _, 0, _, rfl, rfl, hb, rfl, ?_⟩
  refine ⟨_, rfl, a, _, 1, _, rfl, rfl, ha, rfl, ?_⟩
  exact ⟨_, _, rfl, rfl, mul4 y1 x2, _, _, rfl, rfl, q⟩
theorem sc_least : FnScope ["parts", "smallest", "part"] ["parts"] (defScope (top 11)) := ⟨rfl, rfl, rfl, by decide +kernel, rfl, by decide +kernel, by decide +kernel⟩
set_option maxHeartbeats 4000000 in
theorem d_least {P : Program} {w : World} {K : PySem.W.Frag} {mg : Str → Option Value} {base : Heap} {x : Xs} (M : Md K mg x)
    (Gbefore : Dn P w K mg base CX0 1 "before" ["one", "two"] (spBefore K)) : Dn P w K mg base CX0 2 "least" ["parts"] (spLeast K) := by
  have nd := (sc_least).nd
  refine M.f_least.ok sc_least (fun vs H Q E h => ?_) (fun _ _ _ _ _ _ us hl => match us, hl with | [_], _ => rfl) (fun f cdv A outer s H vs Q E hr h => ?_)
  · obtain ⟨a, gs, ps, rfl, hq, hg, hne, hl, hz, q⟩ := h
    rfl
  obtain ⟨a, gs, ps, rfl, hq, hg, hne, hl, hz, q⟩ := h
  refine ⟨_, (pss_cons (ps_set (i := 1) nd rfl (Or.inl rfl) (pe_ix ix_list (pv 0) pe_int (fun _ _ => rfl)))
      (pss_cons (ps_for PassesOwn.never rfl (pi_list (pv 0)) (pg_name (i := 2) nd rfl (Or.inl rfl)) (pss_one (ps_if (pt_val (pe_fn Gbefore hr (by decide) rfl pass0 (pa_cons (pv 2) (pa_cons (pv 1) pa_nil)))) (pss_one (ps_set (i := 1) nd rfl (Or.inl rfl) (pv 2))) pss_nil)))
      (pss_one (ps_ret (pv 1))))), ?_⟩
  obtain ⟨p0, hp0⟩ : ∃ p, ps[0]? = some p := by
    cases ps with
    | nil => exact absurd rfl hne
    | cons p r => exact ⟨p, rfl⟩
  have hhd : ps.headD (0, 1) = p0 := by
    cases ps with
    | nil => exact absurd rfl hne
    | cons p r => exact Option.some.inj hp0
  have sz : ∀ i, Sz 4000 (leastGo p0 (ps.take i)) := fun i => by
    have : ∀ (l : List (Int × Int)) (s : Int × Int), Sz 4000 s → (∀ p ∈ l, Sz 4000 p) → Sz 4000 (leastGo s l) := by
      intro l
      induction l with
      | nil => intro s hs _; exact hs
      | cons x r ih =>
        intro s hs hl
        refine ih _ ?_ fun p hp => hl p (List.mem_cons_of_mem _ hp)
        show Sz 4000 (if lessF x s = true then x else s)
        split
        · exact hl x List.mem_cons_self
        · exact hs
    exact this _ _ (hz _ (List.mem_of_getElem? hp0)) fun p hp => hz p (List.mem_of_mem_take hp)
  obtain ⟨v0, hv0, hF0⟩ := Paired.get hg hp0
  refine ⟨_, rfl, a, gs, 0, v0, rfl, rfl, hq, atI_nat hv0, ?_⟩
  refine ⟨_, rfl, a, rfl, ⟨_, hq⟩, ?_⟩
  refine for_list (xs := gs) (fun i σ H' => H' = H ∧ ∃ sf r, σ = [some (.ref a), some sf, r] ∧ IsF K H sf (leastGo p0 (ps.take i)))
    ⟨rfl, v0, _, rfl, hF0⟩ (fun i σ H' _ hP => by rw [hP.1]; exact hq) (fun i v σ H' hx hP => ?_) (fun σ H' hP => ?_)
  · obtain ⟨rfl, sf, r, rfl, hsf⟩ := hP
    obtain ⟨y, hy, hv⟩ := Paired.get' hg hx
    have e : leastGo p0 (ps.take (i + 1)) = if lessF y (leastGo p0 (ps.take i)) = true then y else leastGo p0 (ps.take i) := by
      rw [List.take_add_one, hy]
      unfold leastGo
      rw [List.foldl_append]
      rfl
    obtain ⟨sfa, rfl, hsf'⟩ := id hsf
    obtain ⟨va, rfl, hv'⟩ := id hv
    refine ⟨_, rfl, _, rfl, va, sfa, y, leastGo p0 (ps.take i), rfl, hv', hsf', hz y (List.mem_of_getElem? hy), sz i, _, rfl, ?_⟩
    rw [e]
    show if lessF y (leastGo p0 (ps.take i)) = true then _ else _
    refine ite2 (fun c => ?_) (fun c => ?_)
    · refine ⟨_, rfl, rfl, .ref va, _, rfl, ?_⟩
      rw [if_pos c]
      exact hv
    · refine ⟨rfl, .ref sfa, _, rfl, ?_⟩
      rw [if_neg c]
      exact hsf
  · obtain ⟨rfl, sf, r, rfl, hsf⟩ := hP
    have hgl := Paired.len hg
    rw [hgl, List.take_length] at hsf
    refine ⟨_, rfl, q sf ?_⟩
    unfold leastF
    rw [hhd]
    exact hsf
theorem sc_changers_of : FnScope ["wishes", "table", "floor", "changers", "person", "wish", "place", "given", "taken"] ["wishes", "table", "floor"] (defScope (top 13)) := ⟨rfl, rfl, rfl, by decide +kernel, rfl, by decide +kernel, by decide +kernel⟩
set_option maxHeartbeats 4000000 in
theorem d_changers_of {P : Program} {w : World} {K : PySem.W.Frag} {mg : Str → Option Value} {base : Heap} {x : Xs} (M : Md K mg x)
    (Gbefore : Dn P w K mg base CX0 1 "before" ["one", "two"] (spBefore K)) : Dn P w K mg base CX0 2 "changers_of" ["wishes", "table", "floor"] (spChangers P w K) := by
  have nd := (sc_changers_of).nd
  refine M.f_changers_of.ok sc_changers_of (fun vs H Q E h => ?_) (fun _ _ _ _ _ _ us hl => match us, hl with | [_, _, _], _ => rfl) (fun f cdv A outer s H vs Q E hr h => ?_)
  · obtain ⟨a, b, f, ws, us, W, Z, T, c, n, rfl, hA, hW, hB, hZ, tw, hf, hc0, hcT, q⟩ := h
    rfl
  obtain ⟨a, b, f, ws, us, W, Z, T, c, n, rfl, hA, hW, hB, hZ, tw, hf, hc0, hcT, q⟩ := h
  refine ⟨_, (pss_cons (ps_set (i := 3) nd rfl (Or.inl rfl) (pe_xnew (W := keyR) (P := P) (w := w) (K := K) rfl rfl rfl))
      (pss_cons (ps_for PassesOwn.never rfl (pi_enum rfl M.b_enumerate (pa_cons (pv 0) pa_nil)) (pg_tup rfl (pgs_cons (pg_name (i := 4) nd rfl (Or.inl rfl)) (pgs_cons (pg_name (i := 5) nd rfl (Or.inl rfl)) pgs_nil))) (pss_one (ps_for PassesOwn.never rfl (pi_enumT rfl M.b_enumerate (pa_cons (pv 5) pa_nil)) (pg_tup rfl (pgs_cons (pg_name (i := 6) nd rfl (Or.inl rfl)) (pgs_cons (pg_name (i := 7) nd rfl (Or.inl rfl)) pgs_nil))) (pss_one (ps_if (pt_val (pe_fn Gbefore hr (by decide) rfl pass0 (pa_cons (pv 2) (pa_cons (pe_ix ix_tup (pe_ix ix_list (pv 1) (pv 4) (fun _ _ => rfl)) (pv 7) (fun _ _ => rfl)) pa_nil)))) (pss_one (ps_for PassesOwn.never rfl (pi_tup (pe_slice sl_tup (pv 5) po_none (po_some (pv 6)))) (pg_name (i := 8) nd rfl (Or.inl rfl)) (pss_one (ps_asg (pv 4) (pg_sub (pv 3) (pe_tup (pa_cons (pv 7) (pa_cons (pv 8) pa_nil))) (set_x (W := keyR) (P := P) (w := w) (K := K) rfl rfl rfl hr)))))) pss_nil)))))
      (pss_one (ps_ret (pv 3))))), ?_⟩
  have hwl := Paired.len hW
  have hn1 := tw.w.lo
  have hn6 := tw.w.hi
  have hWn := tw.w.len
  have hT := tw.z.t0
  have hT80 := tw.z.t1
  have hT0 : T ≠ 0 := by omega
  have zT : T.natAbs < 2 ^ 100 := by omega
  have hwn : ws.length = n := by omega
  have small2 : (2 : Nat) ≤ sizeLine := by decide
  refine fun d H1 hd0 hφ1 hD0 => ?_
  have S1 : Same H H1 := by obtain ⟨φ, rfl⟩ := hφ1; exact same_new hd0 _
  clear hφ1
  refine ⟨_, rfl, a, rfl, ⟨_, S1.seq hA⟩, ?_⟩
  refine for_enum (xs := ws) (fun i σ H2 => Same H H2 ∧ ∃ (C : List (List Int × Int)) (r4 r5 r6 r7 r8 : Option V), σ = [some (.ref a), some (.ref b), some (.ref f), some (.ref d), r4, r5, r6, r7, r8] ∧ DictI keyR P w K H2 d C ∧ ChI n W Z c i 0 0 C)
    ⟨S1, [], _, _, _, _, _, rfl, hD0, ChI.start⟩ (fun i σ H2 _ hP => hP.1.seq hA) (fun i x σ H2 t hx ht hP => ?_) (fun σ H2 hP => ?_)
  · obtain ⟨S2, C, r4, r5, r6, r7, r8, rfl, hC, hI⟩ := hP
    have hiW : i < W.length := by have := (List.getElem?_eq_some_iff.mp hx).1; omega
    have hin : i < n := by omega
    obtain ⟨row0, hrow, wa, rfl, hwa⟩ := Paired.get' hW hx
    have erow : W.getD i [] = row0 := by rw [List.getD_eq_getElem?_getD, hrow]; rfl
    have hpm := tw.w.pm _ (List.mem_of_getElem? hrow)
    generalize row0 = row at hwa hpm erow
    have hrl := hpm.len
    have hnd := hpm.nodup
    have hrb : ∀ j, j < n → 0 ≤ row.getD j 0 ∧ row.getD j 0 < n := fun j hj => hpm.mem.mp (by rw [HM.getD_lt (by omega)]; exact List.getElem_mem _)
    have hidx : ∀ j, j < n → row.idxOf (row.getD j 0) = j := fun j hj => by rw [HM.getD_lt (by omega)]; exact hnd.idxOf_getElem j (by omega)
    have hat : ∀ (g j : Nat), g < n → row.idxOf (g : Int) = j → j < n ∧ row.getD j 0 = g := fun g j hg e => by
      have hm : (g : Int) ∈ row := hpm.mem.mpr ⟨by omega, by omega⟩
      have hl := List.idxOf_lt_length_iff.mpr hm
      subst e
      exact ⟨by omega, by rw [HM.getD_lt hl]; exact List.getElem_idxOf hl⟩
    have S3 : Same H2 (upd H2 t (.tup [.int i, .ref wa])) := same_new ht _
    have htt : SqT K (upd H2 t (.tup [.int i, .ref wa])) t [.int i, .ref wa] := SqT.of upd_same
    generalize upd H2 t (.tup [.int i, .ref wa]) = H3 at S3 htt ⊢
    refine ⟨t, _, rfl, htt, rfl, _, _, rfl, _, _, rfl, rfl, ?_⟩
    refine ⟨_, rfl, wa, rfl, ⟨_, (S2.trans S3).tup hwa⟩, ?_⟩
    refine for_enumT (xs := row.map V.int) (fun j σ H4 => Same H H4 ∧ ∃ (C : List (List Int × Int)) (r6 r7 r8 : Option V), σ = [some (.ref a), some (.ref b), some (.ref f), some (.ref d), some (.int i), some (.ref wa), r6, r7, r8] ∧ DictI keyR P w K H4 d C ∧ ChI n W Z c i j 0 C)
      ⟨S2.trans S3, C, _, _, _, rfl, hC.mono S3, hI⟩ (fun j σ H4 _ hP => hP.1.tup hwa) (fun j y σ H4 t2 hy ht2 hP => ?_) (fun σ H4 hP => ?_)
    · obtain ⟨S4, C2, r6', r7', r8', rfl, hC2, hI2⟩ := hP
      have hjr : j < row.length := by
        have := (List.getElem?_eq_some_iff.mp hy).1
        rw [List.length_map] at this
        exact this
      have hjn : j < n := by omega
      rw [map_int_get hjr] at hy
      cases hy
      have hgb := hrb j hjn
      have hgi := hidx j hjn
      obtain ⟨g, hg⟩ : ∃ g : Nat, row.getD j 0 = g := ⟨(row.getD j 0).toNat, by omega⟩
      rw [hg] at hgi hgb ⊢
      have hgn : g < n := by omega
      have S5 : Same H4 (upd H4 t2 (.tup [.int j, .int g])) := same_new ht2 _
      have ht5 : SqT K (upd H4 t2 (.tup [.int j, .int g])) t2 [.int j, .int g] := SqT.of upd_same
      generalize upd H4 t2 (.tup [.int j, .int g]) = H5 at S5 ht5 ⊢
      refine ⟨t2, _, rfl, ht5, rfl, _, _, rfl, _, _, rfl, rfl, ?_⟩
      have S05 := S4.trans S5
      obtain ⟨ra, gs, fa, hus, hra, hgs, hfa⟩ := share_at hZ tw.z.reg hin hgn
      have eb := tw.ent hin hgn
      refine ⟨_, rfl, _, rfl, _, rfl, b, _, _, _, rfl, rfl, S05.seq hB, atI_nat hus, _, rfl, ra, _, _, _, rfl, rfl, S05.tup hra, atI_nat hgs, ?_⟩
      refine ⟨f, fa, FQ.red c T, FQ.red (HM.ent Z i g) T, rfl, S05.tup hf, S05.tup hfa, Sz_red hT0 (by omega) zT, Sz_red hT0 (by omega) zT, _, rfl, ?_⟩
      show if lessF (FQ.red c T) (FQ.red (HM.ent Z i g) T) = true then _ else _
      rw [lessF_red hT hT]
      refine iteD2 (fun cc => ?_) (fun cc => ?_)
      · have hcz : c < HM.ent Z i g := Int.lt_of_mul_lt_mul_right cc (Int.le_of_lt hT)
        have hrow5 := S05.tup hwa
        refine ⟨_, rfl, _, rfl, _, rfl, sl_to hrow5 hjr fun ps H6 S6 hps => ⟨ps, rfl, ⟨_, hps⟩, ?_⟩⟩
        have hlt : ((row.take j).map V.int).length = j := by rw [List.length_map, List.length_take]; omega
        refine for_tup (xs := (row.take j).map V.int) (fun k σ H7 => Same H H7 ∧ SqT K H7 ps ((row.take j).map V.int) ∧ ∃ (C : List (List Int × Int)) (r8 : Option V), σ = [some (.ref a), some (.ref b), some (.ref f), some (.ref d), some (.int i), some (.ref wa), some (.int j), some (.int g), r8] ∧ DictI keyR P w K H7 d C ∧ ChI n W Z c i j k C)
          ⟨S05.trans S6, hps, C2, _, rfl, hC2.mono (S5.trans S6), hI2⟩ (fun k σ H7 _ hP => hP.2.1) (fun k z σ H7 hz hP => ?_) (fun σ H7 hP => ?_)
        · obtain ⟨S7, hps7, C3, r8', rfl, hC3, hI3⟩ := hP
          have hkj : k < j := by have := (List.getElem?_eq_some_iff.mp hz).1; omega
          have hkr : k < row.length := by omega
          rw [List.getElem?_map, List.getElem?_take_of_lt hkj, List.getElem?_eq_getElem hkr] at hz
          have hz2 : V.int row[k] = z := Option.some.inj hz
          subst hz2
          have htb := hrb k (by omega)
          have hti := hidx k (by omega)
          rw [HM.getD_lt hkr] at htb hti
          obtain ⟨tt, htt2⟩ : ∃ tt : Nat, row[k] = tt := ⟨row[k].toNat, by omega⟩
          rw [htt2] at hti htb ⊢
          refine ⟨_, rfl, _, rfl, _, rfl, _, rfl, small2, fun pk hpk => ?_⟩
          have S8 : Same H7 (upd H7 pk (.tup [.int g, .int tt])) := same_new hpk _
          have hpk8 : SqT K (upd H7 pk (.tup [.int g, .int tt])) pk (([(g : Int), (tt : Int)] : List Int).map V.int) := SqT.of upd_same
          generalize upd H7 pk (.tup [.int g, .int tt]) = H8 at S8 hpk8 ⊢
          refine ⟨d, pk, [(g : Int), (tt : Int)], (i : Int), C3, rfl, rfl, rfl, hC3.mono S8, hpk8, by have := hI3.len; omega, fun H9 hφ hC9 => ?_⟩
          obtain ⟨φ, φ2, h1, rfl⟩ := hφ
          refine ⟨(S7.trans S8).over hd0 _, xtup_over (S8.tup hps7) h1, _, _, rfl, hC9, hI3.put ⟨hin, hgn, by omega, hcz, by rw [erow]; omega⟩ fun g2 t2 hcan e1 e2 => ?_⟩
          rw [erow] at e1 e2
          obtain ⟨_, f1⟩ := hat g2 j hcan.hg e1
          obtain ⟨_, f2⟩ := hat t2 k hcan.ht e2
          rw [hg] at f1
          rw [HM.getD_lt hkr, htt2] at f2
          exact ⟨by omega, by omega⟩
        · obtain ⟨S7, hps7, C3, r8', rfl, hC3, hI3⟩ := hP
          rw [hlt] at hI3
          refine ⟨S7, C3, _, _, _, rfl, hC3, hI3.place (by omega) fun g2 t2 hcan e => ?_⟩
          have := hcan.lk
          omega
      · have hcz : ¬ c < HM.ent Z i g := fun z => cc (Int.mul_lt_mul_of_pos_right z hT)
        refine ⟨S05, C2, _, _, _, rfl, hC2.mono S5, ChI.place (Nat.zero_le _) (fun g2 t2 hcan e => ?_) hI2⟩
        rw [erow] at e
        obtain ⟨_, e2⟩ := hat g2 j hcan.hg e
        rw [hg] at e2
        have : g2 = g := by omega
        subst this
        exact absurd hcan.sh hcz
    · obtain ⟨S4, C2, r6', r7', r8', rfl, hC2, hI2⟩ := hP
      rw [List.length_map, hrl] at hI2
      refine ⟨S4, C2, _, _, _, _, _, rfl, hC2, ChI.person hn6 (fun p g t hcan => ?_) hI2⟩
      have hpW : p < W.length := by have := hcan.hp; omega
      have hpm2 := tw.w.pm _ (List.getElem_mem hpW)
      rw [HM.getD_lt hpW]
      have hm : (g : Int) ∈ W[p] := hpm2.mem.mpr ⟨by omega, by have := hcan.hg; omega⟩
      have hl2 := List.idxOf_lt_length_iff.mpr hm
      rw [hpm2.len] at hl2
      exact hl2
  · obtain ⟨S2, C, r4, r5, r6, r7, r8, rfl, hC, hI⟩ := hP
    rw [hwn] at hI
    exact ⟨_, rfl, q d C H2 S2 hC (hI.done hn6)⟩
theorem sc_way_back : FnScope ["changers", "start", "count", "ways", "reached", "way", "given"] ["changers", "start", "count"] (defScope (top 14)) := ⟨rfl, rfl, rfl, by decide +kernel, rfl, by decide +kernel, by decide +kernel⟩
set_option maxHeartbeats 4000000 in
theorem d_way_back {P : Program} {w : World} {K : PySem.W.Frag} {mg : Str → Option Value} {base : Heap} {x : Xs} (M : Md K mg x) : Dn P w K mg base CX0 1 "way_back" ["changers", "start", "count"] (spWayBack P w K) := by
  have nd := (sc_way_back).nd
  refine M.f_way_back.ok sc_way_back (fun vs H Q E h => ?_) (fun _ _ _ _ _ _ us hl => match us, hl with | [_, _, _], _ => rfl) (fun f cdv A outer s H vs Q E hr h => ?_)
  · obtain ⟨d, C, s0, n, rfl, hC, hs, hn6, q0, q1⟩ := h
    rfl
  obtain ⟨d, C, s0, n, rfl, hC, hs, hn6, q0, q1⟩ := h
  refine ⟨_, (pss_cons (ps_set (i := 3) nd rfl (Or.inl rfl) (pe_lst (pa_cons (pe_lst (pa_cons (pv 1) pa_nil)) pa_nil)))
      (pss_cons (ps_set (i := 4) nd rfl (Or.inl rfl) pe_trueNew)
      (pss_cons (ps_while PassesOwn.never (pt_truth (pv 3) (fun _ => rfl)) (pss_cons (ps_set (i := 5) nd rfl (Or.inl rfl) (pe_bm PySem.F.plainAttrs_list PySem.F.slot_list_pop PySem.F.type_list_pop mt_popAt (pv 3) (pa_cons pe_int pa_nil)))
      (pss_one (ps_for PassesOwn.never rfl (pi_range1 rfl M.b_range (pa_cons (pv 2) pa_nil)) (pg_name (i := 6) nd rfl (Or.inl rfl)) (pss_one (ps_if (PW.pt (pw_and (pt_cmpR op_notInTrue (pv 6) (pv 4) (by with_unfolding_all rfl)) (pw_and1 (pt_cmpR (op_inX (W := keyR) (P := P) (w := w) (K := K) rfl rfl rfl hr) (pe_tup (pa_cons (pv 6) (pa_cons (pe_ix ix_list (pv 5) (pe_un un_neg pe_int) (fun _ _ => rfl)) pa_nil))) (pv 0) (by with_unfolding_all rfl))))) (pss_cons (ps_if (pt_cmpR op_eq (pv 6) (pv 1) (nomark _)) (pss_one (ps_ret (pv 5))) pss_nil)
      (pss_cons (ps_asg pe_bl (pg_sub (pv 4) (pv 6) set_true))
      (pss_one (ps_expr (pe_bm PySem.F.plainAttrs_list PySem.F.slot_list_append PySem.F.type_list_append mt_append (pv 3) (pa_cons (pe_op op_cat (pv 5) (pe_lst (pa_cons (pv 6) pa_nil))) pa_nil)))))) pss_nil))))))
      (pss_one (ps_ret pe_non))))), ?_⟩
  have small1 : (1 : Nat) ≤ sizeLine := by decide
  have small2 : (2 : Nat) ≤ sizeLine := by decide
  refine ⟨_, rfl, small1, fun r0 hr0 => ⟨small1, fun lq hlq => ?_⟩⟩
  have S1 : Same H (upd (upd H r0 (.lst [.int s0])) lq (.lst [.ref r0])) := (same_new hr0 _).trans (same_new hlq _)
  have hlq0 : H lq = none := (same_new hr0 _).free hlq
  have hne : r0 ≠ lq := fun z => by rw [← z, upd_same] at hlq; cases hlq
  have hr1 : upd (upd H r0 (.lst [.int s0])) lq (.lst [.ref r0]) r0 = some (.lst ((ni [s0]).map V.int)) := by rw [upd_ne hne]; exact upd_same
  have hq1 : upd (upd H r0 (.lst [.int s0])) lq (.lst [.ref r0]) lq = some (.lst (([r0] : List Addr).map V.ref)) := upd_same
  generalize upd (upd H r0 (.lst [.int s0])) lq (.lst [.ref r0]) = H1 at S1 hr1 hq1 ⊢
  refine fun dr hdr => ?_
  have hdr0 : H dr = none := S1.free hdr
  have hdl : lq ≠ dr := fun z => by rw [z, hdr] at hq1; cases hq1
  have S2 : Same H1 (upd H1 dr (.dK (trueK []))) := same_new hdr _
  have hd2 : upd H1 dr (.dK (trueK [])) dr = some (.dK (trueK [])) := upd_same
  generalize upd H1 dr (.dK (trueK [])) = H2 at S2 hd2 ⊢
  dsimp only [gName]
  refine while_of (fun m σ H' => Same H H' ∧ ∃ (Dn Q : List (List Nat)) (rs : List Addr) (R : List Int) (r5 r6 : Option V), σ = [some (.ref d), some (.int s0), some (.int n), some (.ref lq), some (.ref dr), r5, r6] ∧ H' lq = some (.lst (rs.map V.ref)) ∧
      Paired (fun (r : Addr) (w : List Nat) => r ≠ lq ∧ H r = none ∧ H' r = some (.lst ((ni w).map V.int))) rs Q ∧ H' dr = some (.dK (trueK R)) ∧ ReachOk n s0 R (Dn ++ Q) ∧ RG.BF n (Edge C) s0 Dn Q ∧ (∀ v ∈ Q, v.length ≤ Dn.length + 1) ∧ m = n - Dn.length)
    ⟨_, S1.trans S2, [], [[s0]], [r0], [], _, _, rfl, S2 _ _ hq1, .cons ⟨hne, hr0, S2 _ _ hr1⟩ .nil, hd2, ReachOk.start n s0, RG.BF.start hs, (fun v hv => by rw [List.mem_singleton.mp hv]; exact Nat.le_refl _), rfl⟩ (fun m σ H3 hP => ?_) (fun σ H3 Q1 Q2 hQ h => ?_)
  · obtain ⟨S3, Dn, Q, rs, R, r5, r6, rfl, hq3, hrs, hd3, hR, hBF, hln, rfl⟩ := hP
    have hcnt := hBF.count
    rw [List.length_append] at hcnt
    refine ⟨_, rfl, _, .inl ⟨_, SqL.of hq3, rfl⟩, ?_⟩
    cases hrs with
    | nil => exact q0 (fun v hv hs => hBF.none hv hs fun a ha => by cases ha) H3 S3
    | @cons r w rs Q hrw hrs =>
      rw [List.length_cons] at hcnt
      obtain ⟨hrl, hr0', hr3⟩ := hrw
      refine iteT ?_
      refine ⟨_, rfl, .inl ⟨rfl, _, SqL.of hq3⟩, lq, _, 0, 0, _, rfl, rfl, hq3, by decide, by decide, seqIx_ok (by decide) (by rw [List.length_map, List.length_cons]; omega), rfl, ?_⟩
      have e0 : ((r :: rs).map V.ref).eraseIdx 0 = rs.map V.ref := rfl
      rw [e0]
      have hrs4 : Paired (fun (r : Addr) (w : List Nat) => r ≠ lq ∧ H r = none ∧ upd H3 lq (.lst (rs.map V.ref)) r = some (.lst ((ni w).map V.int))) rs Q := Paired.mapP hrs fun _ _ h => ⟨h.1, h.2.1, by rw [upd_ne h.1]; exact h.2.2⟩
      have S4 : Same H (upd H3 lq (.lst (rs.map V.ref))) := S3.over hlq0 _
      have hq4 : upd H3 lq (.lst (rs.map V.ref)) lq = some (.lst (rs.map V.ref)) := upd_same
      have hr4 : upd H3 lq (.lst (rs.map V.ref)) r = some (.lst ((ni w).map V.int)) := by rw [upd_ne hrl]; exact hr3
      have hd4 : upd H3 lq (.lst (rs.map V.ref)) dr = some (.dK (trueK R)) := by rw [upd_ne (Ne.symm hdl)]; exact hd3
      generalize upd H3 lq (.lst (rs.map V.ref)) = H4 at S4 hq4 hr4 hd4 hrs4 ⊢
      refine ⟨_, rfl, (n : Int), rfl, by omega, by omega, ?_⟩
      refine for_range (n := n) (fun i σ H5 => Same H H5 ∧ ∃ (Q : List (List Nat)) (rs : List Addr) (R : List Int) (r6 : Option V), σ = [some (.ref d), some (.int s0), some (.int n), some (.ref lq), some (.ref dr), some (.ref r), r6] ∧ H5 lq = some (.lst (rs.map V.ref)) ∧
          Paired (fun (r : Addr) (w : List Nat) => r ≠ lq ∧ H r = none ∧ H5 r = some (.lst ((ni w).map V.int))) rs Q ∧ H5 r = some (.lst ((ni w).map V.int)) ∧ H5 dr = some (.dK (trueK R)) ∧ ReachOk n s0 R (Dn ++ w :: Q) ∧ RG.BT n (Edge C) s0 Dn w Q i ∧ ∀ v ∈ Q, v.length ≤ Dn.length + 2)
        ⟨S4, Q, rs, R, _, rfl, hq4, hrs4, hr4, hd4, hR, hBF.turn, fun v hv => Nat.le_succ_of_le (hln v (List.mem_cons_of_mem _ hv))⟩ (fun i σ H5 hi hP => ?_) (fun σ H5 hP => ?_)
      · obtain ⟨S5, Q5, rs5, R5, r6x, rfl, hq5, hrs5, hr5, hd5, hR5, hBT, hl5⟩ := hP
        have hR5l := hR5.len
        have hpw := hBT.pa w (List.mem_append_right _ List.mem_cons_self)
        have skip : ((i : Int) ∈ R5 ∨ ¬ Edge C i (RG.lastD w)) → RG.BT n (Edge C) s0 Dn w Q5 (i + 1) := fun z => hBT.skip fun he => by
          rcases z with z | z
          · exact (hR5.mem i).mp z
          · exact absurd he z
        refine ⟨_, rfl, _, rfl, dr, R5, _, rfl, rfl, hd5, _, rfl, ?_⟩
        rw [Int.zero_add]
        refine iteN2 (fun c1 => ?_) (fun c1 => ?_)
        · refine ⟨_, rfl, _, rfl, _, rfl, r, _, _, _, rfl, rfl, SqL.of hr5, atI_lastD hpw.ne, small2, fun pk hpk => ?_⟩
          have S6 : Same H5 (upd H5 pk (.tup [.int (i : Int), .int (RG.lastD w : Nat)])) := same_new hpk _
          have hpk6 : SqT K (upd H5 pk (.tup [.int (i : Int), .int (RG.lastD w : Nat)])) pk (([(i : Int), ((RG.lastD w : Nat) : Int)] : List Int).map V.int) := SqT.of upd_same
          generalize upd H5 pk (.tup [.int (i : Int), .int (RG.lastD w : Nat)]) = H6 at S6 hpk6 ⊢
          refine ⟨_, rfl, pk, d, [(i : Int), ((RG.lastD w : Nat) : Int)], C, rfl, rfl, (hC.mono (S5.trans S6)), hpk6, _, rfl, ?_⟩
          have hrs6 := Paired.mapP hrs5 fun _ _ (h : _ ≠ lq ∧ H _ = none ∧ H5 _ = _) => (⟨h.1, h.2.1, S6 _ _ h.2.2⟩ : _ ≠ lq ∧ H _ = none ∧ H6 _ = _)
          have hq6 := S6 _ _ hq5
          have hr6 := S6 _ _ hr5
          have hd6 := S6 _ _ hd5
          show if (look C [(i : Int), ((RG.lastD w : Nat) : Int)]).isSome = true then _ else _
          refine ite2 (fun c2 => ?_) (fun c2 => ?_)
          · have he : Edge C i (RG.lastD w) := c2
            have hwl := hln w List.mem_cons_self
            have hcn := hBT.bf.count
            rw [List.length_append, List.length_cons] at hcn
            have hrl5 := Paired.len hrs5
            refine ⟨_, rfl, _, rfl, rfl, _, rfl, iteD2 (fun c3 => ?_) (fun c3 => ?_)⟩
            · have e3 : i = s0 := by have := Veq c3; omega
              subst e3
              obtain ⟨g1, g2, g3⟩ := hBT.found he
              exact ⟨_, rfl, q1 w r H6 (S5.trans S6) hr0' hr6 g1 g2 g3⟩
            · have e3 : i ≠ s0 := fun z => c3 (by rw [z])
              refine ⟨_, rfl, _, rfl, dr, R5, _, rfl, rfl, rfl, hd6, c1, by omega, ?_⟩
              have nr : r ≠ dr := fun z => by rw [z, hd6] at hr6; cases hr6
              have S7 : Same H (upd H6 dr (.dK (trueK (R5 ++ [(i : Int)])))) := (S5.trans S6).over hdr0 _
              have hd7 : upd H6 dr (.dK (trueK (R5 ++ [(i : Int)]))) dr = some (.dK (trueK (R5 ++ [(i : Int)]))) := upd_same
              have hq7 : upd H6 dr (.dK (trueK (R5 ++ [(i : Int)]))) lq = some (.lst (rs5.map V.ref)) := by rw [upd_ne hdl]; exact hq6
              have hr7 : upd H6 dr (.dK (trueK (R5 ++ [(i : Int)]))) r = some (.lst ((ni w).map V.int)) := by rw [upd_ne nr]; exact hr6
              have hrs7 : Paired (fun (r : Addr) (w : List Nat) => r ≠ lq ∧ H r = none ∧ upd H6 dr (.dK (trueK (R5 ++ [(i : Int)]))) r = some (.lst ((ni w).map V.int))) rs5 Q5 := Paired.mapP hrs6 fun x _ h => ⟨h.1, h.2.1, by rw [upd_ne (fun z => by have h3 := h.2.2; rw [z, hd6] at h3; cases h3)]; exact h.2.2⟩
              generalize upd H6 dr (.dK (trueK (R5 ++ [(i : Int)]))) = H7 at S7 hd7 hq7 hr7 hrs7 ⊢
              refine ⟨_, rfl, .inl ⟨rfl, _, SqL.of hq7⟩, _, rfl, _, rfl, small1, fun l1 hl1 => ?_⟩
              have S8 := same_new hl1 (.lst [.int (i : Int)])
              refine ⟨r, l1, _, _, rfl, rfl, S8 _ _ hr7, upd_same, ?_, fun p hp => ?_⟩
              · rw [List.length_map, ni_len]
                exact Nat.le_of_lt (small1000 (by show w.length + 1 ≤ 1000; omega))
              · have S9 := S8.trans (same_new hp (.lst ((ni w).map V.int ++ [.int (i : Int)])))
                have hp9 : upd (upd H7 l1 (.lst [.int (i : Int)])) p (.lst ((ni w).map V.int ++ [.int (i : Int)])) p = some (.lst ((ni (w ++ [i])).map V.int)) := by rw [upd_same, ni_app, List.map_append]; rfl
                have hpn : H p = none := (S7.trans S8).free hp
                have hq9 := S9 _ _ hq7
                have hpl : p ≠ lq := fun z => by rw [z, S8 _ _ hq7] at hp; cases hp
                have hr9 := S9 _ _ hr7
                have hd9 := S9 _ _ hd7
                have hrs9 := Paired.mapP hrs7 fun _ _ (h : _ ≠ lq ∧ H _ = none ∧ H7 _ = _) => (⟨h.1, h.2.1, S9 _ _ h.2.2⟩ : _ ≠ lq ∧ H _ = none ∧ upd (upd H7 l1 (.lst [.int (i : Int)])) p (.lst ((ni w).map V.int ++ [.int (i : Int)])) _ = _)
                generalize upd (upd H7 l1 (.lst [.int (i : Int)])) p (.lst ((ni w).map V.int ++ [.int (i : Int)])) = H9 at S9 hp9 hq9 hr9 hd9 hrs9 ⊢
                refine ⟨lq, _, _, rfl, rfl, hq9, small1000 (by rw [List.length_map]; omega), ?_⟩
                have hnl : ∀ u ∈ Dn ++ w :: Q5, RG.lastD u ≠ i := fun u hu z => c1 ((hR5.mem i).mpr ⟨e3, u, hu, z⟩)
                refine ⟨(S7.trans S9).over hlq0 _, Q5 ++ [w ++ [i]], rs5 ++ [p], R5 ++ [(i : Int)], _, rfl, by rw [upd_same, List.map_append]; rfl, ?_, by rw [upd_ne hrl]; exact hr9, by rw [upd_ne (Ne.symm hdl)]; exact hd9, hR5.add (w := w) hi e3 c1 (fun u => ?_), hBT.add hi he e3 hnl, fun v hv => ?_⟩
                · exact Paired.app (Paired.mapP hrs9 fun x _ h => ⟨h.1, h.2.1, by rw [upd_ne h.1]; exact h.2.2⟩) (.cons ⟨hpl, hpn, by rw [upd_ne hpl]; exact hp9⟩ .nil)
                · simp only [List.mem_append, List.mem_cons, List.not_mem_nil, or_false]
                  constructor
                  · rintro (z | z | z | z)
                    · exact .inl (.inl z)
                    · exact .inl (.inr (.inl z))
                    · exact .inl (.inr (.inr z))
                    · exact .inr z
                  · rintro ((z | z | z) | z)
                    · exact .inl z
                    · exact .inr (.inl z)
                    · exact .inr (.inr (.inl z))
                    · exact .inr (.inr (.inr z))
                · rcases List.mem_append.mp hv with z | z
                  · exact hl5 v z
                  · rw [List.mem_singleton.mp z, List.length_append]
                    show w.length + 1 ≤ _
                    omega
          · exact ⟨S5.trans S6, Q5, rs5, R5, _, rfl, hq6, hrs6, hr6, hd6, hR5, skip (.inr c2), hl5⟩
        · exact ⟨S5, Q5, rs5, R5, _, rfl, hq5, hrs5, hr5, hd5, hR5, skip (.inl c1), hl5⟩
      · obtain ⟨S5, Q5, rs5, R5, r6x, rfl, hq5, hrs5, hr5, hd5, hR5, hBT, hl5⟩ := hP
        have e1 : (Dn ++ [w]) ++ Q5 = Dn ++ w :: Q5 := by simp
        refine ⟨n - (Dn.length + 1), by omega, S5, Dn ++ [w], Q5, rs5, R5, _, _, rfl, hq5, hrs5, hd5, by rw [e1]; exact hR5, hBT.done, (fun v hv => by rw [List.length_append]; exact hl5 v hv), by rw [List.length_append]; rfl⟩
  · obtain ⟨v, e, k, tv, q'⟩ := h
    exact ⟨v, e, k, tv, hQ _ _ q'⟩
theorem sc_ring_of : FnScope ["changers", "count", "ways", "rings", "things", "gifts"] ["changers", "count"] (defScope (top 15)) := ⟨rfl, rfl, rfl, by decide +kernel, rfl, by decide +kernel, by decide +kernel⟩
set_option maxHeartbeats 4000000 in
theorem d_ring_of {P : Program} {w : World} {K : PySem.W.Frag} {mg : Str → Option Value} {base : Heap} {x : Xs} (M : Md K mg x)
    (Gway_back : Dn P w K mg base CX0 1 "way_back" ["changers", "start", "count"] (spWayBack P w K)) : Dn P w K mg base CX0 2 "ring_of" ["changers", "count"] (spRingOf P w K) := by
  have nd := (sc_ring_of).nd
  refine M.f_ring_of.ok sc_ring_of (fun vs H Q E h => ?_) (fun _ _ _ _ _ _ us hl => match us, hl with | [_, _], _ => rfl) (fun f cdv A outer s H vs Q E hr h => ?_)
  · obtain ⟨d, C, W, Z, c, n, rfl, hC, hCh, hn1, hn6, q0, q1⟩ := h
    rfl
  obtain ⟨d, C, W, Z, c, n, rfl, hC, hCh, hn1, hn6, q0, q1⟩ := h
  refine ⟨_, (pss_cons (ps_setComp (i := 2) nd rfl rfl rfl rfl (N := ["start", "changers", "count"]) (caps := [none, some 0, some 1]) (CompOk.of (by kernel_rfl)) (gk_name rfl) (pi_range1 rfl M.b_range (pa_cons (pv 1) pa_nil)) (fun _ _ _ _ => (pg_name (i := 0) (show (["start", "changers", "count"] : List Str).Nodup by decide +kernel) rfl (Or.inl rfl) (Or.inr rfl))) (fun _ _ _ _ => pts_nil) (fun _ _ _ _ => (pe_fn Gway_back hr (by decide) rfl pass0 (pa_cons (pv 1) (pa_cons (pv 0) (pa_cons (pv 2) pa_nil))))))
      (pss_cons (ps_setComp (i := 3) nd rfl rfl rfl rfl (N := ["way"]) (caps := [none]) (CompOk.of (by kernel_rfl)) (gk_name rfl) (pi_list (pv 2)) (fun _ _ _ _ => (pg_name (i := 0) (show (["way"] : List Str).Nodup by decide +kernel) rfl (Or.inl rfl) (Or.inr rfl))) (fun _ _ _ _ => (pts_one (pt_cmpR op_notN (pv 0) pe_non (nomark _)))) (fun _ _ _ _ => (pv 0)))
      (pss_cons (ps_if (pt_not (pt_truth (pv 3) (fun _ => rfl))) (pss_one (ps_ret pe_non)) pss_nil)
      (pss_cons (ps_set (i := 4) nd rfl (Or.inl rfl) (pe_minLen (K := K) rfl rfl rfl M.b_min rfl M.b_len (pa_cons (pv 3) pa_nil)))
      (pss_cons (ps_set (i := 5) nd rfl (Or.inl rfl) (pe_op op_cat (pe_slice sl_list (pv 4) (po_some pe_int) po_none) (pe_slice sl_list (pv 4) po_none (po_some pe_int))))
      (pss_one (ps_ret (pe_comp rfl (N := ["taken", "given", "changers"]) (caps := [none, none, some 0]) (CompOk.of (by kernel_rfl)) (gk_tup (gks_cons gName_mono (gk_name rfl) (gks_cons gName_mono (gk_name rfl) gks_nil))) (pi_zip rfl M.b_zip (pa_cons (pv 4) (pa_cons (pv 5) pa_nil))) (fun _ _ _ _ => (pg_tupK (K := K) rfl 2 rfl (pgs_cons (pg_name (i := 0) (show (["taken", "given", "changers"] : List Str).Nodup by decide +kernel) rfl (Or.inl rfl) (Or.inr rfl)) (pgs_cons (pg_name (i := 1) (show (["taken", "given", "changers"] : List Str).Nodup by decide +kernel) rfl (Or.inl rfl) (Or.inr rfl)) pgs_nil)))) (fun _ _ _ _ => pts_nil) (fun _ _ _ _ => (pe_tup (pa_cons (pe_ix (ix_x (W := keyR) (P := P) (w := w) (K := K) rfl rfl rfl hr) (pv 2) (pe_tup (pa_cons (pv 1) (pa_cons (pv 0) pa_nil))) (fun _ _ => rfl)) (pa_cons (pv 1) (pa_cons (pv 0) pa_nil))))))))))))), ?_⟩
  have small2 : (2 : Nat) ≤ sizeLine := by decide
  have small3 : (3 : Nat) ≤ sizeLine := by decide
  refine ⟨_, rfl, (n : Int), rfl, by omega, by omega, ?_⟩
  refine comp_range1 (n := n) (fun i ys H1 => Same H H1 ∧ ys.length = i ∧ ∀ k v, ys[k]? = some v → WayV n (Edge C) H1 k v) ⟨Same.refl _, rfl, fun k v h => by cases h⟩ (fun i ys H1 hi hP => ?_) (fun ys H1 hP pw hpw => ?_)
  · obtain ⟨S1, hyl, hys⟩ := hP
    refine ⟨_, rfl, _, rfl, _, rfl, d, C, i, n, by show [V.ref d, V.int _, V.int _] = [V.ref d, V.int _, V.int _]; rw [Int.zero_add], hC.mono S1, hi, hn6, (fun hno H2 S2 => ⟨small1000 (by omega), S1.trans S2, by rw [List.length_append, hyl]; rfl, fun k v hk => ?_⟩), fun wy p H2 S2 hp0 hp g1 g2 g3 => ⟨small1000 (by omega), S1.trans S2, by rw [List.length_append, hyl]; rfl, fun k v hk => ?_⟩⟩
    · by_cases e : k < ys.length
      · rw [List.getElem?_append_left e] at hk
        exact (hys k v hk).mono S2
      · rw [List.getElem?_append_right (by omega)] at hk
        have e2 : k - ys.length = 0 := by have := (List.getElem?_eq_some_iff.mp hk).1; simp at this; omega
        rw [e2] at hk
        cases hk
        have e3 : k = i := by omega
        subst e3
        exact .inl ⟨rfl, hno⟩
    · by_cases e : k < ys.length
      · rw [List.getElem?_append_left e] at hk
        exact (hys k v hk).mono S2
      · rw [List.getElem?_append_right (by omega)] at hk
        have e2 : k - ys.length = 0 := by have := (List.getElem?_eq_some_iff.mp hk).1; simp at this; omega
        rw [e2] at hk
        cases hk
        have e3 : k = i := by omega
        subst e3
        exact .inr ⟨wy, p, rfl, hp, g1, g2, g3⟩
  obtain ⟨S1, hyl, hys⟩ := hP
  have S2 : Same H1 (upd H1 pw (.lst ys)) := same_new hpw _
  have hpw2 : upd H1 pw (.lst ys) pw = some (.lst ys) := upd_same
  generalize upd H1 pw (.lst ys) = H2 at S2 hpw2 ⊢
  have hys2 : ∀ k v, ys[k]? = some v → WayV n (Edge C) H2 k v := fun k v h => (hys k v h).mono S2
  refine ⟨_, rfl, pw, rfl, ⟨_, SqL.of hpw2⟩, ?_⟩
  refine comp_list (xs := ys) (fun i zs H3 => H3 = H2 ∧ ∃ (rs : List Addr) (ws : List (List Nat)), zs = rs.map V.ref ∧ rs.length ≤ i ∧ Paired (fun r w => H2 r = some (.lst ((ni w).map V.int)) ∧ ∃ k, k < i ∧ WayOk n (Edge C) k w) rs ws ∧ ∀ k, k < i → (∀ u, RG.Closed n (Edge C) u → u.getD 0 0 = k → False) ∨ ∃ w ∈ ws, WayOk n (Edge C) k w)
    ⟨rfl, [], [], rfl, Nat.le_refl _, .nil, fun k hk => absurd hk (Nat.not_lt_zero _)⟩ (fun i zs H3 _ hP => by rw [hP.1]; exact SqL.of hpw2) (fun i v zs H3 hv hP => ?_) (fun zs H3 hP pr hpr => ?_)
  · obtain ⟨rfl, rs, ws, rfl, hrl, hrs, hall⟩ := hP
    have hin : i < n := by have := (List.getElem?_eq_some_iff.mp hv).1; omega
    have up : Paired (fun r w => H3 r = some (.lst ((ni w).map V.int)) ∧ ∃ k, k < i + 1 ∧ WayOk n (Edge C) k w) rs ws := Paired.mapP hrs fun _ _ h => ⟨h.1, by obtain ⟨k, h1, h2⟩ := h.2; exact ⟨k, by omega, h2⟩⟩
    rcases hys2 i v hv with ⟨rfl, hno⟩ | ⟨wy, p, rfl, hp, hw⟩
    · refine ⟨_, rfl, rfl, _, rfl, iteF ⟨rfl, rs, ws, rfl, by omega, up, fun k hk => ?_⟩⟩
      by_cases e : k = i
      · subst e; exact .inl hno
      · exact hall k (by omega)
    · refine ⟨_, rfl, rfl, _, rfl, iteT ⟨_, rfl, small1000 (by rw [List.length_map]; omega), rfl, rs ++ [p], ws ++ [wy], by rw [List.map_append]; rfl, by rw [List.length_append]; exact Nat.succ_le_succ hrl, Paired.app up (.cons ⟨hp, i, Nat.lt_succ_self i, hw⟩ .nil), fun k hk => ?_⟩⟩
      by_cases e : k = i
      · subst e; exact .inr ⟨wy, by simp, hw⟩
      · rcases hall k (by omega) with z | ⟨w2, z1, z2⟩
        · exact .inl z
        · exact .inr ⟨w2, List.mem_append_left _ z1, z2⟩
  obtain ⟨rfl, rs, ws, rfl, hrl, hrs, hall⟩ := hP
  rw [hyl] at hall hrl
  have S4 : Same H3 (upd H3 pr (.lst (rs.map V.ref))) := same_new hpr _
  have hpr4 : upd H3 pr (.lst (rs.map V.ref)) pr = some (.lst (rs.map V.ref)) := upd_same
  generalize upd H3 pr (.lst (rs.map V.ref)) = H4 at S4 hpr4 ⊢
  have S04 := S1.trans (S2.trans S4)
  have hhd : ∀ v, RG.Closed n (Edge C) v → v.getD 0 0 < n := fun v hv => hv.bd _ (RG.getD_mem (RG.len_pos hv.ne))
  refine ⟨_, rfl, _, .inl ⟨_, SqL.of hpr4, rfl⟩, ?_⟩
  cases hrs with
  | nil =>
    exact iteT (q0 (fun v hv => by
      rcases hall _ (hhd v hv) with z | ⟨w2, z, _⟩
      · exact z v hv rfl
      · cases z) H4 S04)
  | @cons r1 w1 rs ws hw1 hrs =>
    refine iteF ?_
    have hrs2 : Paired (fun r w => H3 r = some (.lst ((ni w).map V.int)) ∧ ∃ k, k < ys.length ∧ WayOk n (Edge C) k w) (r1 :: rs) (w1 :: ws) := .cons hw1 hrs
    generalize r1 :: rs = RS at hrs2 hpr4 hrl
    have hne : RS ≠ [] := fun z => by rw [z] at hrs2; cases hrs2
    generalize w1 :: ws = WS at hrs2 hall
    refine ⟨_, rfl, pr, RS, WS.map (fun w => (ni w).map V.int), rfl, SqL.of hpr4, hne, Paired.mapR (fun r w h => SqL.of (S4 _ _ h.1)) hrs2, fun i r m hr hm hmin => ?_⟩
    obtain ⟨w, hw, hrw, k, hk, hok⟩ := Paired.get' hrs2 hr
    rw [List.getElem?_map, hw] at hm
    have hm2 : (ni w).map V.int = m := Option.some.inj hm
    subst hm2
    have hmn : ∀ v, RG.Closed n (Edge C) v → w.length ≤ v.length := fun v hv => by
      rcases hall _ (hhd v hv) with z | ⟨w2, z1, z2⟩
      · exact (z v hv rfl).elim
      · have h1 := z2.mn v hv rfl
        have h2 := hmin _ (List.mem_map.mpr ⟨w2, z1, rfl⟩)
        rw [List.length_map, List.length_map, ni_len, ni_len] at h2
        omega
    have hring := tri_ok hCh hok.cl hmn
    have hwne := hok.cl.ne
    have hwl := RG.len_pos hwne
    have hcl := hok.cl
    have hr4 := S4 _ _ hrw
    have hw6 : w.length ≤ 6 := by
      have h1 := hring.once
      have h2 := EM.nodup_len n (l := ni ((triOf C w).map Prod.fst)) (List.pairwise_map.mpr (h1.imp fun hab z => hab (by omega))) (fun x hx => by
        unfold ni at hx
        obtain ⟨y, hy, rfl⟩ := List.mem_map.mp hx
        obtain ⟨t, ht, rfl⟩ := List.mem_map.mp hy
        have := (hring.can t ht).hp
        omega)
      rw [ni_len, List.length_map, tri_len] at h2
      omega
    refine ⟨_, rfl, 1, rfl, r, _, rfl, SqL.of hr4, fun p1 hp1 => ?_⟩
    have T1 := same_new hp1 (.lst (cutV ((ni w).map V.int) (some 1) none))
    refine ⟨_, rfl, 1, rfl, r, _, rfl, SqL.of (T1 _ _ hr4), fun p2 hp2 => ?_⟩
    have T2 := same_new hp2 (.lst (cutV ((ni w).map V.int) none (some 1)))
    refine ⟨p1, p2, _, _, rfl, rfl, T2 _ _ upd_same, upd_same, ?_, fun gp hgp => ?_⟩
    · rw [ni_cut1, ni_cut2 hwl, List.length_map, List.length_map, ni_len, ni_len, List.length_drop, List.length_take]
      exact Nat.le_of_lt (small1000 (by omega))
    have T3 : Same H4 _ := T1.trans (T2.trans (same_new hgp (.lst (cutV ((ni w).map V.int) (some 1) none ++ cutV ((ni w).map V.int) none (some 1)))))
    have hgp5 : upd (upd (upd H4 p1 (.lst (cutV ((ni w).map V.int) (some 1) none))) p2 (.lst (cutV ((ni w).map V.int) none (some 1)))) gp (.lst (cutV ((ni w).map V.int) (some 1) none ++ cutV ((ni w).map V.int) none (some 1))) gp = some (.lst ((ni (gifts w)).map V.int)) := by
      rw [upd_same, ni_cut1, ni_cut2 hwl, ← List.map_append, ← ni_app]
      rfl
    generalize upd (upd (upd H4 p1 (.lst (cutV ((ni w).map V.int) (some 1) none))) p2 (.lst (cutV ((ni w).map V.int) none (some 1)))) gp (.lst (cutV ((ni w).map V.int) (some 1) none ++ cutV ((ni w).map V.int) none (some 1))) = H5 at T3 hgp5 ⊢
    have hr5 := T3 _ _ hr4
    have S05 := S04.trans T3
    have gl := gifts_len hwne
    refine ⟨_, rfl, _, rfl, false, false, r, gp, rfl, ⟨_, SqL.of hr5⟩, ⟨_, SqL.of hgp5⟩, ?_⟩
    have hlen1 : ((ni w).map V.int).length = w.length := by rw [List.length_map, ni_len]
    have hlen2 : ((ni (gifts w)).map V.int).length = w.length := by rw [List.length_map, ni_len, gl]
    refine comp_zip1 (xs := (ni w).map V.int) (ys := (ni (gifts w)).map V.int) (fun k zs H6 => Same H5 H6 ∧ Paired (IsTri K H6) zs ((triOf C w).take k)) (by omega) ⟨Same.refl _, by rw [List.take_zero]; exact .nil⟩ (fun k zs H6 _ hP => ⟨SqL.of (hP.1 _ _ hr5), SqL.of (hP.1 _ _ hgp5)⟩) (fun k x y zs H6 t hx hy ht hP => ?_) (fun zs H6 hP => ?_)
    · obtain ⟨S6, hzs⟩ := hP
      have hkw : k < w.length := by have := (List.getElem?_eq_some_iff.mp hx).1; omega
      rw [ni_get hkw] at hx
      cases hx
      rw [ni_get (by omega), gifts_at hwne hkw] at hy
      cases hy
      obtain ⟨pn, hpn, hcan⟩ := hCh.edge (hcl.ed k hkw)
      have T7 := same_new ht (.tup [.int ((w.getD k 0 : Nat) : Int), .int ((RG.nx w k : Nat) : Int)])
      refine ⟨t, _, rfl, SqT.of upd_same, rfl, _, _, rfl, _, _, rfl, rfl, ?_⟩
      generalize upd H6 t (.tup [.int ((w.getD k 0 : Nat) : Int), .int ((RG.nx w k : Nat) : Int)]) = H7 at T7 ⊢
      refine ⟨_, rfl, _, rfl, _, rfl, small2, fun pk hpk => ?_⟩
      have T8 := same_new hpk (.tup [.int ((RG.nx w k : Nat) : Int), .int ((w.getD k 0 : Nat) : Int)])
      refine ⟨d, pk, [((RG.nx w k : Nat) : Int), ((w.getD k 0 : Nat) : Int)], C, (pn : Int), rfl, rfl, hC.mono (S05.trans (S6.trans (T7.trans T8))), SqT.of upd_same, hpn, _, rfl, _, rfl, small3, fun tp htp => ?_⟩
      have T9 := T7.trans (T8.trans (same_new htp (.tup [.int (pn : Int), .int ((RG.nx w k : Nat) : Int), .int ((w.getD k 0 : Nat) : Int)])))
      have hzl := Paired.len hzs
      rw [List.length_take, tri_len] at hzl
      refine ⟨small1000 (by omega), S6.trans T9, ?_⟩
      rw [List.take_add_one, tri_at hkw]
      refine Paired.app (Paired.mapP hzs fun _ _ h => h.mono T9) (.cons ⟨tp, rfl, ?_⟩ .nil)
      rw [hpn]
      exact SqT.of upd_same
    · obtain ⟨S6, hzs⟩ := hP
      rw [hlen1, List.take_of_length_le (by rw [tri_len]; exact Nat.le_refl _)] at hzs
      intro Dl hDl
      exact q1 (triOf C w) Dl zs _ (S05.trans (S6.trans (same_new hDl _))) ((S05.trans S6).free hDl) upd_same (Paired.mapP hzs fun _ _ h => h.mono (same_new hDl _)) hring
theorem sc_step_of : FnScope ["table", "ring"] ["table", "ring"] (defScope (top 16)) := ⟨rfl, rfl, rfl, by decide +kernel, rfl, by decide +kernel, by decide +kernel⟩
set_option maxHeartbeats 4000000 in
theorem d_step_of {P : Program} {w : World} {K : PySem.W.Frag} {mg : Str → Option Value} {base : Heap} {x : Xs} (M : Md K mg x)
    (Gleast : Dn P w K mg base CX0 2 "least" ["parts"] (spLeast K)) : Dn P w K mg base CX0 3 "step_of" ["table", "ring"] (spStepOf K) := by
  have nd := (sc_step_of).nd
  refine M.f_step_of.ok sc_step_of (fun vs H Q E h => ?_) (fun _ _ _ _ _ _ us hl => match us, hl with | [_, _], _ => rfl) (fun f cdv A outer s H vs Q E hr h => ?_)
  · obtain ⟨b, r, us, ls, W, Z, T, c, n, R, rfl, hB, hZ, tw, hR, hls, ok, q⟩ := h
    rfl
  obtain ⟨b, r, us, ls, W, Z, T, c, n, R, rfl, hB, hZ, tw, hR, hls, ok, q⟩ := h
  refine ⟨_, (pss_one (ps_ret (pe_fn Gleast hr (by decide) rfl pass0 (pa_cons (pe_comp rfl (N := ["person", "given", "taken", "table"]) (caps := [none, none, none, some 0]) (CompOk.of (by kernel_rfl)) (gk_tup (gks_cons gName_mono (gk_name rfl) (gks_cons gName_mono (gk_name rfl) (gks_cons gName_mono (gk_name rfl) gks_nil)))) (pi_list (pv 1)) (fun _ _ _ _ => (pg_tupK (K := K) rfl 3 rfl (pgs_cons (pg_name (i := 0) (show (["person", "given", "taken", "table"] : List Str).Nodup by decide +kernel) rfl (Or.inl rfl) (Or.inr rfl)) (pgs_cons (pg_name (i := 1) (show (["person", "given", "taken", "table"] : List Str).Nodup by decide +kernel) rfl (Or.inl rfl) (Or.inr rfl)) (pgs_cons (pg_name (i := 2) (show (["person", "given", "taken", "table"] : List Str).Nodup by decide +kernel) rfl (Or.inl rfl) (Or.inr rfl)) pgs_nil))))) (fun _ _ _ _ => pts_nil) (fun _ _ _ _ => (pe_ix (ix_tupK (K := K) rfl) (pe_ix (ix_listK (K := K) rfl) (pv 3) (pv 0) (fun _ _ => rfl)) (pv 1) (fun _ _ => rfl)))) pa_nil)))), ?_⟩
  have hT := tw.z.t0
  have hT80 := tw.z.t1
  have hT0 : T ≠ 0 := by omega
  have zT : T.natAbs < 2 ^ 100 := by omega
  have hn6 := tw.w.hi
  have hRl := ok.len
  have hll := Paired.len hls
  refine ⟨_, rfl, r, rfl, ⟨_, hR⟩, ?_⟩
  refine comp_list1 (xs := ls) (fun k zs H1 => Same H H1 ∧ Paired (IsF K H1) zs ((R.take k).map fun x => FQ.red (HM.ent Z x.1 x.2.1) T)) ⟨Same.refl _, by rw [List.take_zero]; exact .nil⟩ (fun k zs H1 _ hP => hP.1.seq hR) (fun k v zs H1 hv hP => ?_) (fun zs H1 hP D hD => ?_)
  · obtain ⟨S1, hzs⟩ := hP
    obtain ⟨x, hx, xa, rfl, hxa⟩ := Paired.get' hls hv
    have hcan := ok.can x (List.mem_of_getElem? hx)
    obtain ⟨ra, gs, fa, hus, hra, hgs, hfa⟩ := share_at hZ tw.z.reg hcan.hp hcan.hg
    have hzl := Paired.len hzs
    rw [List.length_map, List.length_take] at hzl
    refine ⟨xa, _, rfl, S1.tup hxa, rfl, _, _, rfl, _, _, rfl, _, _, rfl, rfl, ?_⟩
    refine ⟨_, rfl, _, rfl, b, _, _, _, rfl, rfl, S1.seq hB, atI_nat hus, _, rfl, ra, _, _, _, rfl, rfl, S1.tup hra, atI_nat hgs, small1000 (by omega), S1, ?_⟩
    rw [List.take_add_one, hx, List.map_append]
    exact Paired.app hzs (.cons ⟨fa, rfl, S1.tup hfa⟩ .nil)
  · obtain ⟨S1, hzs⟩ := hP
    rw [hll, List.take_length] at hzs
    have SD := same_new hD (.lst zs)
    refine ⟨D, zs, _, rfl, SqL.of upd_same, fracs_mono SD hzs, fun z => ok.ne (List.map_eq_nil_iff.mp z), by rw [List.length_map]; omega, fun p hp => ?_, fun v hv => q v _ (S1.trans SD) ?_⟩
    · obtain ⟨x, hx, rfl⟩ := List.mem_map.mp hp
      have hcan := ok.can x hx
      have := tw.ent hcan.hp hcan.hg
      exact Sz_red hT0 (by omega) zT
    · have e : leastF (R.map fun x => FQ.red (HM.ent Z x.1 x.2.1) T) = FQ.red (stepR Z R) T := by
        have := leastF_min hT (l := R.map fun x => HM.ent Z x.1 x.2.1) (fun z => ok.ne (List.map_eq_nil_iff.mp z))
        rw [List.map_map] at this
        exact this
      rw [e] at hv
      exact hv
theorem sc_widest_ring : FnScope ["wishes", "table", "ring", "wider"] ["wishes", "table"] (defScope (top 17)) := ⟨rfl, rfl, rfl, by decide +kernel, rfl, by decide +kernel, by decide +kernel⟩
set_option maxHeartbeats 4000000 in
theorem d_widest_ring {P : Program} {w : World} {K : PySem.W.Frag} {mg : Str → Option Value} {base : Heap} {x : Xs} (M : Md K mg x)
    (Gring_of : Dn P w K mg base CX0 2 "ring_of" ["changers", "count"] (spRingOf P w K))
    (Gchangers_of : Dn P w K mg base CX0 2 "changers_of" ["wishes", "table", "floor"] (spChangers P w K))
    (Gstep_of : Dn P w K mg base CX0 3 "step_of" ["table", "ring"] (spStepOf K)) : Dn P w K mg base CX0 4 "widest_ring" ["wishes", "table"] (spWidest P w K) := by
  have nd := (sc_widest_ring).nd
  refine M.f_widest_ring.ok sc_widest_ring (fun vs H Q E h => ?_) (fun _ _ _ _ _ _ us hl => match us, hl with | [_, _], _ => rfl) (fun f cdv A outer s H vs Q E hr h => ?_)
  · obtain ⟨a, b, ws, us, W, Z, T, n, rfl, hA, hW, hB, hZ, tw, q0, q1⟩ := h
    rfl
  obtain ⟨a, b, ws, us, W, Z, T, n, rfl, hA, hW, hB, hZ, tw, q0, q1⟩ := h
  refine ⟨_, (pss_cons (ps_set (i := 2) nd rfl (Or.inl rfl) pe_non)
      (pss_cons (ps_set (i := 3) nd rfl (Or.inl rfl) (pe_fn Gring_of hr (by decide) rfl pass0 (pa_cons (pe_fn Gchangers_of hr (by decide) rfl pass0 (pa_cons (pv 0) (pa_cons (pv 1) (pa_cons (pe_gtup M.c_NOTHING) pa_nil)))) (pa_cons (pe_callB call_len_seq rfl M.b_len PySem.boot_len (pa_cons (pv 0) pa_nil)) pa_nil))))
      (pss_cons (ps_while PassesOwn.never (pt_cmpR op_notN (pv 3) pe_non (nomark _)) (pss_cons (ps_set (i := 2) nd rfl (Or.inl rfl) (pv 3))
      (pss_one (ps_set (i := 3) nd rfl (Or.inl rfl) (pe_fn Gring_of hr (by decide) rfl pass0 (pa_cons (pe_fn Gchangers_of hr (by decide) rfl pass0 (pa_cons (pv 0) (pa_cons (pv 1) (pa_cons (pe_fn Gstep_of hr (by decide) rfl pass0 (pa_cons (pv 1) (pa_cons (pv 2) pa_nil))) pa_nil)))) (pa_cons (pe_callB call_len_seq rfl M.b_len PySem.boot_len (pa_cons (pv 0) pa_nil)) pa_nil)))))))
      (pss_one (ps_ret (pv 2)))))), ?_⟩
  have hwl := Paired.len hW
  have hn1 := tw.w.lo
  have hn6 := tw.w.hi
  have hWn := tw.w.len
  have hT := tw.z.t0
  have hT80 := tw.z.t1
  have hT0 : T ≠ 0 := by omega
  have hwn : ws.length = n := by omega
  refine ⟨_, rfl, _, rfl, fun na hna => ?_⟩
  refine ⟨a, b, na, ws, us, W, Z, T, 0, n, rfl, hA, hW, hB, hZ, tw, by rw [red_zero hT0]; exact hna H, Int.le_refl _, by omega, fun d0 C0 H1 S1 hC0 hCh0 => ?_⟩
  refine ⟨_, rfl, a, _, rfl, .inl (S1.seq hA), d0, C0, W, Z, 0, n, by show [V.ref d0, V.int _] = [V.ref d0, V.int _]; rw [hwn], hC0, hCh0, hn1, hn6, (fun hno0 H2 S2 => ?_), fun R0 p0 ls0 H2 S2 g01 g02 g03 g04 => ?_⟩
  · have hI : WI K H H2 n W Z T 0 .non .non := .inl ⟨rfl, rfl, .inl ⟨rfl, closed_of_none hCh0 hno0⟩⟩
    dsimp only [gName]
    refine while_of (fun m σ H3 => Same H H3 ∧ ∃ v2 v3, σ = [some (.ref a), some (.ref b), some v2, some v3] ∧ WI K H H3 n W Z T m v2 v3) ⟨_, S1.trans S2, _, _, rfl, hI⟩ (fun m σ H3 hP => ?_) (fun σ H3 Q1 Q2 hQ h => ?_)
    · obtain ⟨S3, v2, v3, rfl, hw⟩ := hP
      refine ⟨_, rfl, rfl, _, rfl, ?_⟩
      rcases hw with ⟨rfl, rfl, hv2⟩ | ⟨c, hc0, hcT, hring, rfl⟩
      · refine iteF ?_
        rcases hv2 with ⟨rfl, hno⟩ | ⟨R, p, ls, rfl, h1, h2, h3, h4⟩
        · exact ⟨_, rfl, q0 hno H3 S3⟩
        · exact ⟨_, rfl, q1 R p ls H3 S3 h1 h2 h3 h4⟩
      · obtain ⟨R, p, ls, rfl, h1, h2, h3, h4⟩ := hring
        obtain ⟨sg, sl, sx, sm, se⟩ := step_gt h4
        have hcx := h4.can sx sm
        have sb := tw.ent hcx.hp hcx.hg
        rw [← se] at sb
        refine iteT ?_
        refine ⟨_, rfl, ?_⟩
        refine ⟨_, rfl, _, rfl, _, rfl, _, rfl, b, p, us, ls, W, Z, T, c, n, R, rfl, S3.seq hB, Paired.mapP hZ (fun _ _ h => h.mono S3), tw, SqL.of h2, h3, h4, fun v H4 S4 hv => ?_⟩
        obtain ⟨fa, rfl, hfa⟩ := hv
        have S34 := S3.trans S4
        refine ⟨a, b, fa, ws, us, W, Z, T, stepR Z R, n, rfl, S34.seq hA, Paired.mapP hW (fun _ _ h => h.mono S34), S34.seq hB, Paired.mapP hZ (fun _ _ h => h.mono S34), tw, hfa, sb.1, sb.2, fun d C H5 S5 hC5 hCh => ?_⟩
        have S35 := S34.trans S5
        refine ⟨_, rfl, a, _, rfl, .inl (S35.seq hA), d, C, W, Z, stepR Z R, n, by show [V.ref d, V.int _] = [V.ref d, V.int _]; rw [hwn], hC5, hCh, hn1, hn6, (fun hno H6 S6 => ?_), fun R2 p2 ls2 H6 S6 g1 g2 g3 g4 => ?_⟩
        · exact ⟨0, by omega, S35.trans S6, .ref p, .non, rfl, .inl ⟨rfl, rfl, .inr (RingV.mono ⟨R, p, ls, rfl, h1, h2, h3, h4⟩ (S4.trans (S5.trans S6)) hc0)⟩⟩
        · exact ⟨(T - stepR Z R).toNat + 1, by omega, S35.trans S6, .ref p, .ref p2, rfl, .inr ⟨stepR Z R, sb.1, sb.2, ⟨R2, p2, ls2, rfl, S35.free g1, g2, g3, g4⟩, rfl⟩⟩
    · obtain ⟨v, e, h1, k, ek, qx⟩ := h
      exact ⟨v, e, h1, k, ek, hQ _ _ qx⟩
  · have hI : WI K H H2 n W Z T ((T - 0).toNat + 1) .non (.ref p0) := .inr ⟨0, Int.le_refl _, by omega, ⟨R0, p0, ls0, rfl, S1.free g01, g02, g03, g04⟩, rfl⟩
    dsimp only [gName]
    refine while_of (fun m σ H3 => Same H H3 ∧ ∃ v2 v3, σ = [some (.ref a), some (.ref b), some v2, some v3] ∧ WI K H H3 n W Z T m v2 v3) ⟨_, S1.trans S2, _, _, rfl, hI⟩ (fun m σ H3 hP => ?_) (fun σ H3 Q1 Q2 hQ h => ?_)
    · obtain ⟨S3, v2, v3, rfl, hw⟩ := hP
      refine ⟨_, rfl, rfl, _, rfl, ?_⟩
      rcases hw with ⟨rfl, rfl, hv2⟩ | ⟨c, hc0, hcT, hring, rfl⟩
      · refine iteF ?_
        rcases hv2 with ⟨rfl, hno⟩ | ⟨R, p, ls, rfl, h1, h2, h3, h4⟩
        · exact ⟨_, rfl, q0 hno H3 S3⟩
        · exact ⟨_, rfl, q1 R p ls H3 S3 h1 h2 h3 h4⟩
      · obtain ⟨R, p, ls, rfl, h1, h2, h3, h4⟩ := hring
        obtain ⟨sg, sl, sx, sm, se⟩ := step_gt h4
        have hcx := h4.can sx sm
        have sb := tw.ent hcx.hp hcx.hg
        rw [← se] at sb
        refine iteT ?_
        refine ⟨_, rfl, ?_⟩
        refine ⟨_, rfl, _, rfl, _, rfl, _, rfl, b, p, us, ls, W, Z, T, c, n, R, rfl, S3.seq hB, Paired.mapP hZ (fun _ _ h => h.mono S3), tw, SqL.of h2, h3, h4, fun v H4 S4 hv => ?_⟩
        obtain ⟨fa, rfl, hfa⟩ := hv
        have S34 := S3.trans S4
        refine ⟨a, b, fa, ws, us, W, Z, T, stepR Z R, n, rfl, S34.seq hA, Paired.mapP hW (fun _ _ h => h.mono S34), S34.seq hB, Paired.mapP hZ (fun _ _ h => h.mono S34), tw, hfa, sb.1, sb.2, fun d C H5 S5 hC5 hCh => ?_⟩
        have S35 := S34.trans S5
        refine ⟨_, rfl, a, _, rfl, .inl (S35.seq hA), d, C, W, Z, stepR Z R, n, by show [V.ref d, V.int _] = [V.ref d, V.int _]; rw [hwn], hC5, hCh, hn1, hn6, (fun hno H6 S6 => ?_), fun R2 p2 ls2 H6 S6 g1 g2 g3 g4 => ?_⟩
        · exact ⟨0, by omega, S35.trans S6, .ref p, .non, rfl, .inl ⟨rfl, rfl, .inr (RingV.mono ⟨R, p, ls, rfl, h1, h2, h3, h4⟩ (S4.trans (S5.trans S6)) hc0)⟩⟩
        · exact ⟨(T - stepR Z R).toNat + 1, by omega, S35.trans S6, .ref p, .ref p2, rfl, .inr ⟨stepR Z R, sb.1, sb.2, ⟨R2, p2, ls2, rfl, S35.free g1, g2, g3, g4⟩, rfl⟩⟩
    · obtain ⟨v, e, h1, k, ek, qx⟩ := h
      exact ⟨v, e, h1, k, ek, hQ _ _ qx⟩
theorem sc_row_behind : FnScope ["shares", "given", "taken", "step", "row"] ["shares", "given", "taken", "step"] (defScope (top 18)) := ⟨rfl, rfl, rfl, by decide +kernel, rfl, by decide +kernel, by decide +kernel⟩
set_option maxHeartbeats 4000000 in
theorem d_row_behind {P : Program} {w : World} {K : PySem.W.Frag} {mg : Str → Option Value} {base : Heap} {x : Xs} (M : Md K mg x)
    (Gminus : Dn P w K mg base CX0 3 "minus" ["one", "two"] (sp2F fSub K))
    (Gplus : Dn P w K mg base CX0 3 "plus" ["one", "two"] (sp2F fAdd K)) : Dn P w K mg base CX0 4 "row_behind" ["shares", "given", "taken", "step"] (spRowB K) := by
  have nd := (sc_row_behind).nd
  refine M.f_row_behind.ok sc_row_behind (fun vs H Q E h => ?_) (fun _ _ _ _ _ _ us hl => match us, hl with | [_, _, _, _], _ => rfl) (fun f cdv A outer s H vs Q E hr h => ?_)
  · obtain ⟨r, w, gs, m, g, t, T, x, rfl, hro, hg, hw, ⟨hT, hT2⟩, hgm, htm, hgt, hm6, hmb, ⟨hx0, hx1⟩, q⟩ := h
    rfl
  obtain ⟨r, w, gs, m, g, t, T, x, rfl, hro, hg, hw, ⟨hT, hT2⟩, hgm, htm, hgt, hm6, hmb, ⟨hx0, hx1⟩, q⟩ := h
  refine ⟨_, (pss_cons (ps_set (i := 4) nd rfl (Or.inl rfl) (pe_callTy call_list_of rfl M.b_list Boot.«list» (pa_cons (pv 0) pa_nil)))
      (pss_cons (ps_asg (pe_fn Gminus hr (by decide) rfl pass0 (pa_cons (pe_ix ix_list (pv 4) (pv 1) (fun _ _ => rfl)) (pa_cons (pv 3) pa_nil))) (pg_sub (pv 4) (pv 1) set_list))
      (pss_cons (ps_asg (pe_fn Gplus hr (by decide) rfl pass0 (pa_cons (pe_ix ix_list (pv 4) (pv 2) (fun _ _ => rfl)) (pa_cons (pv 3) pa_nil))) (pg_sub (pv 4) (pv 2) set_list))
      (pss_one (ps_ret (pe_callTy call_tuple_of rfl M.b_tuple Boot.«tuple» (pa_cons (pv 4) pa_nil))))))), ?_⟩
  have hT0 : T ≠ 0 := by omega
  have hgl := Paired.len hg
  rw [fr_len] at hgl
  obtain ⟨_, e0, hw'⟩ := id hw
  cases e0
  have bg := hmb (m.getD g 0) (by rw [HM.getD_lt hgm]; exact List.getElem_mem _)
  have bt := hmb (m.getD t 0) (by rw [HM.getD_lt htm]; exact List.getElem_mem _)
  refine ⟨_, rfl, r, gs, rfl, .inr hro, fun p hp => ?_⟩
  have S1 : Same H (upd H p (.lst gs)) := same_new hp _
  have hp1 : upd H p (.lst gs) p = some (.lst gs) := upd_same
  generalize upd H p (.lst gs) = H1 at S1 hp1 ⊢
  obtain ⟨v, hv, va, rfl, hva⟩ := Paired.get hg (fr_get (D := T) hgm)
  obtain ⟨u, hu, ua, rfl, hua⟩ := Paired.get hg (fr_get (D := T) htm)
  refine ⟨_, rfl, _, rfl, p, gs, _, _, rfl, rfl, SqL.of hp1, atI_nat hv, _, rfl, va, w, _, _, rfl, S1.tup hva, S1.tup hw', Sz_red hT0 (by omega) (by omega), Sz_red hT0 (by omega) (by omega), fun pf H2 S2 hpf => ?_⟩
  rw [fSub_red hT0] at hpf
  have hp2 := S2 _ _ hp1
  refine ⟨_, rfl, _, rfl, p, _, _, g, rfl, rfl, hp2, by unfold ixN; rw [if_pos (by omega), if_pos (by omega)]; rfl, ?_⟩
  have S3 : Same H (upd H2 p (.lst (gs.set g (.ref pf)))) := (S1.trans S2).over hp _
  have hp3 : upd H2 p (.lst (gs.set g (.ref pf))) p = some (.lst (gs.set g (.ref pf))) := upd_same
  have hpf3 : SqT K (upd H2 p (.lst (gs.set g (.ref pf)))) pf [.int (FQ.red (m.getD g 0 - x) T).1, .int (FQ.red (m.getD g 0 - x) T).2] := tup_over (SqT.of hpf) hp2
  generalize upd H2 p (.lst (gs.set g (.ref pf))) = H3 at S3 hp3 hpf3 ⊢
  have hu3 : (gs.set g (.ref pf))[t]? = some (.ref ua) := by rw [List.getElem?_set_ne hgt]; exact hu
  refine ⟨_, rfl, _, rfl, p, _, _, _, rfl, rfl, SqL.of hp3, atI_nat hu3, _, rfl, ua, w, _, _, rfl, S3.tup hua, S3.tup hw', Sz_red hT0 (by omega) (by omega), Sz_red hT0 (by omega) (by omega), fun pt H4 S4 hpt => ?_⟩
  rw [fAdd_red hT0] at hpt
  have hp4 := S4 _ _ hp3
  refine ⟨_, rfl, _, rfl, p, _, _, t, rfl, rfl, hp4, by unfold ixN; rw [if_pos (by omega), if_pos (by rw [List.length_set]; omega)]; rfl, ?_⟩
  have S5 : Same H (upd H4 p (.lst ((gs.set g (.ref pf)).set t (.ref pt)))) := (S3.trans S4).over hp _
  have S45 := S4
  refine ⟨_, rfl, p, _, rfl, .inl ⟨SqL.of upd_same, fun tp htp => q (.ref tp) _ (S5.trans (same_new htp _)) ⟨tp, _, rfl, SqT.of upd_same, ?_⟩⟩⟩
  rw [fr_move]
  have base : Paired (IsF K (upd H4 p (.lst ((gs.set g (.ref pf)).set t (.ref pt))))) gs (fr T m) := fracs_mono S5 hg
  have f1 : IsF K (upd H4 p (.lst ((gs.set g (.ref pf)).set t (.ref pt)))) (.ref pf) (FQ.red (m.getD g 0 - x) T) := IsF.over ⟨pf, rfl, S4.tup hpf3⟩ hp4
  have f2 : IsF K (upd H4 p (.lst ((gs.set g (.ref pf)).set t (.ref pt)))) (.ref pt) (FQ.red (m.getD t 0 + x) T) := IsF.over ⟨pt, rfl, SqT.of hpt⟩ hp4
  exact Paired.mapP (paired_set (paired_set base f1) f2) fun _ _ h => h.mono (same_new htp _)
theorem sc_table_behind : FnScope ["table", "ring", "step", "behind", "person", "given", "taken"] ["table", "ring"] (defScope (top 19)) := ⟨rfl, rfl, rfl, by decide +kernel, rfl, by decide +kernel, by decide +kernel⟩
set_option maxHeartbeats 4000000 in
theorem d_table_behind {P : Program} {w : World} {K : PySem.W.Frag} {mg : Str → Option Value} {base : Heap} {x : Xs} (M : Md K mg x)
    (Gstep_of : Dn P w K mg base CX0 3 "step_of" ["table", "ring"] (spStepOf K))
    (Grow_behind : Dn P w K mg base CX0 4 "row_behind" ["shares", "given", "taken", "step"] (spRowB K)) : Dn P w K mg base CX0 5 "table_behind" ["table", "ring"] (spTabB K) := by
  have nd := (sc_table_behind).nd
  refine M.f_table_behind.ok sc_table_behind (fun vs H Q E h => ?_) (fun _ _ _ _ _ _ us hl => match us, hl with | [_, _], _ => rfl) (fun f cdv A outer s H vs Q E hr h => ?_)
  · obtain ⟨b, r, us, ls, W, Z, T, n, R, rfl, hB, hZ, tw, hR, hls, ok, q⟩ := h
    rfl
  obtain ⟨b, r, us, ls, W, Z, T, n, R, rfl, hB, hZ, tw, hR, hls, ok, q⟩ := h
  refine ⟨_, (pss_cons (ps_set (i := 2) nd rfl (Or.inl rfl) (pe_fn Gstep_of hr (by decide) rfl pass0 (pa_cons (pv 0) (pa_cons (pv 1) pa_nil))))
      (pss_cons (ps_setComp (i := 3) nd rfl rfl rfl rfl (N := ["row"]) (caps := [none]) (CompOk.of (by kernel_rfl)) (gk_name rfl) (pi_list (pv 0)) (fun _ _ _ _ => (pg_name (i := 0) (show (["row"] : List Str).Nodup by decide +kernel) rfl (Or.inl rfl) (Or.inr rfl))) (fun _ _ _ _ => pts_nil) (fun _ _ _ _ => (pe_callTy (call_tuple_ofK (K := K) rfl) rfl M.b_tuple Boot.«tuple» (pa_cons (pv 0) pa_nil))))
      (pss_cons (ps_for PassesOwn.never rfl (pi_list (pv 1)) (pg_tup rfl (pgs_cons (pg_name (i := 4) nd rfl (Or.inl rfl)) (pgs_cons (pg_name (i := 5) nd rfl (Or.inl rfl)) (pgs_cons (pg_name (i := 6) nd rfl (Or.inl rfl)) pgs_nil)))) (pss_one (ps_asg (pe_fn Grow_behind hr (by decide) rfl pass0 (pa_cons (pe_ix ix_list (pv 0) (pv 4) (fun _ _ => rfl)) (pa_cons (pv 5) (pa_cons (pv 6) (pa_cons (pv 2) pa_nil))))) (pg_sub (pv 3) (pv 4) set_list))))
      (pss_one (ps_ret (pv 3)))))), ?_⟩
  have hT := tw.z.t0
  have hT80 := tw.z.t1
  have hn6 := tw.w.hi
  have hRl := ok.len
  have hll := Paired.len hls
  have hul := Paired.len hZ
  have reg := tw.z.reg
  have hZn := reg.len
  obtain ⟨sg, sl, sx, sm, se⟩ := step_gt ok
  have hcx := ok.can sx sm
  have sb := tw.ent hcx.hp hcx.hg
  rw [← se] at sb
  refine ⟨_, rfl, _, rfl, b, r, us, ls, W, Z, T, 0, n, R, rfl, hB, hZ, tw, hR, hls, ok, fun v H1 S1 hv => ?_⟩
  obtain ⟨sa, rfl, hsa⟩ := hv
  refine ⟨_, rfl, b, rfl, ⟨_, S1.seq hB⟩, ?_⟩
  refine comp_list1 (xs := us) (fun k zs H2 => H2 = H1 ∧ zs = us.take k) ⟨rfl, by rw [List.take_zero]⟩ (fun k zs H2 _ hP => by rw [hP.1]; exact S1.seq hB) (fun k u zs H2 hu hP => ?_) (fun zs H2 hP D hD => ?_)
  · obtain ⟨rfl, rfl⟩ := hP
    have hk : k < us.length := (List.getElem?_eq_some_iff.mp hu).1
    obtain ⟨m, hm, ra, gs, rfl, hra, hgs⟩ := Paired.get' hZ hu
    refine ⟨_, rfl, ra, gs, rfl, .inr ⟨S1.tup hra, small1000 (by rw [List.length_take]; omega), rfl, ?_⟩⟩
    rw [List.take_add_one, hu]
    rfl
  obtain ⟨rfl, rfl⟩ := hP
  rw [List.take_length]
  have S2 : Same H2 (upd H2 D (.lst us)) := same_new hD _
  have hD0 : H D = none := S1.free hD
  have hD2 : upd H2 D (.lst us) D = some (.lst us) := upd_same
  generalize upd H2 D (.lst us) = H3 at S2 hD2 ⊢
  have S13 := S1.trans S2
  refine ⟨_, rfl, r, rfl, ⟨_, S13.seq hR⟩, ?_⟩
  refine for_list (xs := ls) (fun k σ H4 => Same H H4 ∧ SqT K H4 sa [.int (FQ.red (stepR Z R) T).1, .int (FQ.red (stepR Z R) T).2] ∧ ∃ (vs : List V) (r4 r5 r6 : Option V), σ = [some (.ref b), some (.ref r), some (.ref sa), some (.ref D), r4, r5, r6] ∧ H4 D = some (.lst vs) ∧ Paired (RwFT K H4 T) vs (behind Z (stepR Z R) R k))
    ⟨S13, S2.tup hsa, us, _, _, _, rfl, hD2, Paired.mapP hZ fun _ _ h => h.mono S13⟩ (fun k σ H4 _ hP => hP.1.seq hR) (fun k v σ H4 hv hP => ?_) (fun σ H4 hP => ?_)
  · obtain ⟨S4, hsa4, vs, r4, r5, r6, rfl, hD4, hvs⟩ := hP
    obtain ⟨x, hx, xa, rfl, hxa⟩ := Paired.get' hls hv
    have hcan := ok.can x (List.mem_of_getElem? hx)
    have hp := hcan.hp
    have hpZ : x.1 < Z.length := by omega
    have hcols := reg.cols _ (List.getElem_mem hpZ)
    obtain ⟨u, hu, ra, gs, rfl, hra, hgs⟩ := Paired.get hZ (List.getElem?_eq_getElem hpZ)
    have hvl := Paired.len hvs
    rw [behind_len] at hvl
    have hgt : x.2.1 ≠ x.2.2 := fun z => by have := hcan.lk; rw [z] at this; omega
    have eZ : Z.getD x.1 [] = Z[x.1] := HM.getD_lt hpZ
    refine ⟨xa, _, rfl, S4.tup hxa, rfl, _, _, rfl, _, _, rfl, _, _, rfl, rfl, ?_⟩
    refine ⟨_, rfl, _, rfl, b, _, _, _, rfl, rfl, S4.seq hB, atI_nat hu, _, rfl, _, rfl, _, rfl, ra, sa, gs, Z[x.1], x.2.1, x.2.2, T, stepR Z R, rfl, S4.tup hra, fracs_mono S4 hgs, ⟨sa, rfl, hsa4⟩, ⟨hT, hT80⟩, by have := hcan.hg; omega, by have := hcan.ht; omega, hgt, by omega, reg_bd reg (List.getElem_mem hpZ), sb, fun nv H5 S5 hnv => ?_⟩
    have hD5 := S5 _ _ hD4
    refine ⟨_, rfl, _, rfl, D, _, _, x.1, rfl, rfl, hD5, by unfold ixN; rw [if_pos (by omega), if_pos (by omega)]; rfl, ?_⟩
    refine ⟨(S4.trans S5).over hD0 _, tup_over (S5.tup hsa4) hD5, _, _, _, _, rfl, upd_same, ?_⟩
    rw [behind_succ hx, eZ]
    exact Paired.mapP (Paired.setP (Paired.mapP hvs fun _ _ h => h.mono S5) hnv) fun _ _ h => h.over hD5
  · obtain ⟨S4, hsa4, vs, r4, r5, r6, rfl, hD4, hvs⟩ := hP
    rw [hll] at hvs
    exact ⟨_, rfl, q D vs H4 S4 hD0 hD4 hvs⟩
theorem sc_is_kept : FnScope ["given", "things", "changers"] ["given", "things", "changers"] (defScope (top 20)) := ⟨rfl, rfl, rfl, by decide +kernel, rfl, by decide +kernel, by decide +kernel⟩
set_option maxHeartbeats 4000000 in
theorem d_is_kept {P : Program} {w : World} {K : PySem.W.Frag} {mg : Str → Option Value} {base : Heap} {x : Xs} (M : Md K mg x) : Dn P w K mg base CX0 1 "is_kept" ["given", "things", "changers"] (spKept P w K) := by
  have nd := (sc_is_kept).nd
  refine M.f_is_kept.ok sc_is_kept (fun vs H Q E h => ?_) (fun _ _ _ _ _ _ us hl => match us, hl with | [_, _, _], _ => rfl) (fun f cdv A outer s H vs Q E hr h => ?_)
  · obtain ⟨d, l, C, ts, g, rfl, hC, hL, h60, q⟩ := h
    rfl
  obtain ⟨d, l, C, ts, g, rfl, hC, hL, h60, q⟩ := h
  refine ⟨_, (pss_one (ps_ret (pe_not (pe_callB (call_any rfl) rfl M.b_any Boot.«any» (pa_cons (pe_comp rfl (N := ["taken", "given", "changers"]) (caps := [none, some 0, some 2]) (CompOk.of (by kernel_rfl)) (gk_name rfl) (pi_list (pv 1)) (fun _ _ _ _ => (pg_name (i := 0) (show (["taken", "given", "changers"] : List Str).Nodup by decide +kernel) rfl (Or.inl rfl) (Or.inr rfl))) (fun _ _ _ _ => pts_nil) (fun _ _ _ _ => (pe_cmpR (op_inX (W := keyR) (P := P) (w := w) (K := K) rfl rfl rfl hr) (pe_tup (pa_cons (pv 1) (pa_cons (pv 0) pa_nil))) (pv 2) (by with_unfolding_all rfl)))) pa_nil))))), ?_⟩
  have small2 : (2 : Nat) ≤ sizeLine := by decide
  have hlen : ((ni ts).map V.int).length = ts.length := by rw [List.length_map, ni_len]
  refine ⟨_, rfl, l, rfl, ⟨_, hL⟩, ?_⟩
  refine comp_list1 (xs := (ni ts).map V.int) (fun k zs H1 => Same H H1 ∧ zs = ((ts.take k).map fun (t : Nat) => (look C [(g : Int), (t : Int)]).isSome).map V.bl) ⟨Same.refl _, by rw [List.take_zero]; rfl⟩ (fun k zs H1 _ hP => hP.1.seq hL) (fun k v zs H1 hv hP => ?_) (fun zs H1 hP D hD => ?_)
  · obtain ⟨S1, rfl⟩ := hP
    have hk : k < ts.length := by have := (List.getElem?_eq_some_iff.mp hv).1; omega
    rw [ni_get hk] at hv
    cases hv
    refine ⟨_, rfl, _, rfl, small2, fun pk hpk => ?_⟩
    have S2 := same_new hpk (.tup [.int (g : Int), .int ((ts.getD k 0 : Nat) : Int)])
    refine ⟨_, rfl, pk, d, [(g : Int), ((ts.getD k 0 : Nat) : Int)], C, rfl, rfl, hC.mono (S1.trans S2), SqT.of upd_same, small1000 (by rw [List.length_map, List.length_map, List.length_take]; omega), S1.trans S2, ?_⟩
    rw [List.take_add_one, List.getElem?_eq_getElem hk, List.map_append, List.map_append, HM.getD_lt hk]
    rfl
  · obtain ⟨S1, rfl⟩ := hP
    rw [hlen, List.take_length]
    have SD := same_new hD (.lst ((ts.map fun (t : Nat) => (look C [(g : Int), (t : Int)]).isSome).map V.bl))
    refine ⟨D, _, rfl, SqL.of upd_same, ?_⟩
    have e : (ts.map fun (t : Nat) => (look C [(g : Int), (t : Int)]).isSome).any id = ts.any fun (t : Nat) => (look C [(g : Int), (t : Int)]).isSome := by rw [List.any_map]; rfl
    rw [e]
    exact ⟨_, rfl, q _ (S1.trans SD)⟩
theorem sc_first_kept : FnScope ["things", "changers"] ["things", "changers"] (defScope (top 21)) := ⟨rfl, rfl, rfl, by decide +kernel, rfl, by decide +kernel, by decide +kernel⟩
set_option maxHeartbeats 4000000 in
theorem d_first_kept {P : Program} {w : World} {K : PySem.W.Frag} {mg : Str → Option Value} {base : Heap} {x : Xs} (M : Md K mg x)
    (Gis_kept : Dn P w K mg base CX0 1 "is_kept" ["given", "things", "changers"] (spKept P w K)) : Dn P w K mg base CX0 2 "first_kept" ["things", "changers"] (spFirstK P w K) := by
  have nd := (sc_first_kept).nd
  refine M.f_first_kept.ok sc_first_kept (fun vs H Q E h => ?_) (fun _ _ _ _ _ _ us hl => match us, hl with | [_, _], _ => rfl) (fun f cdv A outer s H vs Q E hr h => ?_)
  · obtain ⟨d, l, C, ts, rfl, hC, hL, h60, hex, q⟩ := h
    rfl
  obtain ⟨d, l, C, ts, rfl, hC, hL, h60, hex, q⟩ := h
  refine ⟨_, (pss_one (ps_ret (pe_ix ix_list (pe_comp rfl (N := ["given", "things", "changers"]) (caps := [none, some 0, some 1]) (CompOk.of (by kernel_rfl)) (gk_name rfl) (pi_list (pv 0)) (fun _ _ _ _ => (pg_name (i := 0) (show (["given", "things", "changers"] : List Str).Nodup by decide +kernel) rfl (Or.inl rfl) (Or.inr rfl))) (fun _ _ _ _ => (pts_one (pt_val (pe_fn Gis_kept hr (by decide) rfl pass0 (pa_cons (pv 0) (pa_cons (pv 1) (pa_cons (pv 2) pa_nil))))))) (fun _ _ _ _ => (pv 0))) pe_int (fun _ _ => rfl)))), ?_⟩
  have hlen : ((ni ts).map V.int).length = ts.length := by rw [List.length_map, ni_len]
  refine ⟨_, rfl, l, rfl, ⟨_, hL⟩, ?_⟩
  refine comp_list (xs := (ni ts).map V.int) (fun k zs H1 => Same H H1 ∧ zs = (ni ((ts.take k).filter fun (g : Nat) => !(ts.any fun (t : Nat) => (look C [(g : Int), (t : Int)]).isSome))).map V.int) ⟨Same.refl _, by rw [List.take_zero]; rfl⟩ (fun k zs H1 _ hP => hP.1.seq hL) (fun k v zs H1 hv hP => ?_) (fun zs H1 hP D hD => ?_)
  · obtain ⟨S1, rfl⟩ := hP
    have hk : k < ts.length := by have := (List.getElem?_eq_some_iff.mp hv).1; omega
    rw [ni_get hk] at hv
    cases hv
    refine ⟨_, rfl, _, rfl, _, rfl, d, l, C, ts, ts.getD k 0, rfl, hC.mono S1, S1.seq hL, h60, fun H2 S2 => ⟨_, rfl, ?_⟩⟩
    have hsz : ((ni ((ts.take k).filter fun (g : Nat) => !(ts.any fun (t : Nat) => (look C [(g : Int), (t : Int)]).isSome))).map V.int).length < sizeLine := by
      rw [List.length_map, ni_len]
      have h1 := List.length_filter_le (fun (g : Nat) => !(ts.any fun (t : Nat) => (look C [(g : Int), (t : Int)]).isSome)) (ts.take k)
      rw [List.length_take] at h1
      exact small1000 (by omega)
    rw [List.take_add_one, List.getElem?_eq_getElem hk, List.filter_append, ni_app, List.map_append]
    rw [HM.getD_lt hk]
    refine ite2 (fun c => ?_) (fun c => ?_)
    · refine ⟨_, rfl, hsz, S1.trans S2, ?_⟩
      rw [show (Option.some ts[k]).toList.filter (fun (g : Nat) => !(ts.any fun (t : Nat) => (look C [(g : Int), (t : Int)]).isSome)) = [ts[k]] from List.filter_cons_of_pos c]
      rfl
    · refine ⟨S1.trans S2, ?_⟩
      rw [show (Option.some ts[k]).toList.filter (fun (g : Nat) => !(ts.any fun (t : Nat) => (look C [(g : Int), (t : Int)]).isSome)) = [] from List.filter_cons_of_neg c]
      show _ = _ ++ []
      rw [List.append_nil]
  · obtain ⟨S1, rfl⟩ := hP
    rw [hlen, List.take_length]
    have SD := same_new hD (.lst ((ni (ts.filter fun (g : Nat) => !(ts.any fun (t : Nat) => (look C [(g : Int), (t : Int)]).isSome))).map V.int))
    obtain ⟨g0, hg0, hk0⟩ := hex
    have kept : ∀ g : Nat, (!(ts.any fun (t : Nat) => (look C [(g : Int), (t : Int)]).isSome)) = true ↔ ∀ t ∈ ts, ¬ Edge C g t := fun g => by
      rw [Bool.not_eq_true', List.any_eq_false]
      rfl
    have hm0 : g0 ∈ ts.filter fun (g : Nat) => !(ts.any fun (t : Nat) => (look C [(g : Int), (t : Int)]).isSome) := List.mem_filter.mpr ⟨hg0, (kept g0).mpr hk0⟩
    cases hf : ts.filter fun (g : Nat) => !(ts.any fun (t : Nat) => (look C [(g : Int), (t : Int)]).isSome) with
    | nil => rw [hf] at hm0; cases hm0
    | cons g1 gr =>
      have hm1 : g1 ∈ ts.filter fun (g : Nat) => !(ts.any fun (t : Nat) => (look C [(g : Int), (t : Int)]).isSome) := by rw [hf]; exact List.mem_cons_self
      obtain ⟨h1, h2⟩ := List.mem_filter.mp hm1
      rw [hf] at SD
      exact ⟨D, _, 0, _, rfl, rfl, SqL.of upd_same, atI_ok (by decide) rfl, q g1 _ h1 ((kept g1).mp h2) (S1.trans SD)⟩
theorem sc_order_of : FnScope ["changers", "count", "things", "order", "thing"] ["changers", "count"] (defScope (top 22)) := ⟨rfl, rfl, rfl, by decide +kernel, rfl, by decide +kernel, by decide +kernel⟩
set_option maxHeartbeats 4000000 in
theorem d_order_of {P : Program} {w : World} {K : PySem.W.Frag} {mg : Str → Option Value} {base : Heap} {x : Xs} (M : Md K mg x)
    (Gfirst_kept : Dn P w K mg base CX0 2 "first_kept" ["things", "changers"] (spFirstK P w K)) : Dn P w K mg base CX0 3 "order_of" ["changers", "count"] (spOrderOf P w K) := by
  have nd := (sc_order_of).nd
  refine M.f_order_of.ok sc_order_of (fun vs H Q E h => ?_) (fun _ _ _ _ _ _ us hl => match us, hl with | [_, _], _ => rfl) (fun f cdv A outer s H vs Q E hr h => ?_)
  · obtain ⟨d, C, n, rfl, hC, hn6, hno, q⟩ := h
    rfl
  obtain ⟨d, C, n, rfl, hC, hn6, hno, q⟩ := h
  refine ⟨_, (pss_cons (ps_set (i := 2) nd rfl (Or.inl rfl) (pe_callTy (call_list_rng rfl) rfl M.b_list Boot.«list» (pa_cons (pe_callTy call_range rfl M.b_range PyProof.Rows.boot_range (pa_cons (pv 1) pa_nil)) pa_nil)))
      (pss_cons (ps_set (i := 3) nd rfl (Or.inl rfl) (pe_lst pa_nil))
      (pss_cons (ps_while PassesOwn.never (pt_truth (pv 2) (fun _ => rfl)) (pss_cons (ps_set (i := 4) nd rfl (Or.inl rfl) (pe_fn Gfirst_kept hr (by decide) rfl pass0 (pa_cons (pv 2) (pa_cons (pv 0) pa_nil))))
      (pss_cons (ps_expr (pe_bm PySem.F.plainAttrs_list PySem.F.slot_list_remove PySem.F.type_list_remove mt_remove (pv 2) (pa_cons (pv 4) pa_nil)))
      (pss_one (ps_expr (pe_bm PySem.F.plainAttrs_list PySem.F.slot_list_append PySem.F.type_list_append mt_append (pv 3) (pa_cons (pv 4) pa_nil)))))))
      (pss_one (ps_ret (pv 3)))))), ?_⟩
  have small0 : (0 : Nat) ≤ sizeLine := by decide
  refine ⟨_, rfl, (n : Int), rfl, fun lr hlr => ⟨lr, n, rfl, upd_same, by omega, fun l hl => ?_⟩⟩
  have e0 : (List.range n).map (fun (i : Nat) => V.int (i : Int)) = (ni (List.range n)).map V.int := by unfold ni; rw [List.map_map]; rfl
  rw [e0]
  refine ⟨small0, fun f hf => ?_⟩
  have Sl : Same H (upd (upd H lr (.rng 0 (n : Int))) l (.lst ((ni (List.range n)).map V.int))) := (same_new hlr _).trans (same_new hl _)
  have hl1 : H l = none := (same_new hlr _).free hl
  have hll : upd (upd H lr (.rng 0 (n : Int))) l (.lst ((ni (List.range n)).map V.int)) l = some (.lst ((ni (List.range n)).map V.int)) := upd_same
  generalize upd (upd H lr (.rng 0 (n : Int))) l (.lst ((ni (List.range n)).map V.int)) = H1 at hf Sl hll ⊢
  have hlf : l ≠ f := fun z => by rw [z, hf] at hll; cases hll
  have hf0 : H f = none := Sl.free hf
  have S2 : Same H1 (upd H1 f (.lst [])) := same_new hf _
  have hf2 : upd H1 f (.lst []) f = some (.lst ((ni []).map V.int)) := upd_same
  generalize upd H1 f (.lst []) = H2 at S2 hf2 ⊢
  dsimp only [gName]
  refine while_of (fun m σ H3 => Same H H3 ∧ ∃ (os ts : List Nat) (r4 : Option V), σ = [some (.ref d), some (.int n), some (.ref l), some (.ref f), r4] ∧ H3 l = some (.lst ((ni ts).map V.int)) ∧ H3 f = some (.lst ((ni os).map V.int)) ∧ RG.Ord n (Edge C) os ts ∧ m = ts.length)
    ⟨_, Sl.trans S2, [], List.range n, _, rfl, S2 _ _ hll, hf2, RG.Ord.start n _, rfl⟩ (fun m σ H3 hP => ?_) (fun σ H3 Q1 Q2 hQ h => ?_)
  · obtain ⟨S3, os, ts, r4, rfl, hl3, hf3, hO, rfl⟩ := hP
    have hlen := hO.pm.length_eq
    rw [List.length_append, List.length_range] at hlen
    refine ⟨_, rfl, _, .inl ⟨_, SqL.of hl3, rfl⟩, ?_⟩
    cases hts : ts with
    | nil =>
      subst hts
      exact ⟨_, rfl, q os f H3 S3 hf0 hf3 hO⟩
    | cons t0 tr =>
      have hne : ts ≠ [] := fun z => by rw [z] at hts; cases hts
      have hb : ∀ t ∈ ts, t < n := fun t ht => List.mem_range.mp (hO.pm.mem_iff.mp (List.mem_append_right _ ht))
      refine iteT ?_
      have hlt0 : (t0 :: tr).length = ts.length := by rw [hts]
      clear hts
      refine ⟨_, rfl, _, rfl, d, l, C, ts, rfl, hC.mono S3, SqL.of hl3, by omega, RG.kept_ex hno hne hb, fun g H4 hg hk S4 => ?_⟩
      have hl4 := S4 _ _ hl3
      have hf4 := S4 _ _ hf3
      refine ⟨_, rfl, .inl ⟨rfl, _, SqL.of hl4⟩, _, rfl, l, ni ts, (g : Int), rfl, rfl, hl4, mem_ni.mpr hg, ?_⟩
      rw [ni_erase]
      have S5 : Same H (upd H4 l (.lst ((ni (ts.erase g)).map V.int))) := (S3.trans S4).over hl1 _
      have hl5 : upd H4 l (.lst ((ni (ts.erase g)).map V.int)) l = some (.lst ((ni (ts.erase g)).map V.int)) := upd_same
      have hf5 : upd H4 l (.lst ((ni (ts.erase g)).map V.int)) f = some (.lst ((ni os).map V.int)) := by rw [upd_ne (Ne.symm hlf)]; exact hf4
      generalize upd H4 l (.lst ((ni (ts.erase g)).map V.int)) = H5 at S5 hl5 hf5 ⊢
      refine ⟨_, rfl, .inl ⟨rfl, _, SqL.of hf5⟩, _, rfl, f, _, _, rfl, rfl, hf5, small1000 (by rw [List.length_map, ni_len]; omega), ?_⟩
      have hle := List.length_erase_of_mem hg
      have hpos := List.length_pos_of_mem hg
      exact ⟨(ts.erase g).length, by omega, S5.over hf0 _, os ++ [g], ts.erase g, _, rfl, by rw [upd_ne hlf]; exact hl5, by rw [upd_same, ni_app, List.map_append]; rfl, hO.step hg hk, rfl⟩
  · obtain ⟨v, e, k, tv, qx⟩ := h
    exact ⟨v, e, k, tv, hQ _ _ qx⟩
theorem sc_ring_or_order : FnScope ["wishes", "table", "ring"] ["wishes", "table"] (defScope (top 23)) := ⟨rfl, rfl, rfl, by decide +kernel, rfl, by decide +kernel, by decide +kernel⟩
set_option maxHeartbeats 4000000 in
theorem d_ring_or_order {P : Program} {w : World} {K : PySem.W.Frag} {mg : Str → Option Value} {base : Heap} {x : Xs} (M : Md K mg x)
    (Gwidest_ring : Dn P w K mg base CX0 4 "widest_ring" ["wishes", "table"] (spWidest P w K))
    (Gorder_of : Dn P w K mg base CX0 3 "order_of" ["changers", "count"] (spOrderOf P w K))
    (Gchangers_of : Dn P w K mg base CX0 2 "changers_of" ["wishes", "table", "floor"] (spChangers P w K))
    (Gtable_behind : Dn P w K mg base CX0 5 "table_behind" ["table", "ring"] (spTabB K)) : Dn P w K mg base CX0 6 "ring_or_order" ["wishes", "table"] (spRO K) := by
  have nd := (sc_ring_or_order).nd
  refine M.f_ring_or_order.ok sc_ring_or_order (fun vs H Q E h => ?_) (fun _ _ _ _ _ _ us hl => match us, hl with | [_, _], _ => rfl) (fun f cdv A outer s H vs Q E hr h => ?_)
  · obtain ⟨a, b, ws, us, W, Z, T, n, rfl, hA, hW, hB, hZ, tw, q0, q1⟩ := h
    rfl
  obtain ⟨a, b, ws, us, W, Z, T, n, rfl, hA, hW, hB, hZ, tw, q0, q1⟩ := h
  refine ⟨_, (pss_cons (ps_set (i := 2) nd rfl (Or.inl rfl) (pe_fn Gwidest_ring hr (by decide) rfl pass0 (pa_cons (pv 0) (pa_cons (pv 1) pa_nil))))
      (pss_cons (ps_if (pt_cmpR op_isN (pv 2) pe_non (nomark _)) (pss_one (ps_ret (pe_tup (pa_cons pe_bl (pa_cons (pe_fn Gorder_of hr (by decide) rfl pass0 (pa_cons (pe_fn Gchangers_of hr (by decide) rfl pass0 (pa_cons (pv 0) (pa_cons (pv 1) (pa_cons (pe_gtup M.c_NOTHING) pa_nil)))) (pa_cons (pe_callB call_len_seq rfl M.b_len PySem.boot_len (pa_cons (pv 0) pa_nil)) pa_nil))) pa_nil))))) pss_nil)
      (pss_one (ps_ret (pe_tup (pa_cons pe_bl (pa_cons (pe_tup (pa_cons (pv 2) (pa_cons (pe_fn Gtable_behind hr (by decide) rfl pass0 (pa_cons (pv 1) (pa_cons (pv 2) pa_nil))) pa_nil))) pa_nil))))))), ?_⟩
  have hwl := Paired.len hW
  have hn1 := tw.w.lo
  have hn6 := tw.w.hi
  have hWn := tw.w.len
  have hT := tw.z.t0
  have hT0 : T ≠ 0 := by omega
  have hwn : ws.length = n := by omega
  have small2 : (2 : Nat) ≤ sizeLine := by decide
  refine ⟨_, rfl, _, rfl, a, b, ws, us, W, Z, T, n, rfl, hA, hW, hB, hZ, tw, (fun hno H1 S1 => ?_), fun R p ls H1 S1 hp0 hp hls hok => ?_⟩
  · refine ⟨_, rfl, rfl, _, rfl, iteT ?_⟩
    refine ⟨_, rfl, _, rfl, fun na hna => ?_⟩
    refine ⟨a, b, na, ws, us, W, Z, T, 0, n, rfl, S1.seq hA, Paired.mapP hW (fun _ _ h => h.mono S1), S1.seq hB, Paired.mapP hZ (fun _ _ h => h.mono S1), tw, by rw [red_zero hT0]; exact hna H1, Int.le_refl _, by omega, fun d C H2 S2 hC hCh => ?_⟩
    have S12 := S1.trans S2
    refine ⟨_, rfl, a, _, rfl, .inl (S12.seq hA), d, C, n, by show [V.ref d, V.int _] = [V.ref d, V.int _]; rw [hwn], hC, hn6, ring_of_closed hCh (Int.le_refl _) hno, fun os o H3 S3 ho0 ho hO => ?_⟩
    refine ⟨small2, fun tp htp => ?_⟩
    have S4 := same_new htp (.tup [.bl true, .ref o])
    exact q0 hno (.ref tp) o os _ (S12.trans (S3.trans S4)) ⟨⟨tp, rfl, SqT.of upd_same⟩, S12.free ho0, S4 _ _ ho, Ord.mono hO fun g t ⟨pp, hc⟩ => hCh.all pp g t hc⟩
  · refine ⟨_, rfl, rfl, _, rfl, iteF ?_⟩
    refine ⟨_, rfl, _, rfl, _, rfl, b, p, us, ls, W, Z, T, n, R, rfl, S1.seq hB, Paired.mapP hZ (fun _ _ h => h.mono S1), tw, SqL.of hp, hls, hok, fun t us2 H2 S2 ht0 ht hus2 => ?_⟩
    refine ⟨small2, fun pr hpr => ⟨small2, fun tp htp => ?_⟩⟩
    have S3 := same_new hpr (.tup [.ref p, .ref t])
    have S4 := same_new htp (.tup [.bl false, .ref pr])
    have S34 := S3.trans S4
    exact q1 (.ref tp) pr p t R ls us2 _ (S1.trans (S2.trans S34)) ⟨⟨tp, rfl, SqT.of upd_same⟩, S4.tup (SqT.of upd_same), hp0, S1.free ht0, (fun z => by rw [← z, hp] at ht0; cases ht0), S34 _ _ (S2 _ _ hp), Paired.mapP hls (fun _ _ h => h.mono (S2.trans S34)), hok, S34 _ _ ht, Paired.mapP hus2 fun _ _ h => h.mono S34⟩
theorem sc__law_cell_at : FnScope ["_law_script", "_law_k"] ["_law_script", "_law_k"] (defScope (top 25)) := ⟨rfl, rfl, rfl, by decide +kernel, rfl, by decide +kernel, by decide +kernel⟩
set_option maxHeartbeats 4000000 in
theorem d__law_cell_at {P : Program} {w : World} {K : PySem.W.Frag} {mg : Str → Option Value} {base : Heap} {x : Xs} (M : Md K mg x) : Dn P w K mg base CX0 1 "_law_cell_at" ["_law_script", "_law_k"] (spCell K) := by
  have nd := (sc__law_cell_at).nd
  refine M.f__law_cell_at.ok sc__law_cell_at (fun vs H Q E h => ?_) (fun _ _ _ _ _ _ us hl => match us, hl with | [_, _], _ => rfl) (fun f cdv A outer s H vs Q E hr h => ?_)
  · obtain ⟨a, ns, k, rfl, hS, h0, q⟩ := h
    rfl
  obtain ⟨a, ns, k, rfl, hS, h0, q⟩ := h
  refine ⟨_, (pss_cons (ps_if (pt_cmpR op_lt (pv 1) (pe_callB call_len_seq rfl M.b_len PySem.boot_len (pa_cons (pv 0) pa_nil)) (nomark _)) (pss_one (ps_ret (pe_ix ix_list (pv 0) (pv 1) (fun _ _ => rfl)))) pss_nil)
      (pss_one (ps_ret pe_int))), ?_⟩
  have hl : (ns.map V.int).length = ns.length := List.length_map _
  refine ⟨_, rfl, _, rfl, a, _, rfl, .inl hS, _, _, rfl, rfl, _, rfl, ?_⟩
  refine iteD2 (fun c => ?_) (fun c => ?_)
  · rw [hl] at c
    refine ⟨_, rfl, _, rfl, a, _, k, _, rfl, rfl, hS, atI_ok h0 (map_int_get (by omega)), ?_⟩
    have e : LM.cellAt ns k = ns.getD k.toNat 0 := by unfold LM.cellAt; rw [if_pos c]
    rw [← e]
    exact q
  · rw [hl] at c
    have e : LM.cellAt ns k = 0 := by unfold LM.cellAt; rw [if_neg c]
    rw [e] at q
    exact q
theorem sc__law_mixed : FnScope ["_law_cell", "_law_place", "_law_number"] ["_law_cell", "_law_place"] (defScope (top 26)) := ⟨rfl, rfl, rfl, by decide +kernel, rfl, by decide +kernel, by decide +kernel⟩
set_option maxHeartbeats 4000000 in
theorem d__law_mixed {P : Program} {w : World} {K : PySem.W.Frag} {mg : Str → Option Value} {base : Heap} {x : Xs} (M : Md K mg x) : Dn P w K mg base CX0 1 "_law_mixed" ["_law_cell", "_law_place"] (spMixN) := by
  have nd := (sc__law_mixed).nd
  refine M.f__law_mixed.ok sc__law_mixed (fun vs H Q E h => ?_) (fun _ _ _ _ _ _ us hl => match us, hl with | [_, _], _ => rfl) (fun f cdv A outer s H vs Q E hr h => ?_)
  · obtain ⟨c, p, rfl, q⟩ := h
    rfl
  obtain ⟨c, p, rfl, q⟩ := h
  refine ⟨_, (pss_cons (ps_set (i := 2) nd rfl (Or.inl rfl) (pe_op op_mod (pe_op op_add (pe_op op_add (pe_op op_mulB (pe_op op_mod (pv 0) pe_int) pe_int) (pe_op op_mulB pe_int (pv 1))) pe_int) pe_int))
      (pss_cons (ps_set (i := 2) nd rfl (Or.inl rfl) (pe_op op_mod (pe_op op_add (pe_op op_add (pe_op op_mulB (pv 2) (pv 2)) (pe_op op_mulB pe_int (pv 1))) pe_int) pe_int))
      (pss_one (ps_ret (pe_op op_mod (pe_op op_add (pe_op op_mulB (pv 2) (pv 2)) pe_int) pe_int))))), ?_⟩
  refine ⟨_, rfl, _, _, rfl, rfl, by show (0 : Int) < 2147483629; decide, _, _, rfl, rfl, mulR (by decide), _, rfl, _, _, rfl, rfl, mulL (by decide), _, _, rfl, rfl, _, _, rfl, rfl, _, _, rfl, rfl, by show (0 : Int) < 2147483629; decide, ?_⟩
  have b1 := LN.m1_bd c p
  have e1 : (c % 2147483629 * 16807 + 69621 * p + 11) % 2147483629 = LN.m1 c p := rfl
  dsimp only
  rw [e1]
  refine ⟨_, rfl, _, rfl, _, _, rfl, rfl, mulL (by omega), _, rfl, _, _, rfl, rfl, mulL (by decide), _, _, rfl, rfl, _, _, rfl, rfl, _, _, rfl, rfl, by show (0 : Int) < 2147483629; decide, ?_⟩
  have b2 := LN.m2_bd (LN.m1 c p) p
  have e2 : (LN.m1 c p * LN.m1 c p + 48271 * p + 7) % 2147483629 = LN.m2 (LN.m1 c p) p := rfl
  dsimp only
  rw [e2]
  exact ⟨_, rfl, _, rfl, _, _, rfl, rfl, mulL (by omega), _, _, rfl, rfl, _, _, rfl, rfl, by show (0 : Int) < 2147483587; decide, q⟩
theorem sc__law_divisor : FnScope ["_law_one", "_law_two"] ["_law_one", "_law_two"] (defScope (top 27)) := ⟨rfl, rfl, rfl, by decide +kernel, rfl, by decide +kernel, by decide +kernel⟩
set_option maxHeartbeats 4000000 in
theorem d__law_divisor {P : Program} {w : World} {K : PySem.W.Frag} {mg : Str → Option Value} {base : Heap} {x : Xs} (M : Md K mg x) : Dn P w K mg base CX0 1 "_law_divisor" ["_law_one", "_law_two"] (spDivisor) := by
  have nd := (sc__law_divisor).nd
  refine M.f__law_divisor.ok sc__law_divisor (fun vs H Q E h => ?_) (fun _ _ _ _ _ _ us hl => match us, hl with | [_, _], _ => rfl) (fun f cdv A outer s H vs Q E hr h => ?_)
  · obtain ⟨i, j, rfl, hj, q⟩ := h
    rfl
  obtain ⟨i, j, rfl, hj, q⟩ := h
  refine ⟨_, (pss_cons (ps_while PassesOwn.never (pt_cmpR op_ne (pv 1) pe_int (nomark _)) (pss_one (ps_par (i := 0) (j := 1) rfl nd rfl rfl (by decide) rfl rfl (pa_cons (pv 1) (pa_cons (pe_op op_mod (pv 0) (pv 1)) pa_nil)) rfl)))
      (pss_one (ps_ret (pe_callB call_abs rfl M.b_abs Boot.«abs» (pa_cons (pv 0) pa_nil))))), ?_⟩
  refine while_of (fun m σ H' => H' = H ∧ ∃ (a b : Int), σ = [some (.int a), some (.int b)] ∧ 0 ≤ b ∧ Int.gcd a b = Int.gcd i j ∧ m = b.toNat)
    ⟨_, rfl, _, _, rfl, hj, rfl, rfl⟩ (fun m σ H' hP => ?_) (fun σ H' Q1 Q2 hQ h => ?_)
  · obtain ⟨rfl, a, b, rfl, hb, hg, rfl⟩ := hP
    refine ⟨_, rfl, rfl, _, rfl, ?_⟩
    refine iteN2 (fun c => ?_) (fun c => ?_)
    · have hb0 : b ≠ 0 := fun z => c (by rw [z])
      refine ⟨_, rfl, _, rfl, _, rfl, a, b, rfl, rfl, by show (0 : Int) < b; omega, _, _, rfl, ?_⟩
      refine ⟨(a % b).toNat, ?_, rfl, b, a % b, rfl, Int.emod_nonneg _ hb0, ?_, rfl⟩
      · have := Int.emod_lt_of_pos a (show 0 < b by omega)
        have := Int.emod_nonneg a hb0
        omega
      · rw [FQ.gcd_turn, hg]
    · have hb0 : b = 0 := Veq c
      subst hb0
      refine ⟨_, rfl, a, rfl, ?_⟩
      have e : (if a < 0 then -a else a) = (Int.gcd i j : Int) := by rw [← hg]; simp; split <;> omega
      rw [e]
      exact q
  · obtain ⟨v, e, sc, k, ek, q⟩ := h
    exact ⟨v, e, sc, k, ek, hQ _ _ q⟩
theorem sc__law_lowest : FnScope ["_law_top", "_law_bottom", "_law_by"] ["_law_top", "_law_bottom"] (defScope (top 28)) := ⟨rfl, rfl, rfl, by decide +kernel, rfl, by decide +kernel, by decide +kernel⟩
set_option maxHeartbeats 4000000 in
theorem d__law_lowest {P : Program} {w : World} {K : PySem.W.Frag} {mg : Str → Option Value} {base : Heap} {x : Xs} (M : Md K mg x)
    (G_law_divisor : Dn P w K mg base CX0 1 "_law_divisor" ["_law_one", "_law_two"] (spDivisor)) : Dn P w K mg base CX0 2 "_law_lowest" ["_law_top", "_law_bottom"] (spLowest) := by
  have nd := (sc__law_lowest).nd
  refine M.f__law_lowest.ok sc__law_lowest (fun vs H Q E h => ?_) (fun _ _ _ _ _ _ us hl => match us, hl with | [_, _], _ => rfl) (fun f cdv A outer s H vs Q E hr h => ?_)
  · obtain ⟨t, b, rfl, hb, hz, q⟩ := h
    rfl
  obtain ⟨t, b, rfl, hb, hz, q⟩ := h
  refine ⟨_, (pss_cons (ps_set (i := 2) nd rfl (Or.inl rfl) (pe_fn G_law_divisor hr (by decide) rfl pass0 (pa_cons (pv 0) (pa_cons (pv 1) pa_nil))))
      (pss_one (ps_ret (pe_tup (pa_cons (pe_op op_divP (pv 0) (pv 2)) (pa_cons (pe_op op_divP (pv 1) (pv 2)) pa_nil)))))), ?_⟩
  refine ⟨_, rfl, _, rfl, t, b, rfl, Int.le_of_lt hb, ?_⟩
  have hs := (fraction_div (t := t) (b := b) (by omega) hz).2 (by omega)
  have hg : 0 < Int.gcd t b := Int.gcd_pos_of_ne_zero_right _ (by omega)
  refine ⟨_, rfl, _, rfl, t, _, rfl, rfl, ⟨by omega, hs.1.2⟩, _, rfl, _, rfl, b, _, rfl, rfl, ⟨by omega, hs.1.2⟩, by show 2 ≤ sizeLine; decide, fun p hp => q p _ (same_new hp _) ?_⟩
  rw [upd_same]
  show some (HO.tup [V.int (t / _), V.int (b / _)]) = _
  rw [← Int.fdiv_eq_ediv_of_nonneg t (by omega), ← Int.fdiv_eq_ediv_of_nonneg b (by omega), hs.2.1, hs.2.2]
  rfl
theorem sc__law_plus : FnScope ["_law_one", "_law_two"] ["_law_one", "_law_two"] (defScope (top 29)) := ⟨rfl, rfl, rfl, by decide +kernel, rfl, by decide +kernel, by decide +kernel⟩
set_option maxHeartbeats 4000000 in
theorem d__law_plus {P : Program} {w : World} {K : PySem.W.Frag} {mg : Str → Option Value} {base : Heap} {x : Xs} (M : Md K mg x)
    (G_law_lowest : Dn P w K mg base CX0 2 "_law_lowest" ["_law_top", "_law_bottom"] (spLowest)) : Dn P w K mg base CX0 3 "_law_plus" ["_law_one", "_law_two"] (sp2P fAdd K) := by
  have nd := (sc__law_plus).nd
  refine M.f__law_plus.ok sc__law_plus (fun vs H Q E h => ?_) (fun _ _ _ _ _ _ us hl => match us, hl with | [_, _], _ => rfl) (fun f cdv A outer s H vs Q E hr h => ?_)
  · obtain ⟨a, b, x, y, rfl, ha, hb, bx, b_y, px, py, q⟩ := h
    rfl
  obtain ⟨a, b, x, y, rfl, ha, hb, bx, b_y, px, py, q⟩ := h
  refine ⟨_, (pss_one (ps_ret (pe_fn G_law_lowest hr (by decide) rfl pass0 (pa_cons (pe_op op_add (pe_op op_mulB (pe_ix ix_tup (pv 0) pe_int (fun _ _ => rfl)) (pe_ix ix_tup (pv 1) pe_int (fun _ _ => rfl))) (pe_op op_mulB (pe_ix ix_tup (pv 1) pe_int (fun _ _ => rfl)) (pe_ix ix_tup (pv 0) pe_int (fun _ _ => rfl)))) (pa_cons (pe_op op_mulB (pe_ix ix_tup (pv 0) pe_int (fun _ _ => rfl)) (pe_ix ix_tup (pv 1) pe_int (fun _ _ => rfl))) pa_nil))))), ?_⟩
  obtain ⟨x1, x2, x0⟩ := bx
  obtain ⟨y1, y2, y0⟩ := b_y
  refine ⟨_, rfl, a, _, 0, _, rfl, rfl, ha, rfl, ?_⟩
  refine ⟨_, rfl, b, _, 1, _, rfl, rfl, hb, rfl, ?_⟩
  refine ⟨_, _, rfl, rfl, mul4 x1 y2, ?_⟩
  refine ⟨_, rfl, b, _, 0, _, rfl, rfl, hb, rfl, ?_⟩
  refine ⟨_, rfl, a, _, 1, _, rfl, rfl, ha, rfl, ?_⟩
  refine ⟨_, _, rfl, rfl, mul4 y1 x2, _, _, rfl, rfl, ?_⟩
  refine ⟨_, rfl, a, _, 1, _, rfl, rfl, ha, rfl, ?_⟩
  refine ⟨_, rfl, b, _, 1, _, rfl, rfl, hb, rfl, ?_⟩
  refine ⟨_, _, rfl, rfl, mul4 x2 y2, ?_⟩
  exact ⟨_, _, rfl, Int.mul_pos px py, bot4 x2 y2, q⟩
theorem sc__law_less : FnScope ["_law_one", "_law_two"] ["_law_one", "_law_two"] (defScope (top 30)) := ⟨rfl, rfl, rfl, by decide +kernel, rfl, by decide +kernel, by decide +kernel⟩
set_option maxHeartbeats 4000000 in
theorem d__law_less {P : Program} {w : World} {K : PySem.W.Frag} {mg : Str → Option Value} {base : Heap} {x : Xs} (M : Md K mg x) : Dn P w K mg base CX0 1 "_law_less" ["_law_one", "_law_two"] (spBefore K) := by
  have nd := (sc__law_less).nd
  refine M.f__law_less.ok sc__law_less (fun vs H Q E h => ?_) (fun _ _ _ _ _ _ us hl => match us, hl with | [_, _], _ => rfl) (fun f cdv A outer s H vs Q E hr h => ?_)
  · obtain ⟨a, b, x, y, rfl, ha, hb, bx, b_y, q⟩ := h
    rfl
  obtain ⟨a, b, x, y, rfl, ha, hb, bx, b_y, q⟩ := h
  refine ⟨_, (pss_one (ps_ret (pe_cmpR op_lt (pe_op op_mulB (pe_ix ix_tup (pv 0) pe_int (fun _ _ => rfl)) (pe_ix ix_tup (pv 1) pe_int (fun _ _ => rfl))) (pe_op op_mulB (pe_ix ix_tup (pv 1) pe_int (fun _ _ => rfl)) (pe_ix ix_tup (pv 0) pe_int (fun _ _ => rfl))) (nomark _)))), ?_⟩
  obtain ⟨x1, x2, x0⟩ := bx
  obtain ⟨y1, y2, y0⟩ := b_y
  refine ⟨_, rfl, a, _, 0, _, rfl, rfl, ha, rfl, ?_⟩
  refine ⟨_, rfl, b, _, 1, _, rfl, rfl, hb, rfl, ?_⟩
  refine ⟨_, _, rfl, rfl, mul4 x1 y2, ?_⟩
  refine ⟨_, rfl, b, _, 0, _, rfl, rfl, hb, rfl, ?_⟩
  refine ⟨_, rfl, a, _, 1, _, rfl, rfl, ha, rfl, ?_⟩
  exact ⟨_, _, rfl, rfl, mul4 y1 x2, _, _, rfl, rfl, q⟩
theorem sc__law_whole : FnScope ["_law_found"] ["_law_found"] (defScope (top 31)) := ⟨rfl, rfl, rfl, by decide +kernel, rfl, by decide +kernel, by decide +kernel⟩
set_option maxHeartbeats 4000000 in
theorem d__law_whole {P : Program} {w : World} {K : PySem.W.Frag} {mg : Str → Option Value} {base : Heap} {x : Xs} (M : Md K mg x) : Dn P w K mg base CX0 1 "_law_whole" ["_law_found"] (spWhole) := by
  have nd := (sc__law_whole).nd
  refine M.f__law_whole.ok sc__law_whole (fun vs H Q E h => ?_) (fun _ _ _ _ _ _ us hl => match us, hl with | [_], _ => rfl) (fun f cdv A outer s H vs Q E hr h => ?_)
  · obtain ⟨i, rfl, q⟩ := h
    rfl
  obtain ⟨i, rfl, q⟩ := h
  refine ⟨_, (pss_one (ps_ret (pe_and (pe_callB call_isT rfl M.b_isinstance Boot.«isinstance» (pa_cons (pv 0) (pa_cons (pe_ty rfl M.b_int Boot.«int») pa_nil))) (pe_one (pe_not (pe_callB call_isT rfl M.b_isinstance Boot.«isinstance» (pa_cons (pv 0) (pa_cons (pe_ty rfl M.b_bool Boot.«bool») pa_nil)))))))), ?_⟩
  refine ⟨_, rfl, .int i, "int", "int", rfl, by decide, rfl, _, rfl, ?_⟩
  refine iteT ⟨_, rfl, .int i, "bool", "int", rfl, by decide, rfl, _, rfl, q⟩
theorem sc__law_order : FnScope ["_law_number", "_law_count", "_law_left", "_law_found", "_law_k"] ["_law_number", "_law_count"] (defScope (top 33)) := ⟨rfl, rfl, rfl, by decide +kernel, rfl, by decide +kernel, by decide +kernel⟩
set_option maxHeartbeats 4000000 in
theorem d__law_order {P : Program} {w : World} {K : PySem.W.Frag} {mg : Str → Option Value} {base : Heap} {x : Xs} (M : Md K mg x) : Dn P w K mg base CX0 1 "_law_order" ["_law_number", "_law_count"] (spOrderF) := by
  have nd := (sc__law_order).nd
  refine M.f__law_order.ok sc__law_order (fun vs H Q E h => ?_) (fun _ _ _ _ _ _ us hl => match us, hl with | [_, _], _ => rfl) (fun f cdv A outer s H vs Q E hr h => ?_)
  · obtain ⟨num, n, rfl, hn, q⟩ := h
    rfl
  obtain ⟨num, n, rfl, hn, q⟩ := h
  refine ⟨_, (pss_cons (ps_set (i := 2) nd rfl (Or.inl rfl) (pe_callTy (call_list_rng rfl) rfl M.b_list Boot.«list» (pa_cons (pe_callTy call_range rfl M.b_range PyProof.Rows.boot_range (pa_cons (pv 1) pa_nil)) pa_nil)))
      (pss_cons (ps_set (i := 3) nd rfl (Or.inl rfl) (pe_lst pa_nil))
      (pss_cons (ps_for PassesOwn.never rfl (pi_range1 rfl M.b_range (pa_cons (pv 1) pa_nil)) (pg_name (i := 4) nd rfl (Or.inl rfl)) (pss_cons (ps_expr (pe_bm PySem.F.plainAttrs_list PySem.F.slot_list_append PySem.F.type_list_append mt_append (pv 3) (pa_cons (pe_bm PySem.F.plainAttrs_list PySem.F.slot_list_pop PySem.F.type_list_pop mt_popAt (pv 2) (pa_cons (pe_op op_mod (pv 0) (pe_callB call_len_seq rfl M.b_len PySem.boot_len (pa_cons (pv 2) pa_nil))) pa_nil)) pa_nil)))
      (pss_one (ps_set (i := 0) nd rfl (Or.inl rfl) (pe_op op_divP (pv 0) pe_int)))))
      (pss_one (ps_ret (pe_callTy call_tuple_ofF rfl M.b_tuple Boot.«tuple» (pa_cons (pv 3) pa_nil))))))), ?_⟩
  refine ⟨_, rfl, (n : Int), rfl, fun lr hlr => ⟨lr, n, rfl, upd_same, by omega, fun l hl => ?_⟩⟩
  have e0 : (List.range n).map (fun (i : Nat) => V.int (i : Int)) = (LM.rng n).map V.int := by unfold LM.rng; rw [List.map_map]; rfl
  rw [e0]
  have small0 : (0 : Nat) ≤ sizeLine := by decide
  refine ⟨small0, fun f hf => ?_⟩
  have Sl : Same H (upd (upd H lr (.rng 0 (n : Int))) l (.lst ((LM.rng n).map V.int))) := (same_new hlr _).trans (same_new hl _)
  have hl1 : H l = none := (same_new hlr _).free hl
  have hll : upd (upd H lr (.rng 0 (n : Int))) l (.lst ((LM.rng n).map V.int)) l = some (.lst ((LM.rng n).map V.int)) := upd_same
  generalize upd (upd H lr (.rng 0 (n : Int))) l (.lst ((LM.rng n).map V.int)) = H1 at hf Sl hll ⊢
  have hlf : l ≠ f := fun z => by rw [z, hf] at hll; cases hll
  have hf0 : H f = none := Sl.free hf
  refine ⟨_, rfl, (n : Int), rfl, by omega, by omega, ?_⟩
  refine for_range (n := n) (fun k σ H' => Same H H' ∧ H' f = some (.lst ((LN.ordGo n num k).1.map V.int)) ∧ H' l = some (.lst ((LN.ordGo n num k).2.1.map V.int)) ∧ ∃ r, σ = [some (.int (LN.ordGo n num k).2.2), some (.int n), some (.ref l), some (.ref f), r])
    ⟨Sl.trans (same_new hf _), upd_same, by rw [upd_ne hlf]; exact hll, _, rfl⟩ (fun k σ H' hk hP => ?_) (fun σ H' hP => ?_)
  · obtain ⟨hS, hF, hL, r, rfl⟩ := hP
    obtain ⟨_, h1, h2⟩ := LN.ordGo_ok n num k (by omega)
    have eS : LN.ordGo n num (k + 1) = ((LN.ordGo n num k).1 ++ [(LN.ordGo n num k).2.1.getD ((LN.ordGo n num k).2.2 % (LN.ordGo n num k).2.1.length).toNat 0], (LN.ordGo n num k).2.1.eraseIdx ((LN.ordGo n num k).2.2 % (LN.ordGo n num k).2.1.length).toNat, (LN.ordGo n num k).2.2 / 6) := rfl
    rw [eS]
    generalize LN.ordGo n num k = P at *
    obtain ⟨fo, le, m⟩ := P
    dsimp only at h1 h2 hF hL ⊢
    have b0 := Int.emod_nonneg m (show (le.length : Int) ≠ 0 by omega)
    have b1 := Int.emod_lt_of_pos m (show (0 : Int) < (le.length : Int) by omega)
    have hml : (le.map V.int).length = le.length := List.length_map _
    refine ⟨_, rfl, .inl ⟨rfl, _, SqL.of hF⟩, _, rfl, .inl ⟨rfl, _, SqL.of hL⟩, _, rfl, _, rfl, l, _, rfl, .inl (SqL.of hL), m, _, rfl, rfl, by show (0 : Int) < _; rw [hml]; omega, ?_⟩
    dsimp only
    rw [hml]
    refine ⟨l, _, _, _, _, rfl, rfl, hL, by omega, by omega, by rw [hml]; exact seqIx_ok b0 b1, map_int_get (by omega), ?_⟩
    have hF2 : upd H' l (.lst ((le.map V.int).eraseIdx (m % le.length).toNat)) f = some (.lst (fo.map V.int)) := by rw [upd_ne (Ne.symm hlf)]; exact hF
    refine ⟨f, _, _, rfl, rfl, hF2, small1000 (by rw [List.length_map]; omega), ?_⟩
    refine ⟨_, rfl, _, _, rfl, rfl, c9 (by decide) (by decide), ?_⟩
    refine ⟨(hS.over hl1 _).over hf0 _, by rw [upd_same, List.map_append]; rfl, ?_, _, rfl⟩
    rw [upd_ne hlf, upd_same, map_erase]
  · obtain ⟨hS, hF, hL, r, rfl⟩ := hP
    exact ⟨_, rfl, f, _, rfl, SqL.of hF, fun p o hp hd => q p o _ (hS.trans (same_new hp _)) (hS.free hp) upd_same hd⟩
theorem sc__law_wishes : FnScope ["_law_script", "_law_at", "_law_count", "_law_found", "_law_person", "_law_cell"] ["_law_script", "_law_at", "_law_count"] (defScope (top 34)) := ⟨rfl, rfl, rfl, by decide +kernel, rfl, by decide +kernel, by decide +kernel⟩
set_option maxHeartbeats 4000000 in
theorem d__law_wishes {P : Program} {w : World} {K : PySem.W.Frag} {mg : Str → Option Value} {base : Heap} {x : Xs} (M : Md K mg x)
    (G_law_cell_at : Dn P w K mg base CX0 1 "_law_cell_at" ["_law_script", "_law_k"] (spCell K))
    (G_law_order : Dn P w K mg base CX0 1 "_law_order" ["_law_number", "_law_count"] (spOrderF))
    (G_law_mixed : Dn P w K mg base CX0 1 "_law_mixed" ["_law_cell", "_law_place"] (spMixN)) : Dn P w K mg base CX0 2 "_law_wishes" ["_law_script", "_law_at", "_law_count"] (spWishesF K) := by
  have nd := (sc__law_wishes).nd
  refine M.f__law_wishes.ok sc__law_wishes (fun vs H Q E h => ?_) (fun _ _ _ _ _ _ us hl => match us, hl with | [_, _, _], _ => rfl) (fun f cdv A outer s H vs Q E hr h => ?_)
  · obtain ⟨a, ns, at', n, rfl, hS, hat, hn, q⟩ := h
    rfl
  obtain ⟨a, ns, at', n, rfl, hS, hat, hn, q⟩ := h
  refine ⟨_, (pss_cons (ps_set (i := 3) nd rfl (Or.inl rfl) (pe_lst pa_nil))
      (pss_cons (ps_for PassesOwn.never rfl (pi_range1 rfl M.b_range (pa_cons (pv 2) pa_nil)) (pg_name (i := 4) nd rfl (Or.inl rfl)) (pss_cons (ps_set (i := 5) nd rfl (Or.inl rfl) (pe_fn G_law_cell_at hr (by decide) rfl pass0 (pa_cons (pv 0) (pa_cons (pe_op op_add (pv 1) (pv 4)) pa_nil))))
      (pss_one (ps_if (PW.pt (pw_and (pt_cmpR op_gt (pv 4) pe_int (nomark _)) (pw_and1 (pt_cmpR op_eq (pe_op op_mod (pv 5) pe_int) pe_int (nomark _))))) (pss_one (ps_expr (pe_bm PySem.F.plainAttrs_list PySem.F.slot_list_append PySem.F.type_list_append mt_append (pv 3) (pa_cons (pe_ix ix_list (pv 3) (pe_op op_mod (pe_op op_divP (pv 5) pe_int) (pv 4)) (fun _ _ => rfl)) pa_nil)))) (pss_one (ps_expr (pe_bm PySem.F.plainAttrs_list PySem.F.slot_list_append PySem.F.type_list_append mt_append (pv 3) (pa_cons (pe_fn G_law_order hr (by decide) rfl pass0 (pa_cons (pe_fn G_law_mixed hr (by decide) rfl pass0 (pa_cons (pv 5) (pa_cons (pv 4) pa_nil))) (pa_cons (pv 2) pa_nil))) pa_nil))))))))
      (pss_one (ps_ret (pv 3))))), ?_⟩
  have small0 : (0 : Nat) ≤ sizeLine := by decide
  refine ⟨small0, fun f hf => ?_⟩
  refine ⟨_, rfl, (n : Int), rfl, by omega, by omega, ?_⟩
  refine for_range (n := n) (fun k σ H' => Same H H' ∧ ∃ (ws : List V) (r4 r5 : Option V), σ = [some (.ref a), some (.int at'), some (.int n), some (.ref f), r4, r5] ∧ H' f = some (.lst ws) ∧ Paired (IsRF K H') ws (LN.wishGo ns at' n k))
    ⟨same_new hf _, [], _, _, rfl, upd_same, .nil⟩ (fun k σ H' hk hP => ?_) (fun σ H' hP => ?_)
  · obtain ⟨hSa, ws, r4, r5, rfl, hF, hW⟩ := hP
    have hwl := Paired.len hW
    rw [LN.wishGo_len] at hwl
    refine ⟨_, rfl, _, rfl, _, rfl, _, _, rfl, rfl, a, ns, _, rfl, hSa.seq hS, by omega, ?_⟩
    rw [Int.zero_add]
    have eS : LN.wishGo ns at' n (k + 1) = LN.wishGo ns at' n k ++ [if 0 < k ∧ LM.cellAt ns (at' + k) % 4 = 1 then (LN.wishGo ns at' n k).getD (LM.cellAt ns (at' + k) / 4 % k).toNat [] else LN.order (LN.mixed (LM.cellAt ns (at' + k)) k) n] := rfl
    rw [eS]
    generalize LM.cellAt ns (at' + k) = c
    have done1 : ∀ (v : V), IsRF K H' v (if 0 < k ∧ c % 4 = 1 then (LN.wishGo ns at' n k).getD (c / 4 % k).toNat [] else LN.order (LN.mixed c k) n) → Paired (IsRF K (upd H' f (.lst (ws ++ [v])))) (ws ++ [v]) (LN.wishGo ns at' n k ++ [if 0 < k ∧ c % 4 = 1 then (LN.wishGo ns at' n k).getD (c / 4 % k).toNat [] else LN.order (LN.mixed c k) n]) := fun v hv =>
      Paired.app (Paired.mapP hW fun _ _ h => h.over hF) (.cons (hv.over hF) .nil)
    have els : ¬ (0 < k ∧ c % 4 = 1) → ∀ p o H2, Same H' H2 → H2 p = some (.frz o (.tup ((LN.order (LN.mixed c k) n).map V.int))) → o.dict = none → Paired (IsRF K (upd H2 f (.lst (ws ++ [.ref p])))) (ws ++ [.ref p]) (LN.wishGo ns at' n k ++ [if 0 < k ∧ c % 4 = 1 then (LN.wishGo ns at' n k).getD (c / 4 % k).toNat [] else LN.order (LN.mixed c k) n]) := fun hno p o H2 S2 hp hd => by
      rw [if_neg hno]
      exact Paired.app (Paired.mapP hW fun _ _ h => (h.mono S2).over (S2 _ _ hF)) (.cons (IsRF.over ⟨p, o, rfl, hp, hd⟩ (S2 _ _ hF)) .nil)
    refine ⟨_, rfl, _, _, rfl, rfl, _, rfl, iteD2 (fun c1 => ?_) (fun c1 => ?_)⟩
    · refine ⟨_, rfl, _, _, rfl, rfl, by show (0 : Int) < 4; decide, rfl, _, rfl, iteD2 (fun c2 => ?_) (fun c2 => ?_)⟩
      · have hk0 : 0 < k := by omega
        have hc : 0 < k ∧ c % 4 = 1 := ⟨hk0, Veq c2⟩
        have b0 := Int.emod_nonneg (c / 4) (show (k : Int) ≠ 0 by omega)
        have b1 := Int.emod_lt_of_pos (c / 4) (show (0 : Int) < k by omega)
        have hl : (c / 4 % k).toNat < (LN.wishGo ns at' n k).length := by rw [LN.wishGo_len]; omega
        obtain ⟨v, hv, hvR⟩ := Paired.get hW (List.getElem?_eq_getElem hl)
        refine ⟨_, rfl, .inl ⟨rfl, _, SqL.of hF⟩, _, rfl, _, rfl, _, _, rfl, rfl, c9 (by decide) (by decide), _, rfl, _, _, rfl, rfl, by show (0 : Int) < k; omega, f, ws, _, v, rfl, rfl, SqL.of hF, atI_ok b0 hv, f, ws, v, rfl, rfl, hF, small1000 (by omega), ?_⟩
        refine ⟨hSa.over hf _, _, _, _, rfl, upd_same, done1 v ?_⟩
        rw [if_pos hc, List.getD_eq_getElem?_getD, List.getElem?_eq_getElem hl]
        exact hvR
      · refine ⟨_, rfl, .inl ⟨rfl, _, SqL.of hF⟩, _, rfl, _, rfl, c, (k : Int), rfl, _, rfl, _, n, rfl, by omega, fun p o H2 S2 hp0 hp hd => ⟨f, ws, _, rfl, rfl, S2 _ _ hF, small1000 (by omega), ?_⟩⟩
        exact ⟨(hSa.trans S2).over hf _, _, _, _, rfl, upd_same, els (fun z => c2 (by show V.int (c % 4) = V.int 1; rw [z.2])) p o H2 S2 hp hd⟩
    · refine ⟨_, rfl, .inl ⟨rfl, _, SqL.of hF⟩, _, rfl, _, rfl, c, (k : Int), rfl, _, rfl, _, n, rfl, by omega, fun p o H2 S2 hp0 hp hd => ⟨f, ws, _, rfl, rfl, S2 _ _ hF, small1000 (by omega), ?_⟩⟩
      exact ⟨(hSa.trans S2).over hf _, _, _, _, rfl, upd_same, els (fun z => c1 (by have := z.1; omega)) p o H2 S2 hp hd⟩
  · obtain ⟨hSa, ws, r4, r5, rfl, hF, hW⟩ := hP
    exact ⟨_, rfl, q f ws H' hSa hf hF hW⟩
theorem sc__law_deals : FnScope ["_law_first"] ["_law_first"] (defScope (top 35)) := ⟨rfl, rfl, rfl, by decide +kernel, rfl, by decide +kernel, by decide +kernel⟩
set_option maxHeartbeats 4000000 in
theorem d__law_deals {P : Program} {w : World} {K : PySem.W.Frag} {mg : Str → Option Value} {base : Heap} {x : Xs} (M : Md K mg x) : Dn P w K mg base CX0 1 "_law_deals" ["_law_first"] (spDeals) := by
  have nd := (sc__law_deals).nd
  refine M.f__law_deals.ok sc__law_deals (fun vs H Q E h => ?_) (fun _ _ _ _ _ _ us hl => match us, hl with | [_], _ => rfl) (fun f cdv A outer s H vs Q E hr h => ?_)
  · obtain ⟨f, rfl, q⟩ := h
    rfl
  obtain ⟨f, rfl, q⟩ := h
  refine ⟨_, (pss_cons (ps_if (pt_cmpR op_eq (pe_op op_mod (pe_op op_divP (pv 0) pe_int) pe_int) pe_int (nomark _)) (pss_one (ps_ret (pe_op op_add pe_int (pe_op op_mod (pe_op op_divP (pv 0) pe_int) pe_int)))) pss_nil)
      (pss_one (ps_ret (pe_op op_mod (pe_op op_divP (pv 0) pe_int) pe_int)))), ?_⟩
  unfold LN.deals at q
  refine ⟨_, rfl, _, _, rfl, rfl, c9 (by decide) (by decide), _, _, rfl, rfl, by show (0 : Int) < 8; decide, rfl, _, rfl, iteD2 (fun h => ?_) (fun h => ?_)⟩
  · rw [if_pos (Veq h)] at q
    exact ⟨_, rfl, _, _, rfl, rfl, c9 (by decide) (by decide), _, _, rfl, rfl, by show (0 : Int) < 17; decide, _, _, rfl, rfl, q⟩
  · rw [if_neg (fun z => h (by show V.int (f / 54 % 8) = V.int 1; rw [z]))] at q
    exact ⟨_, rfl, _, _, rfl, rfl, c9 (by decide) (by decide), _, _, rfl, rfl, by show (0 : Int) < 9; decide, q⟩
theorem sc__law_table : FnScope ["_law_script", "_law_at", "_law_many", "_law_count", "_law_rows", "_law_whole_here", "_law_size", "_law_k", "_law_cell", "_law_deal", "_law_weight", "_law_person", "_law_thing"] ["_law_script", "_law_at", "_law_many", "_law_count"] (defScope (top 36)) := ⟨rfl, rfl, rfl, by decide +kernel, rfl, by decide +kernel, by decide +kernel⟩
set_option maxHeartbeats 4000000 in
theorem d__law_table {P : Program} {w : World} {K : PySem.W.Frag} {mg : Str → Option Value} {base : Heap} {x : Xs} (M : Md K mg x)
    (G_law_cell_at : Dn P w K mg base CX0 1 "_law_cell_at" ["_law_script", "_law_k"] (spCell K))
    (G_law_mixed : Dn P w K mg base CX0 1 "_law_mixed" ["_law_cell", "_law_place"] (spMixN))
    (G_law_order : Dn P w K mg base CX0 1 "_law_order" ["_law_number", "_law_count"] (spOrderF))
    (G_law_lowest : Dn P w K mg base CX0 2 "_law_lowest" ["_law_top", "_law_bottom"] (spLowest)) : Dn P w K mg base CX0 3 "_law_table" ["_law_script", "_law_at", "_law_many", "_law_count"] (spTableN K) := by
  have nd := (sc__law_table).nd
  refine M.f__law_table.ok sc__law_table (fun vs H Q E h => ?_) (fun _ _ _ _ _ _ us hl => match us, hl with | [_, _, _, _], _ => rfl) (fun f cdv A outer s H vs Q E hr h => ?_)
  · obtain ⟨a, ns, at', many, n, rfl, hS, hat, hm, hn1, hn6, q⟩ := h
    rfl
  obtain ⟨a, ns, at', many, n, rfl, hS, hat, hm, hn1, hn6, q⟩ := h
  refine ⟨_, (pss_cons (ps_setComp (i := 4) nd rfl rfl rfl rfl (N := ["_law_person", "_law_count"]) (caps := [none, some 3]) (CompOk.of (by kernel_rfl)) (gk_name rfl) (pi_range1 rfl M.b_range (pa_cons (pv 3) pa_nil)) (fun _ _ _ _ => (pg_name (i := 0) (show (["_law_person", "_law_count"] : List Str).Nodup by decide +kernel) rfl (Or.inl rfl) (Or.inr rfl))) (fun _ _ _ _ => pts_nil) (fun _ _ _ _ => (pe_comp rfl (N := ["_law_thing"]) (caps := [none]) (CompOk.of (by kernel_rfl)) (gk_name rfl) (pi_range1 rfl M.b_range (pa_cons (pv 1) pa_nil)) (fun _ _ _ _ => (pg_name (i := 0) (show (["_law_thing"] : List Str).Nodup by decide +kernel) rfl (Or.inl rfl) (Or.inr rfl))) (fun _ _ _ _ => pts_nil) (fun _ _ _ _ => pe_int))))
      (pss_cons (ps_set (i := 5) nd rfl (Or.inr rfl) pe_int)
      (pss_cons (ps_set (i := 6) nd rfl (Or.inl rfl) (pe_ix ix_list (pe_lst (pa_cons pe_int (pa_cons pe_int (pa_cons pe_int (pa_cons (pe_op op_pow pe_int pe_int) pa_nil))))) (pe_op op_mod (pe_fn G_law_mixed hr (by decide) rfl pass0 (pa_cons (pe_fn G_law_cell_at hr (by decide) rfl pass0 (pa_cons (pv 0) (pa_cons (pv 1) pa_nil))) (pa_cons pe_int pa_nil))) pe_int) (fun _ _ => rfl)))
      (pss_cons (ps_for PassesOwn.never rfl (pi_range1 rfl M.b_range (pa_cons (pe_op op_add pe_int (pv 2)) pa_nil)) (pg_name (i := 7) nd rfl (Or.inl rfl)) (pss_cons (ps_set (i := 8) nd rfl (Or.inl rfl) (pe_fn G_law_cell_at hr (by decide) rfl pass0 (pa_cons (pv 0) (pa_cons (pe_op op_add (pe_op op_add (pv 1) pe_int) (pv 7)) pa_nil))))
      (pss_cons (ps_set (i := 9) nd rfl (Or.inl rfl) (pe_fn G_law_order hr (by decide) rfl pass0 (pa_cons (pe_fn G_law_mixed hr (by decide) rfl pass0 (pa_cons (pv 8) (pa_cons (pe_op op_add pe_int (pv 7)) pa_nil))) (pa_cons (pv 3) pa_nil))))
      (pss_cons (ps_set (i := 10) nd rfl (Or.inl rfl) (pe_op op_add pe_int (pe_op op_mod (pe_op op_divP (pv 8) pe_int) (pv 6))))
      (pss_cons (ps_set (i := 5) nd rfl (Or.inr rfl) (pe_op op_add (pv 5) (pv 10)))
      (pss_one (ps_for PassesOwn.never rfl (pi_range1 rfl M.b_range (pa_cons (pv 3) pa_nil)) (pg_name (i := 11) nd rfl (Or.inl rfl)) (pss_cons (ps_set (i := 12) nd rfl (Or.inl rfl) (pe_ix ix_tup (pv 9) (pv 11) (fun _ _ => rfl)))
      (pss_one (ps_asg (pe_op op_add (pe_ix ix_list (pe_ix ix_list (pv 4) (pv 11) (fun _ _ => rfl)) (pv 12) (fun _ _ => rfl)) (pv 10)) (pg_sub (pe_ix ix_list (pv 4) (pv 11) (fun _ _ => rfl)) (pv 12) set_list)))))))))))
      (pss_one (ps_ret (pe_comp rfl (N := ["_law_row", "_law_whole_here"]) (caps := [none, some 5]) (CompOk.of (by kernel_rfl)) (gk_name rfl) (pi_list (pv 4)) (fun _ _ _ _ => (pg_name (i := 0) (show (["_law_row", "_law_whole_here"] : List Str).Nodup by decide +kernel) rfl (Or.inl rfl) (Or.inr rfl))) (fun _ _ _ _ => pts_nil) (fun _ _ _ _ => (pe_callTy (call_tuple_ofK (K := K) rfl) rfl M.b_tuple Boot.«tuple» (pa_cons (pe_comp rfl (N := ["_law_share", "_law_whole_here"]) (caps := [none, some 1]) (CompOk.of (by kernel_rfl)) (gk_name rfl) (pi_listK (K := K) rfl (pv 0)) (fun _ _ _ _ => (pg_name (i := 0) (show (["_law_share", "_law_whole_here"] : List Str).Nodup by decide +kernel) rfl (Or.inl rfl) (Or.inr rfl))) (fun _ _ _ _ => pts_nil) (fun _ _ _ _ => (pe_fn G_law_lowest hr (by decide) rfl pass0 (pa_cons (pv 0) (pa_cons (pv 1) pa_nil))))) pa_nil)))))))))), ?_⟩
  refine ⟨_, rfl, (n : Int), rfl, by omega, by omega, ?_⟩
  refine comp_range1 (fun i ys H' => Same H H' ∧ ∃ rs : List Addr, ys = rs.map V.ref ∧ rs.length = i ∧ rs.Nodup ∧ (∀ r ∈ rs, H r = none) ∧ Paired (fun r (m : List Int) => H' r = some (.lst (m.map V.int))) rs (List.replicate i (List.replicate n 0)))
    ⟨Same.refl H, [], rfl, rfl, List.nodup_nil, (fun _ z => nomatch z), Paired.nil⟩ (fun i ys H' hi hP => ?_) (fun ys H' hP => ?_)
  · obtain ⟨hSm, rs, rfl, hl, hnd, hfr, hrows⟩ := hP
    refine ⟨_, rfl, (n : Int), rfl, by omega, by omega, ?_⟩
    refine comp_range1 (fun j zs H2 => H2 = H' ∧ zs = (List.replicate j (0 : Int)).map V.int) ⟨rfl, rfl⟩ (fun j zs H2 hj hP => ?_) (fun zs H2 hP => ?_)
    · obtain ⟨rfl, rfl⟩ := hP
      refine ⟨small1000 (by rw [List.length_map, List.length_replicate]; omega), rfl, ?_⟩
      rw [List.replicate_succ', List.map_append]
      rfl
    · obtain ⟨rfl, rfl⟩ := hP
      intro D hD
      have hDr := rows_fresh hrows hD
      refine ⟨small1000 (by rw [List.length_map, hl]; omega), hSm.trans (same_new hD _), rs ++ [D], by rw [List.map_append]; rfl, by rw [List.length_append, hl]; rfl, ?_, ?_, ?_⟩
      · exact List.nodup_append.mpr ⟨hnd, List.nodup_cons.mpr ⟨(fun z => nomatch z), List.nodup_nil⟩, fun x hx y hy z => hDr (by rw [List.mem_singleton.mp hy] at z; rw [← z]; exact hx)⟩
      · intro r hr
        rcases List.mem_append.mp hr with z | z
        · exact hfr r z
        · rw [List.mem_singleton.mp z]; exact hSm.free hD
      · rw [List.replicate_succ']
        exact Paired.app (paired_keep hrows hDr) (.cons upd_same .nil)
  obtain ⟨hSm, rs, rfl, hl, hnd, hfr, hrows⟩ := hP
  intro L hL
  have hLr := rows_fresh hrows hL
  have R0 : RowsAt H (upd H' L (.lst (rs.map V.ref))) L rs (List.replicate n (List.replicate n 0)) := ⟨upd_same, paired_keep hrows hLr, hnd, hfr, hSm.free hL, hLr⟩
  have S0 : Same H (upd H' L (.lst (rs.map V.ref))) := hSm.trans (same_new hL _)
  generalize upd H' L (.lst (rs.map V.ref)) = H1 at R0 S0 ⊢
  refine ⟨10, 12, rfl, rfl, ⟨by decide, by decide, by decide⟩, by show 4 ≤ sizeLine; decide, fun pw hpw => ?_⟩
  have S4 : Same H1 (upd H1 pw (.lst [V.int 2, V.int 7, V.int 60, V.int (10 ^ (12 : Int).toNat)])) := same_new hpw _
  refine ⟨_, rfl, _, rfl, a, ns, at', rfl, (S0.trans S4).seq hS, hat, _, _, rfl, _, _, rfl, rfl, by show (0 : Int) < 4; decide, pw, _, _, _, rfl, rfl, SqL.of upd_same, size_at _, ?_⟩
  have R1 := R0.mono S4
  have S1 := S0.trans S4
  generalize upd H1 pw (.lst [V.int 2, V.int 7, V.int 60, V.int (10 ^ (12 : Int).toNat)]) = H2 at R1 S1 ⊢
  clear R0 S0 S4 hpw hLr hrows hSm
  have hsz := LN.size_bd (LN.mixed (LM.cellAt ns at') 40)
  have etab : LN.table ns at' many n = LN.tabGo ns at' n (LN.size (LN.mixed (LM.cellAt ns at') 40)) (1 + many) := rfl
  rw [etab] at q
  have tok := LN.tabGo_ok (ns := ns) (at' := at') (n := n) hsz.1 hsz.2 (1 + many)
  generalize LN.size (LN.mixed (LM.cellAt ns at') 40) = sz at hsz q tok ⊢
  refine ⟨_, rfl, _, _, rfl, rfl, 1 + (many : Int), rfl, by omega, by omega, ?_⟩
  have eN : (1 + (many : Int)).toNat = 1 + many := by omega
  rw [eN]
  refine for_range (n := 1 + many) (fun k σ H2 => Same H H2 ∧ RowsAt H H2 L rs (LN.tabGo ns at' n sz k).1 ∧ ∃ r7 r8 r9 r10 r11 r12,
      σ = [some (.ref a), some (.int at'), some (.int many), some (.int n), some (.ref L), some (.int (LN.tabGo ns at' n sz k).2), some (.int sz), r7, r8, r9, r10, r11, r12])
    ⟨S1, R1, _, _, _, _, _, _, rfl⟩ (fun k σ H2 hk hP => ?_) (fun σ H2 hP => ?_)
  · obtain ⟨hS2, R, r7, r8, r9, r10, r11, r12, rfl⟩ := hP
    have ok := (LN.tabGo_ok (ns := ns) (at' := at') (n := n) hsz.1 hsz.2 k).1
    have eS : LN.tabGo ns at' n sz (k + 1) = (LM.addDeal (LN.tabGo ns at' n sz k).1 (LN.order (LN.mixed (LM.cellAt ns (at' + 1 + k)) (20 + k)) n) (1 + LM.cellAt ns (at' + 1 + k) / 5 % sz), (LN.tabGo ns at' n sz k).2 + (1 + LM.cellAt ns (at' + 1 + k) / 5 % sz)) := rfl
    rw [eS]
    generalize LN.tabGo ns at' n sz k = MT at R ok ⊢
    refine ⟨_, rfl, _, rfl, _, _, rfl, rfl, _, rfl, _, _, rfl, rfl, a, ns, _, rfl, hS2.seq hS, by omega, ?_⟩
    rw [Int.zero_add]
    generalize LM.cellAt ns (at' + 1 + k) = c
    refine ⟨_, rfl, _, rfl, _, _, rfl, rfl, c, 20 + (k : Int), rfl, _, rfl, _, n, rfl, by omega, fun po oo H3 S3 hpo ho hoo => ?_⟩
    have opm := LN.order_pm (LN.mixed c (20 + k)) n
    generalize LN.order (LN.mixed c (20 + k)) n = o at ho opm ⊢
    refine ⟨_, rfl, _, _, rfl, rfl, c9 (by decide) (by decide), _, rfl, _, _, rfl, rfl, hsz.1, _, _, rfl, rfl, ?_⟩
    dsimp only
    generalize 1 + c / 5 % sz = w
    refine ⟨_, rfl, _, rfl, _, _, rfl, rfl, ?_⟩
    have R3 := R.mono S3
    have S23 := hS2.trans S3
    refine ⟨_, rfl, (n : Int), rfl, by omega, by omega, ?_⟩
    refine for_range (n := n) (fun j σ H6 => Same H H6 ∧ RowsAt H H6 L rs (mid MT.1 o w j) ∧ H6 po = some (.frz oo (.tup (o.map V.int))) ∧ ∃ r7 r11 r12,
        σ = [some (.ref a), some (.int at'), some (.int many), some (.int n), some (.ref L), some (.int (MT.2 + w)), some (.int sz), r7, some (.int c), some (.ref po), some (.int w), r11, r12])
      ⟨S23, by rw [mid_zero]; exact R3, ho, _, _, _, rfl⟩ (fun j σ H6 hj hP => ?_) (fun σ H6 hP => ?_)
    · obtain ⟨hS6, R6, ho6, r7', r11', r12', rfl⟩ := hP
      have hol := opm.len
      have hmlt : j < MT.1.length := by rw [ok.rows]; exact hj
      obtain ⟨mj, hmj⟩ : ∃ m, MT.1[j]? = some m := ⟨_, List.getElem?_eq_getElem hmlt⟩
      have htj : o[j]? = some (o.getD j 0) := by simp [show j < o.length by omega]
      have htb := opm.mem.mp (List.mem_of_getElem? htj)
      obtain ⟨r, hr, hrl⟩ := R6.get (mid_at hmj (by omega))
      have hml : mj.length = n := ok.cols _ (List.mem_of_getElem? hmj)
      have hget : (mj.map V.int)[(o.getD j 0).toNat]? = some (.int (mj.getD (o.getD j 0).toNat 0)) := map_int_get (by omega)
      have er : atI (rs.map V.ref) (0 + (j : Int)) = some (.ref r) := by rw [Int.zero_add]; exact atI_nat (by rw [List.getElem?_map, hr]; rfl)
      have eo : atI (o.map V.int) (0 + (j : Int)) = some (.int (o.getD j 0)) := by rw [Int.zero_add]; exact atI_nat (by rw [List.getElem?_map, htj]; rfl)
      have hix : ixN (mj.map V.int).length (o.getD j 0) = some (o.getD j 0).toNat := by
        unfold ixN
        rw [if_pos htb.1, if_pos (by rw [List.length_map]; omega)]
      refine ⟨_, rfl, _, rfl, po, _, _, _, rfl, rfl, SqT.frz ho6, eo, ?_⟩
      refine ⟨_, rfl, _, rfl, L, _, _, _, rfl, rfl, SqL.of R6.lst, er, _, rfl, r, _, _, _, rfl, rfl, SqL.of hrl, atI_ok htb.1 hget, _, rfl, _, _, rfl, rfl, ?_⟩
      refine ⟨_, rfl, _, rfl, L, _, _, _, rfl, rfl, SqL.of R6.lst, er, _, rfl, r, _, _, _, rfl, rfl, hrl, hix, ?_⟩
      have hset : (mj.map V.int).set (o.getD j 0).toNat (.int (mj.getD (o.getD j 0).toNat 0 + w)) = (LM.addOne mj (o.getD j 0) w).map V.int := by
        unfold LM.addOne
        rw [List.map_set]
      have R7 := R6.upd (LM.addOne mj (o.getD j 0) w) hr
      rw [mid_succ hmj htj] at R7
      dsimp only
      rw [hset]
      refine ⟨hS6.over (R6.fr r (List.mem_of_getElem? hr)) _, R7, ?_, _, _, _, rfl⟩
      rw [upd_ne (ne_of ho6 hrl (by intro z; cases z))]
      exact ho6
    · obtain ⟨hS6, R6, ho6, r7', r11', r12', rfl⟩ := hP
      rw [mid_all ok.rows opm.len] at R6
      exact ⟨hS6, R6, _, _, _, _, _, _, rfl⟩
  obtain ⟨hS2, R, r7, r8, r9, r10, r11, r12, rfl⟩ := hP
  generalize LN.tabGo ns at' n sz (1 + many) = MT at q R tok ⊢
  obtain ⟨Z, T⟩ := MT
  dsimp only at q R tok ⊢
  obtain ⟨ok, t1, t2⟩ := tok
  have hT : 0 < T := by omega
  have hT80 : T < 2 ^ 80 := by omega
  have zT9 : T.natAbs < 2 ^ 9000 := size_up (m := 80) (by omega) (by decide)
  have hrl := Paired.len R.rows
  have hzl := ok.rows
  refine ⟨_, rfl, L, rfl, ⟨_, SqL.of R.lst⟩, ?_⟩
  refine comp_list1 (xs := rs.map V.ref) (fun i ys H' => Same H2 H' ∧ Paired (RwFT K H' T) ys (Z.take i))
    ⟨Same.refl _, by rw [List.take_zero]; exact .nil⟩ (fun i ys H' _ hP => SqL.of (hP.1 _ _ R.lst)) (fun i v ys H' hy hP => ?_) (fun ys H6 hP D hD => ?_)
  · obtain ⟨S6, hys⟩ := hP
    rw [List.getElem?_map] at hy
    cases hri : rs[i]? with
    | none => rw [hri] at hy; cases hy
    | some r =>
      rw [hri] at hy
      cases hy
      obtain ⟨m, hmz, hrm⟩ := Paired.get' R.rows hri
      have hml := ok.cols m (List.mem_of_getElem? hmz)
      have hyl := Paired.len hys
      rw [List.length_take] at hyl
      refine ⟨_, rfl, r, rfl, ⟨_, SqL.of (S6 _ _ hrm)⟩, ?_⟩
      refine comp_list1 (xs := m.map V.int) (fun j zs H7 => Same H' H7 ∧ Paired (IsF K H7) zs (fr T (m.take j)))
        ⟨Same.refl _, by rw [List.take_zero]; exact .nil⟩ (fun j zs H7 _ hP => SqL.of (hP.1 _ _ (S6 _ _ hrm))) (fun j w zs H7 hw hP => ?_) (fun zs H7 hP D hD => ?_)
      · obtain ⟨S7, hzs⟩ := hP
        rw [List.getElem?_map] at hw
        cases hmj : m[j]? with
        | none => rw [hmj] at hw; cases hw
        | some t =>
          rw [hmj] at hw
          cases hw
          have hzl := Paired.len hzs
          rw [fr, List.length_map, List.length_take] at hzl
          refine ⟨_, rfl, _, rfl, t, T, rfl, hT, zT9, fun pf H8 S8 hpf => ⟨small1000 (by omega), S7.trans S8, ?_⟩⟩
          rw [List.take_add_one, hmj]
          unfold fr
          rw [List.map_append]
          exact Paired.app (fracs_mono S8 hzs) (.cons ⟨pf, rfl, SqT.of hpf⟩ .nil)
      · obtain ⟨S7, hzs⟩ := hP
        rw [List.length_map, List.take_length] at hzs
        refine ⟨D, zs, rfl, .inl ⟨SqL.of upd_same, fun pt hpt => ⟨small1000 (by omega), S6.trans (S7.trans ((same_new hD _).trans (same_new hpt _))), ?_⟩⟩⟩
        rw [List.take_add_one, hmz]
        refine Paired.app (Paired.mapP hys fun _ _ h => h.mono (S7.trans ((same_new hD _).trans (same_new hpt _)))) (.cons ⟨pt, zs, rfl, SqT.of upd_same, ?_⟩ .nil)
        exact fracs_mono ((same_new hD _).trans (same_new hpt _)) hzs
  · obtain ⟨S6, hys⟩ := hP
    rw [List.length_map, hrl, List.take_length] at hys
    exact q D ys _ (hS2.trans (S6.trans (same_new hD _))) ((hS2.trans S6).free hD) upd_same (Paired.mapP hys fun _ _ h => h.mono (same_new hD _))
theorem sc__law_order_holds : FnScope ["_law_wishes_here", "_law_table_here", "_law_order_here", "_law_person", "_law_thing", "_law_better"] ["_law_wishes_here", "_law_table_here", "_law_order_here"] (defScope (top 37)) := ⟨rfl, rfl, rfl, by decide +kernel, rfl, by decide +kernel, by decide +kernel⟩
set_option maxHeartbeats 4000000 in
theorem d__law_order_holds {P : Program} {w : World} {K : PySem.W.Frag} {mg : Str → Option Value} {base : Heap} {x : Xs} (M : Md K mg x)
    (G_law_whole : Dn P w K mg base CX0 1 "_law_whole" ["_law_found"] (spWhole)) : Dn P w K mg base CX0 2 "_law_order_holds" ["_law_wishes_here", "_law_table_here", "_law_order_here"] (spOrdH K) := by
  have nd := (sc__law_order_holds).nd
  refine M.f__law_order_holds.ok sc__law_order_holds (fun vs H Q E h => ?_) (fun _ _ _ _ _ _ us hl => match us, hl with | [_, _, _], _ => rfl) (fun f cdv A outer s H vs Q E hr h => ?_)
  · obtain ⟨a, b, o, ws, us, W, Z, T, n, os, rfl, hA, hWF, hB, hZ, tw, hO, ord, q⟩ := h
    rfl
  obtain ⟨a, b, o, ws, us, W, Z, T, n, os, rfl, hA, hWF, hB, hZ, tw, hO, ord, q⟩ := h
  refine ⟨_, (pss_cons (ps_if (PW.pt (pw_or (pt_not (pt_val (pe_callB call_isT rfl M.b_isinstance Boot.«isinstance» (pa_cons (pv 2) (pa_cons (pe_ty rfl M.b_list Boot.«list») pa_nil))))) (pw_or1 (pt_cmpR op_ne (pe_callB call_len_seq rfl M.b_len PySem.boot_len (pa_cons (pv 2) pa_nil)) (pe_callB call_len_seq rfl M.b_len PySem.boot_len (pa_cons (pv 0) pa_nil)) (nomark _))))) (pss_one (ps_ret pe_bl)) pss_nil)
      (pss_cons (ps_if (PW.pt (pw_or (pt_not (pt_val (pe_callB (call_all rfl) rfl M.b_all Boot.«all» (pa_cons (pe_comp rfl (N := ["_law_thing"]) (caps := [none]) (CompOk.of (by kernel_rfl)) (gk_name rfl) (pi_list (pv 2)) (fun _ _ _ _ => (pg_name (i := 0) (show (["_law_thing"] : List Str).Nodup by decide +kernel) rfl (Or.inl rfl) (Or.inr rfl))) (fun _ _ _ _ => pts_nil) (fun _ _ _ _ => (pe_fn G_law_whole hr (by decide) rfl pass0 (pa_cons (pv 0) pa_nil)))) pa_nil)))) (pw_or1 (pt_cmpR (op_neD hr) (pe_callB (call_sorted) rfl M.b_sorted Boot.«sorted» (pa_cons (pv 2) pa_nil)) (pe_callTy (call_list_rng rfl) rfl M.b_list Boot.«list» (pa_cons (pe_callTy call_range rfl M.b_range PyProof.Rows.boot_range (pa_cons (pe_callB call_len_seq rfl M.b_len PySem.boot_len (pa_cons (pv 0) pa_nil)) pa_nil)) pa_nil)) (nomark _))))) (pss_one (ps_ret pe_bl)) pss_nil)
      (pss_cons (ps_for PassesOwn.never rfl (pi_range1 rfl M.b_range (pa_cons (pe_callB call_len_seq rfl M.b_len PySem.boot_len (pa_cons (pv 0) pa_nil)) pa_nil)) (pg_name (i := 3) nd rfl (Or.inl rfl)) (pss_one (ps_for PassesOwn.never rfl (pi_range1 rfl M.b_range (pa_cons (pe_callB call_len_seq rfl M.b_len PySem.boot_len (pa_cons (pv 0) pa_nil)) pa_nil)) (pg_name (i := 4) nd rfl (Or.inr rfl)) (pss_one (ps_if (pt_cmpR op_gt (pe_ix ix_tup (pe_ix ix_tup (pe_ix ix_list (pv 1) (pv 3) (fun _ _ => rfl)) (pv 4) (fun _ _ => rfl)) pe_int (fun _ _ => rfl)) pe_int (nomark _)) (pss_cons (ps_set (i := 5) nd rfl (Or.inl rfl) (pe_slice sl_tup (pe_ix ix_list (pv 0) (pv 3) (fun _ _ => rfl)) po_none (po_some (pe_idxT (K := K) rfl (pe_ix ix_list (pv 0) (pv 3) (fun _ _ => rfl)) (pv 4)))))
      (pss_one (ps_if (pt_cmpR op_gt (pe_callB call_len_seq rfl M.b_len PySem.boot_len (pa_cons (pe_comp rfl (N := ["_law_other", "_law_order_here", "_law_thing"]) (caps := [none, some 2, some 4]) (CompOk.of (by kernel_rfl)) (gk_name rfl) (pi_tup (pv 5)) (fun _ _ _ _ => (pg_name (i := 0) (show (["_law_other", "_law_order_here", "_law_thing"] : List Str).Nodup by decide +kernel) rfl (Or.inl rfl) (Or.inr rfl))) (fun _ _ _ _ => (pts_one (pt_cmpR op_gt (pe_bmK (K := K) rfl PySem.F.plainAttrs_list PySem.F.slot_list_index PySem.F.type_list_index (mt_indexK (K := K) rfl) (pv 1) (pa_cons (pv 0) pa_nil)) (pe_bmK (K := K) rfl PySem.F.plainAttrs_list PySem.F.slot_list_index PySem.F.type_list_index (mt_indexK (K := K) rfl) (pv 1) (pa_cons (pv 2) pa_nil)) (nomark _)))) (fun _ _ _ _ => (pv 0))) pa_nil)) pe_int (nomark _)) (pss_one (ps_ret pe_bl)) pss_nil))) pss_nil)))))
      (pss_one (ps_ret pe_bl))))), ?_⟩
  have hwl := Paired.len hWF
  have hn1 := tw.w.lo
  have hn6 := tw.w.hi
  have hWn := tw.w.len
  have hT := tw.z.t0
  have hwn : ws.length = n := by omega
  have opm := ord_pm ord
  have hol : (ni os).length = n := opm.len
  have hol2 : ((ni os).map V.int).length = n := by rw [List.length_map]; exact hol
  have hol3 : os.length = n := by rw [← ni_len]; exact hol
  refine ⟨_, rfl, _, "list", "list", rfl, by decide, .inl ⟨rfl, _, SqL.of hO⟩, _, rfl, iteF ?_⟩
  refine ⟨_, rfl, o, _, rfl, .inl (SqL.of hO), _, rfl, a, _, rfl, .inl hA, rfl, _, rfl, iteNS (by show V.int _ = V.int _; rw [hol2, hwn]) ?_⟩
  refine ⟨_, rfl, o, rfl, ⟨_, SqL.of hO⟩, ?_⟩
  refine comp_list1 (xs := (ni os).map V.int) (fun j ys Hx => Hx = H ∧ ys = (List.replicate j true).map V.bl) ⟨rfl, rfl⟩ (fun j ys Hx _ hP => by rw [hP.1]; exact SqL.of hO) (fun j y ys Hx hx hP => ?_) (fun ys Hx hP D hD => ?_)
  · obtain ⟨rfl, rfl⟩ := hP
    have hj : j < os.length := by have := (List.getElem?_eq_some_iff.mp hx).1; omega
    rw [ni_get hj] at hx
    cases hx
    refine ⟨_, rfl, _, rfl, small1000 (by simp; omega), rfl, ?_⟩
    rw [List.replicate_succ', List.map_append]
    rfl
  obtain ⟨rfl, rfl⟩ := hP
  rw [hol2]
  have S3 : Same Hx (upd Hx D (.lst ((List.replicate n true).map V.bl))) := same_new hD _
  have hD3 : SqL K (upd Hx D (.lst ((List.replicate n true).map V.bl))) D ((List.replicate n true).map V.bl) := SqL.of upd_same
  generalize upd Hx D (.lst ((List.replicate n true).map V.bl)) = H3 at S3 hD3 ⊢
  refine ⟨D, List.replicate n true, rfl, hD3, _, rfl, ?_⟩
  rw [show (List.replicate n true).all id = true by simp]
  refine iteF ?_
  refine ⟨_, rfl, o, ni os, rfl, .inl (SqL.of (S3 _ _ hO)), by omega, fun sl ns2 hsl hp hs => ?_⟩
  have S4 := same_new hsl (.lst (ns2.map V.int))
  refine ⟨_, rfl, a, _, rfl, .inl ((S3.trans S4).seq hA), (n : Int), by rw [hwn], fun l2 hl2 => ⟨l2, n, rfl, upd_same, by omega, fun l3 hl3 => ?_⟩⟩
  have e3 : ((List.range n).map fun (i : Nat) => V.int (i : Int)) = (LM.rng n).map V.int := by unfold LM.rng; rw [List.map_map]; rfl
  rw [e3]
  have S5 : Same H3 _ := (S4.trans (same_new hl2 (.rng 0 (n : Int)))).trans (same_new hl3 (.lst ((LM.rng n).map V.int)))
  refine ⟨.list (ns2.map PyData.int), .list ((LM.rng n).map PyData.int), ?_, ?_, shaped_ok (n := 1) (by simp [okD]) (by decide), shaped_ok (n := 1) (by simp [okD]) (by decide), _, rfl, ?_⟩
  · exact .lst (SqL.of (same_new hl3 _ _ _ (same_new hl2 _ _ _ upd_same))) (Reps.ints ns2) (by rw [List.length_map, hp.length_eq]; omega)
  · exact .lst (SqL.of upd_same) (Reps.ints _) (by rw [List.length_map, LM.rng_len]; omega)
  rw [eqv_ints, decide_eq_true ((LM.sorted_iff hp hs).mpr opm)]
  refine iteF ?_
  have S05 := S3.trans S5
  clear S5 S4
  generalize upd (upd (upd H3 sl (.lst (ns2.map V.int))) l2 (.rng 0 (n : Int))) l3 (.lst ((LM.rng n).map V.int)) = H5 at S05 ⊢
  refine ⟨_, rfl, a, _, rfl, .inl (S05.seq hA), _, rfl, by omega, by omega, ?_⟩
  refine for_range (n := ws.length) (fun p σ H6 => Same Hx H6 ∧ ∃ r3 r4 r5, σ = [some (.ref a), some (.ref b), some (.ref o), r3, r4, r5]) ⟨S05, _, _, _, rfl⟩ (fun p σ H6 hp6 hP => ?_) (fun σ H6 hP => ?_)
  · obtain ⟨S6, r3, r4, r5, rfl⟩ := hP
    have hpn : p < n := by omega
    have hpW : p < W.length := by omega
    obtain ⟨wv, hwv, wa, wo, rfl, hwf, hwd⟩ := Paired.get hWF (List.getElem?_eq_getElem hpW)
    have hrpm := tw.w.pm _ (List.getElem_mem hpW)
    have erow : W.getD p [] = W[p] := HM.getD_lt hpW
    generalize W[p] = row at hwf hrpm erow
    have hrl := hrpm.len
    refine ⟨_, rfl, a, _, rfl, .inl (S6.seq hA), _, rfl, by omega, by omega, ?_⟩
    refine for_range (n := ws.length) (fun t σ H7 => Same Hx H7 ∧ ∃ r4 r5, σ = [some (.ref a), some (.ref b), some (.ref o), some (.int (0 + (p : Int))), r4, r5]) ⟨S6, _, _, rfl⟩ (fun t σ H7 ht hP => ?_) (fun σ H7 hP => ?_)
    · obtain ⟨S7, r4x, r5x, rfl⟩ := hP
      have htn : t < n := by omega
      obtain ⟨ra, gs, fa, hus, hra, hgs, hfa⟩ := share_at hZ tw.z.reg hpn htn
      have hmt : ((t : Nat) : Int) ∈ row := hrpm.mem.mpr ⟨by omega, by omega⟩
      have hidl := List.idxOf_lt_length_iff.mpr hmt
      refine ⟨_, rfl, _, rfl, b, _, _, _, rfl, rfl, S7.seq hB, by rw [Int.zero_add]; exact atI_nat hus, _, rfl, ra, _, _, _, rfl, rfl, S7.tup hra, by rw [Int.zero_add]; exact atI_nat hgs, fa, _, 0, _, rfl, rfl, S7.tup hfa, rfl, _, _, rfl, rfl, _, rfl, iteD2 (fun c => ?_) (fun c => ⟨S7, _, _, rfl⟩)⟩
      have hz := (red_pos_iff hT).mp c
      have hwa7 : SqT K H7 wa (row.map V.int) := SqT.frz (S7 _ _ hwf)
      refine ⟨_, rfl, _, rfl, a, _, _, _, rfl, rfl, S7.seq hA, by rw [Int.zero_add]; exact atI_nat hwv, _, rfl, _, rfl, a, _, _, _, rfl, rfl, S7.seq hA, by rw [Int.zero_add]; exact atI_nat hwv, wa, wo, _, rfl, S7 _ _ hwf, hwd, _, rfl, row, (t : Int), by rw [Int.zero_add], hwa7, hmt, _, rfl, sl_to hwa7 hidl fun ps H8 S8 hps => ?_⟩
      refine ⟨_, rfl, ps, rfl, ⟨_, hps⟩, ?_⟩
      have S78 := S7.trans S8
      refine comp_tup (xs := ((row.take (row.idxOf (t : Int))).map V.int)) (fun k ys H9 => H9 = H8 ∧ ys = []) ⟨rfl, rfl⟩ (fun k ys H9 _ hP => by rw [hP.1]; exact hps) (fun k y ys H9 hy hP => ?_) (fun ys H9 hP De hDe => ?_)
      · obtain ⟨rfl, rfl⟩ := hP
        have hk : k < row.idxOf (t : Int) := by have := (List.getElem?_eq_some_iff.mp hy).1; rw [List.length_map, List.length_take] at this; omega
        have hkr : k < row.length := by omega
        rw [List.getElem?_map, List.getElem?_take_of_lt hk, List.getElem?_eq_getElem hkr] at hy
        have hy2 : V.int row[k] = y := Option.some.inj hy
        subst hy2
        have hub := hrpm.mem.mp (List.getElem_mem hkr)
        obtain ⟨u, hu⟩ : ∃ u : Nat, row[k] = u := ⟨row[k].toNat, by omega⟩
        have hui : row.idxOf (u : Int) = k := by rw [← hu]; exact hrpm.nodup.idxOf_getElem k hkr
        rw [hu] at hub ⊢
        have hlt := ord.idx htn (show u < n by omega) ⟨p, hpn, htn, by omega, hz, by rw [erow]; omega⟩
        have hO9 := S78 _ _ hO
        refine ⟨_, rfl, .inl ⟨rfl, _, SqL.of hO9⟩, _, rfl, o, ni os, (u : Int), rfl, rfl, SqL.of hO9, opm.mem.mpr ⟨by omega, by omega⟩, _, rfl, .inl ⟨rfl, _, SqL.of hO9⟩, _, rfl, o, ni os, (t : Int), rfl, by rw [Int.zero_add], SqL.of hO9, opm.mem.mpr ⟨by omega, by omega⟩, _, _, rfl, rfl, _, rfl, iteDF ?_ ⟨rfl, rfl⟩⟩
        rw [ni_idx, ni_idx]
        omega
      · obtain ⟨rfl, rfl⟩ := hP
        refine ⟨De, _, rfl, .inl (SqL.of upd_same), _, _, rfl, rfl, _, rfl, iteDF (by simp) ⟨S78.trans (same_new hDe _), _, _, rfl⟩⟩
    · obtain ⟨S7, r4x, r5x, rfl⟩ := hP
      exact ⟨S7, _, _, _, rfl⟩
  · obtain ⟨S6, r3, r4, r5, rfl⟩ := hP
    exact q H6 S6
theorem sc__law_ring_holds : FnScope ["_law_wishes_here", "_law_table_here", "_law_ring", "_law_row", "_law_k", "_law_person", "_law_given", "_law_taken"] ["_law_wishes_here", "_law_table_here", "_law_ring"] (defScope (top 38)) := ⟨rfl, rfl, rfl, by decide +kernel, rfl, by decide +kernel, by decide +kernel⟩
set_option maxHeartbeats 4000000 in
theorem d__law_ring_holds {P : Program} {w : World} {K : PySem.W.Frag} {mg : Str → Option Value} {base : Heap} {x : Xs} (M : Md K mg x)
    (G_law_whole : Dn P w K mg base CX0 1 "_law_whole" ["_law_found"] (spWhole)) : Dn P w K mg base CX0 2 "_law_ring_holds" ["_law_wishes_here", "_law_table_here", "_law_ring"] (spRingH K) := by
  have nd := (sc__law_ring_holds).nd
  refine M.f__law_ring_holds.ok sc__law_ring_holds (fun vs H Q E h => ?_) (fun _ _ _ _ _ _ us hl => match us, hl with | [_, _, _], _ => rfl) (fun f cdv A outer s H vs Q E hr h => ?_)
  · obtain ⟨a, b, r, ws, us, ls, W, Z, T, n, R, rfl, hA, hWF, hB, hZ, tw, hR, hls, ok, q⟩ := h
    rfl
  obtain ⟨a, b, r, ws, us, ls, W, Z, T, n, R, rfl, hA, hWF, hB, hZ, tw, hR, hls, ok, q⟩ := h
  refine ⟨_, (pss_cons (ps_if (PW.pt (pw_or (pt_not (pt_val (pe_callB call_isT rfl M.b_isinstance Boot.«isinstance» (pa_cons (pv 2) (pa_cons (pe_ty rfl M.b_list Boot.«list») pa_nil))))) (pw_or1 (pt_cmpR op_lt (pe_callB call_len_seq rfl M.b_len PySem.boot_len (pa_cons (pv 2) pa_nil)) pe_int (nomark _))))) (pss_one (ps_ret pe_bl)) pss_nil)
      (pss_cons (ps_for PassesOwn.never rfl (pi_list (pv 2)) (pg_name (i := 3) nd rfl (Or.inl rfl)) (pss_cons (ps_if (PW.pt (pw_or (pt_not (pt_val (pe_callB call_isT rfl M.b_isinstance Boot.«isinstance» (pa_cons (pv 3) (pa_cons (pe_ty rfl M.b_tuple Boot.«tuple») pa_nil))))) (pw_or (pt_cmpR op_ne (pe_callB call_len_seq rfl M.b_len PySem.boot_len (pa_cons (pv 3) pa_nil)) pe_int (nomark _)) (pw_or1 (pt_not (pt_val (pe_callB (call_all rfl) rfl M.b_all Boot.«all» (pa_cons (pe_comp rfl (N := ["_law_number"]) (caps := [none]) (CompOk.of (by kernel_rfl)) (gk_name rfl) (pi_tup (pv 3)) (fun _ _ _ _ => (pg_name (i := 0) (show (["_law_number"] : List Str).Nodup by decide +kernel) rfl (Or.inl rfl) (Or.inr rfl))) (fun _ _ _ _ => pts_nil) (fun _ _ _ _ => (pe_fn G_law_whole hr (by decide) rfl pass0 (pa_cons (pv 0) pa_nil)))) pa_nil)))))))) (pss_one (ps_ret pe_bl)) pss_nil)
      (pss_one (ps_if (PW.pt (pw_or (pt_cmpR op_lt (pe_callB (call_minT rfl) rfl M.b_min Boot.«min» (pa_cons (pv 3) pa_nil)) pe_int (nomark _)) (pw_or1 (pt_cmpR op_ge (pe_callB (call_maxT rfl) rfl M.b_max Boot.«max» (pa_cons (pv 3) pa_nil)) (pe_callB call_len_seq rfl M.b_len PySem.boot_len (pa_cons (pv 0) pa_nil)) (nomark _))))) (pss_one (ps_ret pe_bl)) pss_nil))))
      (pss_cons (ps_for PassesOwn.never rfl (pi_range1 rfl M.b_range (pa_cons (pe_callB call_len_seq rfl M.b_len PySem.boot_len (pa_cons (pv 2) pa_nil)) pa_nil)) (pg_name (i := 4) nd rfl (Or.inl rfl)) (pss_cons (ps_asg (pe_ix ix_list (pv 2) (pv 4) (fun _ _ => rfl)) (pg_tup rfl (pgs_cons (pg_name (i := 5) nd rfl (Or.inl rfl)) (pgs_cons (pg_name (i := 6) nd rfl (Or.inl rfl)) (pgs_cons (pg_name (i := 7) nd rfl (Or.inl rfl)) pgs_nil)))))
      (pss_cons (ps_if (PW.pt (pw_or (pt_cmpR op_ne (pe_ix ix_tup (pe_ix ix_list (pv 2) (pe_op op_mod (pe_op op_add (pv 4) pe_int) (pe_callB call_len_seq rfl M.b_len PySem.boot_len (pa_cons (pv 2) pa_nil))) (fun _ _ => rfl)) pe_int (fun _ _ => rfl)) (pv 6) (nomark _)) (pw_or1 (pt_cmpR op_eq (pe_ix ix_tup (pe_ix ix_tup (pe_ix ix_list (pv 1) (pv 5) (fun _ _ => rfl)) (pv 6) (fun _ _ => rfl)) pe_int (fun _ _ => rfl)) pe_int (nomark _))))) (pss_one (ps_ret pe_bl)) pss_nil)
      (pss_one (ps_if (pt_cmpR op_ge (pe_idxT (K := K) rfl (pe_ix ix_list (pv 0) (pv 5) (fun _ _ => rfl)) (pv 7)) (pe_idxT (K := K) rfl (pe_ix ix_list (pv 0) (pv 5) (fun _ _ => rfl)) (pv 6)) (nomark _)) (pss_one (ps_ret pe_bl)) pss_nil)))))
      (pss_one (ps_ret (pe_cmpR op_eq (pe_lenSetI rfl rfl M.b_len rfl M.b_set (pe_comp rfl (N := ["_law_row"]) (caps := [none]) (CompOk.of (by kernel_rfl)) (gk_name rfl) (pi_list (pv 2)) (fun _ _ _ _ => (pg_name (i := 0) (show (["_law_row"] : List Str).Nodup by decide +kernel) rfl (Or.inl rfl) (Or.inr rfl))) (fun _ _ _ _ => pts_nil) (fun _ _ _ _ => (pe_ix (ix_tupK (K := K) rfl) (pv 0) pe_int (fun _ _ => rfl))))) (pe_callB call_len_seq rfl M.b_len PySem.boot_len (pa_cons (pv 2) pa_nil)) (nomark _))))))), ?_⟩
  have hwl := Paired.len hWF
  have hn6 := tw.w.hi
  have hWn := tw.w.len
  have hT := tw.z.t0
  have hwn : ws.length = n := by omega
  have hll := Paired.len hls
  have hRl := ok.len
  have h2 := ok.two
  refine ⟨_, rfl, _, "list", "list", rfl, by decide, .inl ⟨rfl, _, hR⟩, _, rfl, iteF ?_⟩
  refine ⟨_, rfl, r, _, rfl, .inl hR, _, _, rfl, rfl, _, rfl, iteDF (by omega) ?_⟩
  refine ⟨_, rfl, r, rfl, ⟨_, hR⟩, ?_⟩
  refine for_list (xs := ls) (fun k σ H1 => Same H H1 ∧ ∃ r3 r4 r5 r6 r7, σ = [some (.ref a), some (.ref b), some (.ref r), r3, r4, r5, r6, r7]) ⟨Same.refl _, _, _, _, _, _, rfl⟩ (fun k σ H1 _ hP => hP.1.seq hR) (fun k v σ H1 hv hP => ?_) (fun σ H1 hP => ?_)
  · obtain ⟨S1, r3, r4, r5, r6, r7, rfl⟩ := hP
    obtain ⟨x, hx, xa, rfl, hxa⟩ := Paired.get' hls hv
    have hcan := ok.can x (List.mem_of_getElem? hx)
    have hx1 : SqT K H1 xa (([(x.1 : Int), (x.2.1 : Int), (x.2.2 : Int)] : List Int).map V.int) := S1.tup hxa
    refine ⟨_, rfl, _, "tuple", "tuple", rfl, by decide, .inr ⟨rfl, _, hx1⟩, _, rfl, iteF ?_⟩
    refine ⟨_, rfl, xa, _, rfl, .inr hx1, rfl, _, rfl, iteNS rfl ?_⟩
    refine ⟨_, rfl, xa, rfl, ⟨_, hx1⟩, ?_⟩
    refine comp_tup1 (xs := (([(x.1 : Int), (x.2.1 : Int), (x.2.2 : Int)] : List Int).map V.int)) (fun j ys Hx => Hx = H1 ∧ ys = (List.replicate j true).map V.bl) ⟨rfl, rfl⟩ (fun j ys Hx _ hP => by rw [hP.1]; exact hx1) (fun j y ys Hx hy hP => ?_) (fun ys Hx hP D hD => ?_)
    · obtain ⟨rfl, rfl⟩ := hP
      have hj : j < 3 := (List.getElem?_eq_some_iff.mp hy).1
      rw [map_int_get (ns := [(x.1 : Int), (x.2.1 : Int), (x.2.2 : Int)]) hj] at hy
      cases hy
      refine ⟨_, rfl, _, rfl, small1000 (by simp; omega), rfl, ?_⟩
      rw [List.replicate_succ', List.map_append]
      rfl
    obtain ⟨rfl, rfl⟩ := hP
    rw [show (([(x.1 : Int), (x.2.1 : Int), (x.2.2 : Int)] : List Int).map V.int).length = 3 from rfl]
    have S2 : Same Hx (upd Hx D (.lst ((List.replicate 3 true).map V.bl))) := same_new hD _
    have hD3 : SqL K (upd Hx D (.lst ((List.replicate 3 true).map V.bl))) D ((List.replicate 3 true).map V.bl) := SqL.of upd_same
    refine ⟨D, List.replicate 3 true, rfl, hD3, _, rfl, ?_⟩
    refine iteF ?_
    generalize upd Hx D (.lst ((List.replicate 3 true).map V.bl)) = H2 at S2 ⊢
    have hx2 := S2.tup hx1
    have hb3 : ∀ y ∈ ([(x.1 : Int), (x.2.1 : Int), (x.2.2 : Int)] : List Int), 0 ≤ y ∧ y < (n : Int) := fun y hy => by
      have p1 := hcan.hp
      have p2 := hcan.hg
      have p3 := hcan.ht
      simp only [List.mem_cons, List.not_mem_nil, or_false] at hy
      rcases hy with rfl | rfl | rfl <;> omega
    refine ⟨_, rfl, xa, _, rfl, hx2, by simp, fun m1 hm1 _ => ?_⟩
    have b1 := hb3 m1 hm1
    refine ⟨_, _, rfl, rfl, _, rfl, iteDF (by omega) ?_⟩
    refine ⟨_, rfl, xa, _, rfl, hx2, by simp, fun m2 hm2 _ => ?_⟩
    have b2 := hb3 m2 hm2
    refine ⟨_, rfl, a, _, rfl, .inl ((S1.trans S2).seq hA), _, _, rfl, rfl, _, rfl, iteDF (by omega) ?_⟩
    exact ⟨S1.trans S2, _, _, _, _, _, rfl⟩
  obtain ⟨S1, r3, r4, r5, r6, r7, rfl⟩ := hP
  refine ⟨_, rfl, r, _, rfl, .inl (S1.seq hR), _, rfl, by omega, by omega, ?_⟩
  refine for_range (n := ls.length) (fun k σ H2 => Same H H2 ∧ ∃ r3 r4 r5 r6 r7, σ = [some (.ref a), some (.ref b), some (.ref r), r3, r4, r5, r6, r7]) ⟨S1, _, _, _, _, _, rfl⟩ (fun k σ H2 hk hP => ?_) (fun σ H2 hP => ?_)
  · obtain ⟨S2, r3x, r4x, r5x, r6x, r7x, rfl⟩ := hP
    have hkR : k < R.length := by omega
    obtain ⟨v, hv, xa, rfl, hxa⟩ := Paired.get hls (List.getElem?_eq_getElem hkR)
    have hjR : (k + 1) % R.length < R.length := Nat.mod_lt _ (by omega)
    obtain ⟨v2, hv2, ya, rfl, hya⟩ := Paired.get hls (List.getElem?_eq_getElem hjR)
    have hnx := ok.nxt k R[k] R[(k + 1) % R.length] (List.getElem?_eq_getElem hkR) (List.getElem?_eq_getElem hjR)
    have hcan := ok.can R[k] (List.getElem_mem hkR)
    generalize R[k] = x at hxa hnx hcan
    generalize R[(k + 1) % R.length] = y at hya hnx
    obtain ⟨ra, gs, fa, hus, hra, hgs, hfa⟩ := share_at hZ tw.z.reg hcan.hp hcan.hg
    have hpW : x.1 < W.length := by have := hcan.hp; omega
    obtain ⟨wv, hwv, wa, wo, rfl, hwf, hwd⟩ := Paired.get hWF (List.getElem?_eq_getElem hpW)
    have hrpm := tw.w.pm _ (List.getElem_mem hpW)
    have erow : W.getD x.1 [] = W[x.1] := HM.getD_lt hpW
    have hlk := hcan.lk
    rw [erow] at hlk
    generalize W[x.1] = row at hwf hrpm hlk
    have hmt : ((x.2.2 : Nat) : Int) ∈ row := hrpm.mem.mpr ⟨by omega, by have := hcan.ht; omega⟩
    have hmg : ((x.2.1 : Nat) : Int) ∈ row := hrpm.mem.mpr ⟨by omega, by have := hcan.hg; omega⟩
    have hwa2 : SqT K H2 wa (row.map V.int) := SqT.frz (S2 _ _ hwf)
    have hzp : 0 < (FQ.red (HM.ent Z x.1 x.2.1) T).1 := (red_pos_iff hT).mpr hcan.sh
    refine ⟨_, rfl, _, rfl, r, _, _, _, rfl, rfl, S2.seq hR, by rw [Int.zero_add]; exact atI_nat hv, xa, _, rfl, S2.tup hxa, rfl, _, _, rfl, _, _, rfl, _, _, rfl, rfl, ?_⟩
    have em : (((k : Int) + 1) % (ls.length : Int)) = (((k + 1) % R.length : Nat) : Int) := by rw [hll]; push_cast; rfl
    refine ⟨_, rfl, _, rfl, _, _, rfl, rfl, _, rfl, r, _, rfl, .inl (S2.seq hR), _, _, rfl, rfl, by show (0 : Int) < _; omega, r, _, _, _, rfl, rfl, S2.seq hR, by rw [Int.zero_add, em]; exact atI_nat hv2, ya, _, 2, _, rfl, rfl, S2.tup hya, rfl, _, rfl, rfl, _, rfl, iteNS (by show V.int _ = V.int _; rw [hnx]) ?_⟩
    refine ⟨_, rfl, _, rfl, b, _, _, _, rfl, rfl, S2.seq hB, atI_nat hus, _, rfl, ra, _, _, _, rfl, rfl, S2.tup hra, atI_nat hgs, fa, _, 0, _, rfl, rfl, S2.tup hfa, rfl, rfl, _, rfl, iteDF (Vne (by omega)) ?_⟩
    refine ⟨_, rfl, _, rfl, a, _, _, _, rfl, rfl, S2.seq hA, atI_nat hwv, wa, wo, _, rfl, S2 _ _ hwf, hwd, _, rfl, row, _, rfl, hwa2, hmt, _, rfl, _, rfl, a, _, _, _, rfl, rfl, S2.seq hA, atI_nat hwv, wa, wo, _, rfl, S2 _ _ hwf, hwd, _, rfl, row, _, rfl, hwa2, hmg, _, _, rfl, rfl, _, rfl, iteDF (by omega) ?_⟩
    exact ⟨S2, _, _, _, _, _, rfl⟩
  · obtain ⟨S2, r3x, r4x, r5x, r6x, r7x, rfl⟩ := hP
    refine ⟨_, rfl, r, rfl, ⟨_, S2.seq hR⟩, ?_⟩
    refine comp_list1 (xs := ls) (fun k ys H3 => H3 = H2 ∧ ys = (ni ((R.take k).map Prod.fst)).map V.int) ⟨rfl, by rw [List.take_zero]; rfl⟩ (fun k ys H3 _ hP => by rw [hP.1]; exact S2.seq hR) (fun k v ys H3 hv hP => ?_) (fun ys H3 hP D hD => ?_)
    · obtain ⟨rfl, rfl⟩ := hP
      obtain ⟨x, hx, xa, rfl, hxa⟩ := Paired.get' hls hv
      have hkl := (List.getElem?_eq_some_iff.mp hv).1
      refine ⟨_, rfl, xa, _, 0, _, rfl, rfl, S2.tup hxa, rfl, small1000 (by rw [List.length_map, ni_len, List.length_map, List.length_take]; omega), rfl, ?_⟩
      rw [List.take_add_one, hx, List.map_append, ni_app, List.map_append]
      rfl
    · obtain ⟨rfl, rfl⟩ := hP
      rw [hll, List.take_length]
      have SD := same_new hD (.lst ((ni (R.map Prod.fst)).map V.int))
      refine ⟨D, ni (R.map Prod.fst), rfl, SqL.of upd_same, (fun i hi => ?_), List.pairwise_map.mpr (ok.once.imp fun hab z => hab (by omega)), ?_⟩
      · unfold ni at hi
        obtain ⟨y, hy, rfl⟩ := List.mem_map.mp hi
        obtain ⟨t, ht, rfl⟩ := List.mem_map.mp hy
        have := (ok.can t ht).hp
        omega
      · refine ⟨_, rfl, r, _, rfl, .inl ((S2.trans SD).seq hR), rfl, ?_⟩
        rw [decide_eq_true (show V.int _ = V.int _ by rw [ni_len, List.length_map, hll])]
        exact q _ (S2.trans SD)
theorem sc__law_changed : FnScope ["_law_table_here", "_law_ring", "_law_step", "_law_person", "_law_given", "_law_taken", "_law_rows"] ["_law_table_here", "_law_ring"] (defScope (top 39)) := ⟨rfl, rfl, rfl, by decide +kernel, rfl, by decide +kernel, by decide +kernel⟩
set_option maxHeartbeats 4000000 in
theorem d__law_changed {P : Program} {w : World} {K : PySem.W.Frag} {mg : Str → Option Value} {base : Heap} {x : Xs} (M : Md K mg x)
    (G_law_less : Dn P w K mg base CX0 1 "_law_less" ["_law_one", "_law_two"] (spBefore K))
    (G_law_plus : Dn P w K mg base CX0 3 "_law_plus" ["_law_one", "_law_two"] (sp2P fAdd K)) : Dn P w K mg base CX0 4 "_law_changed" ["_law_table_here", "_law_ring"] (spChgd22 K) := by
  have nd := (sc__law_changed).nd
  refine M.f__law_changed.ok sc__law_changed (fun vs H Q E h => ?_) (fun _ _ _ _ _ _ us hl => match us, hl with | [_, _], _ => rfl) (fun f cdv A outer s H vs Q E hr h => ?_)
  · obtain ⟨b, r, us, ls, W, Z, T, n, R, rfl, hB, hZ, tw, hR, hls, ok, q⟩ := h
    rfl
  obtain ⟨b, r, us, ls, W, Z, T, n, R, rfl, hB, hZ, tw, hR, hls, ok, q⟩ := h
  refine ⟨_, (pss_cons (ps_set (i := 2) nd rfl (Or.inl rfl) (pe_ix ix_tup (pe_ix ix_list (pv 0) (pe_ix ix_tup (pe_ix ix_list (pv 1) pe_int (fun _ _ => rfl)) pe_int (fun _ _ => rfl)) (fun _ _ => rfl)) (pe_ix ix_tup (pe_ix ix_list (pv 1) pe_int (fun _ _ => rfl)) pe_int (fun _ _ => rfl)) (fun _ _ => rfl)))
      (pss_cons (ps_for PassesOwn.never rfl (pi_list (pv 1)) (pg_tup rfl (pgs_cons (pg_name (i := 3) nd rfl (Or.inl rfl)) (pgs_cons (pg_name (i := 4) nd rfl (Or.inl rfl)) (pgs_cons (pg_name (i := 5) nd rfl (Or.inl rfl)) pgs_nil)))) (pss_one (ps_if (pt_val (pe_fn G_law_less hr (by decide) rfl pass0 (pa_cons (pe_ix ix_tup (pe_ix ix_list (pv 0) (pv 3) (fun _ _ => rfl)) (pv 4) (fun _ _ => rfl)) (pa_cons (pv 2) pa_nil)))) (pss_one (ps_set (i := 2) nd rfl (Or.inl rfl) (pe_ix ix_tup (pe_ix ix_list (pv 0) (pv 3) (fun _ _ => rfl)) (pv 4) (fun _ _ => rfl)))) pss_nil)))
      (pss_cons (ps_setComp (i := 6) nd rfl rfl rfl rfl (N := ["_law_row"]) (caps := [none]) (CompOk.of (by kernel_rfl)) (gk_name rfl) (pi_list (pv 0)) (fun _ _ _ _ => (pg_name (i := 0) (show (["_law_row"] : List Str).Nodup by decide +kernel) rfl (Or.inl rfl) (Or.inr rfl))) (fun _ _ _ _ => pts_nil) (fun _ _ _ _ => (pe_callTy (call_list_ofK (K := K) rfl) rfl M.b_list Boot.«list» (pa_cons (pv 0) pa_nil))))
      (pss_cons (ps_for PassesOwn.never rfl (pi_list (pv 1)) (pg_tup rfl (pgs_cons (pg_name (i := 3) nd rfl (Or.inl rfl)) (pgs_cons (pg_name (i := 4) nd rfl (Or.inl rfl)) (pgs_cons (pg_name (i := 5) nd rfl (Or.inl rfl)) pgs_nil)))) (pss_cons (ps_asg (pe_fn G_law_plus hr (by decide) rfl pass0 (pa_cons (pe_ix ix_list (pe_ix ix_list (pv 6) (pv 3) (fun _ _ => rfl)) (pv 4) (fun _ _ => rfl)) (pa_cons (pe_tup (pa_cons (pe_op op_sub pe_int (pe_ix ix_tup (pv 2) pe_int (fun _ _ => rfl))) (pa_cons (pe_ix ix_tup (pv 2) pe_int (fun _ _ => rfl)) pa_nil))) pa_nil))) (pg_sub (pe_ix ix_list (pv 6) (pv 3) (fun _ _ => rfl)) (pv 4) set_list))
      (pss_one (ps_asg (pe_fn G_law_plus hr (by decide) rfl pass0 (pa_cons (pe_ix ix_list (pe_ix ix_list (pv 6) (pv 3) (fun _ _ => rfl)) (pv 5) (fun _ _ => rfl)) (pa_cons (pv 2) pa_nil))) (pg_sub (pe_ix ix_list (pv 6) (pv 3) (fun _ _ => rfl)) (pv 5) set_list)))))
      (pss_one (ps_ret (pe_comp rfl (N := ["_law_row"]) (caps := [none]) (CompOk.of (by kernel_rfl)) (gk_name rfl) (pi_list (pv 6)) (fun _ _ _ _ => (pg_name (i := 0) (show (["_law_row"] : List Str).Nodup by decide +kernel) rfl (Or.inl rfl) (Or.inr rfl))) (fun _ _ _ _ => pts_nil) (fun _ _ _ _ => (pe_callTy (call_tuple_ofK (K := K) rfl) rfl M.b_tuple Boot.«tuple» (pa_cons (pv 0) pa_nil)))))))))), ?_⟩
  have hT := tw.z.t0
  have hT80 := tw.z.t1
  have hT0 : T ≠ 0 := by omega
  have zT : T.natAbs < 2 ^ 100 := by omega
  have hn6 := tw.w.hi
  have hRl := ok.len
  have hll := Paired.len hls
  have hul := Paired.len hZ
  have reg := tw.z.reg
  have hZn := reg.len
  have h2 := ok.two
  have small2 : (2 : Nat) ≤ sizeLine := by decide
  have sz : ∀ p g, p < n → g < n → Sz 4000 (FQ.red (HM.ent Z p g) T) := fun p g hp hg => by have := tw.ent hp hg; exact Sz_red hT0 (by omega) zT
  have hR0 : 0 < R.length := by omega
  obtain ⟨v0, hv0, xa, rfl, hxa⟩ := Paired.get hls (List.getElem?_eq_getElem hR0)
  have hc0 := ok.can R[0] (List.getElem_mem hR0)
  have hm0 : R[0] ∈ R := List.getElem_mem hR0
  generalize R[0] = x0 at hxa hc0 hm0
  obtain ⟨ra0, gs0, fa0, hus0, hra0, hgs0, hfa0⟩ := share_at hZ reg hc0.hp hc0.hg
  have at0 : atI ls 0 = some (.ref xa) := atI_ok (by decide) hv0
  refine ⟨_, rfl, _, rfl, r, _, 0, _, rfl, rfl, hR, at0, xa, _, 0, _, rfl, rfl, hxa, rfl, b, _, _, _, rfl, rfl, hB, atI_nat hus0, _, rfl, r, _, 0, _, rfl, rfl, hR, at0, xa, _, 1, _, rfl, rfl, hxa, rfl, ra0, _, _, _, rfl, rfl, hra0, atI_nat hgs0, ?_⟩
  refine ⟨_, rfl, r, rfl, ⟨_, hR⟩, ?_⟩
  refine for_list (xs := ls) (fun k σ H1 => H1 = H ∧ ∃ (m : Int) (fa : Addr) (r3 r4 r5 r6 : Option V), σ = [some (.ref b), some (.ref r), some (.ref fa), r3, r4, r5, r6] ∧ SqT K H fa [.int (FQ.red m T).1, .int (FQ.red m T).2] ∧ (∃ x ∈ R, m = HM.ent Z x.1 x.2.1) ∧ ∀ j x, j < k → R[j]? = some x → m ≤ HM.ent Z x.1 x.2.1)
    ⟨rfl, _, fa0, _, _, _, _, rfl, hfa0, ⟨x0, hm0, rfl⟩, fun j x hj => absurd hj (Nat.not_lt_zero _)⟩ (fun k σ H1 _ hP => by rw [hP.1]; exact hR) (fun k v σ H1 hv hP => ?_) (fun σ H1 hP => ?_)
  · obtain ⟨rfl, m, fa, r3, r4, r5, r6, rfl, hfa, ⟨xm, hxm, em⟩, hmin⟩ := hP
    obtain ⟨x, hx, ya, rfl, hya⟩ := Paired.get' hls hv
    have hcan := ok.can x (List.mem_of_getElem? hx)
    have hcm := ok.can xm hxm
    obtain ⟨ra, gs, fb, hus, hra, hgs, hfb⟩ := share_at hZ reg hcan.hp hcan.hg
    have szm : Sz 4000 (FQ.red m T) := by rw [em]; exact sz _ _ hcm.hp hcm.hg
    refine ⟨ya, _, rfl, hya, rfl, _, _, rfl, _, _, rfl, _, _, rfl, rfl, ?_⟩
    refine ⟨_, rfl, _, rfl, b, _, _, _, rfl, rfl, hB, atI_nat hus, _, rfl, ra, _, _, _, rfl, rfl, hra, atI_nat hgs, _, rfl, fb, fa, FQ.red (HM.ent Z x.1 x.2.1) T, FQ.red m T, rfl, hfb, hfa, sz _ _ hcan.hp hcan.hg, szm, _, rfl, ?_⟩
    show if lessF (FQ.red (HM.ent Z x.1 x.2.1) T) (FQ.red m T) = true then _ else _
    rw [lessF_red hT hT]
    refine iteD2 (fun c => ?_) (fun c => ?_)
    · have c2 : HM.ent Z x.1 x.2.1 < m := Int.lt_of_mul_lt_mul_right c (Int.le_of_lt hT)
      refine ⟨_, rfl, _, rfl, b, _, _, _, rfl, rfl, hB, atI_nat hus, _, rfl, ra, _, _, _, rfl, rfl, hra, atI_nat hgs, ?_⟩
      refine ⟨rfl, _, fb, _, _, _, _, rfl, hfb, ⟨x, List.mem_of_getElem? hx, rfl⟩, fun j y hj hy => ?_⟩
      by_cases e : j = k
      · subst e; rw [hx] at hy; cases hy; exact Int.le_refl _
      · have := hmin j y (by omega) hy; omega
    · have c2 : ¬ HM.ent Z x.1 x.2.1 < m := fun z => c (Int.mul_lt_mul_of_pos_right z hT)
      refine ⟨rfl, m, fa, _, _, _, _, rfl, hfa, ⟨xm, hxm, em⟩, fun j y hj hy => ?_⟩
      by_cases e : j = k
      · subst e; rw [hx] at hy; cases hy; omega
      · exact hmin j y (by omega) hy
  obtain ⟨rfl, m, fa, r3, r4, r5, r6, rfl, hfa, ⟨xm, hxm, em⟩, hmin⟩ := hP
  obtain ⟨sg, sl, sx, smm, se⟩ := step_gt ok
  have es : m = stepR Z R := by
    have h1 := sl xm hxm
    obtain ⟨j, hj, ej⟩ := List.mem_iff_getElem.mp smm
    have h3 := hmin j sx (by omega) (by rw [List.getElem?_eq_getElem hj, ej])
    omega
  have hcx := ok.can sx smm
  have sb := tw.ent hcx.hp hcx.hg
  rw [← se] at sb
  rw [es] at hfa
  clear hmin em es hxm
  have szs : Sz 4000 (FQ.red (stepR Z R) T) := Sz_red hT0 (by omega) zT
  -- the rows
  refine ⟨_, rfl, b, rfl, ⟨_, hB⟩, ?_⟩
  refine comp_list1 (xs := us) (fun i ys H2 => Same H1 H2 ∧ ∃ rs : List Addr, ys = rs.map V.ref ∧ rs.length = i ∧ rs.Nodup ∧ (∀ a ∈ rs, H1 a = none) ∧ Paired (fun a (m : List Int) => ∃ gs, H2 a = some (.lst gs) ∧ Paired (IsF K H2) gs (fr T m)) rs (Z.take i))
    ⟨Same.refl _, [], rfl, rfl, List.nodup_nil, (fun _ z => nomatch z), by rw [List.take_zero]; exact .nil⟩ (fun i ys H2 _ hP => hP.1.seq hB) (fun i v ys H2 hv hP => ?_) (fun ys H2 hP L hL => ?_)
  · obtain ⟨S2, rs, rfl, hrl, hnd, hfr, hrows⟩ := hP
    have hi : i < us.length := (List.getElem?_eq_some_iff.mp hv).1
    obtain ⟨mr, hmr, ra, gs, rfl, hra, hgs⟩ := Paired.get' hZ hv
    refine ⟨_, rfl, ra, gs, rfl, .inr (S2.tup hra), fun p hp => ⟨small1000 (by rw [List.length_map, hrl]; omega), S2.trans (same_new hp _), rs ++ [p], by rw [List.map_append]; rfl, by rw [List.length_append, hrl]; rfl, ?_, ?_, ?_⟩⟩
    · refine List.nodup_append.mpr ⟨hnd, List.nodup_cons.mpr ⟨(fun z => nomatch z), List.nodup_nil⟩, fun x hx y hy z => ?_⟩
      rw [List.mem_singleton.mp hy] at z
      obtain ⟨j, hj, e⟩ := List.mem_iff_getElem.mp hx
      obtain ⟨_, _, g2, h3, _⟩ := Paired.get' hrows (show rs[j]? = some x by rw [List.getElem?_eq_getElem hj, e])
      rw [z, hp] at h3
      cases h3
    · intro a ha
      rcases List.mem_append.mp ha with z | z
      · exact hfr a z
      · rw [List.mem_singleton.mp z]; exact S2.free hp
    · rw [List.take_add_one, hmr]
      exact Paired.app (Paired.mapP hrows fun _ _ ⟨g2, h3, h4⟩ => ⟨g2, same_new hp _ _ _ h3, fracs_mono (same_new hp _) h4⟩) (.cons ⟨gs, upd_same, fracs_mono (S2.trans (same_new hp _)) hgs⟩ .nil)
  obtain ⟨S2, rs, rfl, hrl, hnd, hfr, hrows⟩ := hP
  rw [List.take_of_length_le (by omega)] at hrows
  have hLr : L ∉ rs := fun z => by
    obtain ⟨j, hj, e⟩ := List.mem_iff_getElem.mp z
    obtain ⟨_, _, g2, h3, _⟩ := Paired.get' hrows (show rs[j]? = some L by rw [List.getElem?_eq_getElem hj, e])
    rw [hL] at h3
    cases h3
  have S3 : Same H1 (upd H2 L (.lst (rs.map V.ref))) := S2.trans (same_new hL _)
  have R3 : RowsF K H1 (upd H2 L (.lst (rs.map V.ref))) L rs T Z := ⟨upd_same, Paired.mapP hrows (fun _ _ ⟨g2, h3, h4⟩ => ⟨g2, same_new hL _ _ _ h3, fracs_mono (same_new hL _) h4⟩), hnd, hfr, S2.free hL, hLr⟩
  generalize upd H2 L (.lst (rs.map V.ref)) = H3 at S3 R3 ⊢
  clear hrows S2 hL
  refine ⟨_, rfl, r, rfl, ⟨_, S3.seq hR⟩, ?_⟩
  refine for_list (xs := ls) (fun k σ H4 => Same H1 H4 ∧ RowsF K H1 H4 L rs T (behind Z (stepR Z R) R k) ∧ ∃ (r3 r4 r5 : Option V), σ = [some (.ref b), some (.ref r), some (.ref fa), r3, r4, r5, some (.ref L)])
    ⟨S3, R3, _, _, _, rfl⟩ (fun k σ H4 _ hP => hP.1.seq hR) (fun k v σ H4 hv hP => ?_) (fun σ H4 hP => ?_)
  · obtain ⟨S4, R4, r3x, r4x, r5x, rfl⟩ := hP
    obtain ⟨x, hx, ya, rfl, hya⟩ := Paired.get' hls hv
    have hcan := ok.can x (List.mem_of_getElem? hx)
    have hpZ : x.1 < Z.length := by have := hcan.hp; omega
    have hcols := reg.cols _ (List.getElem_mem hpZ)
    have hown := behind_own (Z := Z) (m := stepR Z R) ok.once hx
    rw [List.getElem?_eq_getElem hpZ] at hown
    have eZ : Z.getD x.1 [] = Z[x.1] := HM.getD_lt hpZ
    have hrb := reg_bd reg (List.getElem_mem hpZ)
    rw [behind_succ hx, eZ]
    generalize behind Z (stepR Z R) R k = MB at R4 hown ⊢
    generalize Z[x.1] = row at hown hcols hrb ⊢
    have hgl : x.2.1 < row.length := by have := hcan.hg; omega
    have htl : x.2.2 < row.length := by have := hcan.ht; omega
    have hgt : x.2.1 ≠ x.2.2 := fun z => by have := hcan.lk; rw [z] at this; omega
    have bg := hrb (row.getD x.2.1 0) (by rw [HM.getD_lt hgl]; exact List.getElem_mem _)
    have bt := hrb (row.getD x.2.2 0) (by rw [HM.getD_lt htl]; exact List.getElem_mem _)
    obtain ⟨rr, gs, hrr, hrl4, hgs⟩ := R4.get hown
    have hgsl := Paired.len hgs
    rw [fr_len] at hgsl
    have er : atI (rs.map V.ref) (x.1 : Int) = some (.ref rr) := atI_nat (by rw [List.getElem?_map, hrr]; rfl)
    obtain ⟨vg, hvg, ga, rfl, hga⟩ := Paired.get hgs (fr_get (D := T) hgl)
    refine ⟨ya, _, rfl, S4.tup hya, rfl, _, _, rfl, _, _, rfl, _, _, rfl, rfl, ?_⟩
    have hfa4 := S4.tup hfa
    refine ⟨_, rfl, _, rfl, L, _, _, _, rfl, rfl, SqL.of R4.lst, er, _, rfl, rr, _, _, _, rfl, rfl, SqL.of hrl4, atI_nat hvg, _, rfl, fa, _, 0, _, rfl, rfl, hfa4, rfl, _, _, rfl, rfl, _, rfl, fa, _, 1, _, rfl, rfl, hfa4, rfl, small2, fun tp htp => ?_⟩
    have S5 := same_new htp (.tup [.int (0 - (FQ.red (stepR Z R) T).1), .int (FQ.red (stepR Z R) T).2])
    refine ⟨ga, tp, FQ.red (row.getD x.2.1 0) T, (0 - (FQ.red (stepR Z R) T).1, (FQ.red (stepR Z R) T).2), rfl, S5.tup hga, SqT.of upd_same, Sz_red hT0 (by omega) zT, ?_, (FQ.red_low hT0).pos, (FQ.red_low hT0).pos, fun pf H6 S6 hpf => ?_⟩
    · obtain ⟨s1, s2, s3⟩ := szs
      exact ⟨by show (0 - (FQ.red (stepR Z R) T).1).natAbs < 2 ^ 4000; rw [Int.zero_sub, Int.natAbs_neg]; exact s1, s2, s3⟩
    rw [fAdd_neg hT0] at hpf
    have S46 := S5.trans S6
    have R6 := R4.mono S46
    have hrl6 := S46 _ _ hrl4
    refine ⟨_, rfl, _, rfl, L, _, _, _, rfl, rfl, SqL.of R6.lst, er, _, rfl, rr, _, _, x.2.1, rfl, rfl, hrl6, by unfold ixN; rw [if_pos (by omega), if_pos (by omega)]; rfl, ?_⟩
    have hpair : Paired (IsF K H6) (gs.set x.2.1 (.ref pf)) (fr T (row.set x.2.1 (row.getD x.2.1 0 - stepR Z R))) := by
      have : fr T (row.set x.2.1 (row.getD x.2.1 0 - stepR Z R)) = (fr T row).set x.2.1 (FQ.red (row.getD x.2.1 0 - stepR Z R) T) := by unfold fr; rw [List.map_set]
      rw [this]
      exact paired_set (fracs_mono S46 hgs) ⟨pf, rfl, SqT.of hpf⟩
    have R7 := R6.upd hrr hrl6 hpair
    have hrf : H1 rr = none := R6.fresh rr (List.mem_of_getElem? hrr)
    have S7 : Same H1 (upd H6 rr (.lst (gs.set x.2.1 (.ref pf)))) := (S4.trans S46).over hrf _
    have hrl7 : upd H6 rr (.lst (gs.set x.2.1 (.ref pf))) rr = some (.lst (gs.set x.2.1 (.ref pf))) := upd_same
    have hpair7 := Paired.mapP hpair fun _ _ (h : IsF K H6 _ _) => h.over (zs := gs.set x.2.1 (.ref pf)) hrl6
    generalize upd H6 rr (.lst (gs.set x.2.1 (.ref pf))) = H7 at R7 S7 hrl7 hpair7 ⊢
    have htl2 : x.2.2 < (row.set x.2.1 (row.getD x.2.1 0 - stepR Z R)).length := by rw [List.length_set]; exact htl
    obtain ⟨vt, hvt, ta, rfl, hta⟩ := Paired.get hpair7 (fr_get (D := T) htl2)
    have et : (row.set x.2.1 (row.getD x.2.1 0 - stepR Z R)).getD x.2.2 0 = row.getD x.2.2 0 := by rw [List.getD_eq_getElem?_getD, List.getElem?_set_ne hgt, List.getD_eq_getElem?_getD]
    rw [et] at hta
    refine ⟨_, rfl, _, rfl, L, _, _, _, rfl, rfl, SqL.of R7.lst, er, _, rfl, rr, _, _, _, rfl, rfl, SqL.of hrl7, atI_nat hvt, _, rfl, ta, fa, FQ.red (row.getD x.2.2 0) T, FQ.red (stepR Z R) T, rfl, hta, S7.tup hfa, Sz_red hT0 (by omega) zT, szs, (FQ.red_low hT0).pos, (FQ.red_low hT0).pos, fun pt H8 S8 hpt => ?_⟩
    rw [fAdd_red hT0] at hpt
    have R8 := R7.mono S8
    have hrl8 := S8 _ _ hrl7
    refine ⟨_, rfl, _, rfl, L, _, _, _, rfl, rfl, SqL.of R8.lst, er, _, rfl, rr, _, _, x.2.2, rfl, rfl, hrl8, by unfold ixN; rw [if_pos (by omega), if_pos (by rw [List.length_set]; omega)]; rfl, ?_⟩
    have hpair8 : Paired (IsF K H8) ((gs.set x.2.1 (.ref pf)).set x.2.2 (.ref pt)) (fr T (moveR row x.2.1 x.2.2 (stepR Z R))) := by
      rw [fr_move]
      have : fr T (row.set x.2.1 (row.getD x.2.1 0 - stepR Z R)) = (fr T row).set x.2.1 (FQ.red (row.getD x.2.1 0 - stepR Z R) T) := by unfold fr; rw [List.map_set]
      rw [← this]
      exact paired_set (fracs_mono S8 hpair7) ⟨pt, rfl, SqT.of hpt⟩
    have R9 := R8.upd hrr hrl8 hpair8
    rw [List.set_set] at R9
    exact ⟨(S7.trans S8).over hrf _, R9, _, _, _, rfl⟩
  · obtain ⟨S4, R4, r3x, r4x, r5x, rfl⟩ := hP
    rw [hll] at R4
    have hbl := R4.len
    rw [behind_len] at hbl
    refine ⟨_, rfl, L, rfl, ⟨_, SqL.of R4.lst⟩, ?_⟩
    refine comp_list1 (xs := rs.map V.ref) (fun i zs H5 => Same H4 H5 ∧ Paired (RwFT K H5 T) zs ((behind Z (stepR Z R) R R.length).take i)) ⟨Same.refl _, by rw [List.take_zero]; exact .nil⟩ (fun i zs H5 _ hP => SqL.of (hP.1 _ _ R4.lst)) (fun i v zs H5 hv hP => ?_) (fun zs H5 hP Dl hDl => ?_)
    · obtain ⟨S5, hzs⟩ := hP
      have hi : i < rs.length := by have := (List.getElem?_eq_some_iff.mp hv).1; rw [List.length_map] at this; exact this
      have hib : i < (behind Z (stepR Z R) R R.length).length := by rw [behind_len]; omega
      obtain ⟨rr, gs, hrr, hrl4, hgs⟩ := R4.get (List.getElem?_eq_getElem hib)
      have hvr : v = .ref rr := by rw [List.getElem?_map, hrr] at hv; exact (Option.some.inj hv).symm
      subst hvr
      have hzl := Paired.len hzs
      rw [List.length_take, behind_len] at hzl
      refine ⟨_, rfl, rr, gs, rfl, .inl ⟨SqL.of (S5 _ _ hrl4), fun tp htp => ⟨small1000 (by omega), S5.trans (same_new htp _), ?_⟩⟩⟩
      rw [List.take_add_one, List.getElem?_eq_getElem hib]
      exact Paired.app (Paired.mapP hzs fun _ _ h => h.mono (same_new htp _)) (.cons ⟨tp, gs, rfl, SqT.of upd_same, fracs_mono (S5.trans (same_new htp _)) hgs⟩ .nil)
    · obtain ⟨S5, hzs⟩ := hP
      rw [List.take_of_length_le (by rw [behind_len, List.length_map]; omega)] at hzs
      exact q Dl zs _ (S4.trans (S5.trans (same_new hDl _))) upd_same (Paired.mapP hzs fun _ _ h => h.mono (same_new hDl _))
theorem sc__law_same : FnScope ["_law_found", "_law_due", "_law_k"] ["_law_found", "_law_due"] (defScope (top 40)) := ⟨rfl, rfl, rfl, by decide +kernel, rfl, by decide +kernel, by decide +kernel⟩
set_option maxHeartbeats 4000000 in
theorem d__law_same {P : Program} {w : World} {K : PySem.W.Frag} {mg : Str → Option Value} {base : Heap} {x : Xs} {n : Nat} (M : Md K mg x)
    (G_law_same : Dn P w K mg base CX0 n "_law_same" ["_law_found", "_law_due"] (spPrev (spSame K) n)) : Dn P w K mg base CX0 (n + 1) "_law_same" ["_law_found", "_law_due"] (spSame K n) := by
  have nd := (sc__law_same).nd
  refine M.f__law_same.ok sc__law_same (fun vs H Q E h => ?_) (fun _ _ _ _ _ _ us hl => match us, hl with | [_, _], _ => rfl) (fun f cdv A outer s H vs Q E hr h => ?_)
  · obtain ⟨v, u, d, rfl, rv, ru, hok, q⟩ := h
    rfl
  obtain ⟨v, u, d, rfl, rv, ru, hok, q⟩ := h
  refine ⟨_, (pss_cons (ps_if (PW.pt (pw_or (pt_val (pe_callB call_isT rfl M.b_isinstance Boot.«isinstance» (pa_cons (pv 1) (pa_cons (pe_ty rfl M.b_tuple Boot.«tuple») pa_nil)))) (pw_or1 (pt_val (pe_callB call_isT rfl M.b_isinstance Boot.«isinstance» (pa_cons (pv 1) (pa_cons (pe_ty rfl M.b_list Boot.«list») pa_nil))))))) (pss_cons (ps_if (PW.pt (pw_or (pt_cmpR op_ne (pe_callB call_isT rfl M.b_isinstance Boot.«isinstance» (pa_cons (pv 0) (pa_cons (pe_ty rfl M.b_tuple Boot.«tuple») pa_nil))) (pe_callB call_isT rfl M.b_isinstance Boot.«isinstance» (pa_cons (pv 1) (pa_cons (pe_ty rfl M.b_tuple Boot.«tuple») pa_nil))) (nomark _)) (pw_or1 (pt_cmpR op_ne (pe_callB call_isT rfl M.b_isinstance Boot.«isinstance» (pa_cons (pv 0) (pa_cons (pe_ty rfl M.b_list Boot.«list») pa_nil))) (pe_callB call_isT rfl M.b_isinstance Boot.«isinstance» (pa_cons (pv 1) (pa_cons (pe_ty rfl M.b_list Boot.«list») pa_nil))) (nomark _))))) (pss_one (ps_ret pe_bl)) pss_nil)
      (pss_cons (ps_if (pt_cmpR op_ne (pe_callB call_len_seq rfl M.b_len PySem.boot_len (pa_cons (pv 0) pa_nil)) (pe_callB call_len_seq rfl M.b_len PySem.boot_len (pa_cons (pv 1) pa_nil)) (nomark _)) (pss_one (ps_ret pe_bl)) pss_nil)
      (pss_cons (ps_for PassesOwn.never rfl (pi_range1 rfl M.b_range (pa_cons (pe_callB call_len_seq rfl M.b_len PySem.boot_len (pa_cons (pv 1) pa_nil)) pa_nil)) (pg_name (i := 2) nd rfl (Or.inl rfl)) (pss_one (ps_if (pt_not (pt_val (pe_fn G_law_same hr (Nat.le_refl _) rfl pass0 (pa_cons (pe_ix ix_seq (pv 0) (pv 2) (fun _ _ => rfl)) (pa_cons (pe_ix ix_seq (pv 1) (pv 2) (fun _ _ => rfl)) pa_nil))))) (pss_one (ps_ret pe_bl)) pss_nil)))
      (pss_one (ps_ret pe_bl))))) pss_nil)
      (pss_cons (ps_if (pt_val (pe_callB call_isT rfl M.b_isinstance Boot.«isinstance» (pa_cons (pv 1) (pa_cons (pe_ty rfl M.b_bool Boot.«bool») pa_nil)))) (pss_one (ps_ret (pe_and (pe_callB call_isT rfl M.b_isinstance Boot.«isinstance» (pa_cons (pv 0) (pa_cons (pe_ty rfl M.b_bool Boot.«bool») pa_nil))) (pe_one (pe_cmpR (op_eqD hr) (pv 0) (pv 1) (nomark _)))))) pss_nil)
      (pss_cons (ps_if (pt_val (pe_callB call_isT rfl M.b_isinstance Boot.«isinstance» (pa_cons (pv 1) (pa_cons (pe_ty rfl M.b_int Boot.«int») pa_nil)))) (pss_one (ps_ret (pe_and (pe_callB call_isT rfl M.b_isinstance Boot.«isinstance» (pa_cons (pv 0) (pa_cons (pe_ty rfl M.b_int Boot.«int») pa_nil))) (pe_and (pe_not (pe_callB call_isT rfl M.b_isinstance Boot.«isinstance» (pa_cons (pv 0) (pa_cons (pe_ty rfl M.b_bool Boot.«bool») pa_nil)))) (pe_one (pe_cmpR (op_eqD hr) (pv 0) (pv 1) (nomark _))))))) pss_nil)
      (pss_cons (ps_if (pt_val (pe_callB call_isT rfl M.b_isinstance Boot.«isinstance» (pa_cons (pv 1) (pa_cons (pe_ty rfl M.b_str Boot.«str») pa_nil)))) (pss_one (ps_ret (pe_and (pe_callB call_isT rfl M.b_isinstance Boot.«isinstance» (pa_cons (pv 0) (pa_cons (pe_ty rfl M.b_str Boot.«str») pa_nil))) (pe_one (pe_cmpR (op_eqD hr) (pv 0) (pv 1) (nomark _)))))) pss_nil)
      (pss_one (ps_ret (pe_and (pe_cmpR op_isN (pv 1) pe_non (nomark _)) (pe_one (pe_cmpR op_isN (pv 0) pe_non (nomark _)))))))))), ?_⟩
  cases rv with
  | non =>
    cases ru
    refine ⟨_, rfl, _, _, "NoneType", rfl, by decide, rfl, _, rfl, iteF ⟨_, rfl, _, _, "NoneType", rfl, by decide, rfl, _, rfl, iteF ?_⟩⟩
    refine ⟨_, rfl, _, _, "NoneType", rfl, by decide, rfl, _, rfl, iteF ?_⟩
    refine ⟨_, rfl, _, _, "NoneType", rfl, by decide, rfl, _, rfl, iteF ?_⟩
    refine ⟨_, rfl, _, _, "NoneType", rfl, by decide, rfl, _, rfl, iteF ?_⟩
    exact ⟨_, rfl, rfl, _, rfl, iteT ⟨_, rfl, rfl, q⟩⟩
  | bl b =>
    cases ru
    refine ⟨_, rfl, _, _, "bool", rfl, by decide, rfl, _, rfl, iteF ⟨_, rfl, _, _, "bool", rfl, by decide, rfl, _, rfl, iteF ?_⟩⟩
    refine ⟨_, rfl, _, _, "bool", rfl, by decide, rfl, _, rfl, iteT ?_⟩
    refine ⟨_, rfl, _, _, "bool", rfl, by decide, rfl, _, rfl, iteT ?_⟩
    refine ⟨_, rfl, _, rfl, _, _, .bl b, .bl b, rfl, rfl, ?_⟩
    rw [show PyData.eqv (.bool b) (.bool b) = true by simp [PyData.eqv]]
    exact q
  | int i =>
    cases ru
    refine ⟨_, rfl, _, _, "int", rfl, by decide, rfl, _, rfl, iteF ⟨_, rfl, _, _, "int", rfl, by decide, rfl, _, rfl, iteF ?_⟩⟩
    refine ⟨_, rfl, _, _, "int", rfl, by decide, rfl, _, rfl, iteF ?_⟩
    refine ⟨_, rfl, _, _, "int", rfl, by decide, rfl, _, rfl, iteT ?_⟩
    refine ⟨_, rfl, _, _, "int", rfl, by decide, rfl, _, rfl, iteT ⟨_, rfl, _, _, "int", rfl, by decide, rfl, _, rfl, _, rfl, iteT ?_⟩⟩
    refine ⟨_, rfl, _, rfl, _, _, .int i, .int i, rfl, rfl, ?_⟩
    rw [show PyData.eqv (.int i) (.int i) = true by simp [PyData.eqv]]
    exact q
  | str x =>
    cases ru
    have hst : SeqAt.shaped (.str x) = true := by cases n <;> simpa [okD] using hok
    refine ⟨_, rfl, _, _, "str", rfl, by decide, rfl, _, rfl, iteF ⟨_, rfl, _, _, "str", rfl, by decide, rfl, _, rfl, iteF ?_⟩⟩
    refine ⟨_, rfl, _, _, "str", rfl, by decide, rfl, _, rfl, iteF ?_⟩
    refine ⟨_, rfl, _, _, "str", rfl, by decide, rfl, _, rfl, iteF ?_⟩
    refine ⟨_, rfl, _, _, "str", rfl, by decide, rfl, _, rfl, iteT ?_⟩
    refine ⟨_, rfl, _, _, "str", rfl, by decide, rfl, _, rfl, iteT ?_⟩
    refine ⟨_, rfl, _, rfl, _, _, .str x, .str x, hst, hst, ?_⟩
    rw [show PyData.eqv (.str x) (.str x) = true by simp [PyData.eqv]]
    exact q
  | @lst a xs ds hv hvs hl1 =>
    cases ru with
    | @lst b ys _ hu hus hl2 =>
    cases n with
    | zero => cases hok
    | succ n =>

    have hla := Reps.length hvs
    have hlb := Reps.length hus
    refine ⟨_, rfl, _, _, "list", rfl, by decide, .inl ⟨rfl, _, hu⟩, _, rfl, iteF ⟨_, rfl, _, _, "list", rfl, by decide, .inl ⟨rfl, _, hu⟩, _, rfl, iteT ?_⟩⟩
    refine ⟨_, rfl, _, _, "list", rfl, by decide, .inl ⟨rfl, _, hv⟩, _, rfl, _, _, "list", rfl, by decide, .inl ⟨rfl, _, hu⟩, rfl, _, rfl, iteNS rfl ?_⟩
    refine ⟨_, rfl, _, _, "list", rfl, by decide, .inl ⟨rfl, _, hv⟩, _, rfl, _, _, "list", rfl, by decide, .inl ⟨rfl, _, hu⟩, rfl, _, rfl, iteNS rfl ?_⟩
    refine ⟨_, rfl, _, _, rfl, .inl hv, _, rfl, _, _, rfl, .inl hu, rfl, _, rfl, iteNS (by rw [hla, hlb]) ?_⟩
    refine ⟨_, rfl, _, _, rfl, .inl hu, _, rfl, by omega, by omega, ?_⟩
    refine for_range (fun i σ H' => H' = H ∧ ∃ r, σ = [some _, some _, r]) ⟨rfl, _, rfl⟩ (fun i σ H' hi hP => ?_) (fun σ H' hP => ?_)
    · obtain ⟨rfl, r, rfl⟩ := hP
      have hi' : i < ds.length := by omega
      have hd : ds[i]? = some ds[i] := by simp [hi']
      obtain ⟨x, hx, rx⟩ := Reps.get hvs hd
      obtain ⟨y, hy, ry⟩ := Reps.get hus hd
      have hok' : okD n ds[i] = true := List.all_eq_true.mp hok _ (List.getElem_mem hi')
      have ex : atI xs (0 + (i : Int)) = some x := by rw [Int.zero_add]; exact atI_nat hx
      have ey : atI ys (0 + (i : Int)) = some y := by rw [Int.zero_add]; exact atI_nat hy
      exact ⟨_, rfl, _, rfl, .inl ⟨_, xs, _, x, rfl, rfl, hv, ex, _, rfl, _, rfl, .inl ⟨_, ys, _, y, rfl, rfl, hu, ey, x, y, ds[i], rfl, rx, ry, hok', _, rfl, iteF ⟨rfl, _, rfl⟩⟩⟩⟩
    · obtain ⟨rfl, r, rfl⟩ := hP
      exact q
  | @tup a xs ds hv hvs hl1 =>
    cases ru with
    | @tup b ys _ hu hus hl2 =>
    cases n with
    | zero => cases hok
    | succ n =>

    have hla := Reps.length hvs
    have hlb := Reps.length hus
    refine ⟨_, rfl, _, _, "tuple", rfl, by decide, .inr ⟨rfl, _, hu⟩, _, rfl, iteT ?_⟩
    refine ⟨_, rfl, _, _, "tuple", rfl, by decide, .inr ⟨rfl, _, hv⟩, _, rfl, _, _, "tuple", rfl, by decide, .inr ⟨rfl, _, hu⟩, rfl, _, rfl, iteNS rfl ?_⟩
    refine ⟨_, rfl, _, _, "tuple", rfl, by decide, .inr ⟨rfl, _, hv⟩, _, rfl, _, _, "tuple", rfl, by decide, .inr ⟨rfl, _, hu⟩, rfl, _, rfl, iteNS rfl ?_⟩
    refine ⟨_, rfl, _, _, rfl, .inr hv, _, rfl, _, _, rfl, .inr hu, rfl, _, rfl, iteNS (by rw [hla, hlb]) ?_⟩
    refine ⟨_, rfl, _, _, rfl, .inr hu, _, rfl, by omega, by omega, ?_⟩
    refine for_range (fun i σ H' => H' = H ∧ ∃ r, σ = [some _, some _, r]) ⟨rfl, _, rfl⟩ (fun i σ H' hi hP => ?_) (fun σ H' hP => ?_)
    · obtain ⟨rfl, r, rfl⟩ := hP
      have hi' : i < ds.length := by omega
      have hd : ds[i]? = some ds[i] := by simp [hi']
      obtain ⟨x, hx, rx⟩ := Reps.get hvs hd
      obtain ⟨y, hy, ry⟩ := Reps.get hus hd
      have hok' : okD n ds[i] = true := List.all_eq_true.mp hok _ (List.getElem_mem hi')
      have ex : atI xs (0 + (i : Int)) = some x := by rw [Int.zero_add]; exact atI_nat hx
      have ey : atI ys (0 + (i : Int)) = some y := by rw [Int.zero_add]; exact atI_nat hy
      exact ⟨_, rfl, _, rfl, .inr (.inl ⟨_, xs, _, x, rfl, rfl, hv, ex, _, rfl, _, rfl, .inr (.inl ⟨_, ys, _, y, rfl, rfl, hu, ey, x, y, ds[i], rfl, rx, ry, hok', _, rfl, iteF ⟨rfl, _, rfl⟩⟩)⟩)⟩
    · obtain ⟨rfl, r, rfl⟩ := hP
      exact q
theorem sc__law_right : FnScope ["_law_wishes_here", "_law_table_here", "_law_found"] ["_law_wishes_here", "_law_table_here", "_law_found"] (defScope (top 41)) := ⟨rfl, rfl, rfl, by decide +kernel, rfl, by decide +kernel, by decide +kernel⟩
set_option maxHeartbeats 4000000 in
theorem d__law_right {P : Program} {w : World} {K : PySem.W.Frag} {mg : Str → Option Value} {base : Heap} {x : Xs} (M : Md K mg x)
    (G_law_order_holds : Dn P w K mg base CX0 2 "_law_order_holds" ["_law_wishes_here", "_law_table_here", "_law_order_here"] (spOrdH K))
    (G_law_ring_holds : Dn P w K mg base CX0 2 "_law_ring_holds" ["_law_wishes_here", "_law_table_here", "_law_ring"] (spRingH K))
    (G_law_same : Dn P w K mg base CX0 4 "_law_same" ["_law_found", "_law_due"] (spSame K 3))
    (G_law_changed : Dn P w K mg base CX0 4 "_law_changed" ["_law_table_here", "_law_ring"] (spChgd22 K)) : Dn P w K mg base CX0 5 "_law_right" ["_law_wishes_here", "_law_table_here", "_law_found"] (spRight22 K) := by
  have nd := (sc__law_right).nd
  refine M.f__law_right.ok sc__law_right (fun vs H Q E h => ?_) (fun _ _ _ _ _ _ us hl => match us, hl with | [_, _, _], _ => rfl) (fun f cdv A outer s H vs Q E hr h => ?_)
  · obtain ⟨a, b, v, ws, us, W, Z, T, n, rfl, hA, hWF, hB, hZ, tw, hv, q⟩ := h
    rfl
  obtain ⟨a, b, v, ws, us, W, Z, T, n, rfl, hA, hWF, hB, hZ, tw, hv, q⟩ := h
  refine ⟨_, (pss_cons (ps_if (PW.pt (pw_or (pt_not (pt_val (pe_callB call_isT rfl M.b_isinstance Boot.«isinstance» (pa_cons (pv 2) (pa_cons (pe_ty rfl M.b_tuple Boot.«tuple») pa_nil))))) (pw_or1 (pt_cmpR op_ne (pe_callB call_len_seq rfl M.b_len PySem.boot_len (pa_cons (pv 2) pa_nil)) pe_int (nomark _))))) (pss_one (ps_ret pe_bl)) pss_nil)
      (pss_cons (ps_if (pt_cmpR op_isB (pe_ix ix_tup (pv 2) pe_int (fun _ _ => rfl)) pe_bl (nomark _)) (pss_one (ps_ret (pe_fn G_law_order_holds hr (by decide) rfl pass0 (pa_cons (pv 0) (pa_cons (pv 1) (pa_cons (pe_ix ix_tup (pv 2) pe_int (fun _ _ => rfl)) pa_nil)))))) pss_nil)
      (pss_cons (ps_if (PW.pt (pw_or (pt_cmpR op_isNotB (pe_ix ix_tup (pv 2) pe_int (fun _ _ => rfl)) pe_bl (nomark _)) (pw_or (pt_not (pt_val (pe_callB call_isT rfl M.b_isinstance Boot.«isinstance» (pa_cons (pe_ix ix_tup (pv 2) pe_int (fun _ _ => rfl)) (pa_cons (pe_ty rfl M.b_tuple Boot.«tuple») pa_nil))))) (pw_or1 (pt_cmpR op_ne (pe_callB call_len_seq rfl M.b_len PySem.boot_len (pa_cons (pe_ix ix_tup (pv 2) pe_int (fun _ _ => rfl)) pa_nil)) pe_int (nomark _)))))) (pss_one (ps_ret pe_bl)) pss_nil)
      (pss_cons (ps_if (pt_not (pt_val (pe_fn G_law_ring_holds hr (by decide) rfl pass0 (pa_cons (pv 0) (pa_cons (pv 1) (pa_cons (pe_ix ix_tup (pe_ix ix_tup (pv 2) pe_int (fun _ _ => rfl)) pe_int (fun _ _ => rfl)) pa_nil)))))) (pss_one (ps_ret pe_bl)) pss_nil)
      (pss_one (ps_ret (pe_fn G_law_same hr (by decide) rfl pass0 (pa_cons (pe_ix ix_tup (pe_ix ix_tup (pv 2) pe_int (fun _ _ => rfl)) pe_int (fun _ _ => rfl)) (pa_cons (pe_fn G_law_changed hr (by decide) rfl pass0 (pa_cons (pv 1) (pa_cons (pe_ix ix_tup (pe_ix ix_tup (pv 2) pe_int (fun _ _ => rfl)) pe_int (fun _ _ => rfl)) pa_nil))) pa_nil))))))))), ?_⟩
  have hn6 := tw.w.hi
  have reg := tw.z.reg
  rcases hv with ⟨H0, o, os, h⟩ | ⟨H0, pr, r, t, R, ls, us2, h⟩
  · obtain ⟨ta, rfl, hta⟩ := h.at'
    refine ⟨_, rfl, _, "tuple", "tuple", rfl, by decide, .inr ⟨rfl, _, hta⟩, _, rfl, iteF ?_⟩
    refine ⟨_, rfl, ta, _, rfl, .inr hta, rfl, _, rfl, iteNS rfl ?_⟩
    refine ⟨_, rfl, ta, _, 0, _, rfl, rfl, hta, rfl, true, true, rfl, rfl, _, rfl, iteT ?_⟩
    exact ⟨_, rfl, _, rfl, _, rfl, ta, _, 1, _, rfl, rfl, hta, rfl, a, b, o, ws, us, W, Z, T, n, os, rfl, hA, hWF, hB, hZ, tw, h.ls, h.ok, fun H1 S1 => q H1 S1⟩
  · obtain ⟨ta, rfl, hta⟩ := h.at'
    refine ⟨_, rfl, _, "tuple", "tuple", rfl, by decide, .inr ⟨rfl, _, hta⟩, _, rfl, iteF ?_⟩
    refine ⟨_, rfl, ta, _, rfl, .inr hta, rfl, _, rfl, iteNS rfl ?_⟩
    refine ⟨_, rfl, ta, _, 0, _, rfl, rfl, hta, rfl, false, true, rfl, rfl, _, rfl, iteF ?_⟩
    refine ⟨_, rfl, ta, _, 0, _, rfl, rfl, hta, rfl, false, false, rfl, rfl, _, rfl, iteF ?_⟩
    refine ⟨_, rfl, ta, _, 1, _, rfl, rfl, hta, rfl, _, "tuple", "tuple", rfl, by decide, .inr ⟨rfl, _, h.pr⟩, _, rfl, iteF ?_⟩
    refine ⟨_, rfl, ta, _, 1, _, rfl, rfl, hta, rfl, pr, _, rfl, .inr h.pr, rfl, _, rfl, iteNS rfl ?_⟩
    refine ⟨_, rfl, _, rfl, _, rfl, ta, _, 1, _, rfl, rfl, hta, rfl, pr, _, 0, _, rfl, rfl, h.pr, rfl, a, b, r, ws, us, ls, W, Z, T, n, R, rfl, hA, hWF, hB, hZ, tw, SqL.of h.lr, h.tr, h.ok, fun H1 S1 => ⟨_, rfl, iteF ?_⟩⟩
    have hbr : ∀ y ∈ behind Z (stepR Z R) R R.length, y.length ≤ 1000 := fun y hy => by
      have := behind_rows reg.cols (fun x hx => by have := (h.ok.can x hx).hp; rw [reg.len]; exact this) R.length y hy
      omega
    have hbl : (behind Z (stepR Z R) R R.length).length = n := by rw [behind_len]; exact reg.len
    refine ⟨_, rfl, ta, _, 1, _, rfl, rfl, S1.tup hta, rfl, pr, _, 1, _, rfl, rfl, S1.tup h.pr, rfl, _, rfl, _, rfl, ta, _, 1, _, rfl, rfl, S1.tup hta, rfl, pr, _, 0, _, rfl, rfl, S1.tup h.pr, rfl, b, r, us, ls, W, Z, T, n, R, rfl, S1.seq hB, Paired.mapP hZ (fun _ _ z => z.mono S1), tw, SqL.of (S1 _ _ h.lr), Paired.mapP h.tr (fun _ _ z => z.mono S1), h.ok, fun p us3 H2 S2 hp hus3 => ?_⟩
    have l1 := Paired.len h.rw'
    have l2 := Paired.len hus3
    exact ⟨.ref t, .ref p, _, rfl, .lst (SqL.of ((S1.trans S2) _ _ h.lt)) (Reps.of_frows (Paired.mapP h.rw' fun _ _ z => z.mono (S1.trans S2)) hbr) (by omega), .lst (SqL.of hp) (Reps.of_frows hus3 hbr) (by omega), okD_frows T _, q _ (S1.trans S2)⟩
theorem sc_law : FnScope ["_law_script", "_law_first", "_law_count", "_law_wishes_here", "_law_table_here", "_law_handed", "_law_found", "_law_again"] ["_law_script"] (defScope (top 42)) := ⟨rfl, rfl, rfl, by decide +kernel, rfl, by decide +kernel, by decide +kernel⟩
set_option maxHeartbeats 4000000 in
theorem d_law {P : Program} {w : World} {K : PySem.W.Frag} {mg : Str → Option Value} {base : Heap} {x : Xs} {fl : Addr} {fdl : FuncData} (Fl : Fun K "law" "law" (top 42) fl fdl) (M : Md K mg x)
    (G_law_cell_at : Dn P w K mg base CX0 1 "_law_cell_at" ["_law_script", "_law_k"] (spCell K))
    (G_law_wishes : Dn P w K mg base CX0 2 "_law_wishes" ["_law_script", "_law_at", "_law_count"] (spWishesF K))
    (G_law_table : Dn P w K mg base CX0 3 "_law_table" ["_law_script", "_law_at", "_law_many", "_law_count"] (spTableN K))
    (G_law_deals : Dn P w K mg base CX0 1 "_law_deals" ["_law_first"] (spDeals))
    (Gring_or_order : Dn P w K mg base CX0 6 "ring_or_order" ["wishes", "table"] (spRO K))
    (G_law_right : Dn P w K mg base CX0 5 "_law_right" ["_law_wishes_here", "_law_table_here", "_law_found"] (spRight22 K)) : FnOk P w K mg base CX0 8 fl fdl ["_law_script"] (spLaw K) := by
  have nd := (sc_law).nd
  refine Fl.ok sc_law (fun vs H Q E h => ?_) (fun cdv A outer s H vs Q E hr h => ?_)
  · obtain ⟨a, ns, rfl, hS, h63, q⟩ := h
    rfl
  obtain ⟨a, ns, rfl, hS, h63, q⟩ := h
  refine ⟨_, (pss_cons (ps_set (i := 1) nd rfl (Or.inl rfl) (pe_fn G_law_cell_at hr (by decide) rfl pass0 (pa_cons (pv 0) (pa_cons pe_int pa_nil))))
      (pss_cons (ps_set (i := 2) nd rfl (Or.inl rfl) (pe_op op_add pe_int (pe_op op_mod (pv 1) pe_int)))
      (pss_cons (ps_set (i := 3) nd rfl (Or.inl rfl) (pe_fn G_law_wishes hr (by decide) rfl pass0 (pa_cons (pv 0) (pa_cons pe_int (pa_cons (pv 2) pa_nil)))))
      (pss_cons (ps_set (i := 4) nd rfl (Or.inl rfl) (pe_fn G_law_table hr (by decide) rfl pass0 (pa_cons (pv 0) (pa_cons (pe_op op_add pe_int (pv 2)) (pa_cons (pe_fn G_law_deals hr (by decide) rfl pass0 (pa_cons (pv 1) pa_nil)) (pa_cons (pv 2) pa_nil))))))
      (pss_cons (ps_set (i := 5) nd rfl (Or.inl rfl) (pe_lst (pa_cons (pe_callTy call_list_of rfl M.b_list Boot.«list» (pa_cons (pv 3) pa_nil)) (pa_cons (pe_callTy call_list_of rfl M.b_list Boot.«list» (pa_cons (pv 4) pa_nil)) pa_nil))))
      (pss_cons (ps_set (i := 6) nd rfl (Or.inl rfl) (pe_fn Gring_or_order hr (by decide) rfl pass0 (pa_cons (pe_ix ix_list (pv 5) pe_int (fun _ _ => rfl)) (pa_cons (pe_ix ix_list (pv 5) pe_int (fun _ _ => rfl)) pa_nil))))
      (pss_cons (ps_if (PW.pt (pw_or (pt_not (pt_val (pe_fn G_law_right hr (by decide) rfl pass0 (pa_cons (pv 3) (pa_cons (pv 4) (pa_cons (pv 6) pa_nil)))))) (pw_or1 (pt_cmpR (op_neD hr) (pv 5) (pe_lst (pa_cons (pv 3) (pa_cons (pv 4) pa_nil))) (nomark _))))) (pss_one (ps_ret pe_bl)) pss_nil)
      (pss_cons (ps_if (pt_val (pe_ix ix_tup (pv 6) pe_int (fun _ _ => rfl))) (pss_one (ps_expr (pe_bm0 PySem.F.plainAttrs_list PySem.F.slot_list_clear PySem.F.type_list_clear mt_clear (pe_ix ix_tup (pv 6) pe_int (fun _ _ => rfl))))) (pss_cons (ps_expr (pe_bm0 PySem.F.plainAttrs_list PySem.F.slot_list_clear PySem.F.type_list_clear mt_clear (pe_ix ix_tup (pe_ix ix_tup (pv 6) pe_int (fun _ _ => rfl)) pe_int (fun _ _ => rfl))))
      (pss_one (ps_expr (pe_bm0 PySem.F.plainAttrs_list PySem.F.slot_list_clear PySem.F.type_list_clear mt_clear (pe_ix ix_tup (pe_ix ix_tup (pv 6) pe_int (fun _ _ => rfl)) pe_int (fun _ _ => rfl)))))))
      (pss_cons (ps_set (i := 7) nd rfl (Or.inl rfl) (pe_fn Gring_or_order hr (by decide) rfl pass0 (pa_cons (pe_ix ix_list (pv 5) pe_int (fun _ _ => rfl)) (pa_cons (pe_ix ix_list (pv 5) pe_int (fun _ _ => rfl)) pa_nil))))
      (pss_one (ps_ret (pe_and (pe_fn G_law_right hr (by decide) rfl pass0 (pa_cons (pv 3) (pa_cons (pv 4) (pa_cons (pv 7) pa_nil)))) (pe_and (pe_cmpR op_eq (pe_ix ix_tup (pv 7) pe_int (fun _ _ => rfl)) (pe_ix ix_tup (pv 6) pe_int (fun _ _ => rfl)) (nomark _)) (pe_one (pe_cmpR (op_eqD hr) (pv 5) (pe_lst (pa_cons (pv 3) (pa_cons (pv 4) pa_nil))) (nomark _)))))))))))))))), ?_⟩
  have small2 : (2 : Nat) ≤ sizeLine := by decide
  refine ⟨_, rfl, a, ns, 0, rfl, hS, Int.le_refl 0, ?_⟩
  obtain ⟨n, hn, hn1, hn6⟩ : ∃ n : Nat, 1 + LM.cellAt ns 0 % 6 = (n : Int) ∧ 1 ≤ n ∧ n ≤ 6 := by
    have h0 := Int.emod_nonneg (LM.cellAt ns 0) (show (6 : Int) ≠ 0 by decide)
    have h1 := Int.emod_lt_of_pos (LM.cellAt ns 0) (show (0 : Int) < 6 by decide)
    exact ⟨(1 + LM.cellAt ns 0 % 6).toNat, by omega, by omega, by omega⟩
  refine ⟨_, rfl, _, _, rfl, rfl, by show (0 : Int) < 6; decide, _, _, rfl, rfl, ?_⟩
  dsimp only
  rw [hn]
  refine ⟨_, rfl, _, rfl, a, ns, 1, n, rfl, hS, by decide, hn6, fun pW ws H1 S1 hW0 hWl hWF => ?_⟩
  have okw : Ws41 n (LN.wishes ns 1 n) := ⟨hn1, hn6, LN.wishes_len ns 1 n, fun w hw => LN.wishes_pm hw⟩
  generalize LN.wishes ns 1 n = W at hWF okw
  have hwl := Paired.len hWF
  have hWn := okw.len
  obtain ⟨many, hmany⟩ : ∃ m : Nat, LN.deals (LM.cellAt ns 0) = (m : Int) := ⟨(LN.deals (LM.cellAt ns 0)).toNat, by have := LN.deals_bd (LM.cellAt ns 0); omega⟩
  have hm25 : many ≤ 25 := by have := LN.deals_bd (LM.cellAt ns 0); omega
  refine ⟨_, rfl, _, rfl, _, _, rfl, rfl, _, rfl, _, rfl, ?_⟩
  rw [hmany]
  refine ⟨_, rfl, a, ns, 1 + (n : Int), many, n, rfl, S1.seq hS, by omega, hm25, hn1, hn6, fun pT us H2 S2 hT00 hTl hZ => ?_⟩
  obtain ⟨_, hT, hT80⟩ := LN.table_ok ns (1 + (n : Int)) n hm25
  have reg := HM.table_reg ns (1 + (n : Int)) many n
  generalize LN.table ns (1 + (n : Int)) many n = MT at hZ hT hT80 reg
  obtain ⟨Z, T⟩ := MT
  dsimp only at hZ hT hT80 reg
  have tw : Tw n W T Z := ⟨okw, ⟨hn1, hn6, hT, hT80, reg⟩⟩
  have hul := Paired.len hZ
  have hZn := reg.len
  have hrW : ∀ r ∈ W, r.length ≤ 1000 := fun r hr => by have := (okw.pm r hr).len; omega
  have hrZ : ∀ r ∈ Z, r.length ≤ 1000 := fun r hr => by have := reg.cols r hr; omega
  have okh := okD_handed W Z T
  refine ⟨_, rfl, pW, ws, rfl, .inl (SqL.of (S2 _ _ hWl)), fun h1 hh1 => ?_⟩
  have T1 := same_new hh1 (.lst ws)
  refine ⟨_, rfl, pT, us, rfl, .inl (SqL.of (T1 _ _ hTl)), fun h2 hh2 => ⟨small2, fun hd hhd => ?_⟩⟩
  have T2 := same_new hh2 (.lst us)
  have T3 := same_new hhd (.lst [.ref h1, .ref h2])
  have S3 : Same H2 _ := T1.trans (T2.trans T3)
  have h13 := (T2.trans T3) _ _ (show upd H2 h1 (.lst ws) h1 = some (.lst ws) from upd_same)
  have h23 := T3 _ _ (show upd (upd H2 h1 (.lst ws)) h2 (.lst us) h2 = some (.lst us) from upd_same)
  have hd3 : upd (upd (upd H2 h1 (.lst ws)) h2 (.lst us)) hd (.lst [.ref h1, .ref h2]) hd = some (.lst [.ref h1, .ref h2]) := upd_same
  generalize upd (upd (upd H2 h1 (.lst ws)) h2 (.lst us)) hd (.lst [.ref h1, .ref h2]) = H3 at S3 h13 h23 hd3 ⊢
  clear T1 T2 T3
  have hWF3 : Paired (IsRF K H3) ws W := Paired.mapP hWF fun _ _ h => h.mono (S2.trans S3)
  have hIR3 : Paired (IsR K H3) ws W := Paired.mapP hWF3 fun _ _ h => h.isR
  have hW3 := (S2.trans S3) _ _ hWl
  have hT3 := S3 _ _ hTl
  have hZ3 := Paired.mapP hZ fun _ _ (h : RwFT K H2 T _ _) => h.mono S3
  refine ⟨_, rfl, hd, _, 0, _, rfl, rfl, SqL.of hd3, rfl, _, rfl, hd, _, 1, _, rfl, rfl, SqL.of hd3, rfl, h1, h2, ws, us, W, Z, T, n, rfl, SqL.of h13, hIR3, SqL.of h23, hZ3, tw, (fun hno v o os H4 S4 ro => ?_), fun v pr r t R ls us2 H4 S4 ro => ?_⟩
  · -- an order
    refine ⟨_, rfl, _, rfl, _, rfl, pW, pT, v, ws, us, W, Z, T, n, rfl, SqL.of (S4 _ _ hW3), Paired.mapP hWF3 (fun _ _ h => h.mono S4), SqL.of (S4 _ _ hT3), Paired.mapP hZ3 (fun _ _ h => h.mono S4), tw, .inl ⟨_, o, os, ro⟩, fun H5 S5 => ⟨_, rfl, iteF ?_⟩⟩
    have S35 := S4.trans S5
    refine ⟨_, rfl, _, rfl, _, rfl, small2, fun lx hlx => ?_⟩
    have S5x := same_new hlx (.lst [.ref pW, .ref pT])
    have S35x := S35.trans S5x
    refine ⟨_, _, .lst (SqL.of (S35x _ _ hd3)) (.cons (.lst (SqL.of (S35x _ _ h13)) (Reps.of_irows (Paired.mapP hIR3 fun _ _ h => h.mono S35x) hrW) (by omega)) (.cons (.lst (SqL.of (S35x _ _ h23)) (Reps.of_frows (Paired.mapP hZ3 fun _ _ h => h.mono S35x) hrZ) (by omega)) .nil)) (by simp),
      .lst (SqL.of upd_same) (.cons (.lst (SqL.of (S35x _ _ hW3)) (Reps.of_irows (Paired.mapP hIR3 fun _ _ h => h.mono S35x) hrW) (by omega)) (.cons (.lst (SqL.of (S35x _ _ hT3)) (Reps.of_frows (Paired.mapP hZ3 fun _ _ h => h.mono S35x) hrZ) (by omega)) .nil)) (by simp), shaped_ok okh (by decide), shaped_ok okh (by decide), _, rfl, ?_⟩
    rw [eqv_self _ _ okh]
    refine iteF ?_
    generalize upd H5 lx (.lst [.ref pW, .ref pT]) = H5y at S5x S35x ⊢
    obtain ⟨ta, e1, hta⟩ := ro.at'
    subst e1
    have S45 := S5.trans S5x
    have hta5 := S45.tup hta
    refine ⟨_, rfl, ta, _, 0, _, rfl, rfl, hta5, rfl, _, rfl, iteT ?_⟩
    have ho5 := S45 _ _ ro.ls
    refine ⟨_, rfl, ta, _, 1, _, rfl, rfl, hta5, rfl, .inl ⟨rfl, _, SqL.of ho5⟩, o, _, rfl, rfl, ho5, ?_⟩
    have S36x : Same H3 (upd H5y o (.lst [])) := S35x.over ro.fr _
    have hta6 : SqT K (upd H5y o (.lst [])) ta [.bl true, .ref o] := tup_over hta5 ho5
    generalize upd H5y o (.lst []) = H6 at S36x hta6 ⊢
    have S36 : Same H3 H6 := S36x
    refine ⟨_, rfl, hd, _, 0, _, rfl, rfl, SqL.of (S36 _ _ hd3), rfl, _, rfl, hd, _, 1, _, rfl, rfl, SqL.of (S36 _ _ hd3), rfl, h1, h2, ws, us, W, Z, T, n, rfl, SqL.of (S36 _ _ h13), Paired.mapP hIR3 (fun _ _ h => h.mono S36), SqL.of (S36 _ _ h23), Paired.mapP hZ3 (fun _ _ h => h.mono S36), tw, ?_, ?_⟩
    · intro hno2 v2 o2 os2 H7 S7 ro2
      have S37 := S36.trans S7
      refine ⟨_, rfl, _, rfl, _, rfl, pW, pT, v2, ws, us, W, Z, T, n, rfl, SqL.of (S37 _ _ hW3), Paired.mapP hWF3 (fun _ _ h => h.mono S37), SqL.of (S37 _ _ hT3), Paired.mapP hZ3 (fun _ _ h => h.mono S37), tw, .inl ⟨_, o2, os2, ro2⟩, fun H8 S8 => ?_⟩
      have S38 := S37.trans S8
      refine ⟨_, rfl, iteT ?_⟩
      obtain ⟨ta2, e2, hta2⟩ := ro2.at'
      subst e2
      refine ⟨_, rfl, ta2, _, 0, _, rfl, rfl, S8.tup hta2, rfl, _, rfl, ta, _, 0, _, rfl, rfl, (S7.trans S8).tup hta6, rfl, rfl, ⟨_, rfl, iteT ?_⟩⟩
      refine ⟨_, rfl, _, rfl, _, rfl, small2, fun ly hly => ?_⟩
      have S9 := same_new hly (.lst [.ref pW, .ref pT])
      have S39 := S38.trans S9
      refine ⟨_, _, .lst (SqL.of (S39 _ _ hd3)) (.cons (.lst (SqL.of (S39 _ _ h13)) (Reps.of_irows (Paired.mapP hIR3 fun _ _ h => h.mono S39) hrW) (by omega)) (.cons (.lst (SqL.of (S39 _ _ h23)) (Reps.of_frows (Paired.mapP hZ3 fun _ _ h => h.mono S39) hrZ) (by omega)) .nil)) (by simp),
        .lst (SqL.of upd_same) (.cons (.lst (SqL.of (S39 _ _ hW3)) (Reps.of_irows (Paired.mapP hIR3 fun _ _ h => h.mono S39) hrW) (by omega)) (.cons (.lst (SqL.of (S39 _ _ hT3)) (Reps.of_frows (Paired.mapP hZ3 fun _ _ h => h.mono S39) hrZ) (by omega)) .nil)) (by simp), shaped_ok okh (by decide), shaped_ok okh (by decide), ?_⟩
      rw [eqv_self _ _ okh]
      exact q _
    · intro v2 pr2 r2 t2 R2 ls2 us3 H7 S7 ro2
      exact absurd (ring_closed ro2.ok) (hno _)
  · -- a ring
    refine ⟨_, rfl, _, rfl, _, rfl, pW, pT, v, ws, us, W, Z, T, n, rfl, SqL.of (S4 _ _ hW3), Paired.mapP hWF3 (fun _ _ h => h.mono S4), SqL.of (S4 _ _ hT3), Paired.mapP hZ3 (fun _ _ h => h.mono S4), tw, .inr ⟨_, pr, r, t, R, ls, us2, ro⟩, fun H5 S5 => ⟨_, rfl, iteF ?_⟩⟩
    have S35 := S4.trans S5
    refine ⟨_, rfl, _, rfl, _, rfl, small2, fun lx hlx => ?_⟩
    have S5x := same_new hlx (.lst [.ref pW, .ref pT])
    have S35x := S35.trans S5x
    refine ⟨_, _, .lst (SqL.of (S35x _ _ hd3)) (.cons (.lst (SqL.of (S35x _ _ h13)) (Reps.of_irows (Paired.mapP hIR3 fun _ _ h => h.mono S35x) hrW) (by omega)) (.cons (.lst (SqL.of (S35x _ _ h23)) (Reps.of_frows (Paired.mapP hZ3 fun _ _ h => h.mono S35x) hrZ) (by omega)) .nil)) (by simp),
      .lst (SqL.of upd_same) (.cons (.lst (SqL.of (S35x _ _ hW3)) (Reps.of_irows (Paired.mapP hIR3 fun _ _ h => h.mono S35x) hrW) (by omega)) (.cons (.lst (SqL.of (S35x _ _ hT3)) (Reps.of_frows (Paired.mapP hZ3 fun _ _ h => h.mono S35x) hrZ) (by omega)) .nil)) (by simp), shaped_ok okh (by decide), shaped_ok okh (by decide), _, rfl, ?_⟩
    rw [eqv_self _ _ okh]
    refine iteF ?_
    generalize upd H5 lx (.lst [.ref pW, .ref pT]) = H5y at S5x S35x ⊢
    obtain ⟨ta, e1, hta⟩ := ro.at'
    subst e1
    have S45 := S5.trans S5x
    have hta5 := S45.tup hta
    refine ⟨_, rfl, ta, _, 0, _, rfl, rfl, hta5, rfl, _, rfl, iteF ?_⟩
    have hpr5 := S45.tup ro.pr
    have hr5 := S45 _ _ ro.lr
    have ht5 := S45 _ _ ro.lt
    refine ⟨_, rfl, ta, _, 1, _, rfl, rfl, hta5, rfl, pr, _, 0, _, rfl, rfl, hpr5, rfl, .inl ⟨rfl, _, SqL.of hr5⟩, r, _, rfl, rfl, hr5, ?_⟩
    have S35z : Same H3 (upd H5y r (.lst [])) := S35x.over ro.fr _
    have hta5z : SqT K (upd H5y r (.lst [])) ta [.bl false, .ref pr] := tup_over hta5 hr5
    have hpr5z : SqT K (upd H5y r (.lst [])) pr [.ref r, .ref t] := tup_over hpr5 hr5
    have ht5z : upd H5y r (.lst []) t = some (.lst us2) := by rw [upd_ne (Ne.symm ro.ne)]; exact ht5
    generalize upd H5y r (.lst []) = H5z at S35z hta5z hpr5z ht5z ⊢
    refine ⟨_, rfl, ta, _, 1, _, rfl, rfl, hta5z, rfl, pr, _, 1, _, rfl, rfl, hpr5z, rfl, .inl ⟨rfl, _, SqL.of ht5z⟩, t, _, rfl, rfl, ht5z, ?_⟩
    have S36x : Same H3 (upd H5z t (.lst [])) := S35z.over ro.ft _
    have hta6 : SqT K (upd H5z t (.lst [])) ta [.bl false, .ref pr] := tup_over hta5z ht5z
    generalize upd H5z t (.lst []) = H6 at S36x hta6 ⊢
    have S36 : Same H3 H6 := S36x
    refine ⟨_, rfl, hd, _, 0, _, rfl, rfl, SqL.of (S36 _ _ hd3), rfl, _, rfl, hd, _, 1, _, rfl, rfl, SqL.of (S36 _ _ hd3), rfl, h1, h2, ws, us, W, Z, T, n, rfl, SqL.of (S36 _ _ h13), Paired.mapP hIR3 (fun _ _ h => h.mono S36), SqL.of (S36 _ _ h23), Paired.mapP hZ3 (fun _ _ h => h.mono S36), tw, ?_, ?_⟩
    · intro hno2 v2 o2 os2 H7 S7 ro2
      exact absurd (ring_closed ro.ok) (hno2 _)
    · intro v2 pr2 r2 t2 R2 ls2 us3 H7 S7 ro2
      have S37 := S36.trans S7
      refine ⟨_, rfl, _, rfl, _, rfl, pW, pT, v2, ws, us, W, Z, T, n, rfl, SqL.of (S37 _ _ hW3), Paired.mapP hWF3 (fun _ _ h => h.mono S37), SqL.of (S37 _ _ hT3), Paired.mapP hZ3 (fun _ _ h => h.mono S37), tw, .inr ⟨_, pr2, r2, t2, R2, ls2, us3, ro2⟩, fun H8 S8 => ?_⟩
      have S38 := S37.trans S8
      refine ⟨_, rfl, iteT ?_⟩
      obtain ⟨ta2, e2, hta2⟩ := ro2.at'
      subst e2
      refine ⟨_, rfl, ta2, _, 0, _, rfl, rfl, S8.tup hta2, rfl, _, rfl, ta, _, 0, _, rfl, rfl, (S7.trans S8).tup hta6, rfl, rfl, ⟨_, rfl, iteT ?_⟩⟩
      refine ⟨_, rfl, _, rfl, _, rfl, small2, fun ly hly => ?_⟩
      have S9 := same_new hly (.lst [.ref pW, .ref pT])
      have S39 := S38.trans S9
      refine ⟨_, _, .lst (SqL.of (S39 _ _ hd3)) (.cons (.lst (SqL.of (S39 _ _ h13)) (Reps.of_irows (Paired.mapP hIR3 fun _ _ h => h.mono S39) hrW) (by omega)) (.cons (.lst (SqL.of (S39 _ _ h23)) (Reps.of_frows (Paired.mapP hZ3 fun _ _ h => h.mono S39) hrZ) (by omega)) .nil)) (by simp),
        .lst (SqL.of upd_same) (.cons (.lst (SqL.of (S39 _ _ hW3)) (Reps.of_irows (Paired.mapP hIR3 fun _ _ h => h.mono S39) hrW) (by omega)) (.cons (.lst (SqL.of (S39 _ _ hT3)) (Reps.of_frows (Paired.mapP hZ3 fun _ _ h => h.mono S39) hrZ) (by omega)) .nil)) (by simp), shaped_ok okh (by decide), shaped_ok okh (by decide), ?_⟩
      rw [eqv_self _ _ okh]
      exact q _
theorem all_mk {l : PySem.W.OpenLaw} {w : World} {K : PySem.W.Frag} {h : Heap} {mg : Str → Option Value} {fa : Addr} (X : K.In h) (G : h.Ns mainGlobals mg) (hfa : mg "law" = some (.ref fa))
    {f0 : Addr} {od0 an0 : Option Addr} {sl0 : Array (Option Value)} {oc0 kV0 dc0 pm0 cd0 ct0 : Value}
    {f1 : Addr} {od1 an1 : Option Addr} {sl1 : Array (Option Value)} {oc1 kV1 dc1 pm1 cd1 ct1 : Value}
    {f2 : Addr} {od2 an2 : Option Addr} {sl2 : Array (Option Value)} {oc2 kV2 dc2 pm2 cd2 ct2 : Value}
    {f3 : Addr} {od3 an3 : Option Addr} {sl3 : Array (Option Value)} {oc3 kV3 dc3 pm3 cd3 ct3 : Value}
    {f4 : Addr} {od4 an4 : Option Addr} {sl4 : Array (Option Value)} {oc4 kV4 dc4 pm4 cd4 ct4 : Value}
    {f5 : Addr} {od5 an5 : Option Addr} {sl5 : Array (Option Value)} {oc5 kV5 dc5 pm5 cd5 ct5 : Value}
    {f6 : Addr} {od6 an6 : Option Addr} {sl6 : Array (Option Value)} {oc6 kV6 dc6 pm6 cd6 ct6 : Value}
    {f7 : Addr} {od7 an7 : Option Addr} {sl7 : Array (Option Value)} {oc7 kV7 dc7 pm7 cd7 ct7 : Value}
    {f8 : Addr} {od8 an8 : Option Addr} {sl8 : Array (Option Value)} {oc8 kV8 dc8 pm8 cd8 ct8 : Value}
    {f9 : Addr} {od9 an9 : Option Addr} {sl9 : Array (Option Value)} {oc9 kV9 dc9 pm9 cd9 ct9 : Value}
    {f10 : Addr} {od10 an10 : Option Addr} {sl10 : Array (Option Value)} {oc10 kV10 dc10 pm10 cd10 ct10 : Value}
    {f11 : Addr} {od11 an11 : Option Addr} {sl11 : Array (Option Value)} {oc11 kV11 dc11 pm11 cd11 ct11 : Value}
    {f12 : Addr} {od12 an12 : Option Addr} {sl12 : Array (Option Value)} {oc12 kV12 dc12 pm12 cd12 ct12 : Value}
    {f13 : Addr} {od13 an13 : Option Addr} {sl13 : Array (Option Value)} {oc13 kV13 dc13 pm13 cd13 ct13 : Value}
    {f14 : Addr} {od14 an14 : Option Addr} {sl14 : Array (Option Value)} {oc14 kV14 dc14 pm14 cd14 ct14 : Value}
    {f15 : Addr} {od15 an15 : Option Addr} {sl15 : Array (Option Value)} {oc15 kV15 dc15 pm15 cd15 ct15 : Value}
    {f16 : Addr} {od16 an16 : Option Addr} {sl16 : Array (Option Value)} {oc16 kV16 dc16 pm16 cd16 ct16 : Value}
    {f17 : Addr} {od17 an17 : Option Addr} {sl17 : Array (Option Value)} {oc17 kV17 dc17 pm17 cd17 ct17 : Value}
    {f18 : Addr} {od18 an18 : Option Addr} {sl18 : Array (Option Value)} {oc18 kV18 dc18 pm18 cd18 ct18 : Value}
    {f19 : Addr} {od19 an19 : Option Addr} {sl19 : Array (Option Value)} {oc19 kV19 dc19 pm19 cd19 ct19 : Value}
    {f20 : Addr} {od20 an20 : Option Addr} {sl20 : Array (Option Value)} {oc20 kV20 dc20 pm20 cd20 ct20 : Value}
    {f21 : Addr} {od21 an21 : Option Addr} {sl21 : Array (Option Value)} {oc21 kV21 dc21 pm21 cd21 ct21 : Value}
    {f22 : Addr} {od22 an22 : Option Addr} {sl22 : Array (Option Value)} {oc22 kV22 dc22 pm22 cd22 ct22 : Value}
    {f23 : Addr} {od23 an23 : Option Addr} {sl23 : Array (Option Value)} {oc23 kV23 dc23 pm23 cd23 ct23 : Value}
    {f24 : Addr} {od24 an24 : Option Addr} {sl24 : Array (Option Value)} {oc24 kV24 dc24 pm24 cd24 ct24 : Value}
    {f25 : Addr} {od25 an25 : Option Addr} {sl25 : Array (Option Value)} {oc25 kV25 dc25 pm25 cd25 ct25 : Value}
    {f26 : Addr} {od26 an26 : Option Addr} {sl26 : Array (Option Value)} {oc26 kV26 dc26 pm26 cd26 ct26 : Value}
    {f27 : Addr} {od27 an27 : Option Addr} {sl27 : Array (Option Value)} {oc27 kV27 dc27 pm27 cd27 ct27 : Value}
    {f28 : Addr} {od28 an28 : Option Addr} {sl28 : Array (Option Value)} {oc28 kV28 dc28 pm28 cd28 ct28 : Value}
    {f29 : Addr} {od29 an29 : Option Addr} {sl29 : Array (Option Value)} {oc29 kV29 dc29 pm29 cd29 ct29 : Value}
    {f30 : Addr} {od30 an30 : Option Addr} {sl30 : Array (Option Value)} {oc30 kV30 dc30 pm30 cd30 ct30 : Value}
    {f31 : Addr} {od31 an31 : Option Addr} {sl31 : Array (Option Value)} {oc31 kV31 dc31 pm31 cd31 ct31 : Value}
    {f32 : Addr} {od32 an32 : Option Addr} {sl32 : Array (Option Value)} {oc32 kV32 dc32 pm32 cd32 ct32 : Value}
    {f33 : Addr} {od33 an33 : Option Addr} {sl33 : Array (Option Value)} {oc33 kV33 dc33 pm33 cd33 ct33 : Value}
    {f34 : Addr} {od34 an34 : Option Addr} {sl34 : Array (Option Value)} {oc34 kV34 dc34 pm34 cd34 ct34 : Value}
    {ta0 : Addr} {td0 : Option Addr} {tn0 : Nat} {ts0 : Array (Option Value)} {tk0_0 tk0_1 : Tok}
    {x_WishError : Addr}
    {x_NoFraction : Addr}
    (a0 : PySem.W.nsIn K mainGlobals "is_whole" = some (some (.ref f0))) (l0 : K.lookup f0 = some ⟨oc0, od0, .func (PySem.W.fnOf "is_whole" "is_whole" (defArgs (top 5)) (defBody (top 5)) (defScope (top 5)) .none kV0 dc0 pm0 an0 cd0 ct0), sl0⟩) (c0 : PySem.W.codeIn K cd0 "is_whole" = true) (k0 : PySem.W.keepIn K (.ref f0) = true)
    (a1 : PySem.W.nsIn K mainGlobals "common_divisor" = some (some (.ref f1))) (l1 : K.lookup f1 = some ⟨oc1, od1, .func (PySem.W.fnOf "common_divisor" "common_divisor" (defArgs (top 6)) (defBody (top 6)) (defScope (top 6)) .none kV1 dc1 pm1 an1 cd1 ct1), sl1⟩) (c1 : PySem.W.codeIn K cd1 "common_divisor" = true) (k1 : PySem.W.keepIn K (.ref f1) = true)
    (a2 : PySem.W.nsIn K mainGlobals "fraction" = some (some (.ref f2))) (l2 : K.lookup f2 = some ⟨oc2, od2, .func (PySem.W.fnOf "fraction" "fraction" (defArgs (top 7)) (defBody (top 7)) (defScope (top 7)) .none kV2 dc2 pm2 an2 cd2 ct2), sl2⟩) (c2 : PySem.W.codeIn K cd2 "fraction" = true) (k2 : PySem.W.keepIn K (.ref f2) = true)
    (a3 : PySem.W.nsIn K mainGlobals "plus" = some (some (.ref f3))) (l3 : K.lookup f3 = some ⟨oc3, od3, .func (PySem.W.fnOf "plus" "plus" (defArgs (top 8)) (defBody (top 8)) (defScope (top 8)) .none kV3 dc3 pm3 an3 cd3 ct3), sl3⟩) (c3 : PySem.W.codeIn K cd3 "plus" = true) (k3 : PySem.W.keepIn K (.ref f3) = true)
    (a4 : PySem.W.nsIn K mainGlobals "minus" = some (some (.ref f4))) (l4 : K.lookup f4 = some ⟨oc4, od4, .func (PySem.W.fnOf "minus" "minus" (defArgs (top 9)) (defBody (top 9)) (defScope (top 9)) .none kV4 dc4 pm4 an4 cd4 ct4), sl4⟩) (c4 : PySem.W.codeIn K cd4 "minus" = true) (k4 : PySem.W.keepIn K (.ref f4) = true)
    (a5 : PySem.W.nsIn K mainGlobals "before" = some (some (.ref f5))) (l5 : K.lookup f5 = some ⟨oc5, od5, .func (PySem.W.fnOf "before" "before" (defArgs (top 10)) (defBody (top 10)) (defScope (top 10)) .none kV5 dc5 pm5 an5 cd5 ct5), sl5⟩) (c5 : PySem.W.codeIn K cd5 "before" = true) (k5 : PySem.W.keepIn K (.ref f5) = true)
    (a6 : PySem.W.nsIn K mainGlobals "least" = some (some (.ref f6))) (l6 : K.lookup f6 = some ⟨oc6, od6, .func (PySem.W.fnOf "least" "least" (defArgs (top 11)) (defBody (top 11)) (defScope (top 11)) .none kV6 dc6 pm6 an6 cd6 ct6), sl6⟩) (c6 : PySem.W.codeIn K cd6 "least" = true) (k6 : PySem.W.keepIn K (.ref f6) = true)
    (a7 : PySem.W.nsIn K mainGlobals "changers_of" = some (some (.ref f7))) (l7 : K.lookup f7 = some ⟨oc7, od7, .func (PySem.W.fnOf "changers_of" "changers_of" (defArgs (top 13)) (defBody (top 13)) (defScope (top 13)) .none kV7 dc7 pm7 an7 cd7 ct7), sl7⟩) (c7 : PySem.W.codeIn K cd7 "changers_of" = true) (k7 : PySem.W.keepIn K (.ref f7) = true)
    (a8 : PySem.W.nsIn K mainGlobals "way_back" = some (some (.ref f8))) (l8 : K.lookup f8 = some ⟨oc8, od8, .func (PySem.W.fnOf "way_back" "way_back" (defArgs (top 14)) (defBody (top 14)) (defScope (top 14)) .none kV8 dc8 pm8 an8 cd8 ct8), sl8⟩) (c8 : PySem.W.codeIn K cd8 "way_back" = true) (k8 : PySem.W.keepIn K (.ref f8) = true)
    (a9 : PySem.W.nsIn K mainGlobals "ring_of" = some (some (.ref f9))) (l9 : K.lookup f9 = some ⟨oc9, od9, .func (PySem.W.fnOf "ring_of" "ring_of" (defArgs (top 15)) (defBody (top 15)) (defScope (top 15)) .none kV9 dc9 pm9 an9 cd9 ct9), sl9⟩) (c9 : PySem.W.codeIn K cd9 "ring_of" = true) (k9 : PySem.W.keepIn K (.ref f9) = true)
    (a10 : PySem.W.nsIn K mainGlobals "step_of" = some (some (.ref f10))) (l10 : K.lookup f10 = some ⟨oc10, od10, .func (PySem.W.fnOf "step_of" "step_of" (defArgs (top 16)) (defBody (top 16)) (defScope (top 16)) .none kV10 dc10 pm10 an10 cd10 ct10), sl10⟩) (c10 : PySem.W.codeIn K cd10 "step_of" = true) (k10 : PySem.W.keepIn K (.ref f10) = true)
    (a11 : PySem.W.nsIn K mainGlobals "widest_ring" = some (some (.ref f11))) (l11 : K.lookup f11 = some ⟨oc11, od11, .func (PySem.W.fnOf "widest_ring" "widest_ring" (defArgs (top 17)) (defBody (top 17)) (defScope (top 17)) .none kV11 dc11 pm11 an11 cd11 ct11), sl11⟩) (c11 : PySem.W.codeIn K cd11 "widest_ring" = true) (k11 : PySem.W.keepIn K (.ref f11) = true)
    (a12 : PySem.W.nsIn K mainGlobals "row_behind" = some (some (.ref f12))) (l12 : K.lookup f12 = some ⟨oc12, od12, .func (PySem.W.fnOf "row_behind" "row_behind" (defArgs (top 18)) (defBody (top 18)) (defScope (top 18)) .none kV12 dc12 pm12 an12 cd12 ct12), sl12⟩) (c12 : PySem.W.codeIn K cd12 "row_behind" = true) (k12 : PySem.W.keepIn K (.ref f12) = true)
    (a13 : PySem.W.nsIn K mainGlobals "table_behind" = some (some (.ref f13))) (l13 : K.lookup f13 = some ⟨oc13, od13, .func (PySem.W.fnOf "table_behind" "table_behind" (defArgs (top 19)) (defBody (top 19)) (defScope (top 19)) .none kV13 dc13 pm13 an13 cd13 ct13), sl13⟩) (c13 : PySem.W.codeIn K cd13 "table_behind" = true) (k13 : PySem.W.keepIn K (.ref f13) = true)
    (a14 : PySem.W.nsIn K mainGlobals "is_kept" = some (some (.ref f14))) (l14 : K.lookup f14 = some ⟨oc14, od14, .func (PySem.W.fnOf "is_kept" "is_kept" (defArgs (top 20)) (defBody (top 20)) (defScope (top 20)) .none kV14 dc14 pm14 an14 cd14 ct14), sl14⟩) (c14 : PySem.W.codeIn K cd14 "is_kept" = true) (k14 : PySem.W.keepIn K (.ref f14) = true)
    (a15 : PySem.W.nsIn K mainGlobals "first_kept" = some (some (.ref f15))) (l15 : K.lookup f15 = some ⟨oc15, od15, .func (PySem.W.fnOf "first_kept" "first_kept" (defArgs (top 21)) (defBody (top 21)) (defScope (top 21)) .none kV15 dc15 pm15 an15 cd15 ct15), sl15⟩) (c15 : PySem.W.codeIn K cd15 "first_kept" = true) (k15 : PySem.W.keepIn K (.ref f15) = true)
    (a16 : PySem.W.nsIn K mainGlobals "order_of" = some (some (.ref f16))) (l16 : K.lookup f16 = some ⟨oc16, od16, .func (PySem.W.fnOf "order_of" "order_of" (defArgs (top 22)) (defBody (top 22)) (defScope (top 22)) .none kV16 dc16 pm16 an16 cd16 ct16), sl16⟩) (c16 : PySem.W.codeIn K cd16 "order_of" = true) (k16 : PySem.W.keepIn K (.ref f16) = true)
    (a17 : PySem.W.nsIn K mainGlobals "ring_or_order" = some (some (.ref f17))) (l17 : K.lookup f17 = some ⟨oc17, od17, .func (PySem.W.fnOf "ring_or_order" "ring_or_order" (defArgs (top 23)) (defBody (top 23)) (defScope (top 23)) .none kV17 dc17 pm17 an17 cd17 ct17), sl17⟩) (c17 : PySem.W.codeIn K cd17 "ring_or_order" = true) (k17 : PySem.W.keepIn K (.ref f17) = true)
    (a18 : PySem.W.nsIn K mainGlobals "_law_cell_at" = some (some (.ref f18))) (l18 : K.lookup f18 = some ⟨oc18, od18, .func (PySem.W.fnOf "_law_cell_at" "_law_cell_at" (defArgs (top 25)) (defBody (top 25)) (defScope (top 25)) .none kV18 dc18 pm18 an18 cd18 ct18), sl18⟩) (c18 : PySem.W.codeIn K cd18 "_law_cell_at" = true) (k18 : PySem.W.keepIn K (.ref f18) = true)
    (a19 : PySem.W.nsIn K mainGlobals "_law_mixed" = some (some (.ref f19))) (l19 : K.lookup f19 = some ⟨oc19, od19, .func (PySem.W.fnOf "_law_mixed" "_law_mixed" (defArgs (top 26)) (defBody (top 26)) (defScope (top 26)) .none kV19 dc19 pm19 an19 cd19 ct19), sl19⟩) (c19 : PySem.W.codeIn K cd19 "_law_mixed" = true) (k19 : PySem.W.keepIn K (.ref f19) = true)
    (a20 : PySem.W.nsIn K mainGlobals "_law_divisor" = some (some (.ref f20))) (l20 : K.lookup f20 = some ⟨oc20, od20, .func (PySem.W.fnOf "_law_divisor" "_law_divisor" (defArgs (top 27)) (defBody (top 27)) (defScope (top 27)) .none kV20 dc20 pm20 an20 cd20 ct20), sl20⟩) (c20 : PySem.W.codeIn K cd20 "_law_divisor" = true) (k20 : PySem.W.keepIn K (.ref f20) = true)
    (a21 : PySem.W.nsIn K mainGlobals "_law_lowest" = some (some (.ref f21))) (l21 : K.lookup f21 = some ⟨oc21, od21, .func (PySem.W.fnOf "_law_lowest" "_law_lowest" (defArgs (top 28)) (defBody (top 28)) (defScope (top 28)) .none kV21 dc21 pm21 an21 cd21 ct21), sl21⟩) (c21 : PySem.W.codeIn K cd21 "_law_lowest" = true) (k21 : PySem.W.keepIn K (.ref f21) = true)
    (a22 : PySem.W.nsIn K mainGlobals "_law_plus" = some (some (.ref f22))) (l22 : K.lookup f22 = some ⟨oc22, od22, .func (PySem.W.fnOf "_law_plus" "_law_plus" (defArgs (top 29)) (defBody (top 29)) (defScope (top 29)) .none kV22 dc22 pm22 an22 cd22 ct22), sl22⟩) (c22 : PySem.W.codeIn K cd22 "_law_plus" = true) (k22 : PySem.W.keepIn K (.ref f22) = true)
    (a23 : PySem.W.nsIn K mainGlobals "_law_less" = some (some (.ref f23))) (l23 : K.lookup f23 = some ⟨oc23, od23, .func (PySem.W.fnOf "_law_less" "_law_less" (defArgs (top 30)) (defBody (top 30)) (defScope (top 30)) .none kV23 dc23 pm23 an23 cd23 ct23), sl23⟩) (c23 : PySem.W.codeIn K cd23 "_law_less" = true) (k23 : PySem.W.keepIn K (.ref f23) = true)
    (a24 : PySem.W.nsIn K mainGlobals "_law_whole" = some (some (.ref f24))) (l24 : K.lookup f24 = some ⟨oc24, od24, .func (PySem.W.fnOf "_law_whole" "_law_whole" (defArgs (top 31)) (defBody (top 31)) (defScope (top 31)) .none kV24 dc24 pm24 an24 cd24 ct24), sl24⟩) (c24 : PySem.W.codeIn K cd24 "_law_whole" = true) (k24 : PySem.W.keepIn K (.ref f24) = true)
    (a25 : PySem.W.nsIn K mainGlobals "_law_order" = some (some (.ref f25))) (l25 : K.lookup f25 = some ⟨oc25, od25, .func (PySem.W.fnOf "_law_order" "_law_order" (defArgs (top 33)) (defBody (top 33)) (defScope (top 33)) .none kV25 dc25 pm25 an25 cd25 ct25), sl25⟩) (c25 : PySem.W.codeIn K cd25 "_law_order" = true) (k25 : PySem.W.keepIn K (.ref f25) = true)
    (a26 : PySem.W.nsIn K mainGlobals "_law_wishes" = some (some (.ref f26))) (l26 : K.lookup f26 = some ⟨oc26, od26, .func (PySem.W.fnOf "_law_wishes" "_law_wishes" (defArgs (top 34)) (defBody (top 34)) (defScope (top 34)) .none kV26 dc26 pm26 an26 cd26 ct26), sl26⟩) (c26 : PySem.W.codeIn K cd26 "_law_wishes" = true) (k26 : PySem.W.keepIn K (.ref f26) = true)
    (a27 : PySem.W.nsIn K mainGlobals "_law_deals" = some (some (.ref f27))) (l27 : K.lookup f27 = some ⟨oc27, od27, .func (PySem.W.fnOf "_law_deals" "_law_deals" (defArgs (top 35)) (defBody (top 35)) (defScope (top 35)) .none kV27 dc27 pm27 an27 cd27 ct27), sl27⟩) (c27 : PySem.W.codeIn K cd27 "_law_deals" = true) (k27 : PySem.W.keepIn K (.ref f27) = true)
    (a28 : PySem.W.nsIn K mainGlobals "_law_table" = some (some (.ref f28))) (l28 : K.lookup f28 = some ⟨oc28, od28, .func (PySem.W.fnOf "_law_table" "_law_table" (defArgs (top 36)) (defBody (top 36)) (defScope (top 36)) .none kV28 dc28 pm28 an28 cd28 ct28), sl28⟩) (c28 : PySem.W.codeIn K cd28 "_law_table" = true) (k28 : PySem.W.keepIn K (.ref f28) = true)
    (a29 : PySem.W.nsIn K mainGlobals "_law_order_holds" = some (some (.ref f29))) (l29 : K.lookup f29 = some ⟨oc29, od29, .func (PySem.W.fnOf "_law_order_holds" "_law_order_holds" (defArgs (top 37)) (defBody (top 37)) (defScope (top 37)) .none kV29 dc29 pm29 an29 cd29 ct29), sl29⟩) (c29 : PySem.W.codeIn K cd29 "_law_order_holds" = true) (k29 : PySem.W.keepIn K (.ref f29) = true)
    (a30 : PySem.W.nsIn K mainGlobals "_law_ring_holds" = some (some (.ref f30))) (l30 : K.lookup f30 = some ⟨oc30, od30, .func (PySem.W.fnOf "_law_ring_holds" "_law_ring_holds" (defArgs (top 38)) (defBody (top 38)) (defScope (top 38)) .none kV30 dc30 pm30 an30 cd30 ct30), sl30⟩) (c30 : PySem.W.codeIn K cd30 "_law_ring_holds" = true) (k30 : PySem.W.keepIn K (.ref f30) = true)
    (a31 : PySem.W.nsIn K mainGlobals "_law_changed" = some (some (.ref f31))) (l31 : K.lookup f31 = some ⟨oc31, od31, .func (PySem.W.fnOf "_law_changed" "_law_changed" (defArgs (top 39)) (defBody (top 39)) (defScope (top 39)) .none kV31 dc31 pm31 an31 cd31 ct31), sl31⟩) (c31 : PySem.W.codeIn K cd31 "_law_changed" = true) (k31 : PySem.W.keepIn K (.ref f31) = true)
    (a32 : PySem.W.nsIn K mainGlobals "_law_same" = some (some (.ref f32))) (l32 : K.lookup f32 = some ⟨oc32, od32, .func (PySem.W.fnOf "_law_same" "_law_same" (defArgs (top 40)) (defBody (top 40)) (defScope (top 40)) .none kV32 dc32 pm32 an32 cd32 ct32), sl32⟩) (c32 : PySem.W.codeIn K cd32 "_law_same" = true) (k32 : PySem.W.keepIn K (.ref f32) = true)
    (a33 : PySem.W.nsIn K mainGlobals "_law_right" = some (some (.ref f33))) (l33 : K.lookup f33 = some ⟨oc33, od33, .func (PySem.W.fnOf "_law_right" "_law_right" (defArgs (top 41)) (defBody (top 41)) (defScope (top 41)) .none kV33 dc33 pm33 an33 cd33 ct33), sl33⟩) (c33 : PySem.W.codeIn K cd33 "_law_right" = true) (k33 : PySem.W.keepIn K (.ref f33) = true)
    (a34 : PySem.W.nsIn K mainGlobals "law" = some (some (.ref f34))) (l34 : K.lookup f34 = some ⟨oc34, od34, .func (PySem.W.fnOf "law" "law" (defArgs (top 42)) (defBody (top 42)) (defScope (top 42)) .none kV34 dc34 pm34 an34 cd34 ct34), sl34⟩) (c34 : PySem.W.codeIn K cd34 "law" = true) (k34 : PySem.W.keepIn K (.ref f34) = true)
    (z0 : PySem.W.nsIn K mainGlobals "isinstance" = some none)
    (z1 : PySem.W.nsIn K mainGlobals "int" = some none)
    (z2 : PySem.W.nsIn K mainGlobals "bool" = some none)
    (z3 : PySem.W.nsIn K mainGlobals "str" = some none)
    (z4 : PySem.W.nsIn K mainGlobals "list" = some none)
    (z5 : PySem.W.nsIn K mainGlobals "tuple" = some none)
    (z6 : PySem.W.nsIn K mainGlobals "abs" = some none)
    (z7 : PySem.W.nsIn K mainGlobals "len" = some none)
    (z8 : PySem.W.nsIn K mainGlobals "range" = some none)
    (z9 : PySem.W.nsIn K mainGlobals "sorted" = some none)
    (z10 : PySem.W.nsIn K mainGlobals "set" = some none)
    (z11 : PySem.W.nsIn K mainGlobals "enumerate" = some none)
    (z12 : PySem.W.nsIn K mainGlobals "zip" = some none)
    (z13 : PySem.W.nsIn K mainGlobals "any" = some none)
    (z14 : PySem.W.nsIn K mainGlobals "all" = some none)
    (z15 : PySem.W.nsIn K mainGlobals "min" = some none)
    (z16 : PySem.W.nsIn K mainGlobals "max" = some none)
    (ga0 : PySem.W.nsIn K mainGlobals "NOTHING" = some (some (.ref ta0))) (gl0 : K.lookup ta0 = some ⟨.type "tuple", td0, .seq #[Value.int 0 tk0_0, Value.int 1 tk0_1] tn0, ts0⟩)
    (xa_WishError : PySem.W.nsIn K mainGlobals "WishError" = some (some (.ref x_WishError))) (xe_WishError : PySem.W.excIn K x_WishError bmV "ValueError.__new__" = true)
    (xa_NoFraction : PySem.W.nsIn K mainGlobals "NoFraction" = some (some (.ref x_NoFraction))) (xe_NoFraction : PySem.W.excIn K x_NoFraction bmV "ValueError.__new__" = true)
    : ∃ fd : FuncData, (∀ (s : Shared) (v : Value), BindsTo s fd ⟨[v], []⟩ [("_law_script", v)]) ∧ ∀ base : Heap, K.In base → base.Ns mainGlobals mg → FnOk l.prog w K mg base CX0 8 fa fd ["_law_script"] (spLaw K) := by
  have e := hfa.symm.trans (PySem.W.mg_of X G a34)
  cases e
  have M : Md K mg ⟨x_WishError, x_NoFraction, 0, 0, 0, 0, 0, 0, 0, 0⟩ := ⟨⟨_, _, fun_mk (st := top 5) l0 c0 k0, PySem.W.mg_of X G a0⟩,
    ⟨_, _, fun_mk (st := top 6) l1 c1 k1, PySem.W.mg_of X G a1⟩,
    ⟨_, _, fun_mk (st := top 7) l2 c2 k2, PySem.W.mg_of X G a2⟩,
    ⟨_, _, fun_mk (st := top 8) l3 c3 k3, PySem.W.mg_of X G a3⟩,
    ⟨_, _, fun_mk (st := top 9) l4 c4 k4, PySem.W.mg_of X G a4⟩,
    ⟨_, _, fun_mk (st := top 10) l5 c5 k5, PySem.W.mg_of X G a5⟩,
    ⟨_, _, fun_mk (st := top 11) l6 c6 k6, PySem.W.mg_of X G a6⟩,
    ⟨_, _, fun_mk (st := top 13) l7 c7 k7, PySem.W.mg_of X G a7⟩,
    ⟨_, _, fun_mk (st := top 14) l8 c8 k8, PySem.W.mg_of X G a8⟩,
    ⟨_, _, fun_mk (st := top 15) l9 c9 k9, PySem.W.mg_of X G a9⟩,
    ⟨_, _, fun_mk (st := top 16) l10 c10 k10, PySem.W.mg_of X G a10⟩,
    ⟨_, _, fun_mk (st := top 17) l11 c11 k11, PySem.W.mg_of X G a11⟩,
    ⟨_, _, fun_mk (st := top 18) l12 c12 k12, PySem.W.mg_of X G a12⟩,
    ⟨_, _, fun_mk (st := top 19) l13 c13 k13, PySem.W.mg_of X G a13⟩,
    ⟨_, _, fun_mk (st := top 20) l14 c14 k14, PySem.W.mg_of X G a14⟩,
    ⟨_, _, fun_mk (st := top 21) l15 c15 k15, PySem.W.mg_of X G a15⟩,
    ⟨_, _, fun_mk (st := top 22) l16 c16 k16, PySem.W.mg_of X G a16⟩,
    ⟨_, _, fun_mk (st := top 23) l17 c17 k17, PySem.W.mg_of X G a17⟩,
    ⟨_, _, fun_mk (st := top 25) l18 c18 k18, PySem.W.mg_of X G a18⟩,
    ⟨_, _, fun_mk (st := top 26) l19 c19 k19, PySem.W.mg_of X G a19⟩,
    ⟨_, _, fun_mk (st := top 27) l20 c20 k20, PySem.W.mg_of X G a20⟩,
    ⟨_, _, fun_mk (st := top 28) l21 c21 k21, PySem.W.mg_of X G a21⟩,
    ⟨_, _, fun_mk (st := top 29) l22 c22 k22, PySem.W.mg_of X G a22⟩,
    ⟨_, _, fun_mk (st := top 30) l23 c23 k23, PySem.W.mg_of X G a23⟩,
    ⟨_, _, fun_mk (st := top 31) l24 c24 k24, PySem.W.mg_of X G a24⟩,
    ⟨_, _, fun_mk (st := top 33) l25 c25 k25, PySem.W.mg_of X G a25⟩,
    ⟨_, _, fun_mk (st := top 34) l26 c26 k26, PySem.W.mg_of X G a26⟩,
    ⟨_, _, fun_mk (st := top 35) l27 c27 k27, PySem.W.mg_of X G a27⟩,
    ⟨_, _, fun_mk (st := top 36) l28 c28 k28, PySem.W.mg_of X G a28⟩,
    ⟨_, _, fun_mk (st := top 37) l29 c29 k29, PySem.W.mg_of X G a29⟩,
    ⟨_, _, fun_mk (st := top 38) l30 c30 k30, PySem.W.mg_of X G a30⟩,
    ⟨_, _, fun_mk (st := top 39) l31 c31 k31, PySem.W.mg_of X G a31⟩,
    ⟨_, _, fun_mk (st := top 40) l32 c32 k32, PySem.W.mg_of X G a32⟩,
    ⟨_, _, fun_mk (st := top 41) l33 c33 k33, PySem.W.mg_of X G a33⟩,
    ⟨_, _, fun_mk (st := top 42) l34 c34 k34, PySem.W.mg_of X G a34⟩,
    PySem.W.mg_none_of X G z0,
    PySem.W.mg_none_of X G z1,
    PySem.W.mg_none_of X G z2,
    PySem.W.mg_none_of X G z3,
    PySem.W.mg_none_of X G z4,
    PySem.W.mg_none_of X G z5,
    PySem.W.mg_none_of X G z6,
    PySem.W.mg_none_of X G z7,
    PySem.W.mg_none_of X G z8,
    PySem.W.mg_none_of X G z9,
    PySem.W.mg_none_of X G z10,
    PySem.W.mg_none_of X G z11,
    PySem.W.mg_none_of X G z12,
    PySem.W.mg_none_of X G z13,
    PySem.W.mg_none_of X G z14,
    PySem.W.mg_none_of X G z15,
    PySem.W.mg_none_of X G z16,
    ⟨ta0, PySem.W.mg_of X G ga0, fun _ => .inr ⟨_, _, _, gl0, rfl, rfl, by show 2 ≤ sizeLine; decide, (.cons ⟨_, rfl⟩ (.cons ⟨_, rfl⟩ .nil))⟩⟩,
    ⟨PySem.W.mg_of X G xa_WishError, xe_WishError⟩,
    ⟨PySem.W.mg_of X G xa_NoFraction, xe_NoFraction⟩⟩
  refine ⟨PySem.W.fnOf "law" "law" (defArgs (top 42)) (defBody (top 42)) (defScope (top 42)) .none kV34 dc34 pm34 an34 cd34 ct34, fun s v => .of_eq rfl, fun base _ _ => ?_⟩
  have Gis_whole := d_is_whole (P := l.prog) (w := w) (base := base) M 
  have Gcommon_divisor := d_common_divisor (P := l.prog) (w := w) (base := base) M 
  have Gfraction := d_fraction (P := l.prog) (w := w) (base := base) M Gis_whole Gcommon_divisor
  have Gplus := d_plus (P := l.prog) (w := w) (base := base) M Gfraction
  have Gminus := d_minus (P := l.prog) (w := w) (base := base) M Gfraction
  have Gbefore := d_before (P := l.prog) (w := w) (base := base) M 
  have Gleast := d_least (P := l.prog) (w := w) (base := base) M Gbefore
  have Gchangers_of := d_changers_of (P := l.prog) (w := w) (base := base) M Gbefore
  have Gway_back := d_way_back (P := l.prog) (w := w) (base := base) M 
  have Gring_of := d_ring_of (P := l.prog) (w := w) (base := base) M Gway_back
  have Gstep_of := d_step_of (P := l.prog) (w := w) (base := base) M Gleast
  have Gwidest_ring := d_widest_ring (P := l.prog) (w := w) (base := base) M Gring_of Gchangers_of Gstep_of
  have Grow_behind := d_row_behind (P := l.prog) (w := w) (base := base) M Gminus Gplus
  have Gtable_behind := d_table_behind (P := l.prog) (w := w) (base := base) M Gstep_of Grow_behind
  have Gis_kept := d_is_kept (P := l.prog) (w := w) (base := base) M 
  have Gfirst_kept := d_first_kept (P := l.prog) (w := w) (base := base) M Gis_kept
  have Gorder_of := d_order_of (P := l.prog) (w := w) (base := base) M Gfirst_kept
  have Gring_or_order := d_ring_or_order (P := l.prog) (w := w) (base := base) M Gwidest_ring Gorder_of Gchangers_of Gtable_behind
  have G_law_cell_at := d__law_cell_at (P := l.prog) (w := w) (base := base) M 
  have G_law_mixed := d__law_mixed (P := l.prog) (w := w) (base := base) M 
  have G_law_divisor := d__law_divisor (P := l.prog) (w := w) (base := base) M 
  have G_law_lowest := d__law_lowest (P := l.prog) (w := w) (base := base) M G_law_divisor
  have G_law_plus := d__law_plus (P := l.prog) (w := w) (base := base) M G_law_lowest
  have G_law_less := d__law_less (P := l.prog) (w := w) (base := base) M 
  have G_law_whole := d__law_whole (P := l.prog) (w := w) (base := base) M 
  have G_law_order := d__law_order (P := l.prog) (w := w) (base := base) M 
  have G_law_wishes := d__law_wishes (P := l.prog) (w := w) (base := base) M G_law_cell_at G_law_order G_law_mixed
  have G_law_deals := d__law_deals (P := l.prog) (w := w) (base := base) M 
  have G_law_table := d__law_table (P := l.prog) (w := w) (base := base) M G_law_cell_at G_law_mixed G_law_order G_law_lowest
  have G_law_order_holds := d__law_order_holds (P := l.prog) (w := w) (base := base) M G_law_whole
  have G_law_ring_holds := d__law_ring_holds (P := l.prog) (w := w) (base := base) M G_law_whole
  have G_law_changed := d__law_changed (P := l.prog) (w := w) (base := base) M G_law_less G_law_plus
  have Y0 := M.f__law_same.nothing (P := l.prog) (w := w) (base := base) (ps := ["_law_found", "_law_due"]) (fun _ _ _ _ _ _ us hl => match us, hl with | [_, _], _ => rfl)
  have Y1 := d__law_same (n := 0) M Y0
  have Y2 := d__law_same (n := 1) M Y1
  have Y3 := d__law_same (n := 2) M Y2
  have G_law_same := d__law_same (n := 3) M Y3
  have G_law_right := d__law_right (P := l.prog) (w := w) (base := base) M G_law_order_holds G_law_ring_holds G_law_same G_law_changed
  exact d_law (fun_mk (st := top 42) l34 c34 k34) M G_law_cell_at G_law_wishes G_law_table G_law_deals Gring_or_order G_law_right
theorem walk {l : PySem.W.OpenLaw} {q : Program} {loose : List Str} {XP : (Str → Option Value) → Heap → Prop} {YP : World → Heap → Prop} {d : DefRec} {K : Params → PySem.W.Frag} (hn : l.most = some 63) (hdf : d.params.defaults = [])
    (hY : ∀ (w : World) (h : Heap), YP w h → (K w.params).In h)
    (F : ∀ (w : World) (mg : Str → Option Value) (fa : Addr) (h : Heap), (K w.params).In h → h.Ns mainGlobals mg → mg d.name = some (.ref fa) →
      ∃ fd : FuncData, (∀ (s : Shared) (u : Value), BindsTo s fd ⟨[u], []⟩ [("_law_script", u)]) ∧ ∀ base : Heap, (K w.params).In base → base.Ns mainGlobals mg → FnOk l.prog w (K w.params) mg base CX0 8 fa fd ["_law_script"] (spLaw (K w.params))) :
    PySem.W.WalkO q loose XP YP l.row.toRowW d [] (fun f vs => PySem.call f vs) :=
  L2.walk_of (n := 63) (k := 8) (x := "_law_script") (CX := fun _ => CX0) (sp := fun w => spLaw (K w.params)) hn (by decide) hdf ⟨rfl, by decide, by decide⟩ hY F (fun _ _ a ns hl _ hS => ⟨a, ns, rfl, hS, hl, fun _ => rfl⟩) fun _ _ _ _ _ z => z
open PySem.W
def vs (x : String) (n : Nat) : Value := .str (.ofString x) n
def i (n : Nat) : Value := .int n 0
def en (P : Params) (x : String) (n : Nat) (v : Value) : DictEntry := { hash := PyData.keyHash P (.ofString x), key := vs x n, val := v }
def di (l : List DictEntry) (n : Nat) : Obj := { cls := .type "dict", data := .dict l.toArray n }
def tu (l : List Value) : Obj := { cls := .type "tuple", data := .seq l.toArray }
def nf (l : List Value) : Obj := { cls := .none, data := .fields l.toArray }
def ft (k : Nat) (x : String) : Obj := { cls := .none, data := .func { name := .ofString x, qualname := .ofString x, params := defArgs (top k), body := .stmts (defBody (top k)), scope := defScope (top k), globals := 0, closure := [], defaults := .none, kwdefaults := .none } }
def fo (k : Nat) (x m : String) (t c : Nat) : Obj := { cls := .type "function", data := .func { name := .ofString x, qualname := .ofString x, params := defArgs (top k), body := .stmts (defBody (top k)), scope := defScope (top k), globals := 3, closure := [], defaults := .none, kwdefaults := .none, pyModule := vs m t, code := .ref c } }
def co (x : String) (a b c : Nat) (r : List Value) (z : Nat) : Obj := { cls := .type "code", data := .fields (vs x a :: vs x b :: vs "/claim/cut.py" c :: (r ++ [vs "/claim/cut.py" z])).toArray }
def ents (P : Params) : List DictEntry := [en P "__name__" 165 (vs "law_wishlots_k22_a_ring_or_an_order" 389), en P "__doc__" 166 (.none), en P "__package__" 167 (.none), en P "__loader__" 168 (.builtin "__main__.__loader__#opaque"), en P "__spec__" 169 (.none), en P "__annotations__" 170 (.ref 6), en P "__builtins__" 171 (.ref 4), en P "__file__" 173 (vs "/claim/cut.py" 172), en P "__cached__" 174 (.none), en P "WishError" 206 (.ref 24), en P "NoFraction" 222 (.ref 37), en P "NOTHING" 227 (.ref 40), en P "is_whole" 234 (.ref 47), en P "common_divisor" 245 (.ref 54), en P "fraction" 254 (.ref 61), en P "plus" 262 (.ref 68), en P "minus" 270 (.ref 75), en P "before" 278 (.ref 82), en P "least" 287 (.ref 89), en P "changers_of" 304 (.ref 96), en P "way_back" 317 (.ref 103), en P "ring_of" 323 (.ref 108), en P "step_of" 329 (.ref 113), en P "widest_ring" 339 (.ref 120), en P "row_behind" 350 (.ref 127), en P "table_behind" 356 (.ref 132), en P "is_kept" 362 (.ref 137), en P "first_kept" 368 (.ref 142), en P "order_of" 379 (.ref 149), en P "ring_or_order" 388 (.ref 156), en P "_law_cell_at" 398 (.ref 163), en P "_law_mixed" 407 (.ref 170), en P "_law_divisor" 415 (.ref 177), en P "_law_lowest" 424 (.ref 184), en P "_law_plus" 432 (.ref 191), en P "_law_less" 440 (.ref 198), en P "_law_whole" 447 (.ref 205), en P "_law_is_fraction" 454 (.ref 212), en P "_law_order" 465 (.ref 219), en P "_law_wishes" 477 (.ref 226), en P "_law_deals" 484 (.ref 233), en P "_law_table" 490 (.ref 238), en P "_law_order_holds" 496 (.ref 243), en P "_law_ring_holds" 502 (.ref 248), en P "_law_changed" 508 (.ref 253), en P "_law_same" 517 (.ref 260), en P "_law_right" 526 (.ref 267), en P "law" 540 (.ref 274)]
def cds : List Value := [i 2, i 0, .ref 20, i 4, i 0, .ref 33, i 8, i 0, .ref 46, i 10, i 0, .ref 53, i 18, i 0, .ref 60, i 25, i 0, .ref 67, i 27, i 0, .ref 74, i 29, i 0, .ref 81, i 31, i 0, .ref 88, i 38, i 0, .ref 95, i 46, i 0, .ref 102, i 58, i 0, .ref 107, i 66, i 0, .ref 112, i 68, i 0, .ref 119, i 75, i 0, .ref 126, i 80, i 0, .ref 131, i 86, i 0, .ref 136, i 88, i 0, .ref 141, i 90, i 0, .ref 148, i 98, i 0, .ref 155, i 104, i 0, .ref 162, i 108, i 0, .ref 169, i 112, i 0, .ref 176, i 116, i 0, .ref 183, i 119, i 0, .ref 190, i 121, i 0, .ref 197, i 123, i 0, .ref 204, i 125, i 0, .ref 211, i 129, i 0, .ref 218, i 136, i 0, .ref 225, i 145, i 0, .ref 232, i 149, i 0, .ref 237, i 162, i 0, .ref 242, i 174, i 0, .ref 247, i 189, i 0, .ref 252, i 199, i 0, .ref 259, i 216, i 0, .ref 266, i 226, i 0, .ref 273]
noncomputable def obs (P : Params) : List Obj := (boot_heap P).objs.toList ++ [tu [],
  nf [],
  co "<module>" 182 183 184 [i 1, i 0, i 0, i 0, i 0, .ref 11, .bool false, i 181, .ref 12, .none, .none, .none, .none, i 185, i 1] 186,
  { cls := .type "frame", slots := #[some (.ref 13), some (.ref 3), some (.ref 3), none, some (vs "__main__" 164), none, some (.ref 0)] },
  tu [.type "ValueError"],
  { cls := .type "builtin_function_or_method", data := .fields #[.builtin "type.__prepare__", .type "type"] },
  di [en P "__module__" 196 (vs "wishlots.errors" 187), en P "__qualname__" 198 (vs "WishError" 197), en P "__firstlineno__" 200 (.int 2 199), en P "__static_attributes__" 201 (.ref 22)] 4,
  tu [],
  nf [],
  co "WishError" 191 192 193 [i 2, i 0, i 0, i 0, i 0, .ref 18, .bool false, i 181, .ref 19, .none, .none, .none, .none, i 194, i 2] 195,
  { cls := .type "frame", slots := #[some (.ref 20), some (.ref 3), some (.ref 17), none, some (vs "wishlots.errors" 187), none, some (.ref 0)] },
  tu [],
  di [en P "__module__" 196 (vs "wishlots.errors" 187), en P "__firstlineno__" 200 (.int 2 199), en P "__static_attributes__" 201 (.ref 22), en P "__weakref__" 203 (.ref 25), en P "__doc__" 204 (.none)] 3,
  { cls := .type "type", data := .cls { name := "WishError", bases := [.type "ValueError"], mro := [.ref 24, .type "ValueError", .type "Exception", .type "BaseException", .type "object"], ns := 23, qualname := "WishError", subclasses := [.ref 37] }, slots := #[some (.ref 15), none, some (vs "WishError" 189), some (vs "WishError" 197), some (.builtin "ValueError.__new__"), some (.bool true)] },
  { cls := .type "getset_descriptor", data := .fields #[vs "__weakref__" 202, .ref 24, .builtin "ExceptionGroup.__weakref__", .none] },
  { cls := .type "super", data := .fields #[.ref 24, .ref 24, .ref 24] },
  { cls := .type "builtin_function_or_method", data := .fields #[.builtin "object.__init_subclass__", .ref 24] },
  tu [.ref 24],
  { cls := .type "builtin_function_or_method", data := .fields #[.builtin "type.__prepare__", .type "type"] },
  di [en P "__module__" 214 (vs "wishlots.errors" 187), en P "__qualname__" 216 (vs "NoFraction" 215), en P "__firstlineno__" 218 (.int 4 217), en P "__static_attributes__" 219 (.ref 35)] 4,
  tu [],
  nf [],
  co "NoFraction" 209 210 211 [i 4, i 0, i 0, i 0, i 0, .ref 31, .bool false, i 181, .ref 32, .none, .none, .none, .none, i 212, i 4] 213,
  { cls := .type "frame", slots := #[some (.ref 33), some (.ref 3), some (.ref 30), none, some (vs "wishlots.errors" 187), none, some (.ref 0)] },
  tu [],
  di [en P "__module__" 214 (vs "wishlots.errors" 187), en P "__firstlineno__" 218 (.int 4 217), en P "__static_attributes__" 219 (.ref 35), en P "__doc__" 220 (.none)] 2,
  { cls := .type "type", data := .cls { name := "NoFraction", bases := [.ref 24], mro := [.ref 37, .ref 24, .type "ValueError", .type "Exception", .type "BaseException", .type "object"], ns := 36, qualname := "NoFraction" }, slots := #[some (.ref 28), none, some (vs "NoFraction" 207), some (vs "NoFraction" 215), some (.builtin "ValueError.__new__"), some (.bool true)] },
  { cls := .type "super", data := .fields #[.ref 37, .ref 37, .ref 37] },
  { cls := .type "builtin_function_or_method", data := .fields #[.builtin "object.__init_subclass__", .ref 37] },
  tu [.int 0 225, .int 1 226],
  tu [],
  nf [],
  tu [vs "value" 231],
  tu [],
  ft 5 "is_whole",
  co "is_whole" 228 229 230 [i 8, i 1, i 0, i 0, i 3, .ref 41, .bool true, i 181, .ref 42, .none, .ref 43, .ref 44, .ref 45, i 232, i 8] 233,
  fo 5 "is_whole" "wishlots.fractions" 223 46,
  tu [],
  nf [],
  tu [vs "one" 238, vs "two" 239, vs "greater" 240, vs "smaller" 241, vs "rest" 242],
  tu [],
  ft 6 "common_divisor",
  co "common_divisor" 235 236 237 [i 10, i 2, i 0, i 0, i 3, .ref 48, .bool true, i 181, .ref 49, .none, .ref 50, .ref 51, .ref 52, i 243, i 10] 244,
  fo 6 "common_divisor" "wishlots.fractions" 223 53,
  tu [],
  nf [],
  tu [vs "top" 249, vs "bottom" 250, vs "divisor" 251],
  tu [],
  ft 7 "fraction",
  co "fraction" 246 247 248 [i 18, i 2, i 0, i 0, i 3, .ref 55, .bool true, i 181, .ref 56, .none, .ref 57, .ref 58, .ref 59, i 252, i 18] 253,
  fo 7 "fraction" "wishlots.fractions" 223 60,
  tu [],
  nf [],
  tu [vs "one" 258, vs "two" 259],
  tu [],
  ft 8 "plus",
  co "plus" 255 256 257 [i 25, i 2, i 0, i 0, i 3, .ref 62, .bool true, i 181, .ref 63, .none, .ref 64, .ref 65, .ref 66, i 260, i 25] 261,
  fo 8 "plus" "wishlots.fractions" 223 67,
  tu [],
  nf [],
  tu [vs "one" 266, vs "two" 267],
  tu [],
  ft 9 "minus",
  co "minus" 263 264 265 [i 27, i 2, i 0, i 0, i 3, .ref 69, .bool true, i 181, .ref 70, .none, .ref 71, .ref 72, .ref 73, i 268, i 27] 269,
  fo 9 "minus" "wishlots.fractions" 223 74,
  tu [],
  nf [],
  tu [vs "one" 274, vs "two" 275],
  tu [],
  ft 10 "before",
  co "before" 271 272 273 [i 29, i 2, i 0, i 0, i 3, .ref 76, .bool true, i 181, .ref 77, .none, .ref 78, .ref 79, .ref 80, i 276, i 29] 277,
  fo 10 "before" "wishlots.fractions" 223 81,
  tu [],
  nf [],
  tu [vs "parts" 282, vs "smallest" 283, vs "part" 284],
  tu [],
  ft 11 "least",
  co "least" 279 280 281 [i 31, i 1, i 0, i 0, i 3, .ref 83, .bool true, i 181, .ref 84, .none, .ref 85, .ref 86, .ref 87, i 285, i 31] 286,
  fo 11 "least" "wishlots.fractions" 223 88,
  tu [],
  nf [],
  tu [vs "wishes" 293, vs "table" 294, vs "floor" 295, vs "changers" 296, vs "person" 297, vs "wish" 298, vs "place" 299, vs "given" 300, vs "taken" 301],
  tu [],
  ft 13 "changers_of",
  co "changers_of" 290 291 292 [i 38, i 3, i 0, i 0, i 3, .ref 90, .bool true, i 181, .ref 91, .none, .ref 92, .ref 93, .ref 94, i 302, i 38] 303,
  fo 13 "changers_of" "wishlots.looks" 288 95,
  tu [],
  nf [],
  tu [vs "changers" 308, vs "start" 309, vs "count" 310, vs "ways" 311, vs "reached" 312, vs "way" 313, vs "given" 314],
  tu [],
  ft 14 "way_back",
  co "way_back" 305 306 307 [i 46, i 3, i 0, i 0, i 3, .ref 97, .bool true, i 181, .ref 98, .none, .ref 99, .ref 100, .ref 101, i 315, i 46] 316,
  fo 14 "way_back" "wishlots.looks" 288 102,
  tu [],
  nf [],
  ft 15 "ring_of",
  co "ring_of" 318 319 320 [i 58, i 2, i 0, i 0, i 3, .ref 104, .bool true, i 181, .ref 105, .none, .none, .none, .ref 106, i 321, i 58] 322,
  fo 15 "ring_of" "wishlots.looks" 288 107,
  tu [],
  nf [],
  ft 16 "step_of",
  co "step_of" 324 325 326 [i 66, i 2, i 0, i 0, i 3, .ref 109, .bool true, i 181, .ref 110, .none, .none, .none, .ref 111, i 327, i 66] 328,
  fo 16 "step_of" "wishlots.looks" 288 112,
  tu [],
  nf [],
  tu [vs "wishes" 333, vs "table" 334, vs "ring" 335, vs "wider" 336],
  tu [],
  ft 17 "widest_ring",
  co "widest_ring" 330 331 332 [i 68, i 2, i 0, i 0, i 3, .ref 114, .bool true, i 181, .ref 115, .none, .ref 116, .ref 117, .ref 118, i 337, i 68] 338,
  fo 17 "widest_ring" "wishlots.looks" 288 119,
  tu [],
  nf [],
  tu [vs "shares" 343, vs "given" 344, vs "taken" 345, vs "step" 346, vs "row" 347],
  tu [],
  ft 18 "row_behind",
  co "row_behind" 340 341 342 [i 75, i 4, i 0, i 0, i 3, .ref 121, .bool true, i 181, .ref 122, .none, .ref 123, .ref 124, .ref 125, i 348, i 75] 349,
  fo 18 "row_behind" "wishlots.looks" 288 126,
  tu [],
  nf [],
  ft 19 "table_behind",
  co "table_behind" 351 352 353 [i 80, i 2, i 0, i 0, i 3, .ref 128, .bool true, i 181, .ref 129, .none, .none, .none, .ref 130, i 354, i 80] 355,
  fo 19 "table_behind" "wishlots.looks" 288 131,
  tu [],
  nf [],
  ft 20 "is_kept",
  co "is_kept" 357 358 359 [i 86, i 3, i 0, i 0, i 3, .ref 133, .bool true, i 181, .ref 134, .none, .none, .none, .ref 135, i 360, i 86] 361,
  fo 20 "is_kept" "wishlots.looks" 288 136,
  tu [],
  nf [],
  ft 21 "first_kept",
  co "first_kept" 363 364 365 [i 88, i 2, i 0, i 0, i 3, .ref 138, .bool true, i 181, .ref 139, .none, .none, .none, .ref 140, i 366, i 88] 367,
  fo 21 "first_kept" "wishlots.looks" 288 141,
  tu [],
  nf [],
  tu [vs "changers" 372, vs "count" 373, vs "things" 374, vs "order" 375, vs "thing" 376],
  tu [],
  ft 22 "order_of",
  co "order_of" 369 370 371 [i 90, i 2, i 0, i 0, i 3, .ref 143, .bool true, i 181, .ref 144, .none, .ref 145, .ref 146, .ref 147, i 377, i 90] 378,
  fo 22 "order_of" "wishlots.looks" 288 148,
  tu [],
  nf [],
  tu [vs "wishes" 383, vs "table" 384, vs "ring" 385],
  tu [],
  ft 23 "ring_or_order",
  co "ring_or_order" 380 381 382 [i 98, i 2, i 0, i 0, i 3, .ref 150, .bool true, i 181, .ref 151, .none, .ref 152, .ref 153, .ref 154, i 386, i 98] 387,
  fo 23 "ring_or_order" "wishlots.looks" 288 155,
  tu [],
  nf [],
  tu [vs "_law_script" 394, vs "_law_k" 395],
  tu [],
  ft 25 "_law_cell_at",
  co "_law_cell_at" 391 392 393 [i 104, i 2, i 0, i 0, i 3, .ref 157, .bool true, i 181, .ref 158, .none, .ref 159, .ref 160, .ref 161, i 396, i 104] 397,
  fo 25 "_law_cell_at" "law_wishlots_k22_a_ring_or_an_order" 389 162,
  tu [],
  nf [],
  tu [vs "_law_cell" 402, vs "_law_place" 403, vs "_law_number" 404],
  tu [],
  ft 26 "_law_mixed",
  co "_law_mixed" 399 400 401 [i 108, i 2, i 0, i 0, i 3, .ref 164, .bool true, i 181, .ref 165, .none, .ref 166, .ref 167, .ref 168, i 405, i 108] 406,
  fo 26 "_law_mixed" "law_wishlots_k22_a_ring_or_an_order" 389 169,
  tu [],
  nf [],
  tu [vs "_law_one" 411, vs "_law_two" 412],
  tu [],
  ft 27 "_law_divisor",
  co "_law_divisor" 408 409 410 [i 112, i 2, i 0, i 0, i 3, .ref 171, .bool true, i 181, .ref 172, .none, .ref 173, .ref 174, .ref 175, i 413, i 112] 414,
  fo 27 "_law_divisor" "law_wishlots_k22_a_ring_or_an_order" 389 176,
  tu [],
  nf [],
  tu [vs "_law_top" 419, vs "_law_bottom" 420, vs "_law_by" 421],
  tu [],
  ft 28 "_law_lowest",
  co "_law_lowest" 416 417 418 [i 116, i 2, i 0, i 0, i 3, .ref 178, .bool true, i 181, .ref 179, .none, .ref 180, .ref 181, .ref 182, i 422, i 116] 423,
  fo 28 "_law_lowest" "law_wishlots_k22_a_ring_or_an_order" 389 183,
  tu [],
  nf [],
  tu [vs "_law_one" 428, vs "_law_two" 429],
  tu [],
  ft 29 "_law_plus",
  co "_law_plus" 425 426 427 [i 119, i 2, i 0, i 0, i 3, .ref 185, .bool true, i 181, .ref 186, .none, .ref 187, .ref 188, .ref 189, i 430, i 119] 431,
  fo 29 "_law_plus" "law_wishlots_k22_a_ring_or_an_order" 389 190,
  tu [],
  nf [],
  tu [vs "_law_one" 436, vs "_law_two" 437],
  tu [],
  ft 30 "_law_less",
  co "_law_less" 433 434 435 [i 121, i 2, i 0, i 0, i 3, .ref 192, .bool true, i 181, .ref 193, .none, .ref 194, .ref 195, .ref 196, i 438, i 121] 439,
  fo 30 "_law_less" "law_wishlots_k22_a_ring_or_an_order" 389 197,
  tu [],
  nf [],
  tu [vs "_law_found" 444],
  tu [],
  ft 31 "_law_whole",
  co "_law_whole" 441 442 443 [i 123, i 1, i 0, i 0, i 3, .ref 199, .bool true, i 181, .ref 200, .none, .ref 201, .ref 202, .ref 203, i 445, i 123] 446,
  fo 31 "_law_whole" "law_wishlots_k22_a_ring_or_an_order" 389 204,
  tu [],
  nf [],
  tu [vs "_law_found" 451],
  tu [],
  ft 32 "_law_is_fraction",
  co "_law_is_fraction" 448 449 450 [i 125, i 1, i 0, i 0, i 3, .ref 206, .bool true, i 181, .ref 207, .none, .ref 208, .ref 209, .ref 210, i 452, i 125] 453,
  fo 32 "_law_is_fraction" "law_wishlots_k22_a_ring_or_an_order" 389 211,
  tu [],
  nf [],
  tu [vs "_law_number" 458, vs "_law_count" 459, vs "_law_left" 460, vs "_law_found" 461, vs "_law_k" 462],
  tu [],
  ft 33 "_law_order",
  co "_law_order" 455 456 457 [i 129, i 2, i 0, i 0, i 3, .ref 213, .bool true, i 181, .ref 214, .none, .ref 215, .ref 216, .ref 217, i 463, i 129] 464,
  fo 33 "_law_order" "law_wishlots_k22_a_ring_or_an_order" 389 218,
  tu [],
  nf [],
  tu [vs "_law_script" 469, vs "_law_at" 470, vs "_law_count" 471, vs "_law_found" 472, vs "_law_person" 473, vs "_law_cell" 474],
  tu [],
  ft 34 "_law_wishes",
  co "_law_wishes" 466 467 468 [i 136, i 3, i 0, i 0, i 3, .ref 220, .bool true, i 181, .ref 221, .none, .ref 222, .ref 223, .ref 224, i 475, i 136] 476,
  fo 34 "_law_wishes" "law_wishlots_k22_a_ring_or_an_order" 389 225,
  tu [],
  nf [],
  tu [vs "_law_first" 481],
  tu [],
  ft 35 "_law_deals",
  co "_law_deals" 478 479 480 [i 145, i 1, i 0, i 0, i 3, .ref 227, .bool true, i 181, .ref 228, .none, .ref 229, .ref 230, .ref 231, i 482, i 145] 483,
  fo 35 "_law_deals" "law_wishlots_k22_a_ring_or_an_order" 389 232,
  tu [],
  nf [],
  ft 36 "_law_table",
  co "_law_table" 485 486 487 [i 149, i 4, i 0, i 0, i 3, .ref 234, .bool true, i 181, .ref 235, .none, .none, .none, .ref 236, i 488, i 149] 489,
  fo 36 "_law_table" "law_wishlots_k22_a_ring_or_an_order" 389 237,
  tu [],
  nf [],
  ft 37 "_law_order_holds",
  co "_law_order_holds" 491 492 493 [i 162, i 3, i 0, i 0, i 3, .ref 239, .bool true, i 181, .ref 240, .none, .none, .none, .ref 241, i 494, i 162] 495,
  fo 37 "_law_order_holds" "law_wishlots_k22_a_ring_or_an_order" 389 242,
  tu [],
  nf [],
  ft 38 "_law_ring_holds",
  co "_law_ring_holds" 497 498 499 [i 174, i 3, i 0, i 0, i 3, .ref 244, .bool true, i 181, .ref 245, .none, .none, .none, .ref 246, i 500, i 174] 501,
  fo 38 "_law_ring_holds" "law_wishlots_k22_a_ring_or_an_order" 389 247,
  tu [],
  nf [],
  ft 39 "_law_changed",
  co "_law_changed" 503 504 505 [i 189, i 2, i 0, i 0, i 3, .ref 249, .bool true, i 181, .ref 250, .none, .none, .none, .ref 251, i 506, i 189] 507,
  fo 39 "_law_changed" "law_wishlots_k22_a_ring_or_an_order" 389 252,
  tu [],
  nf [],
  tu [vs "_law_found" 512, vs "_law_due" 513, vs "_law_k" 514],
  tu [],
  ft 40 "_law_same",
  co "_law_same" 509 510 511 [i 199, i 2, i 0, i 0, i 3, .ref 254, .bool true, i 181, .ref 255, .none, .ref 256, .ref 257, .ref 258, i 515, i 199] 516,
  fo 40 "_law_same" "law_wishlots_k22_a_ring_or_an_order" 389 259,
  tu [],
  nf [],
  tu [vs "_law_wishes_here" 521, vs "_law_table_here" 522, vs "_law_found" 523],
  tu [],
  ft 41 "_law_right",
  co "_law_right" 518 519 520 [i 216, i 3, i 0, i 0, i 3, .ref 261, .bool true, i 181, .ref 262, .none, .ref 263, .ref 264, .ref 265, i 524, i 216] 525,
  fo 41 "_law_right" "law_wishlots_k22_a_ring_or_an_order" 389 266,
  tu [],
  nf [],
  tu [vs "_law_script" 530, vs "_law_first" 531, vs "_law_count" 532, vs "_law_wishes_here" 533, vs "_law_table_here" 534, vs "_law_handed" 535, vs "_law_found" 536, vs "_law_again" 537],
  tu [],
  ft 42 "law",
  co "law" 527 528 529 [i 226, i 1, i 0, i 0, i 3, .ref 268, .bool true, i 181, .ref 269, .none, .ref 270, .ref 271, .ref 272, i 538, i 226] 539,
  fo 42 "law" "law_wishlots_k22_a_ring_or_an_order" 389 273]
noncomputable def hp (m f e : Nat) (x : Value) (P : Params) : Heap := { objs := ((((obs P).take m).set 3 (di (en P "__name__" 165 x :: (ents P).tail.take e) (e + 1))).set 12 (nf (cds.take f))).toArray }
noncomputable def all (P : Params) : List Obj := (obs P).set 3 (di (ents P) 48)
def as0 : List Addr := [3, 23, 24, 25, 36, 37, 40, 46, 47, 53, 54, 60, 61, 67, 68, 74, 75, 81, 82, 88, 89, 95, 96, 102, 103, 107, 108, 112, 113, 119, 120, 126, 127, 131, 132, 136, 137, 141, 142, 148, 149, 155, 156, 162, 163, 169, 170, 176, 177, 183, 184, 190, 191, 197, 198, 204, 205, 211, 212, 218, 219, 225, 226, 232, 233, 237, 238, 242, 243, 247, 248, 252, 253, 259, 260, 266, 267, 273, 274]
noncomputable def K0 (P : Params) : PySem.W.Frag := as0.map fun a => (a, (all P).getD a default)
theorem as_eq : ∀ P, as0 = (K0 P).map (·.1) := fun _ => rfl
noncomputable abbrev hk : Hook := kHook K0 as0 as_eq
def vw : Program := { PySem.Challenge.pw_wishlots_k22_a_ring_or_an_order with main := { PySem.Challenge.pw_wishlots_k22_a_ring_or_an_order.main with body := [top 1, top 2, top 4, top 5, top 6, top 7, top 8, top 9, top 10, top 11, top 13, top 14, top 15, top 16, top 17, top 18, top 19, top 20, top 21, top 22, top 23, top 25, top 26, top 27, top 28, top 29, top 30, top 31, top 32, top 33, top 34, top 35, top 36, top 37, top 38, top 39, top 40, top 41, top 42] } }
def sg0 : List Stmt := [top 0, top 1, top 2]
def sg1 : List Stmt := [top 3, top 4, top 5, top 6, top 7, top 8, top 9, top 10, top 11, top 12, top 13, top 14, top 15, top 16, top 17]
def sg2 : List Stmt := [top 18, top 19, top 20, top 21, top 22, top 23, top 24, top 25, top 26, top 27, top 28, top 29, top 30, top 31]
def sg3 : List Stmt := [top 32, top 33, top 34, top 35, top 36, top 37, top 38, top 39, top 40, top 41, top 42]
def bd : List Stmt := sg0 ++ (sg1 ++ (sg2 ++ (sg3 ++ ([]))))
def ev : Env := { scope := PySem.Challenge.pw_wishlots_k22_a_ring_or_an_order.main.scope, locals := mainNs, globals := mainNs, cells := [], code := .ref 13, frame := some 14 }
def cE : Code := .body bd ev
abbrev tf : List Frame := [topFrame ⟨0, 0, 0, 0⟩]
noncomputable def hA (P : Params) : Heap := { objs := ((obs P).take 15).toArray }
theorem pre (w : World) (os : OsState) : topGo treeTable PySem.Challenge.pw_wishlots_k22_a_ring_or_an_order w 11 (some (.ref 6)) 12 ⟨boot_heap w.params, Array.mk [], boot_drawn, boot_toks, os⟩ (topStub PySem.Challenge.pw_wishlots_k22_a_ring_or_an_order) = some (⟨hA w.params, Array.mk [], boot_drawn, 187, os⟩, ⟨denote treeTable cE, cE, ⟨0, 0, 0, 0⟩, tf⟩) := by kernel_rfl
theorem blk (w : World) (os : OsState) : segRun treeTable PySem.Challenge.pw_wishlots_k22_a_ring_or_an_order w 11 (some (.ref 6)) 1 1 ⟨hA w.params, Array.mk [], boot_drawn, 187, os⟩ (blockOf bd ev cE ⟨0, 0, 0, 0⟩ tf) = some (.next, ⟨hA w.params, Array.mk [], boot_drawn, 187, os⟩, cE, ⟨0, 0, 0, 0⟩) := by kernel_rfl
noncomputable def h0 : Params → Heap := hp 40 6 10 (vs "wishlots.errors" 187)
theorem g0 (w : World) (os : OsState) : segRun treeTable PySem.Challenge.pw_wishlots_k22_a_ring_or_an_order w 11 (some (.ref 6)) 1 409 ⟨hA w.params, Array.mk [], boot_drawn, 187, os⟩ (piecesOf sg0 ev cE ⟨0, 0, 0, 0⟩ tf) = some (.next, ⟨h0 w.params, Array.mk [], boot_drawn, 223, os⟩, cE, ⟨4, 0, 5, 8⟩) := by kernel_rfl
noncomputable def h1 : Params → Heap := hp 121 42 23 (vs "wishlots.looks" 288)
theorem g1 (w : World) (os : OsState) : segRun treeTable PySem.Challenge.pw_wishlots_k22_a_ring_or_an_order w 11 (some (.ref 6)) 1 401 ⟨h0 w.params, Array.mk [], boot_drawn, 223, os⟩ (piecesOf sg1 ev cE ⟨4, 0, 5, 8⟩ tf) = some (.next, ⟨h1 w.params, Array.mk [], boot_drawn, 340, os⟩, cE, ⟨68, 0, 74, 15⟩) := by kernel_rfl
noncomputable def h2 : Params → Heap := hp 206 81 36 (vs "law_wishlots_k22_a_ring_or_an_order" 389)
theorem g2 (w : World) (os : OsState) : segRun treeTable PySem.Challenge.pw_wishlots_k22_a_ring_or_an_order w 11 (some (.ref 6)) 1 396 ⟨h1 w.params, Array.mk [], boot_drawn, 340, os⟩ (piecesOf sg2 ev cE ⟨68, 0, 74, 15⟩ tf) = some (.next, ⟨h2 w.params, Array.mk [], boot_drawn, 448, os⟩, cE, ⟨123, 0, 124, 77⟩) := by kernel_rfl
noncomputable def h3 : Params → Heap := hp 275 114 47 (vs "law_wishlots_k22_a_ring_or_an_order" 389)
theorem g3 (w : World) (os : OsState) : segRun treeTable PySem.Challenge.pw_wishlots_k22_a_ring_or_an_order w 11 (some (.ref 6)) 1 328 ⟨h2 w.params, Array.mk [], boot_drawn, 448, os⟩ (piecesOf sg3 ev cE ⟨123, 0, 124, 77⟩ tf) = some (.next, ⟨h3 w.params, Array.mk [], boot_drawn, 541, os⟩, cE, ⟨226, 0, 241, 160⟩) := by kernel_rfl
theorem fin (w : World) (os : OsState) : topRun treeTable PySem.Challenge.pw_wishlots_k22_a_ring_or_an_order w 11 (some (.ref 6)) 2 ⟨h3 w.params, Array.mk [], boot_drawn, 541, os⟩ (restOf [] ev cE ⟨226, 0, 241, 160⟩ tf) = some ⟨h3 w.params, Array.mk [], boot_drawn, 541, os⟩ := by kernel_rfl
theorem run (w : World) (os : OsState) : topRun treeTable PySem.Challenge.pw_wishlots_k22_a_ring_or_an_order w 11 (some (.ref 6)) (12 + (1 + (409 + (401 + (396 + (328 + (2))))))) ⟨boot_heap w.params, Array.mk [], boot_drawn, boot_toks, os⟩ (topStub PySem.Challenge.pw_wishlots_k22_a_ring_or_an_order) = some ⟨h3 w.params, Array.mk [], boot_drawn, 541, os⟩ := go_top (pre w os) (piece_block (blk w os) (piece_app (g0 w os) (piece_app (g1 w os) (piece_app (g2 w os) (piece_app (g3 w os) (fin w os))))))
theorem opn : ∀ w : World, (fencedOpening treeTable PySem.Challenge.pw_wishlots_k22_a_ring_or_an_order w 3784).map (fun s => (s.heap, s.gens, s.drawn, s.toks)) = some (boot_heap w.params, Array.mk [], boot_drawn, boot_toks) := boot_open (by kernel_rfl) rfl fun s => by kernel_rfl
theorem size : ∀ w : World, ((boot_heap w.params).isNs mainGlobals && (Array.mk [] : Array GenState).size == 0, (boot_heap w.params).objs.size, (boot_heap w.params).nsMap mainGlobals "__annotations__") = (true, 11, some (.ref 6)) := fun w => by kernel_rfl
abbrev xt : Shared → Bool := fun s => xlAt vw [] s && recOk (RowW.records (OpenRow.toRowW PySem.Challenge.rw_wishlots_k22_a_ring_or_an_order.row)) s
theorem looks : ∀ w : World, (fun os => ((staticsOk (importedModules PySem.Challenge.pw_wishlots_k22_a_ring_or_an_order.main.body) (boot_heap w.params) (h3 w.params) && namesBound PySem.Challenge.pw_wishlots_k22_a_ring_or_an_order (h3 w.params) && gensDone ⟨h3 w.params, Array.mk [], boot_drawn, 541, os⟩ && laidKept (boot_heap w.params) (h3 w.params)), openSeen vw [] (importedModules PySem.Challenge.pw_wishlots_k22_a_ring_or_an_order.main.body) xt true ⟨h3 w.params, Array.mk [], boot_drawn, 541, os⟩, hk.obs ⟨h3 w.params, Array.mk [], boot_drawn, 541, os⟩)) = fun _ => (true, openGood vw [], hk.val w) := fun w => by kernel_rfl
theorem lft : LeftO PySem.Challenge.pw_wishlots_k22_a_ring_or_an_order vw [] xt hk.obs hk.val 3784 := LeftO.of_pieces opn size run rfl looks
end Nk22
open PySem PySem.W PyProof.Rows
set_option maxRecDepth 100000 in
set_option maxHeartbeats 0 in
theorem PySem.Challenge.cw_wishlots_k22_a_ring_or_an_order_holds : PySem.Challenge.rw_wishlots_k22_a_ring_or_an_order.Holds := by
  w_on; o_law
  refine holds_open (q := Nk22.vw) (loose := []) (Xt := Nk22.xt) (XP := XL Nk22.vw []) (Yf := Hook.obs Nk22.hk) (Ya := Hook.val Nk22.hk)
    (YP := Hook.says Nk22.hk) (N := 3784) ?hl (Hook.of _) (Hook.keeps _) (fun s e => xl_of s (Bool.and_eq_true_iff.mp e).1)
    XL.keeps (by rfl) (by rfl) (by rfl) (fun s e => recFacts_of (Bool.and_eq_true_iff.mp e).2) (by rfl) (by first | assumption | decide +kernel) (by decide +kernel) ⟨rfl, rfl, rfl, rfl, rfl, by decide +kernel⟩ ?hw ?hc
  case hl => exact Nk22.lft
  case hw => w_witness2
  refine Nk22.walk (l := PySem.Challenge.rw_wishlots_k22_a_ring_or_an_order) rfl rfl (fun w h Y => PySem.W.kIn_of Y) ?F
  case F =>
    intro w mg fa h KX G hmg
    exact Nk22.all_mk
      (f0 := 47) (od0 := none) (an0 := none) (sl0 := #[]) (oc0 := .type "function") (kV0 := .none) (dc0 := .none) (pm0 := Nk22.vs "wishlots.fractions" 223) (cd0 := .ref 46) (ct0 := .none)
      (f1 := 54) (od1 := none) (an1 := none) (sl1 := #[]) (oc1 := .type "function") (kV1 := .none) (dc1 := .none) (pm1 := Nk22.vs "wishlots.fractions" 223) (cd1 := .ref 53) (ct1 := .none)
      (f2 := 61) (od2 := none) (an2 := none) (sl2 := #[]) (oc2 := .type "function") (kV2 := .none) (dc2 := .none) (pm2 := Nk22.vs "wishlots.fractions" 223) (cd2 := .ref 60) (ct2 := .none)
      (f3 := 68) (od3 := none) (an3 := none) (sl3 := #[]) (oc3 := .type "function") (kV3 := .none) (dc3 := .none) (pm3 := Nk22.vs "wishlots.fractions" 223) (cd3 := .ref 67) (ct3 := .none)
      (f4 := 75) (od4 := none) (an4 := none) (sl4 := #[]) (oc4 := .type "function") (kV4 := .none) (dc4 := .none) (pm4 := Nk22.vs "wishlots.fractions" 223) (cd4 := .ref 74) (ct4 := .none)
      (f5 := 82) (od5 := none) (an5 := none) (sl5 := #[]) (oc5 := .type "function") (kV5 := .none) (dc5 := .none) (pm5 := Nk22.vs "wishlots.fractions" 223) (cd5 := .ref 81) (ct5 := .none)
      (f6 := 89) (od6 := none) (an6 := none) (sl6 := #[]) (oc6 := .type "function") (kV6 := .none) (dc6 := .none) (pm6 := Nk22.vs "wishlots.fractions" 223) (cd6 := .ref 88) (ct6 := .none)
      (f7 := 96) (od7 := none) (an7 := none) (sl7 := #[]) (oc7 := .type "function") (kV7 := .none) (dc7 := .none) (pm7 := Nk22.vs "wishlots.looks" 288) (cd7 := .ref 95) (ct7 := .none)
      (f8 := 103) (od8 := none) (an8 := none) (sl8 := #[]) (oc8 := .type "function") (kV8 := .none) (dc8 := .none) (pm8 := Nk22.vs "wishlots.looks" 288) (cd8 := .ref 102) (ct8 := .none)
      (f9 := 108) (od9 := none) (an9 := none) (sl9 := #[]) (oc9 := .type "function") (kV9 := .none) (dc9 := .none) (pm9 := Nk22.vs "wishlots.looks" 288) (cd9 := .ref 107) (ct9 := .none)
      (f10 := 113) (od10 := none) (an10 := none) (sl10 := #[]) (oc10 := .type "function") (kV10 := .none) (dc10 := .none) (pm10 := Nk22.vs "wishlots.looks" 288) (cd10 := .ref 112) (ct10 := .none)
      (f11 := 120) (od11 := none) (an11 := none) (sl11 := #[]) (oc11 := .type "function") (kV11 := .none) (dc11 := .none) (pm11 := Nk22.vs "wishlots.looks" 288) (cd11 := .ref 119) (ct11 := .none)
      (f12 := 127) (od12 := none) (an12 := none) (sl12 := #[]) (oc12 := .type "function") (kV12 := .none) (dc12 := .none) (pm12 := Nk22.vs "wishlots.looks" 288) (cd12 := .ref 126) (ct12 := .none)
      (f13 := 132) (od13 := none) (an13 := none) (sl13 := #[]) (oc13 := .type "function") (kV13 := .none) (dc13 := .none) (pm13 := Nk22.vs "wishlots.looks" 288) (cd13 := .ref 131) (ct13 := .none)
      (f14 := 137) (od14 := none) (an14 := none) (sl14 := #[]) (oc14 := .type "function") (kV14 := .none) (dc14 := .none) (pm14 := Nk22.vs "wishlots.looks" 288) (cd14 := .ref 136) (ct14 := .none)
      (f15 := 142) (od15 := none) (an15 := none) (sl15 := #[]) (oc15 := .type "function") (kV15 := .none) (dc15 := .none) (pm15 := Nk22.vs "wishlots.looks" 288) (cd15 := .ref 141) (ct15 := .none)
      (f16 := 149) (od16 := none) (an16 := none) (sl16 := #[]) (oc16 := .type "function") (kV16 := .none) (dc16 := .none) (pm16 := Nk22.vs "wishlots.looks" 288) (cd16 := .ref 148) (ct16 := .none)
      (f17 := 156) (od17 := none) (an17 := none) (sl17 := #[]) (oc17 := .type "function") (kV17 := .none) (dc17 := .none) (pm17 := Nk22.vs "wishlots.looks" 288) (cd17 := .ref 155) (ct17 := .none)
      (f18 := 163) (od18 := none) (an18 := none) (sl18 := #[]) (oc18 := .type "function") (kV18 := .none) (dc18 := .none) (pm18 := Nk22.vs "law_wishlots_k22_a_ring_or_an_order" 389) (cd18 := .ref 162) (ct18 := .none)
      (f19 := 170) (od19 := none) (an19 := none) (sl19 := #[]) (oc19 := .type "function") (kV19 := .none) (dc19 := .none) (pm19 := Nk22.vs "law_wishlots_k22_a_ring_or_an_order" 389) (cd19 := .ref 169) (ct19 := .none)
      (f20 := 177) (od20 := none) (an20 := none) (sl20 := #[]) (oc20 := .type "function") (kV20 := .none) (dc20 := .none) (pm20 := Nk22.vs "law_wishlots_k22_a_ring_or_an_order" 389) (cd20 := .ref 176) (ct20 := .none)
      (f21 := 184) (od21 := none) (an21 := none) (sl21 := #[]) (oc21 := .type "function") (kV21 := .none) (dc21 := .none) (pm21 := Nk22.vs "law_wishlots_k22_a_ring_or_an_order" 389) (cd21 := .ref 183) (ct21 := .none)
      (f22 := 191) (od22 := none) (an22 := none) (sl22 := #[]) (oc22 := .type "function") (kV22 := .none) (dc22 := .none) (pm22 := Nk22.vs "law_wishlots_k22_a_ring_or_an_order" 389) (cd22 := .ref 190) (ct22 := .none)
      (f23 := 198) (od23 := none) (an23 := none) (sl23 := #[]) (oc23 := .type "function") (kV23 := .none) (dc23 := .none) (pm23 := Nk22.vs "law_wishlots_k22_a_ring_or_an_order" 389) (cd23 := .ref 197) (ct23 := .none)
      (f24 := 205) (od24 := none) (an24 := none) (sl24 := #[]) (oc24 := .type "function") (kV24 := .none) (dc24 := .none) (pm24 := Nk22.vs "law_wishlots_k22_a_ring_or_an_order" 389) (cd24 := .ref 204) (ct24 := .none)
      (f25 := 219) (od25 := none) (an25 := none) (sl25 := #[]) (oc25 := .type "function") (kV25 := .none) (dc25 := .none) (pm25 := Nk22.vs "law_wishlots_k22_a_ring_or_an_order" 389) (cd25 := .ref 218) (ct25 := .none)
      (f26 := 226) (od26 := none) (an26 := none) (sl26 := #[]) (oc26 := .type "function") (kV26 := .none) (dc26 := .none) (pm26 := Nk22.vs "law_wishlots_k22_a_ring_or_an_order" 389) (cd26 := .ref 225) (ct26 := .none)
      (f27 := 233) (od27 := none) (an27 := none) (sl27 := #[]) (oc27 := .type "function") (kV27 := .none) (dc27 := .none) (pm27 := Nk22.vs "law_wishlots_k22_a_ring_or_an_order" 389) (cd27 := .ref 232) (ct27 := .none)
      (f28 := 238) (od28 := none) (an28 := none) (sl28 := #[]) (oc28 := .type "function") (kV28 := .none) (dc28 := .none) (pm28 := Nk22.vs "law_wishlots_k22_a_ring_or_an_order" 389) (cd28 := .ref 237) (ct28 := .none)
      (f29 := 243) (od29 := none) (an29 := none) (sl29 := #[]) (oc29 := .type "function") (kV29 := .none) (dc29 := .none) (pm29 := Nk22.vs "law_wishlots_k22_a_ring_or_an_order" 389) (cd29 := .ref 242) (ct29 := .none)
      (f30 := 248) (od30 := none) (an30 := none) (sl30 := #[]) (oc30 := .type "function") (kV30 := .none) (dc30 := .none) (pm30 := Nk22.vs "law_wishlots_k22_a_ring_or_an_order" 389) (cd30 := .ref 247) (ct30 := .none)
      (f31 := 253) (od31 := none) (an31 := none) (sl31 := #[]) (oc31 := .type "function") (kV31 := .none) (dc31 := .none) (pm31 := Nk22.vs "law_wishlots_k22_a_ring_or_an_order" 389) (cd31 := .ref 252) (ct31 := .none)
      (f32 := 260) (od32 := none) (an32 := none) (sl32 := #[]) (oc32 := .type "function") (kV32 := .none) (dc32 := .none) (pm32 := Nk22.vs "law_wishlots_k22_a_ring_or_an_order" 389) (cd32 := .ref 259) (ct32 := .none)
      (f33 := 267) (od33 := none) (an33 := none) (sl33 := #[]) (oc33 := .type "function") (kV33 := .none) (dc33 := .none) (pm33 := Nk22.vs "law_wishlots_k22_a_ring_or_an_order" 389) (cd33 := .ref 266) (ct33 := .none)
      (f34 := 274) (od34 := none) (an34 := none) (sl34 := #[]) (oc34 := .type "function") (kV34 := .none) (dc34 := .none) (pm34 := Nk22.vs "law_wishlots_k22_a_ring_or_an_order" 389) (cd34 := .ref 273) (ct34 := .none)
      (ta0 := 40)
      (x_WishError := 24)
      (x_NoFraction := 37)
      KX G hmg (by kernel_rfl) (by kernel_rfl) (by kernel_rfl) (by kernel_rfl) (by kernel_rfl) (by kernel_rfl) (by kernel_rfl) (by kernel_rfl) (by kernel_rfl) (by kernel_rfl) (by kernel_rfl) (by kernel_rfl) (by kernel_rfl) (by kernel_rfl) (by kernel_rfl) (by kernel_rfl) (by kernel_rfl) (by kernel_rfl) (by kernel_rfl) (by kernel_rfl) (by kernel_rfl) (by kernel_rfl) (by kernel_rfl) (by kernel_rfl) (by kernel_rfl) (by kernel_rfl) (by kernel_rfl) (by kernel_rfl) (by kernel_rfl) (by kernel_rfl) (by kernel_rfl) (by kernel_rfl) (by kernel_rfl) (by kernel_rfl) (by kernel_rfl) (by kernel_rfl) (by kernel_rfl) (by kernel_rfl) (by kernel_rfl) (by kernel_rfl) (by kernel_rfl) (by kernel_rfl) (by kernel_rfl) (by kernel_rfl) (by kernel_rfl) (by kernel_rfl) (by kernel_rfl) (by kernel_rfl) (by kernel_rfl) (by kernel_rfl) (by kernel_rfl) (by kernel_rfl) (by kernel_rfl) (by kernel_rfl) (by kernel_rfl) (by kernel_rfl) (by kernel_rfl) (by kernel_rfl) (by kernel_rfl) (by kernel_rfl) (by kernel_rfl) (by kernel_rfl) (by kernel_rfl) (by kernel_rfl) (by kernel_rfl) (by kernel_rfl) (by kernel_rfl) (by kernel_rfl) (by kernel_rfl) (by kernel_rfl) (by kernel_rfl) (by kernel_rfl) (by kernel_rfl) (by kernel_rfl) (by kernel_rfl) (by kernel_rfl) (by kernel_rfl) (by kernel_rfl) (by kernel_rfl) (by kernel_rfl) (by kernel_rfl) (by kernel_rfl) (by kernel_rfl) (by kernel_rfl) (by kernel_rfl) (by kernel_rfl) (by kernel_rfl) (by kernel_rfl) (by kernel_rfl) (by kernel_rfl) (by kernel_rfl) (by kernel_rfl) (by kernel_rfl) (by kernel_rfl) (by kernel_rfl) (by kernel_rfl) (by kernel_rfl) (by kernel_rfl) (by kernel_rfl) (by kernel_rfl) (by kernel_rfl) (by kernel_rfl) (by kernel_rfl) (by kernel_rfl) (by kernel_rfl) (by kernel_rfl) (by kernel_rfl) (by kernel_rfl) (by kernel_rfl) (by kernel_rfl) (by kernel_rfl) (by kernel_rfl) (by kernel_rfl) (by kernel_rfl) (by kernel_rfl) (by kernel_rfl) (by kernel_rfl) (by kernel_rfl) (by kernel_rfl) (by kernel_rfl) (by kernel_rfl) (by kernel_rfl) (by kernel_rfl) (by kernel_rfl) (by kernel_rfl) (by kernel_rfl) (by kernel_rfl) (by kernel_rfl) (by kernel_rfl) (by kernel_rfl) (by kernel_rfl) (by kernel_rfl) (by kernel_rfl) (by kernel_rfl) (by kernel_rfl) (by kernel_rfl) (by kernel_rfl) (by kernel_rfl) (by kernel_rfl) (by kernel_rfl) (by kernel_rfl) (by kernel_rfl) (by kernel_rfl) (by kernel_rfl) (by kernel_rfl) (by kernel_rfl) (by kernel_rfl) (by kernel_rfl) (by kernel_rfl) (by kernel_rfl) (by kernel_rfl) (by kernel_rfl) (by kernel_rfl) (by kernel_rfl) (by kernel_rfl) (by kernel_rfl) (by kernel_rfl) (by kernel_rfl) rfl (by kernel_rfl) (by kernel_rfl) (by kernel_rfl) (by kernel_rfl)
#print axioms PySem.Challenge.cw_wishlots_k22_a_ring_or_an_order_holds
