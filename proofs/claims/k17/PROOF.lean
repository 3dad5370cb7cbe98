import PyProof.Rows.All
import Wide.All
import OpenK.AllK
import Wide.FinOn
import Lean
import PyProof.EqAt
import PyProof.EqKinds
import PyProof.TupleCall
import PySem.Challenge.RW_lookback_k17_stays_let_or_not
set_option Elab.async false
set_option linter.all false
set_option maxRecDepth 100000
/-! THE HAND LAYER, for ints, bools, texts, own classes, LISTS and tuples (index, slices, in, append, pop ..), calls, loops. Paste it whole ahead of your own text; what your proof does not reach may be deleted. -/
namespace L2
open PySem PySem.Spec PyProof.Rows

/-- a key: an int or a str -/
abbrev Key := Sum Int Str
def keyIs : Key → Value → Bool
  | .inl k, v => Value.isInt k v
  | .inr x, v => Value.isStrOf x v
def keyH (w : World) : Key → Int
  | .inl k => hashInt k
  | .inr x => hashStr w x
theorem keyIs_shape : ∀ {k : Key} {v : Value}, keyIs k v = true → (∃ i t, k = Sum.inl i ∧ v = Value.int i t) ∨ (∃ x t, k = Sum.inr x ∧ v = Value.str x t)
  | .inl i, v, h => by
    obtain ⟨t, e⟩ := Value.isInt_shape (k := i) (v := v) h
    exact .inl ⟨i, t, rfl, e⟩
  | .inr x, v, h => by
    obtain ⟨t, e⟩ := Value.isStrOf_shape (x := x) (v := v) h
    exact .inr ⟨x, t, rfl, e⟩
theorem keyIs_int (i : Int) (t : Tok) : keyIs (.inl i) (.int i t) = true := by simp [keyIs, Value.isInt]
theorem keyIs_str (x : Str) (t : Tok) : keyIs (.inr x) (.str x t) = true := by simp [keyIs, Value.isStrOf]
theorem key_ll (a b : Int) : decide ((Sum.inl a : Key) = Sum.inl b) = (a == b) := by
  by_cases e : a = b
  · subst e; simp
  · have h : ¬ (Sum.inl a : Key) = Sum.inl b := fun q => e (Sum.inl.inj q)
    rw [decide_eq_false h]
    exact (beq_eq_false_iff_ne.mpr e).symm
theorem key_rr (a b : Str) : decide ((Sum.inr a : Key) = Sum.inr b) = decide (a = b) := by
  by_cases e : a = b
  · subst e; simp
  · have h : ¬ (Sum.inr a : Key) = Sum.inr b := fun q => e (Sum.inr.inj q)
    rw [decide_eq_false h, decide_eq_false e]
theorem key_lr (a : Int) (b : Str) : decide ((Sum.inl a : Key) = Sum.inr b) = false := decide_eq_false (fun q => nomatch q)
theorem key_rl (a : Str) (b : Int) : decide ((Sum.inr a : Key) = Sum.inl b) = false := decide_eq_false (fun q => nomatch q)

def mixKind (prog : Program) (w : World) : PySem.KeyKind prog w Key where
  is := keyIs
  hash := keyH w
  inj := fun v a b ha hb => by
    rcases keyIs_shape ha with ⟨i, t, rfl, rfl⟩ | ⟨x, t, rfl, rfl⟩
    · rcases keyIs_shape hb with ⟨j, u, rfl, e⟩ | ⟨y, u, rfl, e⟩
      · injection e with e1 _; rw [e1]
      · exact nomatch e
    · rcases keyIs_shape hb with ⟨j, u, rfl, e⟩ | ⟨y, u, rfl, e⟩
      · exact nomatch e
      · injection e with e1 _; rw [e1]
  byValue := fun k v h => by
    rcases keyIs_shape h with ⟨i, t, rfl, rfl⟩ | ⟨x, t, rfl, rfl⟩ <;> rfl
  pyHash := fun hv h => by
    rcases keyIs_shape hv with ⟨i, t, rfl, rfl⟩ | ⟨x, t, rfl, rfl⟩
    · exact wpAny_pyHash_int h
    · exact wpAny_pyHash_str h
  eqBool := fun hu hv h => by
    rcases keyIs_shape hu with ⟨i, t, rfl, rfl⟩ | ⟨x, t, rfl, rfl⟩
    · rcases keyIs_shape hv with ⟨j, u, rfl, rfl⟩ | ⟨y, u, rfl, rfl⟩
      · rw [key_ll] at h; exact wpAny_eqBool_int h
      · rw [key_lr] at h; exact SeqAt.EqAt.int_str i t y u _ _ _ _ h
    · rcases keyIs_shape hv with ⟨j, u, rfl, rfl⟩ | ⟨y, u, rfl, rfl⟩
      · rw [key_rl] at h; exact SeqAt.EqAt.str_int x t j u _ _ _ _ h
      · rw [key_rr] at h; exact wpAny_eqBool_str h
  «strs» := fun k x t v h => by
    rcases keyIs_shape h with ⟨i, u, rfl, e⟩ | ⟨y, u, rfl, e⟩
    · exact nomatch e
    · injection e with e1 _
      subst e1
      cases v <;> rfl

theorem mixKind_is (prog : Program) (w : World) (k : Key) (v : Value) : (mixKind prog w).is k v = keyIs k v := rfl
theorem mixKind_int (prog : Program) (w : World) (i : Int) (t : Tok) : (mixKind prog w).is (.inl i) (.int i t) = true := keyIs_int i t
theorem mixKind_str (prog : Program) (w : World) (x : Str) (t : Tok) : (mixKind prog w).is (.inr x) (.str x t) = true := keyIs_str x t
end L2

namespace L2
open PySem PySem.Spec PyProof.Rows

/-- a value, without the heap -/
inductive V where
  | non | bl (b : Bool) | int (i : Int) | str (x : Str) | byt (b : Array UInt8) | flt (b : UInt64) | ref (a : Addr) | ty (n : String)
  deriving DecidableEq

def RelV : V → Value → Prop
  | .non, u => u = Value.none
  | .bl b, u => u = Value.bool b
  | .int i, u => ∃ t, u = Value.int i t
  | .str x, u => ∃ t, u = Value.str x t
  | .byt b, u => ∃ t, u = Value.bytes b t
  | .flt b, u => ∃ t, u = Value.float b t
  | .ref a, u => u = Value.ref a
  | .ty n, u => u = Value.type n

abbrev Vals : List V → List Value → Prop := Paired RelV
theorem Vals.length {xs : List V} {us : List Value} (r : Vals xs us) : xs.length = us.length := Paired.length r
theorem Vals.get : ∀ {xs : List V} {us : List Value} {i : Nat} {x : V}, Vals xs us → xs[i]? = some x → ∃ u, us[i]? = some u ∧ RelV x u
  | _, _, _, _, .nil, e => by simp at e
  | _, _, 0, _, .cons r _, e => by simp at e; subst e; exact ⟨_, rfl, r⟩
  | _, _, i + 1, x, .cons _ t, e => by
    obtain ⟨u, h1, h2⟩ := Vals.get (i := i) (x := x) t (by simpa using e)
    exact ⟨u, by simpa using h1, h2⟩
theorem Vals.set {x : V} {u : Value} (r : RelV x u) : ∀ {xs : List V} {us : List Value} (i : Nat), Vals xs us → Vals (xs.set i x) (us.set i u)
  | _, _, _, .nil => .nil
  | _, _, 0, .cons _ t => .cons r t
  | _, _, i + 1, .cons q t => .cons q (Vals.set r i t)
theorem Vals.append : ∀ {xs ys : List V} {us ws : List Value}, Vals xs us → Vals ys ws → Vals (xs ++ ys) (us ++ ws)
  | _, _, _, _, .nil, s => s
  | _, _, _, _, .cons r t, s => .cons r (Vals.append t s)
theorem Vals.take : ∀ {xs : List V} {us : List Value} (n : Nat), Vals xs us → Vals (xs.take n) (us.take n)
  | _, _, 0, _ => .nil
  | _, _, _ + 1, .nil => .nil
  | _, _, n + 1, .cons r t => .cons r (Vals.take n t)
theorem Vals.drop : ∀ {xs : List V} {us : List Value} (n : Nat), Vals xs us → Vals (xs.drop n) (us.drop n)
  | _, _, 0, r => r
  | _, _, _ + 1, .nil => .nil
  | _, _, n + 1, .cons _ t => Vals.drop n t
theorem Vals.none_of : ∀ {xs : List V} {us : List Value} {i : Nat}, Vals xs us → xs[i]? = none → us[i]? = none := fun {xs us i} r e => by
  have h1 := r.length
  have h2 : xs.length ≤ i := List.getElem?_eq_none_iff.mp e
  exact List.getElem?_eq_none_iff.mpr (by omega)

def RelO : Option V → Option Value → Prop
  | some v, some u => RelV v u
  | none, none => True
  | _, _ => False
def KV {κ : Type} : List (κ × V) → List (κ × Value) → Prop := Paired fun (p : κ × V) (q : κ × Value) => p.1 = q.1 ∧ RelV p.2 q.2

/-- a key of a dict (00_mix): an int or a text -/
def kV : Key → V
  | .inl i => .int i
  | .inr x => .str x

/-- what stands at a tracked address -/
inductive HO where
  /-- a list -/
  | lst (xs : List V)
  /-- a tuple (never changes) -/
  | tup (xs : List V)
  /-- a dict whose keys are ints and texts; one whose keys are tuples of ints and texts (the empty one is both) -/
  | dK (kvs : List (Key × V)) | dT (kvs : List (List Key × V))
  /-- a set of ints: its members, its size -/
  | set (S : Int → Bool) (n : Nat)
  /-- an instance of the class at C, its dict at dx, its attributes -/
  | ins (C dx : Addr) (fs : List (Str × V))
  /-- the dict of the instance at x -/
  | own (x : Addr)
  /-- the dict of an exception -/
  | xd (fs : List (Str × V))
  /-- a bound method, f of x -/
  | met (f x : Addr)
  /-- a range object lo, lo + 1, .. below hi -/
  | rng (lo hi : Int)
  /-- a thing that is known to the object (the script; a dict while a loop walks it): read, never written while it is so -/
  | frz (o : Obj) (u : HO)
  /-- a code object's table -/
  | tbl (ps : Array Value)
  /-- any other thing, by what is true of its one object (a def of one's own: SetO a S n := HO.ext fun h => ..) -/
  | ext (φ : Heap → Prop)

abbrev Hp := Addr → Option HO
def upd (H : Hp) (a : Addr) (o : HO) : Hp := fun b => if b = a then some o else H b
theorem upd_same {H : Hp} {a : Addr} {o : HO} : upd H a o a = some o := by unfold upd; rw [if_pos rfl]
theorem upd_ne {H : Hp} {a b : Addr} {o : HO} (h : b ≠ a) : upd H a o b = H b := by unfold upd; rw [if_neg h]
theorem upd_upd {H : Hp} {a : Addr} {o u : HO} : upd (upd H a o) a u = upd H a u := by
  funext b; unfold upd; split <;> rfl
/-- two objects of different content stand apart -/
theorem ne_of {H : Hp} {a b : Addr} {o u : HO} (h : H a = some o) (h' : H b = some u) (d : o ≠ u) : a ≠ b := by
  intro e; subst e; rw [h] at h'; exact d (Option.some.inj h')
theorem ne_of_none {H : Hp} {a b : Addr} {o : HO} (h : H a = some o) (h' : H b = none) : a ≠ b := by
  intro e; subst e; rw [h] at h'; cases h'

section
variable (P : Program) (w : World)
def ObjOk (H : Hp) (h : Heap) (a : Addr) : HO → Prop
  | .lst xs => xs.length ≤ sizeLine ∧ ∃ (its : List Value) (n : Nat), Vals xs its ∧ h.get? a = some { cls := .type "list", data := .seq its.toArray n }
  | .tup xs => (xs.length ≤ sizeLine ∧ ∃ o, h.get? a = some o ∧ o.dict = none) ∧ ∃ its : List Value, Vals xs its ∧ IsTup h a its.toArray
  | .dK kvs => kvs.length ≤ sizeLine ∧ (a == sysModules) = false ∧ ∃ vs, KV kvs vs ∧ h.DictOf (mixKind P w) a vs
  | .dT kvs => kvs.length ≤ sizeLine ∧ (a == sysModules) = false ∧ ∃ xs : List (List Key × Addr × Value),
      Paired (fun (p : List Key × V) (q : List Key × Addr × Value) => p.1 = q.1 ∧ H q.2.1 = some (.tup (p.1.map kV)) ∧ RelV p.2 q.2.2) kvs xs ∧
      ∃ o es ep, h.get? a = some o ∧ o.ExactDict ∧ o.data = .dict es ep ∧ es.toList = xs.map (entryOfKey (tupleKind (mixKind P w))) ∧ (xs.map (·.1)).Nodup
  | .set S n => h.SetOf (intKind P w) a S n
  | .ins C dx fs => H dx = some (.own a) ∧ fs.length ≤ 1000 ∧ dx ≠ a ∧ h.get? a = some (PySem.W.instObj C dx) ∧
      ∃ mA, h.Ns1 dx mA ∧ (∀ f, RelO (fs.lookup f) (mA f)) ∧ PySem.Within mA (fs.map (·.1))
  | .own _ => ∃ o, h.get? a = some o
  | .xd fs => ∃ mA, h.Ns1 a mA ∧ ∀ f, RelO (fs.lookup f) (mA f)
  | .rng lo hi => ∃ t u v, h.get? a = some { cls := .type "range", data := .fields #[.int lo t, .int hi u, .int 1 v] }
  | .frz o u => h.get? a = some o ∧ ObjOk H h a u
  | .tbl ps => h.get? a = some { cls := .none, data := .fields ps }
  | .met f x => h.get? a = some (PySem.W.methodObj (.ref f) (.ref x))
  | .ext φ => φ h ∧ (∃ o, h.get? a = some o) ∧ ∀ h1 h2 : Heap, φ h1 → (∀ o, h1.get? a = some o → h2.get? a = some o) → φ h2
/-- the abstract heap is held -/
def HOk (H : Hp) (h : Heap) : Prop := ∀ a o, H a = some o → ObjOk P w H h a o
end

section
variable {P : Program} {w : World} {H H' : Hp} {h h' : Heap} {a : Addr} {o : HO}
theorem ObjOk.lt (x : ObjOk P w H h a o) : a < h.objs.size := by
  cases o with
  | lst xs => obtain ⟨_, _, _, _, e⟩ := x; exact Heap.lt_size e
  | tup xs => obtain ⟨_, _, _, p⟩ := x; exact p.lt
  | dK kvs => obtain ⟨_, _, _, _, o, _, _, e, _⟩ := x; exact Heap.lt_size e
  | dT kvs => obtain ⟨_, _, _, _, o, _, _, e, _⟩ := x; exact Heap.lt_size e
  | set S n => obtain ⟨o, _, _, _, e, _⟩ := x; exact Heap.lt_size e
  | ins C dx fs => obtain ⟨_, _, _, e, _⟩ := x; exact Heap.lt_size e
  | own y => obtain ⟨_, e⟩ := x; exact Heap.lt_size e
  | xd fs => obtain ⟨_, ⟨_, _, _, e, _⟩, _⟩ := x; exact Heap.lt_size e
  | rng lo hi => obtain ⟨_, _, _, e⟩ := x; exact Heap.lt_size e
  | frz ob u => obtain ⟨e, _⟩ := x; exact Heap.lt_size e
  | tbl ps => exact Heap.lt_size (show h.get? a = some _ from x)
  | met f y => exact Heap.lt_size (show h.get? a = some _ from x)
  | ext φ => obtain ⟨_, ⟨_, e⟩, _⟩ := x; exact Heap.lt_size e
theorem Paired.mapP {α β : Type} {F G : α → β → Prop} : ∀ {l₁ : List α} {l₂ : List β}, Paired F l₁ l₂ → (∀ a b, F a b → G a b) → Paired G l₁ l₂
  | _, _, .nil, _ => .nil
  | _, _, .cons r t, f => .cons (f _ _ r) (Paired.mapP t f)
theorem Paired.imp' {α β : Type} {F G : α → β → Prop} (f : ∀ a b, F a b → G a b) {l₁ : List α} {l₂ : List β} (r : Paired F l₁ l₂) : Paired G l₁ l₂ := Paired.mapP r f
/-- what an object's description leans on: its own object, its own dict, the tuples -/
theorem ObjOk.stay (x : ObjOk P w H h a o) (k : ∀ b u, (b = a ∨ H b = some (.own a)) → h.get? b = some u → h'.get? b = some u)
    (ho : ∀ b, H b = some (.own a) → H' b = some (.own a)) (ht : ∀ b xs, H b = some (.tup xs) → H' b = some (.tup xs)) : ObjOk P w H' h' a o := by
  induction o with
  | lst xs => obtain ⟨z, its, n, r, e⟩ := x; exact ⟨z, its, n, r, k _ _ (.inl rfl) e⟩
  | tup xs => obtain ⟨⟨z, o1, z1, z2⟩, its, r, ob, e, c⟩ := x; exact ⟨⟨z, o1, k _ _ (.inl rfl) z1, z2⟩, its, r, ob, k _ _ (.inl rfl) e, c⟩
  | dK kvs => obtain ⟨z, y, vs, r, ob, es, ep, e, c⟩ := x; exact ⟨z, y, vs, r, ob, es, ep, k _ _ (.inl rfl) e, c⟩
  | dT kvs =>
    obtain ⟨z, y, xs, r, ob, es, ep, e, c⟩ := x
    exact ⟨z, y, xs, Paired.mapP r fun p q z => ⟨z.1, ht _ _ z.2.1, z.2.2⟩, ob, es, ep, k _ _ (.inl rfl) e, c⟩
  | set S n => obtain ⟨ob, es, ep, t, e, c⟩ := x; exact ⟨ob, es, ep, t, k _ _ (.inl rfl) e, c⟩
  | ins C dx fs =>
    obtain ⟨d, z, ne, e, mA, ⟨od, es, ep, e2, c⟩, r⟩ := x
    exact ⟨ho _ d, z, ne, k _ _ (.inl rfl) e, mA, ⟨od, es, ep, k _ _ (.inr d) e2, c⟩, r⟩
  | own y => obtain ⟨ob, e⟩ := x; exact ⟨ob, k _ _ (.inl rfl) e⟩
  | xd fs => obtain ⟨mA, ⟨od, es, ep, e, c⟩, r⟩ := x; exact ⟨mA, ⟨od, es, ep, k _ _ (.inl rfl) e, c⟩, r⟩
  | rng lo hi => obtain ⟨t, u, v, e⟩ := x; exact ⟨t, u, v, k _ _ (.inl rfl) e⟩
  | frz ob u ih => obtain ⟨e, q⟩ := x; exact ⟨k _ _ (.inl rfl) e, ih q⟩
  | tbl ps =>
    have e : h.get? a = some { cls := .none, data := .fields ps } := x
    show h'.get? a = some { cls := .none, data := .fields ps }
    exact k a _ (.inl rfl) e
  | met f y =>
    have e : h.get? a = some (PySem.W.methodObj (.ref f) (.ref y)) := x
    show h'.get? a = some (PySem.W.methodObj (.ref f) (.ref y))
    exact k a _ (.inl rfl) e
  | ext φ => obtain ⟨p, ⟨o, e⟩, st⟩ := x; exact ⟨st _ _ p fun o q => k _ _ (.inl rfl) q, ⟨o, k _ _ (.inl rfl) e⟩, st⟩
theorem HOk.lt (x : HOk P w H h) (e : H a = some o) : a < h.objs.size := (x a o e).lt
theorem HOk.fresh (x : HOk P w H h) (e : h.objs.size ≤ a) : H a = none := by
  cases q : H a with
  | none => rfl
  | some u => exact absurd (Nat.lt_of_lt_of_le (x.lt q) e) (Nat.lt_irrefl _)
/-- every object of the heap is kept -/
theorem HOk.kept (x : HOk P w H h) (k : ∀ b u, h.get? b = some u → h'.get? b = some u) : HOk P w H h' := fun a o e =>
  (x a o e).stay (fun b u _ q => k b u q) (fun _ q => q) fun _ _ q => q
/-- a new object is laid and tracked -/
theorem HOk.laid (x : HOk P w H h) (k : ∀ b u, h.get? b = some u → h'.get? b = some u) (hp : h.objs.size ≤ a) (new : ObjOk P w (upd H a o) h' a o) : HOk P w (upd H a o) h' := fun b u e => by
  have hn := x.fresh hp
  by_cases hb : b = a
  · subst hb; rw [upd_same] at e; cases e; exact new
  · rw [upd_ne hb] at e
    exact (x b u e).stay (fun c v _ q => k c v q) (fun c q => by rw [upd_ne (ne_of_none q hn)]; exact q) fun c xs q => by rw [upd_ne (ne_of_none q hn)]; exact q
end

/-- what may be read as u: it is u, or a known u -/
def Rd (H : Hp) (a : Addr) (u : HO) : Prop := H a = some u ∨ ∃ o, H a = some (.frz o u)
theorem Rd.of {H : Hp} {a : Addr} {u : HO} (h : H a = some u) : Rd H a u := .inl h
theorem Rd.ok {P : Program} {w : World} {H : Hp} {h : Heap} {a : Addr} {u : HO} (r : Rd H a u) (x : HOk P w H h) : ObjOk P w H h a u := by
  rcases r with r | ⟨o, r⟩
  · exact x a u r
  · obtain ⟨_, q⟩ := x a _ r
    exact q
/-- what may be written -/
def Mut : Option HO → Prop
  | some (.lst _) => True
  | some (.dK _) => True
  | some (.dT _) => True
  | some (.set _ _) => True
  | some (.ins _ _ _) => True
  | some (.ext _) => True
  | _ => False
section
variable {P : Program} {w : World} {H : Hp} {h h' : Heap} {x e : Addr} {o' : HO}
/-- the object at e is changed: x itself, or the dict of the instance x -/
theorem HOk.write (ok : HOk P w H h) (mu : Mut (H x)) (he : e = x ∨ H e = some (.own x)) (k : ∀ b u, b ≠ e → h.get? b = some u → h'.get? b = some u) (heo : ∃ u, h'.get? e = some u)
    (new : ObjOk P w (upd H x o') h' x o') : HOk P w (upd H x o') h' := fun b u q => by
  have nown : ∀ c y, H c = some (.own y) → c ≠ x := fun c y r z => by subst z; rw [r] at mu; exact mu
  have ntup : ∀ c xs, H c = some (.tup xs) → c ≠ x := fun c xs r z => by subst z; rw [r] at mu; exact mu
  by_cases hb : b = x
  · subst hb; rw [upd_same] at q; cases q; exact new
  · rw [upd_ne hb] at q
    by_cases hbe : b = e
    · have q' : H b = some (.own x) := by
        rcases he with z | z
        · exact absurd (hbe.trans z) hb
        · rw [hbe]; exact z
      rw [q] at q'; cases q'
      obtain ⟨v, hv⟩ := heo
      exact ⟨v, by rw [hbe]; exact hv⟩
    · refine (ok b u q).stay (fun c v hc r => k c v ?_ r) (fun c r => by rw [upd_ne (nown c b r)]; exact r) fun c xs r => by rw [upd_ne (ntup c xs r)]; exact r
      rcases hc with rfl | hc
      · exact hbe
      · rintro rfl
        rcases he with z | z
        · exact nown c b hc z
        · rw [hc] at z; cases z; exact hb rfl
end

/-! ### kept unless tracked; of the frames at fs (the callers') the slots may change (an exception that passes writes there); of the records at ex (iterators) nothing is said -/
structure Un (fs ex : List Addr) (H H' : Hp) (h h' : Heap) : Prop where
  keep : ∀ b o, h.get? b = some o → H b = none → b ∉ fs → b ∉ ex → h'.get? b = some o
  slot : ∀ b o, h.get? b = some o → H b = none → b ∈ fs → b ∉ ex → ∃ sl, h'.get? b = some { o with slots := sl }
  free : ∀ b o, h.get? b = some o → H b = none → b ∉ ex → H' b = none
  there : ∀ b o, h.get? b = some o → b ∉ ex → ∃ o', h'.get? b = some o'
  tups : ∀ b xs, H b = some (.tup xs) → H' b = some (.tup xs)
  frzs : ∀ b o u, H b = some (.frz o u) → H' b = some (.frz o u)
  tbls : ∀ b ps, H b = some (.tbl ps) → ∃ more, H' b = some (.tbl (ps ++ more))
section
variable {fs fs' ex ex' : List Addr} {H H1 H2 : Hp} {h h1 h2 h' : Heap} {a x e : Addr} {o : HO}
theorem Un.any (u : Un fs ex H H1 h h1) {b : Addr} {ob : Obj} (q : h.get? b = some ob) (n : H b = none) (hx : b ∉ ex) : ∃ sl, h1.get? b = some { ob with slots := sl } := by
  by_cases hb : b ∈ fs
  · exact u.slot b ob q n hb hx
  · exact ⟨ob.slots, u.keep b ob q n hb hx⟩
theorem Un.trans (a : Un fs ex H H1 h h1) (b : Un fs ex H1 H2 h1 h2) : Un fs ex H H2 h h2 where
  keep := fun c ob q n hc hx => b.keep c ob (a.keep c ob q n hc hx) (a.free c ob q n hx) hc hx
  slot := fun c ob q n hc hx => by
    obtain ⟨sl, e1⟩ := a.slot c ob q n hc hx
    obtain ⟨sl', e2⟩ := b.slot c _ e1 (a.free c ob q n hx) hc hx
    exact ⟨sl', e2⟩
  free := fun c ob q n hx => by
    obtain ⟨o', e1⟩ := a.there c ob q hx
    exact b.free c o' e1 (a.free c ob q n hx) hx
  there := fun c ob q hx => by
    obtain ⟨o', e1⟩ := a.there c ob q hx
    exact b.there c o' e1 hx
  tups := fun c xs q => b.tups c xs (a.tups c xs q)
  frzs := fun c ob xs q => b.frzs c ob xs (a.frzs c ob xs q)
  tbls := fun c ps q => by
    obtain ⟨m1, e1⟩ := a.tbls c ps q
    obtain ⟨m2, e2⟩ := b.tbls c _ e1
    exact ⟨m1 ++ m2, by rw [e2, Array.append_assoc]⟩
theorem Un.kept (k : ∀ b u, h.get? b = some u → h'.get? b = some u) : Un fs ex H H h h' :=
  ⟨fun b ob q _ _ _ => k b ob q, fun b ob q _ _ _ => ⟨ob.slots, k b ob q⟩, fun _ _ _ n _ => n, fun b ob q _ => ⟨ob, k b ob q⟩, fun _ _ q => q, fun _ _ _ q => q, fun _ ps q => ⟨#[], by rw [q]; simp⟩⟩
theorem Un.refl : Un fs ex H H h h := Un.kept fun _ _ q => q
theorem Un.laid (k : ∀ b u, h.get? b = some u → h'.get? b = some u) (hp : h.objs.size ≤ a) (hn : H a = none) : Un fs ex H (upd H a o) h h' where
  keep := fun b u q _ _ _ => k b u q
  slot := fun b u q _ _ _ => ⟨u.slots, k b u q⟩
  free := fun b u q n _ => by rw [upd_ne (Nat.ne_of_lt (Nat.lt_of_lt_of_le (Heap.lt_size q) hp))]; exact n
  there := fun b u q _ => ⟨u, k b u q⟩
  tups := fun b xs q => by rw [upd_ne (ne_of_none q hn)]; exact q
  frzs := fun b u xs q => by rw [upd_ne (ne_of_none q hn)]; exact q
  tbls := fun b ps q => ⟨#[], by rw [upd_ne (ne_of_none q hn), q]; simp⟩
theorem Un.write (mu : Mut (H x)) (he : e = x ∨ H e = some (.own x)) (k : ∀ b u, b ≠ e → h.get? b = some u → h'.get? b = some u) (heo : ∃ u, h'.get? e = some u) : Un fs ex H (upd H x o) h h' := by
  have hx : ∀ b, H b = none → b ≠ x := fun b n z => by subst z; rw [n] at mu; exact mu
  have hb : ∀ b, H b = none → b ≠ e := fun b n z => by
    subst z
    rcases he with r | r
    · exact hx b n r
    · rw [n] at r; cases r
  have hm : ∀ b u, H b = some u → ¬ Mut (some u) → b ≠ x := fun b u q nm z => by subst z; rw [q] at mu; exact nm mu
  refine ⟨fun b u q n _ _ => k b u (hb b n) q, fun b u q n _ _ => ⟨u.slots, k b u (hb b n) q⟩, fun b u q n _ => by rw [upd_ne (hx b n)]; exact n, fun b u q _ => ?_,
    fun b xs q => by rw [upd_ne (hm b _ q fun z => z)]; exact q, fun b u xs q => by rw [upd_ne (hm b _ q fun z => z)]; exact q, fun b ps q => ⟨#[], by rw [upd_ne (hm b _ q fun z => z), q]; simp⟩⟩
  by_cases hbe : b = e
  · subst hbe; exact heo
  · exact ⟨u, k b u hbe q⟩
theorem Un.mono (u : Un fs ex H H1 h h1) (hs : ∀ b ∈ fs, b ∈ fs') (hx : ∀ b ∈ ex, b ∈ ex') : Un fs' ex' H H1 h h1 :=
  ⟨fun b ob q n hb he => u.keep b ob q n (fun z => hb (hs b z)) fun z => he (hx b z), fun _ _ q n _ he => u.any q n fun z => he (hx _ z), fun b ob q n he => u.free b ob q n fun z => he (hx b z), fun b ob q he => u.there b ob q fun z => he (hx b z), u.tups, u.frzs, u.tbls⟩
end

/-! ### the heap without what is tracked -/
def trk (h : Heap) (H : Hp) : List Addr := (List.range h.objs.size).filter fun a => (H a).isSome
def hidT (h : Heap) (H : Hp) : Heap := PySem.W.hideAll h (trk h H)
theorem hidT_size (h : Heap) (H : Hp) : (hidT h H).objs.size = h.objs.size := PySem.W.hideAll_size _ _
theorem hidT_get {h : Heap} {H : Hp} {b : Addr} {o : Obj} (e : h.get? b = some o) (n : H b = none) : (hidT h H).get? b = some o :=
  PySem.W.hideAll_get _ e fun hm => by
    have q : (H b).isSome = true := (List.mem_filter.mp hm).2
    rw [n] at q; simp at q
theorem of_hidT {h : Heap} {H : Hp} {b : Addr} {o : Obj} (e : (hidT h H).get? b = some o) : h.get? b = some o ∧ H b = none := by
  have e' : h.get? b = some o := PySem.W.of_hideAll (trk h H) e
  refine ⟨e', ?_⟩
  cases q : H b with
  | none => rfl
  | some x =>
    have hm : b ∈ trk h H := List.mem_filter.mpr ⟨List.mem_range.mpr (Heap.lt_size e'), by simp [q]⟩
    have z : (hidT h H).get? b = none := PySem.W.hideAll_none (trk h H) hm
    rw [z] at e; cases e

/-! ### OpenK's ledger, filled with every new object but one -/
def allNews (g h : Heap) (L : Addr) : List (Addr × Obj) := (List.range h.objs.size).filterMap fun a => if a = L ∨ (g.get? a).isSome = true then none else (h.get? a).map fun o => (a, o)
theorem mem_allNews {g h : Heap} {L a : Addr} {o : Obj} (h1 : a ≠ L) (h2 : g.get? a = none) (h3 : h.get? a = some o) : (a, o) ∈ allNews g h L :=
  List.mem_filterMap.mpr ⟨a, List.mem_range.mpr (Heap.lt_size h3), by simp [h1, h2, h3]⟩
theorem of_mem_allNews {g h : Heap} {L : Addr} {p : Addr × Obj} (hp : p ∈ allNews g h L) : p.1 ≠ L ∧ g.get? p.1 = none ∧ h.get? p.1 = some p.2 := by
  obtain ⟨b, _, e⟩ := List.mem_filterMap.mp hp
  split at e
  · cases e
  · rename_i hn
    cases q : h.get? b with
    | none => rw [q] at e; simp at e
    | some u =>
      rw [q] at e
      simp only [Option.map_some, Option.some.injEq] at e
      subst e
      refine ⟨fun z => hn (.inl z), ?_, q⟩
      show g.get? b = none
      cases r : g.get? b with
      | none => rfl
      | some v => exact (hn (.inr (by simp [r]))).elim
def rest (g h : Heap) (L d : Addr) : List (Addr × Obj) := (allNews g h L).filter fun p => decide (p.1 ≠ d)
theorem rest_ne {g h : Heap} {L d : Addr} : ∀ p ∈ rest g h L d, p.1 ≠ d := fun p hp => of_decide_eq_true (List.mem_filter.mp hp).2
theorem mem_rest {g h : Heap} {L d a : Addr} {o : Obj} (h1 : a ≠ L) (h2 : g.get? a = none) (h3 : h.get? a = some o) (h4 : a ≠ d) : (a, o) ∈ rest g h L d :=
  List.mem_filter.mpr ⟨mem_allNews h1 h2 h3, decide_eq_true h4⟩
theorem news_all {g h : Heap} {L : Addr} : News g L h (allNews g h L) := fun p hp => let ⟨a, b, c⟩ := of_mem_allNews hp; ⟨c, a, b⟩
theorem news_at {g h : Heap} {L d : Addr} {o : Obj} (h1 : d ≠ L) (h2 : g.get? d = none) (h3 : h.get? d = some o) : News g L h ((d, o) :: rest g h L d) := fun p hp => by
  rcases List.mem_cons.mp hp with rfl | hp
  · exact ⟨h3, h1, h2⟩
  · exact news_all p (List.mem_filter.mp hp).1
/-- behind a rule that changed d alone: all else but the frame is kept -/
theorem kept_of_news {g h h' : Heap} {L d : Addr} {m : Str → Option Value} (k : ∀ b o, g.get? b = some o → h.get? b = some o) (F : Fr g L h' m) (N : News g L h' (rest g h L d)) :
    ∀ b o, b ≠ L → b ≠ d → h.get? b = some o → h'.get? b = some o := fun b o h1 h2 e => by
  cases q : g.get? b with
  | some u =>
    have := k b u q
    rw [e] at this; cases this
    exact F.keep b _ q
  | none => exact (N (b, o) (mem_rest h1 q e h2)).1
end L2

namespace L2
open PySem PySem.Spec PyProof.Rows

/-- the module's facts, over the base: the heap at the law's entry without what is tracked there -/
structure Mod (K : PySem.W.Frag) (mg : Str → Option Value) (base : Heap) : Prop where
  kin : K.In base
  glob : base.Ns mainGlobals mg
  blt : ∃ mb, base.Ns builtinsNs mb ∧ ∀ x : Str, x ≠ "__name__" → mb x = bootBuiltins x
  nolimit : base.NoLimit

/-- the context: a def's body (or a comprehension's block) running. base: fixed through the whole law; s₀, H₀: the entry; outer: the frames whose slots others may change (a def's callers); stack: all frames that run;
   ex: iterators that were made ahead of the entry and are walked here (a comprehension's); fn: the names whose cells were made at the entry (a def: all; a comprehension's block: its own); calm: not within an except suite; pn: pins that every state bears; xe: what is wanted of an exception that leaves the code -/
structure Cx where
  prog : Program
  w : World
  K : PySem.W.Frag
  mg : Str → Option Value
  base : Heap
  A : Around
  N : List Str
  s₀ : Shared
  H₀ : Hp
  env : Env
  outer : List Env
  stack : List Env
  ex : List Addr
  fn : Str → Bool
  calm : Bool
  pn : List (Addr × Obj)
  xe : Value → Shared → Prop
/-- the callers' frames -/
def frs (l : List Env) : List Addr := l.filterMap (·.frame)
abbrev Cx.fs (X : Cx) : List Addr := frs X.outer

def Vis (sc : Scope) (x : Str) : Prop := sc.names.lookup x = some .local ∨ sc.names.lookup x = some .cell ∨ sc.names.lookup x = some .free
def Loc (sc : Scope) (x : Str) : Prop := sc.names.lookup x = some .local ∨ sc.names.lookup x = some .cell
def Look (env : Env) (h : Heap) (m : Str → Option Value) (x : Str) (u : Value) : Prop :=
  (env.kindOf x = some .local ∧ m x = some u) ∨ ((env.kindOf x = some .cell ∨ env.kindOf x = some .free) ∧ ∃ c, env.cells.lookup x = some c ∧ h.IsCell c (some u))

structure Cx.Ok (X : Cx) : Prop where
  mod : Mod X.K X.mg X.base
  kind : X.env.scope.kind = .function
  glob : X.env.globals = mainGlobals
  blt : X.env.builtins = builtinsNs
  above : X.s₀.heap.objs.size ≤ X.env.locals
  inj : ∀ x y c, X.env.cells.lookup x = some c → X.env.cells.lookup y = some c → x = y
  has : ∀ x, (X.env.kindOf x = some .cell ∨ X.env.kindOf x = some .free) → ∃ c, X.env.cells.lookup x = some c
  cab : ∀ x c, X.fn x = true → X.env.cells.lookup x = some c → X.s₀.heap.objs.size ≤ c
  hd : X.calm = true → X.A.handled = none
  frames : X.A.frames = some X.stack
  stk : X.stack = X.outer ∨ (X.stack = X.env :: X.outer ∧ X.env.frame = some X.env.locals)
  exf : ∀ b ∈ X.ex, b ≠ X.env.locals ∧ ∀ x c, X.env.cells.lookup x = some c → c ≠ b
  bs : ∀ b o, X.base.get? b = some o → X.s₀.heap.get? b = some o ∧ X.H₀ b = none
  bsz : X.base.objs.size ≤ X.s₀.heap.objs.size
  noex : ∀ b o, X.base.get? b = some o → b ∉ X.ex
  exfs : ∀ b ∈ X.ex, b ∉ X.fs
  funs : X.s₀.heap.FunFrames X.base X.outer
  frf : ∀ b ∈ X.fs, X.H₀ b = none

structure Inv (X : Cx) (pins : List (Addr × Obj)) (σ : List (Option V)) (H : Hp) (s : Shared) : Prop where
  ok : X.Ok
  os : s.os = X.s₀.os
  bare : AllBare s.gens
  base : Un X.fs X.ex X.H₀ H X.s₀.heap s.heap
  loc : ∃ m, s.heap.Ns X.env.locals m ∧ ∀ (i : Nat) (x : Str) (v : V), X.N[i]? = some x → σ[i]? = some (some v) → Vis X.env.scope x → ∃ u, RelV v u ∧ Look X.env s.heap m x u
  cell : ∀ x c, X.env.cells.lookup x = some c → ∃ v, s.heap.IsCell c v
  free : H X.env.locals = none
  freeC : ∀ x c, X.env.cells.lookup x = some c → H c = none
  pin : ∀ p ∈ X.pn ++ pins, s.heap.get? p.1 = some p.2 ∧ H p.1 = none ∧ p.1 ≠ X.env.locals ∧ p.1 ∉ X.fs ∧ ∀ v, p.2.data ≠ .cell v
  hok : HOk X.prog X.w H s.heap
  len : σ.length = X.N.length

section
variable {X : Cx} {pins : List (Addr × Obj)} {σ : List (Option V)} {H H' : Hp} {s : Shared} {h' : Heap}

theorem Cx.Ok.nofr (ok : X.Ok) {b : Addr} {o : Obj} (e : X.base.get? b = some o) : b ∉ X.fs := fun hb => by
  have := (ok.funs.mem hb).1
  rw [e] at this; cases this
theorem Inv.bs (I : Inv X pins σ H s) : ∀ b o, X.base.get? b = some o → s.heap.get? b = some o ∧ H b = none := fun b o e =>
  ⟨I.base.keep b o (I.ok.bs b o e).1 (I.ok.bs b o e).2 (I.ok.nofr e) (I.ok.noex b o e), I.base.free b o (I.ok.bs b o e).1 (I.ok.bs b o e).2 (I.ok.noex b o e)⟩
theorem Inv.bk (I : Inv X pins σ H s) : ∀ b o, X.base.get? b = some o → s.heap.get? b = some o := fun b o e => (I.bs b o e).1
theorem Inv.mod (I : Inv X pins σ H s) : Mod X.K X.mg X.base := I.ok.mod
theorem Inv.kIn (I : Inv X pins σ H s) : X.K.In s.heap := I.ok.mod.kin.keeps I.bk
theorem Inv.nolimit (I : Inv X pins σ H s) : s.heap.NoLimit := I.ok.mod.nolimit.keeps I.bk
/-- the frame over the base: for OpenK's rules (K.In X.base is I.mod.kin) -/
theorem Inv.fr (I : Inv X pins σ H s) : ∃ m, Fr X.base X.env.locals s.heap m :=
  let ⟨m, hn, _⟩ := I.loc
  ⟨m, hn, I.bk, Nat.le_trans I.ok.bsz I.ok.above⟩
theorem Inv.lt (I : Inv X pins σ H s) : X.env.locals < s.heap.objs.size := let ⟨_, hn, _⟩ := I.loc; hn.lt
theorem Inv.sz (I : Inv X pins σ H s) : X.s₀.heap.objs.size ≤ s.heap.objs.size := Nat.le_trans I.ok.above (Nat.le_of_lt I.lt)
theorem Inv.nofs (I : Inv X pins σ H s) {a : Addr} (h : s.heap.objs.size ≤ a) : a ∉ X.fs := fun hb => by
  obtain ⟨_, o, ho, _⟩ := I.ok.funs.mem hb
  exact absurd (Nat.lt_of_lt_of_le (Heap.lt_size ho) (Nat.le_trans I.sz h)) (Nat.lt_irrefl _)
theorem Inv.cne (I : Inv X pins σ H s) : ∀ x c, X.env.cells.lookup x = some c → c ≠ X.env.locals := fun x c e z => by
  obtain ⟨v, o, ho, hd⟩ := I.cell x c e
  obtain ⟨m, ⟨o', es, ep, ho', hd', _⟩, _⟩ := I.loc
  rw [z, ho'] at ho; cases ho; rw [hd'] at hd; cases hd
theorem Inv.funs (I : Inv X pins σ H s) : s.heap.FunFrames X.base X.outer := by
  have all : ∀ (l : List Env), (∀ b ∈ frs l, b ∈ X.fs) → X.s₀.heap.FunFrames X.base l → s.heap.FunFrames X.base l := by
    intro l
    induction l with
    | nil => intro _ _; trivial
    | cons env r ih =>
      intro hs hl
      obtain ⟨hk, ⟨L, o, hf, hn, ho, hd⟩, hr⟩ := hl
      have hL : L ∈ X.fs := hs L (by unfold frs; rw [List.filterMap_cons, hf]; exact List.mem_cons_self)
      obtain ⟨sl, e⟩ := I.base.slot L o ho (I.ok.frf L hL) hL fun z => I.ok.exfs L z hL
      exact ⟨hk, ⟨L, _, hf, hn, e, hd⟩, ih (fun b hb => hs b (by unfold frs; rw [List.filterMap_cons, hf]; exact List.mem_cons_of_mem _ hb)) hr⟩
  exact all X.outer (fun _ hb => hb) I.ok.funs

/-- the frames that run, for a call -/
theorem Inv.stack (I : Inv X pins σ H s) : s.heap.FunFrames X.base X.stack := by
  rcases I.ok.stk with e | ⟨e, hf⟩
  · rw [e]; exact I.funs
  · rw [e]
    obtain ⟨m, hn, _⟩ := I.loc
    refine .cons (by rw [I.ok.kind]; decide) hf hn ?_ I.funs
    exact Heap.get?_none_of_le (Nat.le_trans I.ok.bsz I.ok.above)
theorem Inv.stkSub (I : Inv X pins σ H s) : ∀ b ∈ frs X.stack, b ∈ X.env.locals :: X.fs := fun b hb => by
  rcases I.ok.stk with e | ⟨e, hf⟩
  · rw [e] at hb; exact List.mem_cons_of_mem _ hb
  · rw [e] at hb
    unfold frs at hb
    rw [List.filterMap_cons, hf] at hb
    exact hb
theorem Inv.stkFree (I : Inv X pins σ H s) : ∀ b ∈ frs X.stack, H b = none := fun b hb => by
  rcases List.mem_cons.mp (I.stkSub b hb) with e | hb
  · rw [e]; exact I.free
  · obtain ⟨_, o, ho, _⟩ := I.ok.funs.mem hb
    exact I.base.free b o ho (I.ok.frf b hb) fun z => I.ok.exfs b z hb

/-- THE STEP: the untracked objects but the frame and the records at ch are kept (the callers' frames up to slots), the frame's map is kept, the new abstract heap is held -/
theorem Inv.step {g' : Array GenState} {t' : Nat} {d' : Drawn} {ch : List Addr} (I : Inv X pins σ H s)
    (hch : ∀ b ∈ ch, (b ∈ X.ex ∨ X.s₀.heap.objs.size ≤ b) ∧ b ≠ X.env.locals ∧ (∀ x c, X.env.cells.lookup x = some c → c ≠ b) ∧ ∀ p ∈ X.pn ++ pins, p.1 ≠ b)
    (keep : ∀ b o, b ≠ X.env.locals → b ∉ X.fs → b ∉ ch → s.heap.get? b = some o → H b = none → h'.get? b = some o)
    (slot : ∀ b o, b ≠ X.env.locals → b ∈ X.fs → b ∉ ch → s.heap.get? b = some o → H b = none → ∃ sl, h'.get? b = some { o with slots := sl }) (free : ∀ b o, b ∉ ch → s.heap.get? b = some o → H b = none → H' b = none)
    (there : ∀ b o, b ∉ ch → s.heap.get? b = some o → ∃ o', h'.get? b = some o')
    (tups : ∀ b xs, H b = some (.tup xs) → H' b = some (.tup xs)) (frzs : ∀ b o u, H b = some (.frz o u) → H' b = some (.frz o u)) (tbls : ∀ b ps, H b = some (.tbl ps) → ∃ more, H' b = some (.tbl (ps ++ more)))
    (ns : ∀ m, s.heap.Ns X.env.locals m → h'.Ns X.env.locals m) (hok : HOk X.prog X.w H' h') (hg : AllBare g') :
    Inv X pins σ H' { s with heap := h', gens := g', drawn := d', toks := t' } := by
  have neL : ∀ b o, X.s₀.heap.get? b = some o → b ≠ X.env.locals := fun b o e => Nat.ne_of_lt (Nat.lt_of_lt_of_le (Heap.lt_size e) I.ok.above)
  have neC : ∀ b o, X.s₀.heap.get? b = some o → b ∉ X.ex → b ∉ ch := fun b o e hx hb => by
    rcases (hch b hb).1 with z | z
    · exact hx z
    · exact absurd (Nat.lt_of_lt_of_le (Heap.lt_size e) z) (Nat.lt_irrefl _)
  have cellK : ∀ x c, X.env.cells.lookup x = some c → ∀ v, s.heap.IsCell c v → h'.IsCell c v := fun x c e v ⟨o, ho, hd⟩ => by
    have nch : c ∉ ch := fun z => (hch c z).2.2.1 x c e rfl
    by_cases hc : c ∈ X.fs
    · obtain ⟨sl, q⟩ := slot c o (I.cne x c e) hc nch ho (I.freeC x c e)
      exact ⟨_, q, hd⟩
    · exact ⟨o, keep c o (I.cne x c e) hc nch ho (I.freeC x c e), hd⟩
  refine ⟨I.ok, I.os, hg, ⟨fun b o e n hb hx => ?_, fun b o e n hb hx => ?_, fun b o e n hx => ?_, fun b o e hx => ?_, fun b xs e => tups b xs (I.base.tups b xs e), fun b o xs e => frzs b o xs (I.base.frzs b o xs e), fun b ps e => ?_⟩, ?_, fun x c e => ?_, ?_, fun x c e => ?_, fun p hp => ?_, hok, I.len⟩
  · exact keep b o (neL b o e) hb (neC b o e hx) (I.base.keep b o e n hb hx) (I.base.free b o e n hx)
  · obtain ⟨sl, e1⟩ := I.base.slot b o e n hb hx
    obtain ⟨sl', e2⟩ := slot b _ (neL b o e) hb (neC b o e hx) e1 (I.base.free b o e n hx)
    exact ⟨sl', e2⟩
  · obtain ⟨o', e1⟩ := I.base.there b o e hx
    exact free b o' (neC b o e hx) e1 (I.base.free b o e n hx)
  · obtain ⟨o', e1⟩ := I.base.there b o e hx
    exact there b o' (neC b o e hx) e1
  · obtain ⟨m1, e1⟩ := I.base.tbls b ps e
    obtain ⟨m2, e2⟩ := tbls b _ e1
    exact ⟨m1 ++ m2, by rw [e2, Array.append_assoc]⟩
  · obtain ⟨m, hn, hl⟩ := I.loc
    refine ⟨m, ns m hn, fun i x v e1 e2 e3 => ?_⟩
    obtain ⟨u, r, l⟩ := hl i x v e1 e2 e3
    refine ⟨u, r, ?_⟩
    rcases l with l | ⟨k, c, e, z⟩
    · exact .inl l
    · exact .inr ⟨k, c, e, cellK x c e _ z⟩
  · obtain ⟨v, z⟩ := I.cell x c e
    exact ⟨v, cellK x c e v z⟩
  · obtain ⟨m, ⟨o, _, _, ho, _⟩, _⟩ := I.loc
    exact free _ o (fun z => (hch _ z).2.1 rfl) ho I.free
  · obtain ⟨v, o, ho, hd⟩ := I.cell x c e
    exact free c o (fun z => (hch c z).2.2.1 x c e rfl) ho (I.freeC x c e)
  · obtain ⟨e, n, ne, nf, d⟩ := I.pin p hp
    have nch : p.1 ∉ ch := fun z => (hch p.1 z).2.2.2 p hp rfl
    exact ⟨keep p.1 p.2 ne nf nch e n, free p.1 p.2 nch e n, ne, nf, d⟩
/-- .. where the frame's own object is kept too -/
theorem Inv.un {t' : Nat} (I : Inv X pins σ H s) (u : Un X.fs [] H H' s.heap h') (hok : HOk X.prog X.w H' h') : Inv X pins σ H' { s with heap := h', toks := t' } := by
  obtain ⟨m, ⟨o, es, ep, ho, r⟩, _⟩ := id I.loc
  obtain ⟨sl, hL⟩ := u.any ho I.free (by simp)
  exact I.step (g' := s.gens) (d' := s.drawn) (ch := []) (fun _ z => nomatch z) (fun b o _ hb _ e n => u.keep b o e n hb (by simp)) (fun b o _ hb _ e n => u.slot b o e n hb (by simp)) (fun b o _ e n => u.free b o e n (by simp)) (fun b o _ e => u.there b o e (by simp)) u.tups u.frzs u.tbls (fun m' hm => by
    obtain ⟨o', es', ep', ho', r'⟩ := hm
    rw [ho] at ho'; cases ho'
    exact ⟨_, es', ep', hL, r'⟩) hok I.bare
/-- behind a call (or a comprehension's block): the slots of this frame may have changed too, the records at ch may have turned -/
theorem Inv.call {g' : Array GenState} {t' : Nat} {d' : Drawn} {ch : List Addr} (I : Inv X pins σ H s) (u : Un (frs X.stack) ch H H' s.heap h') (hok : HOk X.prog X.w H' h') (hg : AllBare g')
    (hch : ∀ b ∈ ch, (b ∈ X.ex ∨ X.s₀.heap.objs.size ≤ b) ∧ b ≠ X.env.locals ∧ (∀ x c, X.env.cells.lookup x = some c → c ≠ b) ∧ ∀ p ∈ X.pn ++ pins, p.1 ≠ b) :
    Inv X pins σ H' { s with heap := h', gens := g', drawn := d', toks := t' } := by
  obtain ⟨m, ⟨o, es, ep, ho, r⟩, _⟩ := id I.loc
  obtain ⟨sl, hL⟩ := u.any ho I.free fun z => (hch _ z).2.1 rfl
  exact I.step (ch := ch) hch (fun b o hL hb hc e n => u.keep b o e n (fun z => (List.mem_cons.mp (I.stkSub b z)).elim hL hb) hc) (fun b o _ _ hc e n => u.any e n hc) (fun b o hc e n => u.free b o e n hc) (fun b o hc e => u.there b o e hc) u.tups u.frzs u.tbls (fun m' hm => by
    obtain ⟨o', es', ep', ho', r'⟩ := hm
    rw [ho] at ho'; cases ho'
    exact ⟨_, es', ep', hL, r'⟩) hok hg
/-- an untracked record of ours (an iterator) has turned -/
theorem Inv.turned {t' : Nat} {it : Addr} (I : Inv X pins σ H s) (k : ∀ b o, b ≠ it → s.heap.get? b = some o → h'.get? b = some o) (hn : H it = none) (hL : it ≠ X.env.locals)
    (h1 : it ∈ X.ex ∨ X.s₀.heap.objs.size ≤ it) (h2 : ∀ x c, X.env.cells.lookup x = some c → c ≠ it) (h3 : ∀ p ∈ X.pn ++ pins, p.1 ≠ it) : Inv X pins σ H { s with heap := h', toks := t' } := by
  have nit : ∀ b u, H b = some u → b ≠ it := fun b u e z => by rw [z, hn] at e; cases e
  refine I.step (g' := s.gens) (d' := s.drawn) (ch := [it]) (fun b hb => ?_) (fun b o _ _ hc e _ => k b o (fun z => hc (by simp [z])) e) (fun b o _ _ hc e _ => ⟨o.slots, k b o (fun z => hc (by simp [z])) e⟩) (fun _ _ _ _ n => n)
    (fun b o hc e => ⟨o, k b o (fun z => hc (by simp [z])) e⟩) (fun _ _ e => e) (fun _ _ _ e => e) (fun b ps e => ⟨#[], by rw [e]; simp⟩) (fun m hm => ?_) (fun b u e => ?_) I.bare
  · have e : b = it := by simpa using hb
    subst e
    exact ⟨h1, hL, h2, h3⟩
  · obtain ⟨o, es, ep, ho, r⟩ := hm
    exact ⟨o, es, ep, k _ o (Ne.symm hL) ho, r⟩
  · refine (I.hok b u e).stay (fun c v hc q => k c v ?_ q) (fun _ q => q) fun _ _ q => q
    rcases hc with z | z
    · rw [z]; exact nit b u e
    · exact nit c _ z
theorem Inv.tok (I : Inv X pins σ H s) (t : Nat) : Inv X pins σ H { s with toks := t } := I.un (h' := s.heap) (t' := t) Un.refl I.hok
/-- all objects kept -/
theorem Inv.kept {t' : Nat} (I : Inv X pins σ H s) (k : ∀ b u, s.heap.get? b = some u → h'.get? b = some u) : Inv X pins σ H { s with heap := h', toks := t' } := I.un (Un.kept k) (I.hok.kept k)
/-- a new object laid and tracked -/
theorem Inv.laid {a : Addr} {o : HO} {t' : Nat} (I : Inv X pins σ H s) (k : ∀ b u, s.heap.get? b = some u → h'.get? b = some u) (hp : s.heap.objs.size ≤ a) (new : ObjOk X.prog X.w (upd H a o) h' a o) :
    Inv X pins σ (upd H a o) { s with heap := h', toks := t' } := I.un (Un.laid k hp (I.hok.fresh hp)) (I.hok.laid k hp new)
/-- an object written -/
theorem Inv.write {x e : Addr} {o : HO} {t' : Nat} (I : Inv X pins σ H s) (mu : Mut (H x)) (he : e = x ∨ H e = some (.own x)) (k : ∀ b u, b ≠ e → s.heap.get? b = some u → h'.get? b = some u) (heo : ∃ u, h'.get? e = some u)
    (new : ObjOk X.prog X.w (upd H x o) h' x o) : Inv X pins σ (upd H x o) { s with heap := h', toks := t' } := I.un (Un.write mu he k heo) (I.hok.write mu he k heo new)
/-- forgetting slots, pins -/
theorem Inv.weak {σ' : List (Option V)} (I : Inv X pins σ H s) (hl : σ'.length = σ.length) (w : ∀ (i : Nat) v, σ'[i]? = some (some v) → σ[i]? = some (some v)) : Inv X pins σ' H s :=
  ⟨I.ok, I.os, I.bare, I.base, let ⟨m, hn, hl'⟩ := I.loc; ⟨m, hn, fun i x v e1 e2 e3 => hl' i x v e1 (w i v e2) e3⟩, I.cell, I.free, I.freeC, I.pin, I.hok, hl.trans I.len⟩
theorem Inv.pins_of {pins' : List (Addr × Obj)} (I : Inv X pins σ H s) (h : ∀ p ∈ pins', s.heap.get? p.1 = some p.2 ∧ H p.1 = none ∧ p.1 ≠ X.env.locals ∧ p.1 ∉ X.fs ∧ ∀ v, p.2.data ≠ .cell v) : Inv X pins' σ H s :=
  ⟨I.ok, I.os, I.bare, I.base, I.loc, I.cell, I.free, I.freeC, fun p hp => (List.mem_append.mp hp).elim (fun z => I.pin p (List.mem_append_left _ z)) (h p), I.hok, I.len⟩

theorem nodup_ix {N : List Str} (hN : N.Nodup) {i j : Nat} {x : Str} (a : N[i]? = some x) (b : N[j]? = some x) : i = j := by
  obtain ⟨h1, e1⟩ := List.getElem?_eq_some_iff.mp a
  obtain ⟨h2, e2⟩ := List.getElem?_eq_some_iff.mp b
  exact (List.getElem_inj hN).mp (e1.trans e2.symm)

/-- a name is stored; what changed -/
theorem store_ok2 {M : Model} {A : Around} {E : Value → Shared → Prop} {i : Nat} {x : Str} {v : V} {u : Value} {Q : Unit → Shared → Prop} (I : Inv X pins σ H s) (hN : X.N.Nodup) (hi : X.N[i]? = some x) (hx : Loc X.env.scope x) (r : RelV v u)
    (h : ∀ s', Inv X pins (σ.set i (some v)) H s' → (∃ a, Heap.SameBut a s.heap s'.heap ∧ (a = X.env.locals ∨ X.env.cells.lookup x = some a)) → Q () s') (hf : X.fn x = true ∨ X.env.scope.names.lookup x = some .local := by first | exact .inl rfl | exact .inr rfl | assumption) : wpAny M A (storeName X.env x u) Q E s := by
  obtain ⟨m, hn, hl⟩ := id I.loc
  have hcls : (X.env.scope.kind == .class || (X.env.scope.kind == .module && X.env.locals != X.env.globals)) = false := by rw [I.ok.kind]; rfl
  have hiσ : i < σ.length := by rw [I.len]; exact (List.getElem?_eq_some_iff.mp hi).1
  have cne := I.cne
  have tracked : ∀ {a : Addr} {h' : Heap}, (∃ o, s.heap.get? a = some o ∧ H a = none) → Heap.SameBut a s.heap h' → HOk X.prog X.w H h' := fun {a h'} ha hs b ob e => by
    obtain ⟨_, _, hfree⟩ := ha
    refine (I.hok b ob e).stay (fun c w' hc q => (hs.2 c ?_).trans q) (fun _ q => q) fun _ _ q => q
    rintro rfl
    rcases hc with rfl | hc
    · rw [hfree] at e; cases e
    · rw [hfree] at hc; cases hc
  rcases hx with hk | hk
  · refine wpAny_storeName_local hk hn (fun h' hn' hs => ?_) hcls
    obtain ⟨oL, _, _, hoL, _⟩ := id hn
    refine h _ ⟨I.ok, I.os, I.bare, ⟨fun b o e n hb hx => ?_, fun b o e n hb hx => ?_, I.base.free, fun b o e hx => ?_, I.base.tups, I.base.frzs, I.base.tbls⟩, ⟨_, hn', fun j y v' e1 e2 e3 => ?_⟩, fun y c e => ?_, I.free, I.freeC, fun p hp => ?_, tracked ⟨oL, hoL, I.free⟩ hs, by simpa using I.len⟩ ⟨_, hs, .inl rfl⟩
    · exact (hs.2 b (Nat.ne_of_lt (Nat.lt_of_lt_of_le (Heap.lt_size e) I.ok.above))).trans (I.base.keep b o e n hb hx)
    · obtain ⟨sl, e1⟩ := I.base.slot b o e n hb hx
      exact ⟨sl, (hs.2 b (Nat.ne_of_lt (Nat.lt_of_lt_of_le (Heap.lt_size e) I.ok.above))).trans e1⟩
    · obtain ⟨o', e1⟩ := I.base.there b o e hx
      exact ⟨o', (hs.2 b (Nat.ne_of_lt (Nat.lt_of_lt_of_le (Heap.lt_size e) I.ok.above))).trans e1⟩
    · by_cases hj : j = i
      · subst hj
        rw [hi] at e1; cases e1
        rw [List.getElem?_set_self hiσ] at e2
        cases e2
        exact ⟨u, r, .inl ⟨hk, by simp⟩⟩
      · rw [List.getElem?_set_ne (Ne.symm hj)] at e2
        obtain ⟨u', r', q⟩ := hl j y v' e1 e2 e3
        refine ⟨u', r', ?_⟩
        rcases q with ⟨k, e⟩ | ⟨k, c, e, z⟩
        · refine .inl ⟨k, ?_⟩
          have : y ≠ x := fun e => hj (nodup_ix hN e1 (e ▸ hi))
          simp [this, e]
        · exact .inr ⟨k, c, e, z.sameBut hs (cne y c e)⟩
    · obtain ⟨w', z⟩ := I.cell y c e
      exact ⟨w', z.sameBut hs (cne y c e)⟩
    · obtain ⟨e, n, ne, nf, d⟩ := I.pin p hp
      exact ⟨(hs.2 p.1 ne).trans e, n, ne, nf, d⟩
  · have hfn : X.fn x = true := by
      rcases hf with z | z
      · exact z
      · rw [z] at hk; cases hk
    obtain ⟨c, hc⟩ := I.ok.has x (.inl hk)
    obtain ⟨w', z⟩ := I.cell x c hc
    refine wpAny_storeName_cell I.ok.kind hk hc z (fun h' hc' hs => ?_)
    obtain ⟨oc, hoc, hocd⟩ := id z
    refine h { s with heap := h' } ⟨I.ok, I.os, I.bare, ⟨fun b o e n hb hx => ?_, fun b o e n hb hx => ?_, I.base.free, fun b o e hx => ?_, I.base.tups, I.base.frzs, I.base.tbls⟩, ⟨m, hn.sameBut hs (Ne.symm (cne x c hc)), fun j y v' e1 e2 e3 => ?_⟩, fun y c' e => ?_, I.free, I.freeC, fun p hp => ?_, tracked ⟨oc, hoc, I.freeC x c hc⟩ hs, by simpa using I.len⟩ ⟨c, hs, .inr hc⟩
    · exact (hs.2 b (Nat.ne_of_lt (Nat.lt_of_lt_of_le (Heap.lt_size e) (I.ok.cab x c hfn hc)))).trans (I.base.keep b o e n hb hx)
    · obtain ⟨sl, e1⟩ := I.base.slot b o e n hb hx
      exact ⟨sl, (hs.2 b (Nat.ne_of_lt (Nat.lt_of_lt_of_le (Heap.lt_size e) (I.ok.cab x c hfn hc)))).trans e1⟩
    · obtain ⟨o', e1⟩ := I.base.there b o e hx
      exact ⟨o', (hs.2 b (Nat.ne_of_lt (Nat.lt_of_lt_of_le (Heap.lt_size e) (I.ok.cab x c hfn hc)))).trans e1⟩
    · by_cases hj : j = i
      · subst hj
        rw [hi] at e1; cases e1
        rw [List.getElem?_set_self hiσ] at e2
        cases e2
        exact ⟨u, r, .inr ⟨.inl hk, c, hc, hc'⟩⟩
      · rw [List.getElem?_set_ne (Ne.symm hj)] at e2
        obtain ⟨u', r', q⟩ := hl j y v' e1 e2 e3
        refine ⟨u', r', ?_⟩
        rcases q with q | ⟨k, c', e, z'⟩
        · exact .inl q
        · refine .inr ⟨k, c', e, z'.sameBut hs ?_⟩
          rintro rfl
          exact hj (nodup_ix hN e1 (I.ok.inj _ _ _ e hc ▸ hi))
    · by_cases hcc : c' = c
      · subst hcc; exact ⟨_, hc'⟩
      · obtain ⟨w2, z2⟩ := I.cell y c' e
        exact ⟨w2, z2.sameBut hs hcc⟩
    · obtain ⟨e, n, ne, nf, d⟩ := I.pin p hp
      refine ⟨(hs.2 p.1 ?_).trans e, n, ne, nf, d⟩
      intro q
      rw [q, hoc] at e
      have q' : oc = p.2 := Option.some.inj e
      exact d w' (by rw [← q']; exact hocd)
theorem store_ok {M : Model} {A : Around} {E : Value → Shared → Prop} {i : Nat} {x : Str} {v : V} {u : Value} {Q : Unit → Shared → Prop} (I : Inv X pins σ H s) (hN : X.N.Nodup) (hi : X.N[i]? = some x) (hx : Loc X.env.scope x) (r : RelV v u)
    (h : ∀ s', Inv X pins (σ.set i (some v)) H s' → Q () s') (hf : X.fn x = true ∨ X.env.scope.names.lookup x = some .local := by first | exact .inl rfl | exact .inr rfl | assumption) : wpAny M A (storeName X.env x u) Q E s :=
  store_ok2 I hN hi hx r (fun s' I' _ => h s' I') hf
/-- behind a call or a block, the state as it is -/
theorem Inv.call' {s' : Shared} {ch : List Addr} (I : Inv X pins σ H s) (ho : s'.os = s.os) (u : Un (frs X.stack) ch H H' s.heap s'.heap) (hok : HOk X.prog X.w H' s'.heap) (hg : AllBare s'.gens)
    (hch : ∀ b ∈ ch, (b ∈ X.ex ∨ X.s₀.heap.objs.size ≤ b) ∧ b ≠ X.env.locals ∧ (∀ x c, X.env.cells.lookup x = some c → c ≠ b) ∧ ∀ p ∈ X.pn ++ pins, p.1 ≠ b) : Inv X pins σ H' s' := by
  obtain ⟨h', g', d', t', o'⟩ := s'
  have e : o' = s.os := ho
  subst e
  exact I.call (g' := g') (t' := t') (d' := d') u hok hg hch
end

/-! ### the judgements -/
/-- an exception: its class, its own dict's address (where it has one), the abstract heap behind it -/
abbrev XK := Value → Option Addr → Hp → Prop
abbrev St := List (Option V)
abbrev VK := V → Hp → Prop
/-- an expression's reading; a test's; an argument list's -/
abbrev TE := St → Hp → VK → Prop
abbrev TT := St → Hp → (Bool → Hp → Prop) → Prop
abbrev TA := St → Hp → (List V → Hp → Prop) → Prop
/-- what is wanted behind a statement -/
structure Ends where
  nx : St → Hp → Prop
  rt : VK
  bk : St → Hp → Prop := fun _ _ => False
  ct : St → Hp → Prop := fun _ _ => False
abbrev TS := Ends → St → Hp → Prop

def EP (X : Cx) (pins : List (Addr × Obj)) (σ : St) (Q : VK) (u : Value) (s' : Shared) : Prop := ∃ v H', Inv X pins σ H' s' ∧ RelV v u ∧ Q v H'
def TP (X : Cx) (pins : List (Addr × Obj)) (σ : St) (Q : Bool → Hp → Prop) (b : Bool) (s' : Shared) : Prop := ∃ H', Inv X pins σ H' s' ∧ Q b H'
def AP (X : Cx) (pins : List (Addr × Obj)) (σ : St) (Q : List V → Hp → Prop) (us : List Value) (s' : Shared) : Prop := ∃ vs H', Inv X pins σ H' s' ∧ Vals vs us ∧ Q vs H'
def SP (X : Cx) (pins : List (Addr × Obj)) (D : Ends) (f : Flow) (s' : Shared) : Prop :=
  match f with
  | .next => ∃ σ' H', Inv X pins σ' H' s' ∧ D.nx σ' H'
  | .brk => ∃ σ' H', Inv X pins σ' H' s' ∧ D.bk σ' H'
  | .cont => ∃ σ' H', Inv X pins σ' H' s' ∧ D.ct σ' H'
  | .ret u => ∃ v σ' H', Inv X pins σ' H' s' ∧ RelV v u ∧ D.rt v H'

def PE (X : Cx) (e : Expr) (t : TE) : Prop :=
  ∀ (pins : List (Addr × Obj)) (s : Shared) (σ : St) (H : Hp) (Q : VK), Inv X pins σ H s → t σ H Q → wpAny (model X.prog X.w) X.A (eval e X.env) (EP X pins σ Q) X.xe s
def PT (X : Cx) (e : Expr) (t : TT) : Prop :=
  ∀ (pins : List (Addr × Obj)) (s : Shared) (σ : St) (H : Hp) (Q : Bool → Hp → Prop), Inv X pins σ H s → t σ H Q → wpAny (model X.prog X.w) X.A (isTrue e X.env (eval e X.env)) (TP X pins σ Q) X.xe s
/-- a test whatever its 'whole' is (and, or) -/
def PW (X : Cx) (e : Expr) (t : TT) : Prop :=
  ∀ (whole : Sem Value) (pins : List (Addr × Obj)) (s : Shared) (σ : St) (H : Hp) (Q : Bool → Hp → Prop), Inv X pins σ H s → t σ H Q → wpAny (model X.prog X.w) X.A (isTrue e X.env whole) (TP X pins σ Q) X.xe s
theorem PW.pt {X : Cx} {e : Expr} {t : TT} (h : PW X e t) : PT X e t := h _
/-- an argument list (no star), from the left -/
def PA (X : Cx) (es : List Expr) (t : TA) : Prop :=
  ∀ (pos : Pos) (pins : List (Addr × Obj)) (s : Shared) (σ : St) (H : Hp) (Q : List V → Hp → Prop), Inv X pins σ H s → t σ H Q → wpAny (model X.prog X.w) X.A (spliced (backTo pos (starEach es X.env))) (AP X pins σ Q) X.xe s
def PS (X : Cx) (st : Stmt) (t : TS) : Prop :=
  ∀ (pins : List (Addr × Obj)) (s : Shared) (σ : St) (H : Hp) (D : Ends), Inv X pins σ H s → t D σ H → wpAny (model X.prog X.w) X.A (exec st X.env) (SP X pins D) X.xe s
def PSs (X : Cx) (st : List Stmt) (t : TS) : Prop :=
  ∀ (pins : List (Addr × Obj)) (s : Shared) (σ : St) (H : Hp) (D : Ends), Inv X pins σ H s → t D σ H → wpAny (model X.prog X.w) X.A (execs st X.env) (SP X pins D) X.xe s
/-- weaken the end -/
theorem thn {α : Type} {t : Sem α} {Q Q' : α → Shared → Prop} {M : Model} {A : Around} {E : Value → Shared → Prop} {s : Shared} (h : wpAny M A t Q E s) (hQ : ∀ a s, Q a s → Q' a s) : wpAny M A t Q' E s := wpAny_mono h hQ fun _ _ x => x
end L2

namespace L2
open PySem PySem.Spec PyProof.Rows
section
variable {X : Cx}

/-- two expressions in a row -/
theorem bin {a b : Expr} {ta tb : TE} (ha : PE X a ta) (hb : PE X b tb) {pins : List (Addr × Obj)} {s : Shared} {σ : St} {H : Hp} {R : V → V → Hp → Prop} (I : Inv X pins σ H s) (h : ta σ H fun x H1 => tb σ H1 fun y H2 => R x y H2)
    {α : Type} {Q : α → Shared → Prop} {f : Value → Value → Sem α}
    (hf : ∀ v u s2 x y H2, Inv X pins σ H2 s2 → RelV x v → RelV y u → R x y H2 → wpAny (model X.prog X.w) X.A (f v u) Q X.xe s2) :
    wpAny (model X.prog X.w) X.A (eval a X.env) (fun v s₁ => wpAny (model X.prog X.w) X.A (eval b X.env) (fun u s₂ => wpAny (model X.prog X.w) X.A (f v u) Q X.xe s₂) X.xe s₁) X.xe s := by
  refine thn (ha pins s σ H _ I h) fun v s1 ⟨x, H1, I1, r1, q1⟩ => ?_
  refine thn (hb pins s1 σ H1 _ I1 q1) fun u s2 ⟨y, H2, I2, r2, q2⟩ => ?_
  exact hf v u s2 x y H2 I2 r1 r2 q2

/-! ### names and constants -/
def tVar (i : Nat) : TE := fun σ H Q => ∃ v, σ[i]? = some (some v) ∧ Q v H
def tC (v : V) : TE := fun _ H Q => Q v H
theorem pe_var {i : Nat} {x : Str} {pos : Pos} (hN : X.N[i]? = some x) (hv : Vis X.env.scope x) (hd : (x == ("__debug__" : Str)) = false := by decide) (hcd : (x == ("__classdict__" : Str)) = false := by decide) : PE X (.Name x pos) (tVar i) := by
  intro pins s σ H Q I h
  obtain ⟨v, e, h⟩ := h
  obtain ⟨m, hn, hl⟩ := I.loc
  obtain ⟨u, r, l⟩ := hl i x v hN e hv
  have fin : EP X pins σ Q u s := ⟨v, H, I, r, h⟩
  rcases l with ⟨hk, hm⟩ | ⟨hk, c, hc, hcell⟩
  · exact wpAny_Name (wpAny_loadName_local I.ok.kind hk hn hm fin) hd
  · rcases hk with hk | hk
    · exact wpAny_Name (wpAny_loadName_cell I.ok.kind hk hc hcell fin) hd
    · exact wpAny_Name (wpAny_loadName_free I.ok.kind hk hc hcell fin hcd) hd
theorem pe_int {i j pos} : PE X (.Constant (.int i) j pos) (tC (.int i)) := fun _ _ _ H _ I h => wpAny_Constant_int ⟨.int i, H, I.tok _, ⟨_, rfl⟩, h⟩
theorem pe_bl {b j pos} : PE X (.Constant (.bool b) j pos) (tC (.bl b)) := fun _ _ _ H _ I h => Constant_bool ⟨.bl b, H, I, rfl, h⟩
theorem pe_non {j pos} : PE X (.Constant .none j pos) (tC .non) := fun _ _ _ H _ I h => Constant_none ⟨.non, H, I, rfl, h⟩
theorem pe_str {x j pos} : PE X (.Constant (.str x) j pos) (tC (.str x)) := fun _ _ _ H _ I h => Calls.Constant_str ⟨.str x, H, I.tok _, ⟨_, rfl⟩, h⟩

/-- a global name of the def -/
def Gl (X : Cx) (x : Str) : Prop := X.env.kindOf x = some .globalImplicit
theorem ld_glob {E : Value → Shared → Prop} {pins : List (Addr × Obj)} {s : Shared} {σ : St} {H : Hp} {x : Str} {u : Value} {pos : Pos} {Q : Value → Shared → Prop} (I : Inv X pins σ H s) (hg : Gl X x) (hm : X.mg x = some u) (h : Q u s)
    (hd : (x == ("__debug__" : Str)) = false := by decide) : wpAny (model X.prog X.w) X.A (eval (.Name x pos) X.env) Q E s :=
  Calls.Name_function_global I.ok.kind hg (Calls.loadGlobal_global (by rw [I.ok.glob]; exact I.mod.glob.keeps I.bk) hm h) hd
theorem ld_blt {E : Value → Shared → Prop} {pins : List (Addr × Obj)} {s : Shared} {σ : St} {H : Hp} {x : Str} {u : Value} {pos : Pos} {Q : Value → Shared → Prop} (I : Inv X pins σ H s) (hg : Gl X x) (hm : X.mg x = none) (hv : bootBuiltins x = some u) (h : Q u s)
    (hn : x ≠ "__name__" := by decide) (hd : (x == ("__debug__" : Str)) = false := by decide) : wpAny (model X.prog X.w) X.A (eval (.Name x pos) X.env) Q E s := by
  obtain ⟨mb, h1, h2⟩ := I.mod.blt
  exact Calls.Name_function_global I.ok.kind hg (Calls.loadGlobal_builtin (by rw [I.ok.glob]; exact I.mod.glob.keeps I.bk) hm (by rw [I.ok.blt]; exact h1.keeps I.bk) ((h2 x hn).trans hv) h) hd
/-- a module's constant, a class, a function, as a value -/
theorem pe_glob {x : Str} {v : V} {u : Value} {pos : Pos} (hg : Gl X x) (hm : X.mg x = some u) (r : RelV v u) (hd : (x == ("__debug__" : Str)) = false := by decide) : PE X (.Name x pos) (tC v) :=
  fun _ _ _ H _ I h => ld_glob I hg hm ⟨v, H, I, r, h⟩ hd
theorem pe_bltn {x : Str} {v : V} {u : Value} {pos : Pos} (hg : Gl X x) (hm : X.mg x = none) (hv : bootBuiltins x = some u) (r : RelV v u) (hn : x ≠ "__name__" := by decide) (hd : (x == ("__debug__" : Str)) = false := by decide) : PE X (.Name x pos) (tC v) :=
  fun _ _ _ H _ I h => ld_blt I hg hm hv ⟨v, H, I, r, h⟩ hn hd

/-! ### arithmetic -/
/-- two ints -/
def t2I (ta tb : TE) (k : Int → Int → Hp → Prop) : St → Hp → Prop := fun σ H => ta σ H fun x H1 => tb σ H1 fun y H2 => ∃ i j, x = .int i ∧ y = .int j ∧ k i j H2
def tAdd (ta tb : TE) : TE := fun σ H Q => t2I ta tb (fun i j H2 => Q (.int (i + j)) H2) σ H
def tSub (ta tb : TE) : TE := fun σ H Q => t2I ta tb (fun i j H2 => Q (.int (i - j)) H2) σ H
/-- the left factor below 2^64 -/
def tMul (ta tb : TE) : TE := fun σ H Q => t2I ta tb (fun i j H2 => (-(2 ^ 64) < i ∧ i < 2 ^ 64) ∧ Q (.int (i * j)) H2) σ H
variable {a b : Expr} {ta tb : TE} {pos : Pos}
theorem pe_add (ha : PE X a ta) (hb : PE X b tb) : PE X (.BinOp a .Add b pos) (tAdd ta tb) := by
  intro pins s σ H Q I h
  refine wpAny_BinOp (bin ha hb I h fun v u s2 x y H2 I2 rx ry q => ?_)
  obtain ⟨i, j, rfl, rfl, q⟩ := q
  obtain ⟨t, rfl⟩ := rx
  obtain ⟨t', rfl⟩ := ry
  exact add_int ⟨.int _, H2, I2.tok _, ⟨_, rfl⟩, q⟩
theorem pe_sub (ha : PE X a ta) (hb : PE X b tb) : PE X (.BinOp a .Sub b pos) (tSub ta tb) := by
  intro pins s σ H Q I h
  refine wpAny_BinOp (bin ha hb I h fun v u s2 x y H2 I2 rx ry q => ?_)
  obtain ⟨i, j, rfl, rfl, q⟩ := q
  obtain ⟨t, rfl⟩ := rx
  obtain ⟨t', rfl⟩ := ry
  exact sub_int ⟨.int _, H2, I2.tok _, ⟨_, rfl⟩, q⟩
theorem pe_mul (ha : PE X a ta) (hb : PE X b tb) : PE X (.BinOp a .Mult b pos) (tMul ta tb) := by
  intro pins s σ H Q I h
  refine wpAny_BinOp (bin ha hb I h fun v u s2 x y H2 I2 rx ry q => ?_)
  obtain ⟨i, j, rfl, rfl, ⟨q1, q2⟩, q⟩ := q
  obtain ⟨t, rfl⟩ := rx
  obtain ⟨t', rfl⟩ := ry
  exact mul_int ⟨.int _, H2, I2.tok _, ⟨_, rfl⟩, q⟩ (.of_left (intBits_le_64 q1 q2))

/-! ### comparisons -/
def PC (X : Cx) (op : CmpOp) (a b : Expr) (t : TE) : Prop :=
  ∀ (pins : List (Addr × Obj)) (s : Shared) (σ : St) (H : Hp) (Q : VK), Inv X pins σ H s → t σ H Q →
    wpAny (model X.prog X.w) X.A (eval a X.env) (fun v s₁ => wpAny (model X.prog X.w) X.A (eval b X.env) (fun u s₂ => wpAny (model X.prog X.w) X.A (compareOp op v u) (EP X pins σ Q) X.xe s₂) X.xe s₁) X.xe s
theorem nobehind (b : Expr) {op : CmpOp} (h : op ≠ .In) (h2 : op ≠ .NotIn) : behindInMarks op b = false := by
  have e1 : (op == CmpOp.In) = false := by cases op <;> first | rfl | exact absurd rfl h
  have e2 : (op == CmpOp.NotIn) = false := by cases op <;> first | rfl | exact absurd rfl h2
  cases b <;> simp [behindInMarks, e1, e2]
def tCmp (p : Int → Int → Bool) (ta tb : TE) : TE := fun σ H Q => t2I ta tb (fun i j H2 => Q (.bl (p i j)) H2) σ H
abbrev tLt : TE → TE → TE := tCmp fun i j => decide (i < j)
abbrev tLe : TE → TE → TE := tCmp fun i j => decide (i ≤ j)
abbrev tGt : TE → TE → TE := tCmp fun i j => decide (j < i)
abbrev tGe : TE → TE → TE := tCmp fun i j => decide (j ≤ i)
abbrev tEqI : TE → TE → TE := tCmp fun i j => decide (i = j)
abbrev tNeI : TE → TE → TE := tCmp fun i j => !decide (i = j)
/-- a comparison of two ints, by its rule -/
theorem pc_int {op : CmpOp} {p : Int → Int → Bool} (ha : PE X a ta) (hb : PE X b tb)
    (rule : ∀ (i j : Int) (t u : Tok) (Q : Value → Shared → Prop) (s : Shared), Q (.bool (p i j)) s → wpAny (model X.prog X.w) X.A (compareOp op (.int i t) (.int j u)) Q X.xe s) : PC X op a b (tCmp p ta tb) := by
  intro pins s σ H Q I h
  refine bin ha hb I h fun v u s2 x y H2 I2 rx ry q => ?_
  obtain ⟨i, j, rfl, rfl, q⟩ := q
  obtain ⟨t, rfl⟩ := rx
  obtain ⟨t', rfl⟩ := ry
  exact rule i j t t' _ s2 ⟨.bl _, H2, I2, rfl, q⟩
theorem pc_lt (ha : PE X a ta) (hb : PE X b tb) : PC X .Lt a b (tLt ta tb) := pc_int ha hb fun _ _ _ _ _ _ h => lt_int h
theorem pc_le (ha : PE X a ta) (hb : PE X b tb) : PC X .LtE a b (tLe ta tb) := pc_int ha hb fun _ _ _ _ _ _ h => le_int h
theorem pc_gt (ha : PE X a ta) (hb : PE X b tb) : PC X .Gt a b (tGt ta tb) := pc_int ha hb fun _ _ _ _ _ _ h => gt_int h
theorem pc_ge (ha : PE X a ta) (hb : PE X b tb) : PC X .GtE a b (tGe ta tb) := pc_int ha hb fun _ _ _ _ _ _ h => ge_int h
theorem pc_eqI (ha : PE X a ta) (hb : PE X b tb) : PC X .Eq a b (tEqI ta tb) := pc_int ha hb fun _ _ _ _ _ _ h => eq_int (by rw [Bool.beq_eq_decide_eq]; exact h)
theorem pc_neI (ha : PE X a ta) (hb : PE X b tb) : PC X .NotEq a b (tNeI ta tb) := pc_int ha hb fun _ _ _ _ _ _ h => ne_int (by rw [bne, Bool.beq_eq_decide_eq]; exact h)
/-- is None -/
def tIsN (ta : TE) : TE := fun σ H Q => ta σ H fun x H1 => Q (.bl (decide (x = .non))) H1
def tNotN (ta : TE) : TE := fun σ H Q => ta σ H fun x H1 => Q (.bl (!decide (x = .non))) H1
theorem RelV.none_iff {x : V} {v : Value} (r : RelV x v) : (v == Value.none) = decide (x = .non) := by
  cases x with
  | non => cases r; rfl
  | bl _ => cases r; rfl
  | int _ => obtain ⟨t, rfl⟩ := r; rfl
  | str _ => obtain ⟨t, rfl⟩ := r; rfl
  | byt _ => obtain ⟨t, rfl⟩ := r; rfl
  | flt _ => obtain ⟨t, rfl⟩ := r; rfl
  | ref _ => cases r; rfl
  | ty _ => cases r; rfl
theorem pc_isN {j pos'} (ha : PE X a ta) : PC X .Is a (.Constant .none j pos') (tIsN ta) := by
  intro pins s σ H Q I h
  refine thn (ha pins s σ H _ I h) fun v s1 ⟨x, H1, I1, r1, q1⟩ => ?_
  exact Constant_none (is_none_gen ⟨.bl _, H1, I1, by rw [r1.none_iff]; rfl, q1⟩)
theorem pc_notN {j pos'} (ha : PE X a ta) : PC X .IsNot a (.Constant .none j pos') (tNotN ta) := by
  intro pins s σ H Q I h
  refine thn (ha pins s σ H _ I h) fun v s1 ⟨x, H1, I1, r1, q1⟩ => ?_
  exact Constant_none (isnot_none_gen ⟨.bl _, H1, I1, by rw [r1.none_iff]; rfl, q1⟩)
/-- a comparison as a value, as a test -/
def tB (t : TE) : TT := fun σ H Q => t σ H fun x H1 => ∃ c, x = .bl c ∧ Q c H1
theorem pe_cmp {op : CmpOp} {t : TE} (h : PC X op a b t) (h1 : behindInMarks op b = false := by first | exact nobehind _ (by decide) (by decide) | rfl) : PE X (.Compare a [op] [b] pos) t := fun pins s σ H Q I hw => wpAny_Compare1 (h pins s σ H Q I hw) h1
theorem pt_cmp {op : CmpOp} {t : TE} (h : PC X op a b t) (h1 : behindInMarks op b = false := by first | exact nobehind _ (by decide) (by decide) | rfl) : PT X (.Compare a [op] [b] pos) (tB t) := by
  intro pins s σ H Q I hw
  refine wpAny_isTrue_Compare1 (thn (h pins s σ H _ I hw) fun v s1 h1 => thn h1 fun u s2 h2 => thn h2 fun c s3 ⟨x, H1, I1, r1, q1⟩ => ?_) h1
  obtain ⟨d, rfl, q⟩ := q1
  cases r1
  exact wpAny_truthy_bool ⟨H1, I1, q⟩
/-- an expression whose value is a bool, as a test -/
theorem pt_val {e : Expr} {t : TE} (h : PE X e t) (he : ∀ whole, isTrue e X.env whole = (do let v ← whole; standAt e.pos; holding [v] (truthy v)) := by intro _; rfl) : PT X e (tB t) := by
  intro pins s σ H Q I hw
  refine isTrue_plain (thn (h pins s σ H _ I hw) fun v s1 ⟨x, H1, I1, r1, q1⟩ => ?_) (he _)
  obtain ⟨d, rfl, q⟩ := q1
  cases r1
  exact wpAny_truthy_bool ⟨H1, I1, q⟩

/-! ### and, or, not -/
variable {tA tB' : TT} {rest : List Expr}
def tAnd (t u : TT) : TT := fun σ H Q => t σ H fun c H1 => if c = true then u σ H1 Q else Q false H1
def tOr (t u : TT) : TT := fun σ H Q => t σ H fun c H1 => if c = true then Q true H1 else u σ H1 Q
def tNot (t : TT) : TT := fun σ H Q => t σ H fun c H1 => Q (!c) H1
theorem pw_and1 (ha : PT X a tA) : PW X (.BoolOp .And [a] pos) tA := by
  intro wh pins s σ H Q I h
  refine isTrue_and (thn (ha pins s σ H Q I h) fun c s1 e => ?_)
  cases c with
  | true => exact isTrue_and_nil e
  | false => exact e
theorem pw_or1 (ha : PT X a tA) : PW X (.BoolOp .Or [a] pos) tA := by
  intro wh pins s σ H Q I h
  refine isTrue_or (thn (ha pins s σ H Q I h) fun c s1 e => ?_)
  cases c with
  | false => exact isTrue_or_nil e
  | true => exact e
theorem pw_and (ha : PT X a tA) (hb : PW X (.BoolOp .And (b :: rest) pos) tB') : PW X (.BoolOp .And (a :: b :: rest) pos) (tAnd tA tB') := by
  intro wh pins s σ H Q I h
  refine isTrue_and (thn (ha pins s σ H _ I h) fun c s1 ⟨H1, I1, q1⟩ => ?_)
  cases c with
  | true => exact hb wh pins s1 σ H1 Q I1 q1
  | false => exact ⟨H1, I1, q1⟩
theorem pw_or (ha : PT X a tA) (hb : PW X (.BoolOp .Or (b :: rest) pos) tB') : PW X (.BoolOp .Or (a :: b :: rest) pos) (tOr tA tB') := by
  intro wh pins s σ H Q I h
  refine isTrue_or (thn (ha pins s σ H _ I h) fun c s1 ⟨H1, I1, q1⟩ => ?_)
  cases c with
  | true => exact ⟨H1, I1, q1⟩
  | false => exact hb wh pins s1 σ H1 Q I1 q1
theorem pt_not (ha : PT X a tA) : PT X (.UnaryOp .Not a pos) (tNot tA) := by
  intro pins s σ H Q I h
  exact isTrue_not (ha pins s σ H (fun c H1 => Q (!c) H1) I h)
/-- .. as values (bools) -/
def tAndV (ta tb : TE) : TE := fun σ H Q => ta σ H fun x H1 => ∃ c, x = .bl c ∧ if c = true then tb σ H1 Q else Q (.bl false) H1
def tOrV (ta tb : TE) : TE := fun σ H Q => ta σ H fun x H1 => ∃ c, x = .bl c ∧ if c = true then Q (.bl true) H1 else tb σ H1 Q
def tNotV (ta : TE) : TE := fun σ H Q => ta σ H fun x H1 => ∃ c, x = .bl c ∧ Q (.bl (!c)) H1
theorem pe_one {op} {t : TE} (h : PE X a t) : PE X (.BoolOp op [a] pos) t := fun pins s σ H Q I hw => BoolOp_one (h pins s σ H Q I hw)
theorem pe_and (ha : PE X a ta) (hb : PE X (.BoolOp .And (b :: rest) pos) tb) : PE X (.BoolOp .And (a :: b :: rest) pos) (tAndV ta tb) := by
  intro pins s σ H Q I h
  refine BoolOp_and (thn (ha pins s σ H _ I h) fun v s1 ⟨x, H1, I1, r1, q1⟩ => ?_)
  obtain ⟨c, rfl, q1⟩ := q1
  cases r1
  refine wpAny_truthy_bool ?_
  cases c with
  | true => exact hb pins s1 σ H1 Q I1 q1
  | false => exact ⟨.bl false, H1, I1, rfl, q1⟩
theorem pe_or (ha : PE X a ta) (hb : PE X (.BoolOp .Or (b :: rest) pos) tb) : PE X (.BoolOp .Or (a :: b :: rest) pos) (tOrV ta tb) := by
  intro pins s σ H Q I h
  refine BoolOp_or (thn (ha pins s σ H _ I h) fun v s1 ⟨x, H1, I1, r1, q1⟩ => ?_)
  obtain ⟨c, rfl, q1⟩ := q1
  cases r1
  refine wpAny_truthy_bool ?_
  cases c with
  | false => exact hb pins s1 σ H1 Q I1 q1
  | true => exact ⟨.bl true, H1, I1, rfl, q1⟩
theorem pe_not (ha : PE X a ta) : PE X (.UnaryOp .Not a pos) (tNotV ta) := by
  intro pins s σ H Q I h
  refine UnaryOp_ (thn (ha pins s σ H _ I h) fun v s1 ⟨x, H1, I1, r1, q1⟩ => ?_)
  obtain ⟨c, rfl, q1⟩ := q1
  cases r1
  exact not_of (wpAny_truthy_bool ⟨.bl (!c), H1, I1, rfl, q1⟩)
/-- a if t else b -/
def tIf (t : TT) (ta tb : TE) : TE := fun σ H Q => t σ H fun c H1 => if c = true then ta σ H1 Q else tb σ H1 Q
theorem pe_ifExp {c : Expr} (hc : PT X c tA) (ha : PE X a ta) (hb : PE X b tb) : PE X (.IfExp c a b pos) (tIf tA ta tb) := by
  intro pins s σ H Q I h
  refine wpAny_IfExp (thn (hc pins s σ H _ I h) fun d s1 ⟨H1, I1, q1⟩ => ?_)
  cases d with
  | true => exact ha pins s1 σ H1 Q I1 q1
  | false => exact hb pins s1 σ H1 Q I1 q1
end
end L2

namespace L2
open PySem PySem.Spec PyProof.Rows

/-! ### a list, a tuple that is read: tracked, frozen, or an object of the module -/
def SqL (K : PySem.W.Frag) (H : Hp) (a : Addr) (xs : List V) : Prop :=
  Rd H a (.lst xs) ∨
    ∃ (o : Obj) (its : Array Value) (n : Nat), K.lookup a = some o ∧ o.cls = .type "list" ∧ o.dict = none ∧ o.data = .seq its n ∧ its.size ≤ sizeLine ∧ Vals xs its.toList
def SqT (K : PySem.W.Frag) (H : Hp) (a : Addr) (xs : List V) : Prop :=
  Rd H a (.tup xs) ∨
    ∃ (o : Obj) (its : Array Value) (n : Nat), K.lookup a = some o ∧ o.cls = .type "tuple" ∧ o.dict = none ∧ o.data = .seq its n ∧ its.size ≤ sizeLine ∧ Vals xs its.toList
def absV : Value → Option V
  | .none => some .non
  | .bool b => some (.bl b)
  | .int i _ => some (.int i)
  | .str x _ => some (.str x)
  | .bytes b _ => some (.byt b)
  | .float b _ => some (.flt b)
  | .ref a => some (.ref a)
  | .type n => some (.ty n)
  | _ => none
theorem RelV.abs {x : V} {u : Value} (r : RelV x u) : absV u = some x := by
  cases x with
  | non => cases r; rfl
  | bl _ => cases r; rfl
  | int _ => obtain ⟨t, rfl⟩ := r; rfl
  | str _ => obtain ⟨t, rfl⟩ := r; rfl
  | byt _ => obtain ⟨t, rfl⟩ := r; rfl
  | flt _ => obtain ⟨t, rfl⟩ := r; rfl
  | ref _ => cases r; rfl
  | ty _ => cases r; rfl
theorem RelV.inj {x y : V} {u : Value} (r : RelV x u) (q : RelV y u) : x = y := Option.some.inj (r.abs.symm.trans q.abs)
theorem Vals.inj : ∀ {xs ys : List V} {us : List Value}, Vals xs us → Vals ys us → xs = ys
  | _, _, _, .nil, .nil => rfl
  | _, _, _, .cons r t, .cons r' t' => by rw [r.inj r', Vals.inj t t']
section
variable {X : Cx} {pins : List (Addr × Obj)} {σ : St} {H : Hp} {s : Shared} {a : Addr} {xs ys : List V}
theorem SqL.of {K : PySem.W.Frag} (h : H a = some (.lst xs)) : SqL K H a xs := .inl (.inl h)
theorem SqT.of {K : PySem.W.Frag} (h : H a = some (.tup xs)) : SqT K H a xs := .inl (.inl h)
theorem Inv.list (I : Inv X pins σ H s) (h : SqL X.K H a xs) : ∃ its : List Value, Vals xs its ∧ PlainL s.heap a its.toArray ∧ xs.length ≤ sizeLine := by
  rcases h with h | ⟨o, its, n, hk, hc, hd, hs, hz, r⟩
  · obtain ⟨z, its, n, r, e⟩ := h.ok I.hok
    exact ⟨its, r, ⟨_, n, e, rfl, rfl, rfl⟩, z⟩
  · refine ⟨its.toList, r, ⟨o, n, I.kIn a o hk, hc, hd, by simpa using hs⟩, ?_⟩
    have e := r.length
    simp only [Array.length_toList] at e
    omega
theorem Inv.tupleD (I : Inv X pins σ H s) (h : SqT X.K H a xs) : ∃ o, s.heap.get? a = some o ∧ o.dict = none ∧ o.cls = .type "tuple" := by
  rcases h with h | ⟨o, its, n, hk, hc, hd, hs, hz, r⟩
  · obtain ⟨⟨z, o, g1, g2⟩, its, r, o', g3, g4, _⟩ := h.ok I.hok
    rw [g1] at g3
    cases g3
    exact ⟨o, g1, g2, g4⟩
  · exact ⟨o, I.kIn a o hk, hd, hc⟩
theorem Inv.tuple (I : Inv X pins σ H s) (h : SqT X.K H a xs) : ∃ its : List Value, Vals xs its ∧ IsTup s.heap a its.toArray ∧ xs.length ≤ sizeLine := by
  rcases h with h | ⟨o, its, n, hk, hc, _, hs, hz, r⟩
  · obtain ⟨⟨z, _⟩, its, r, p⟩ := h.ok I.hok
    exact ⟨its, r, p, z⟩
  · refine ⟨its.toList, r, ⟨o, I.kIn a o hk, hc, n, by simpa using hs⟩, ?_⟩
    have e := r.length
    simp only [Array.length_toList] at e
    omega
theorem Inv.list_inj (I : Inv X pins σ H s) (h : SqL X.K H a xs) (h' : SqL X.K H a ys) : xs = ys := by
  obtain ⟨its, r, ⟨o, n, e, _, _, d⟩, _⟩ := I.list h
  obtain ⟨its', r', ⟨o', n', e', _, _, d'⟩, _⟩ := I.list h'
  rw [e] at e'; cases e'
  rw [d] at d'
  injection d' with d1 _
  have : its = its' := by simpa using congrArg Array.toList d1
  subst this
  exact r.inj r'
theorem Inv.tuple_inj (I : Inv X pins σ H s) (h : SqT X.K H a xs) (h' : SqT X.K H a ys) : xs = ys := by
  obtain ⟨its, r, ⟨o, e, _, n, d⟩, _⟩ := I.tuple h
  obtain ⟨its', r', ⟨o', e', _, n', d'⟩, _⟩ := I.tuple h'
  rw [e] at e'; cases e'
  rw [d] at d'
  injection d' with d1 _
  have : its = its' := by simpa using congrArg Array.toList d1
  subst this
  exact r.inj r'
end

/-! ### another wish about exceptions -/
abbrev Cx.wish (X : Cx) (E : Value → Shared → Prop) : Cx := { X with xe := E }
/-- no exception leaves -/
abbrev Cx.nox (X : Cx) : Cx := X.wish fun _ _ => False
theorem Cx.Ok.wish {X : Cx} (ok : X.Ok) (E : Value → Shared → Prop) : (X.wish E).Ok :=
  ⟨ok.mod, ok.kind, ok.glob, ok.blt, ok.above, ok.inj, ok.has, ok.cab, ok.hd, ok.frames, ok.stk, ok.exf, ok.bs, ok.bsz, ok.noex, ok.exfs, ok.funs, ok.frf⟩
theorem Cx.Ok.unwish {X : Cx} {E : Value → Shared → Prop} (ok : (X.wish E).Ok) : X.Ok :=
  ⟨ok.mod, ok.kind, ok.glob, ok.blt, ok.above, ok.inj, ok.has, ok.cab, ok.hd, ok.frames, ok.stk, ok.exf, ok.bs, ok.bsz, ok.noex, ok.exfs, ok.funs, ok.frf⟩
section
variable {X : Cx} {pins : List (Addr × Obj)} {σ : St} {H : Hp} {s : Shared} {E : Value → Shared → Prop}
theorem Inv.wish (I : Inv X pins σ H s) (E : Value → Shared → Prop) : Inv (X.wish E) pins σ H s := ⟨I.ok.wish E, I.os, I.bare, I.base, I.loc, I.cell, I.free, I.freeC, I.pin, I.hok, I.len⟩
theorem Inv.unwish (I : Inv (X.wish E) pins σ H s) : Inv X pins σ H s := ⟨I.ok.unwish, I.os, I.bare, I.base, I.loc, I.cell, I.free, I.freeC, I.pin, I.hok, I.len⟩
theorem SP.unwish {D : Ends} {f : Flow} {s' : Shared} (h : SP (X.wish E) pins D f s') : SP X pins D f s' := by
  cases f with
  | next => obtain ⟨σ', H', I, q⟩ := h; exact ⟨σ', H', I.unwish, q⟩
  | brk => obtain ⟨σ', H', I, q⟩ := h; exact ⟨σ', H', I.unwish, q⟩
  | cont => obtain ⟨σ', H', I, q⟩ := h; exact ⟨σ', H', I.unwish, q⟩
  | ret u => obtain ⟨v, σ', H', I, r, q⟩ := h; exact ⟨v, σ', H', I.unwish, r, q⟩
theorem PE.nox {e : Expr} {t : TE} (h : PE X.nox e t) : PE X e t := fun pins s σ H Q I hw =>
  wpAny_mono (h pins s σ H Q (I.wish _) hw) (fun _ _ ⟨v, H', I', r, q⟩ => ⟨v, H', I'.unwish, r, q⟩) fun _ _ z => False.elim z
theorem PT.nox {e : Expr} {t : TT} (h : PT X.nox e t) : PT X e t := fun pins s σ H Q I hw =>
  wpAny_mono (h pins s σ H Q (I.wish _) hw) (fun _ _ ⟨H', I', q⟩ => ⟨H', I'.unwish, q⟩) fun _ _ z => False.elim z
theorem PSs.nox {st : List Stmt} {t : TS} (h : PSs X.nox st t) : PSs X st t := fun pins s σ H D I hw =>
  wpAny_mono (h pins s σ H D (I.wish _) hw) (fun _ _ q => q.unwish) fun _ _ z => False.elim z
end

/-! ### blocks and small statements -/
section
variable {X : Cx} {st : Stmt} {rest : List Stmt} {t u : TS} {e : Expr} {te : TE} {pos : Pos}
def tNext : TS := fun D σ H => D.nx σ H
def tSeq (t u : TS) : TS := fun D σ H => t { D with nx := u D } σ H
theorem pss_nil : PSs X [] tNext := fun _ _ σ H _ I h => wpAny_execs_nil ⟨σ, H, I, h⟩
theorem pss_cons (h1 : PS X st t) (h2 : PSs X rest u) : PSs X (st :: rest) (tSeq t u) := by
  intro pins s σ H D I h
  refine wpAny_execs_cons (thn (h1 pins s σ H { D with nx := u D } I h) fun f s1 q => ?_)
  cases f with
  | next =>
    obtain ⟨σ', H', I', q⟩ := q
    exact h2 pins s1 σ' H' D I' q
  | ret v => exact q
  | brk => exact q
  | cont => exact q
theorem pss_one (h1 : PS X st t) : PSs X [st] t := by
  intro pins s σ H D I h
  refine wpAny_execs_cons (thn (h1 pins s σ H D I h) fun f s1 q => ?_)
  cases f with
  | next => exact wpAny_execs_nil q
  | ret v => exact q
  | brk => exact q
  | cont => exact q
def tBreak : TS := fun D σ H => D.bk σ H
def tCont : TS := fun D σ H => D.ct σ H
theorem ps_pass : PS X (.Pass pos) tNext := fun _ _ σ H _ I h => wpAny_Pass ⟨σ, H, I, h⟩
theorem ps_break : PS X (.Break pos) tBreak := fun _ _ σ H _ I h => wpAny_Break ⟨σ, H, I, h⟩
theorem ps_continue : PS X (.Continue pos) tCont := fun _ _ σ H _ I h => wpAny_Continue ⟨σ, H, I, h⟩
/-- in a def's body nothing is shown -/
theorem Inv.quiet {pins : List (Addr × Obj)} {σ : St} {H : Hp} {s : Shared} (I : Inv X pins σ H s) : interactive X.env = false := by simp [interactive, I.ok.kind]
/-- a docstring -/
theorem ps_doc {x j pos pos'} : PS X (.Expr (.Constant (.str x) j pos) pos') tNext := fun _ s σ H _ I h => wpAny_Expr (Calls.Constant_str (show SP X _ _ .next { s with toks := s.toks + 1 } from ⟨σ, H, I.tok _, h⟩)) I.quiet
/-- an expression whose value is dropped -/
def tDrop (te : TE) : TS := fun D σ H => te σ H fun _ H1 => D.nx σ H1
theorem ps_expr (he : PE X e te) (hs : swapsWith e none pos.line X.env = pure false := by rfl) : PS X (.Expr e pos) (tDrop te) := by
  intro pins s σ H D I h
  exact wpAny_Expr_any (thn (he pins s σ H _ I h) fun v s1 ⟨x, H1, I1, r1, q1⟩ => ⟨σ, H1, I1, q1⟩) I.quiet hs
def tRet (te : TE) : TS := fun D σ H => te σ H D.rt
theorem ps_ret (he : PE X e te) : PS X (.Return (some e) pos) (tRet te) := by
  intro pins s σ H D I h
  exact wpAny_Return_some (thn (he pins s σ H _ I h) fun v s1 ⟨x, H1, I1, r1, q1⟩ => ⟨x, σ, H1, I1, r1, q1⟩)
def tRetN : TS := fun D _ H => D.rt .non H
theorem ps_retN : PS X (.Return none pos) tRetN := fun _ _ σ H _ I h => wpAny_Return_none ⟨.non, σ, H, I, rfl, h⟩
def tIfS (c : TT) (t u : TS) : TS := fun D σ H => c σ H fun b H1 => if b = true then t D σ H1 else u D σ H1
theorem ps_if {c : Expr} {a b : List Stmt} {tc : TT} (hc : PT X c tc) (ha : PSs X a t) (hb : PSs X b u) : PS X (.If c a b pos) (tIfS tc t u) := by
  intro pins s σ H D I h
  refine wpAny_If (thn (hc pins s σ H _ I h) fun d s1 ⟨H1, I1, q1⟩ => ?_)
  cases d with
  | true => exact ha pins s1 σ H1 D I1 q1
  | false => exact hb pins s1 σ H1 D I1 q1
/-- code that the proof never comes to -/
def tNever : TS := fun _ _ _ => False
theorem ps_never : PS X st tNever := fun _ _ _ _ _ _ h => h.elim
theorem pss_never {sts : List Stmt} : PSs X sts tNever := fun _ _ _ _ _ _ h => h.elim
end

/-! ### targets -/
abbrev TG := V → St → Hp → (St → Hp → Prop) → Prop
abbrev TGs := List V → St → Hp → (St → Hp → Prop) → Prop
def PG (X : Cx) (target : Expr) (t : TG) : Prop :=
  ∀ (pins : List (Addr × Obj)) (s : Shared) (σ : St) (H : Hp) (v : V) (u : Value) (Q : St → Hp → Prop), Inv X pins σ H s → RelV v u → t v σ H Q →
    wpAny (model X.prog X.w) X.A (assign target X.env u) (fun _ s' => ∃ σ' H', Inv X pins σ' H' s' ∧ Q σ' H') X.xe s
/-- several targets, one after another -/
def PGs (X : Cx) (ts : List Expr) (t : TGs) : Prop :=
  ∀ (pins : List (Addr × Obj)) (s : Shared) (σ : St) (H : Hp) (vs : List V) (us : List Value) (Q : St → Hp → Prop), Inv X pins σ H s → Vals vs us → t vs σ H Q →
    wpAny (model X.prog X.w) X.A (assignInOrder ((assignEach ts X.env).map (·.2)) us) (fun _ s' => ∃ σ' H', Inv X pins σ' H' s' ∧ Q σ' H') X.xe s
/-- o[i] = v, by values -/
abbrev TSet := V → V → V → Hp → (Hp → Prop) → Prop
def PSet (X : Cx) (t : TSet) : Prop :=
  ∀ (pins : List (Addr × Obj)) (s : Shared) (σ : St) (H : Hp) (o i v : V) (ov iv u : Value) (Q : Hp → Prop), Inv X pins σ H s → RelV o ov → RelV i iv → RelV v u → t o i v H Q →
    wpAny (model X.prog X.w) X.A (setItem ov iv u) (fun _ s' => ∃ H', Inv X pins σ H' s' ∧ Q H') X.xe s
/-- a op= b, by values -/
abbrev TIp := V → V → Hp → VK → Prop
def PIp (X : Cx) (op : Operator) (t : TIp) : Prop :=
  ∀ (pins : List (Addr × Obj)) (s : Shared) (σ : St) (H : Hp) (x y : V) (v u : Value) (Q : VK), Inv X pins σ H s → RelV x v → RelV y u → t x y H Q →
    wpAny (model X.prog X.w) X.A (inplaceOp op v u) (EP X pins σ Q) X.xe s
section
variable {X : Cx} {pos : Pos}
def gName (i : Nat) : TG := fun v σ H Q => Q (σ.set i (some v)) H
theorem pg_name {i : Nat} {x : Str} (hN : X.N.Nodup) (hi : X.N[i]? = some x) (hx : Loc X.env.scope x) (hf : X.fn x = true ∨ X.env.scope.names.lookup x = some .local := by first | exact .inl rfl | exact .inr rfl | assumption) : PG X (.Name x pos) (gName i) := by
  intro pins s σ H v u Q I r h
  exact wpAny_assign_Name (store_ok I hN hi hx r (fun s' I' => ⟨_, H, I', h⟩) hf)
def gNil : TGs := fun vs σ H Q => vs = [] ∧ Q σ H
def gCons (t : TG) (u : TGs) : TGs := fun vs σ H Q => ∃ v r, vs = v :: r ∧ t v σ H fun σ' H' => u r σ' H' Q
theorem pgs_nil : PGs X [] gNil := by
  intro pins s σ H vs us Q I r h
  obtain ⟨e, h⟩ := h
  subst e
  cases r
  exact assignInOrder_nil ⟨σ, H, I, h⟩
theorem pgs_cons {e : Expr} {es : List Expr} {t : TG} {u : TGs} (h1 : PG X e t) (h2 : PGs X es u)
    (hs : (assignEach (e :: es) X.env).map (·.2) = assign e X.env :: (assignEach es X.env).map (·.2) := by rfl) : PGs X (e :: es) (gCons t u) := by
  intro pins s σ H vs us Q I r h
  obtain ⟨v, vr, e1, h⟩ := h
  subst e1
  cases r with
  | cons r rr =>
    rw [hs]
    refine assignInOrder_cons (thn (h1 pins s σ H _ _ _ I r h) fun _ s1 ⟨σ1, H1, I1, q1⟩ => ?_)
    exact h2 pins s1 σ1 H1 _ _ Q I1 rr q1
/-- (a, b, ..) = a tuple of that length -/
def gTup (K : PySem.W.Frag) (n : Nat) (t : TGs) : TG := fun v σ H Q => ∃ a xs, v = .ref a ∧ SqT K H a xs ∧ xs.length = n ∧ t xs σ H Q
theorem pg_tup {es : List Expr} {k : Nat} {t : TGs} {n : Nat} (hc : X.calm = true) (h : PGs X es t)
    (hn : (assignEach es X.env).length = n := by rfl) (hst : (assignEach es X.env).findIdx? (·.1) = none := by rfl) : PG X (.Tuple es k pos) (gTup X.K n t) := by
  intro pins s σ H v u Q I r hw
  obtain ⟨a, xs, e1, hq, hl, hw⟩ := hw
  subst e1
  cases r
  obtain ⟨its, rv, ht, hz⟩ := I.tuple hq
  refine assign_Tuple_tuple (I.ok.hd hc) ht (by simp [hn, ← hl, rv.length]) hst fun h' hx => ?_
  have I1 : Inv X pins σ H { s with heap := h' } := I.kept (t' := s.toks) fun b o e => hx b o (Nat.ne_of_lt (Heap.lt_size e)) e
  exact h pins _ σ H xs _ Q I1 (by simpa using rv) hw
/-- o[i] = .. -/
def gSub (to ti : TE) (t : TSet) : TG := fun v σ H Q => to σ H fun o H1 => ti σ H1 fun i H2 => t o i v H2 fun H3 => Q σ H3
theorem pg_sub {o i : Expr} {to ti : TE} {t : TSet} (ho : PE X o to) (hi : PE X i ti) (hs : PSet X t)
    (ha : ∀ v, assign (.Subscript o i pos) X.env v = (do
      let ov ← holding [v] (eval o X.env)
      let iv ← holding [v, ov] (eval i X.env)
      standAt pos
      holding [v, ov, iv] (setItem ov iv v)
      release [v, ov, iv] []) := by intro _; rfl) : PG X (.Subscript o i pos) (gSub to ti t) := by
  intro pins s σ H v u Q I r h
  rw [ha]
  refine wpAny_bind (wpAny_holding (thn (ho pins s σ H _ I h) fun ov s1 ⟨x, H1, I1, r1, q1⟩ => ?_))
  refine wpAny_bind (wpAny_holding (thn (hi pins s1 σ H1 _ I1 q1) fun iv s2 ⟨y, H2, I2, r2, q2⟩ => ?_))
  refine wpAny_bind (wpAny_standAt (wpAny_bind (wpAny_holding (thn (hs pins s2 σ H2 x y v ov iv u _ I2 r1 r2 r q2) fun _ s3 ⟨H3, I3, q3⟩ => ?_))))
  exact wpAny_release ⟨σ, H3, I3, q3⟩
/-- target = value -/
def tAsg (te : TE) (g : TG) : TS := fun D σ H => te σ H fun x H1 => g x σ H1 D.nx
theorem ps_asg {tg e : Expr} {te : TE} {g : TG} (he : PE X e te) (hg : PG X tg g) (hs : swapsWithSole [tg] e pos.line X.env = pure false := by rfl) (hw : swappedStores [tg] e X.env = pure none := by rfl)
    (h1 : (assignEach [tg] X.env).map (·.2) = [assign tg X.env] := by rfl) : PS X (.Assign [tg] e pos) (tAsg te g) := by
  intro pins s σ H D I h
  refine wpAny_Assign_stores (thn (he pins s σ H _ I h) fun v s1 ⟨x, H1, I1, r1, q1⟩ => ?_) hs hw
  rw [h1]
  exact thn (hg pins s1 σ H1 x v _ I1 r1 q1) fun _ s2 q => q
/-- name = value -/
theorem ps_set {i : Nat} {x : Str} {e : Expr} {te : TE} {pos' : Pos} (hN : X.N.Nodup) (hi : X.N[i]? = some x) (hx : Loc X.env.scope x) (he : PE X e te) (hs : swapsWith e (some (.Name x pos')) pos.line X.env = pure false := by rfl) (hf : X.fn x = true ∨ X.env.scope.names.lookup x = some .local := by first | exact .inl rfl | exact .inr rfl | assumption) :
    PS X (.Assign [.Name x pos'] e pos) (tAsg te (gName i)) := by
  intro pins s σ H D I h
  refine wpAny_Assign_Name (thn (he pins s σ H _ I h) fun v s1 ⟨y, H1, I1, r1, q1⟩ => ?_) hs
  exact store_ok I1 hN hi hx r1 (fun s2 I2 => ⟨_, H1, I2, q1⟩) hf
/-- a, b = x, y with plain local names: stored from the right; the pair itself is not tracked (the opening rows as in PyProof/Rows/TupAssign.lean:23) -/
def tPar (i j : Nat) (ta : TA) : TS := fun D σ H => ta σ H fun vs H1 => ∃ v w, vs = [v, w] ∧ D.nx ((σ.set i (some v)).set j (some w)) H1
theorem ps_par {i j : Nat} {x y : Str} {a b : Expr} {ta : TA} {px py pt : Pos} {kt k2 pt2} (hc : X.calm = true) (hN : X.N.Nodup) (hi : X.N[i]? = some x) (hj : X.N[j]? = some y) (hij : i ≠ j)
    (hx : X.env.scope.names.lookup x = some .local) (hy : X.env.scope.names.lookup y = some .local) (ha : PA X [a, b] ta)
    (hw : swappedStores [.Tuple [.Name x px, .Name y py] kt pt] (.Tuple [a, b] k2 pt2) X.env = pure (some [x, y]))
    (hs : swapsWithSole [.Tuple [.Name x px, .Name y py] kt pt] (.Tuple [a, b] k2 pt2) pos.line X.env = pure false := by rfl) :
    PS X (.Assign [.Tuple [.Name x px, .Name y py] kt pt] (.Tuple [a, b] k2 pt2) pos) (tPar i j ta) := by
  intro pins s σ H D I h
  rw [exec_Assign_arm]
  refine wpAny_bind (wpAny_standAt ?_)
  rw [hs]
  refine wpAny_bind (wpAny_pure ?_)
  rw [if_neg (by decide)]
  refine wpAny_bind (Tuple_ (thn (ha _ pins s σ H _ I h) fun us s1 ⟨vs, H1, I1, r1, q1⟩ => ?_))
  obtain ⟨v, w, e1, q1⟩ := q1
  subst e1
  obtain ⟨u1, u2, rfl, rv, rw'⟩ : ∃ u1 u2, us = [u1, u2] ∧ RelV v u1 ∧ RelV w u2 := by
    cases r1 with
    | cons p q =>
      cases q with
      | cons p' q' =>
        cases q'
        exact ⟨_, _, rfl, p, p'⟩
  refine wpAny_newObj_type ?_ (by show 2 ≤ sizeLine; decide)
  have I2 : Inv X pins σ H1 { s1 with heap := s1.heap.push { cls := .type "tuple", data := .seq [u1, u2].toArray } } := I1.kept (t' := s1.toks) fun b o e => Heap.get?_push_of_some _ e
  rw [hw]
  refine wpAny_bind (wpAny_pure ?_)
  show wpAny (model X.prog X.w) X.A (do rule "assign.swapped-stores"; let items ← unpackItems (.ref s1.heap.objs.size) 2 none; assignInOrder [fun v => bindName X.env y v, fun v => bindName X.env x v] items.reverse; pure Flow.next) _ _ _
  refine wpAny_bind (wpAny_rule (wpAny_bind (unpackItems_tuple (items := #[u1, u2]) (I.ok.hd hc) (IsTup.new s1.heap _) fun h' hx' => ?_)))
  have I3 := I2.kept (h' := h') (t' := s1.toks) fun b o e => hx' b o (Nat.ne_of_lt (Heap.lt_size e)) e
  show wpAny _ _ (assignInOrder [fun v => bindName X.env y v, fun v => bindName X.env x v] [u2, u1] >>= fun _ => pure Flow.next) _ _ _
  refine wpAny_bind (assignInOrder_cons (wpAny_bindName (store_ok I3 hN hj (.inl hy) rw' (fun s2 I4 => ?_) (.inr hy))))
  refine assignInOrder_cons (wpAny_bindName (store_ok I4 hN hi (.inl hx) rv (fun s3 I5 => assignInOrder_nil (wpAny_pure ?_)) (.inr hx)))
  rw [List.set_comm _ _ (Ne.symm hij)] at I5
  exact ⟨_, H1, I5, q1⟩
/-- name op= e -/
def tAug (i : Nat) (te : TE) (ti : TIp) : TS := fun D σ H => ∃ x, σ[i]? = some (some x) ∧ te σ H fun y H1 => ti x y H1 fun z H2 => D.nx (σ.set i (some z)) H2
theorem ps_aug {i : Nat} {x : Str} {e : Expr} {te : TE} {op : Operator} {ti : TIp} {pos' : Pos} (hN : X.N.Nodup) (hi : X.N[i]? = some x) (hx : Loc X.env.scope x) (he : PE X e te) (ho : PIp X op ti) (hf : X.fn x = true ∨ X.env.scope.names.lookup x = some .local := by first | exact .inl rfl | exact .inr rfl | assumption) :
    PS X (.AugAssign (.Name x pos') op e pos) (tAug i te ti) := by
  intro pins s σ H D I h
  obtain ⟨v, e1, h⟩ := h
  obtain ⟨m, hn, hl⟩ := I.loc
  have vis : Vis X.env.scope x := by rcases hx with k | k; exact .inl k; exact .inr (.inl k)
  obtain ⟨u, r, l⟩ := hl i x v hi e1 vis
  refine wpAny_AugAssign_Name ?_
  have go : wpAny (model X.prog X.w) X.A (eval e X.env) (fun w s₂ => wpAny (model X.prog X.w) X.A (inplaceOp op u w) (fun r s₃ => wpAny (model X.prog X.w) X.A (storeName X.env x r) (fun _ => SP X pins D .next) X.xe s₃) X.xe s₂) X.xe s := by
    refine thn (he pins s σ H _ I h) fun w s1 ⟨y, H1, I1, r1, q1⟩ => ?_
    refine thn (ho pins s1 σ H1 v y u w _ I1 r r1 q1) fun z s2 ⟨zv, H2, I2, r2, q2⟩ => ?_
    exact store_ok I2 hN hi hx r2 (fun s3 I3 => ⟨_, H2, I3, q2⟩) hf
  rcases l with ⟨hk, hm⟩ | ⟨hk, c, hc, hcell⟩
  · exact wpAny_loadName_local I.ok.kind hk hn hm go
  · rcases hk with hk | hk
    · exact wpAny_loadName_cell I.ok.kind hk hc hcell go
    · rcases hx with k | k
      · have : X.env.scope.names.lookup x = some .free := hk
        rw [k] at this; cases this
      · have : X.env.scope.names.lookup x = some .free := hk
        rw [k] at this; cases this
/-- o[i] op= e -/
def tAugS (to ti te : TE) (tget : V → V → Hp → VK → Prop) (tip : TIp) (tset : TSet) : TS := fun D σ H => to σ H fun o H1 => ti σ H1 fun i H2 => tget o i H2 fun x H3 => te σ H3 fun y H4 => tip x y H4 fun z H5 => tset o i z H5 fun H6 => D.nx σ H6
/-- o[i], by values -/
def PGet (X : Cx) (t : V → V → Hp → VK → Prop) : Prop :=
  ∀ (pins : List (Addr × Obj)) (s : Shared) (σ : St) (H : Hp) (o i : V) (ov iv : Value) (Q : VK), Inv X pins σ H s → RelV o ov → RelV i iv → t o i H Q →
    wpAny (model X.prog X.w) X.A (getItem ov iv) (EP X pins σ Q) X.xe s
theorem ps_augS {o i e : Expr} {to ti te : TE} {tget : V → V → Hp → VK → Prop} {tip : TIp} {tset : TSet} {op : Operator} {tpos : Pos} (ho : PE X o to) (hi : PE X i ti) (hg : PGet X tget) (he : PE X e te) (hp : PIp X op tip) (hs : PSet X tset)
    (ha : ∀ ov iv new, augStore i ov iv new = (do holding [new, ov, iv] (setItem ov iv new); release [new, ov, iv] []; pure .next) := by intros; rfl) : PS X (.AugAssign (.Subscript o i tpos) op e pos) (tAugS to ti te tget tip tset) := by
  intro pins s σ H D I h
  refine wpAny_AugAssign_SubscriptAny (thn (ho pins s σ H _ I h) fun ov s1 ⟨x1, H1, I1, r1, q1⟩ => ?_) ha
  refine thn (hi pins s1 σ H1 _ I1 q1) fun iv s2 ⟨x2, H2, I2, r2, q2⟩ => ?_
  refine thn (hg pins s2 σ H2 x1 x2 ov iv _ I2 r1 r2 q2) fun old s3 ⟨x3, H3, I3, r3, q3⟩ => ?_
  refine thn (he pins s3 σ H3 _ I3 q3) fun v s4 ⟨x4, H4, I4, r4, q4⟩ => ?_
  refine thn (hp pins s4 σ H4 x3 x4 old v _ I4 r3 r4 q4) fun new s5 ⟨x5, H5, I5, r5, q5⟩ => ?_
  exact thn (hs pins s5 σ H5 x1 x2 x5 ov iv new _ I5 r1 r2 r5 q5) fun _ s6 ⟨H6, I6, q6⟩ => ⟨σ, H6, I6, q6⟩
/-- ints -/
def ipI (f : Int → Int → Int) : TIp := fun x y H Q => ∃ i j, x = .int i ∧ y = .int j ∧ Q (.int (f i j)) H
theorem ip_add : PIp X .Add (ipI fun i j => i + j) := by
  intro pins s σ H x y v u Q I r1 r2 h
  obtain ⟨i, j, e1, e2, q⟩ := h
  subst e1; subst e2
  obtain ⟨t, rfl⟩ := r1
  obtain ⟨t', rfl⟩ := r2
  exact iadd_int ⟨.int _, H, I.tok _, ⟨_, rfl⟩, q⟩
theorem ip_sub : PIp X .Sub (ipI fun i j => i - j) := by
  intro pins s σ H x y v u Q I r1 r2 h
  obtain ⟨i, j, e1, e2, q⟩ := h
  subst e1; subst e2
  obtain ⟨t, rfl⟩ := r1
  obtain ⟨t', rfl⟩ := r2
  exact isub_int ⟨.int _, H, I.tok _, ⟨_, rfl⟩, q⟩
end

/-! ### while -/
section
variable {X : Cx} {pos : Pos}
/-- the invariant W with its measure -/
def tWhile (c : TT) (tb : TS) : TS := fun D σ H => ∃ W : Nat → St → Hp → Prop, (∃ m, W m σ H) ∧ ∀ m σ H, W m σ H →
  c σ H fun b H1 => if b = true then ∃ N : St → Hp → Prop, (∀ σ' H', N σ' H' → ∃ m', m' < m ∧ W m' σ' H') ∧ tb { D with nx := N, ct := N, bk := D.nx } σ H1 else D.nx σ H1
theorem ps_while {c : Expr} {body : List Stmt} {tc : TT} {tb : TS} (hp : PassesOwn (model X.prog X.w) X.A X.env X.xe) (hc : PT X c tc) (hb : PSs X body tb) : PS X (.While c body [] pos) (tWhile tc tb) := by
  intro pins s σ H D I h
  obtain ⟨W, ⟨m0, w0⟩, turn⟩ := h
  refine wpAny_While (codeAny_whileLoop (fun n s' => ∃ σ' H', Inv X pins σ' H' s' ∧ W n σ' H') ?_ m0 ⟨σ, H, I, w0⟩)
  rintro n s1 ⟨σ1, H1, I1, w1⟩
  refine wpAny_passesOwn hp (thn (hc pins s1 σ1 H1 _ I1 (turn n σ1 H1 w1)) fun b s2 ⟨H2, I2, q2⟩ => ?_)
  cases b with
  | true =>
    obtain ⟨N, hN, q2⟩ := q2
    rw [if_pos rfl]
    refine wpAny_passesOwn hp (thn (hb pins s2 σ1 H2 _ I2 q2) fun f s3 q3 => ?_)
    cases f with
    | next =>
      obtain ⟨σ3, H3, I3, n3⟩ := q3
      obtain ⟨m', hm, w3⟩ := hN σ3 H3 n3
      exact ⟨m', hm, σ3, H3, I3, w3⟩
    | cont =>
      obtain ⟨σ3, H3, I3, n3⟩ := q3
      obtain ⟨m', hm, w3⟩ := hN σ3 H3 n3
      exact ⟨m', hm, σ3, H3, I3, w3⟩
    | brk => exact q3
    | ret v => exact q3
  | false =>
    rw [if_neg Bool.false_ne_true]
    exact wpAny_execs_nil ⟨σ1, H2, I2, q2⟩
end

/-! ### what a loop or a comprehension walks -/
/-- at turn i: it yields x (the heap may grow), or it stops -/
structure It where
  go : Nat → Hp → Prop
  yld : Nat → Hp → V → Hp → Prop
  stop : Nat → Hp → Prop
/-- the iterator's own objects may turn: they are not the frame's, not pinned, younger than the entry (or a comprehension's own) -/
def FpOk (X : Cx) (pins : List (Addr × Obj)) (H : Hp) (b : Addr) : Prop :=
  H b = none ∧ b ≠ X.env.locals ∧ b ∉ X.fs ∧ (b ∈ X.ex ∨ X.s₀.heap.objs.size ≤ b) ∧ (∀ x c, X.env.cells.lookup x = some c → c ≠ b) ∧ ∀ p ∈ X.pn ++ pins, p.1 ≠ b
theorem Inv.fpOk {X : Cx} {pins : List (Addr × Obj)} {σ : St} {H H' : Hp} {s : Shared} {b : Addr} (I : Inv X pins σ H s) (hb : s.heap.objs.size ≤ b) (hn : H' b = none) : FpOk X pins H' b := by
  refine ⟨hn, Nat.ne_of_gt (Nat.lt_of_lt_of_le I.lt hb), I.nofs hb, .inr (Nat.le_trans I.sz hb), fun x c e z => ?_, fun p hp z => ?_⟩
  · obtain ⟨v, q⟩ := I.cell x c e
    exact absurd (Nat.lt_of_lt_of_le q.lt (by rw [z]; exact hb)) (Nat.lt_irrefl _)
  · exact absurd (Nat.lt_of_lt_of_le (Heap.lt_size (I.pin p hp).1) (by rw [z]; exact hb)) (Nat.lt_irrefl _)
structure Turn (P : Program) (w : World) (K : PySem.W.Frag) (tg : Expr) (J : It) (fp : List Addr) (it : Addr) (tn : Nat → Heap → Prop) : Prop where
  mem : it ∈ fp
  obj : ∀ i h, tn i h → ∀ b ∈ fp, ∃ o, h.get? b = some o ∧ ∀ v, o.data ≠ .cell v
  keep : ∀ i h h', tn i h → (∀ b ∈ fp, ∀ o, h.get? b = some o → h'.get? b = some o) → tn i h'
  item : ∀ (X : Cx), X.prog = P → X.w = w → X.K = K → X.calm = true → ∀ (i : Nat) (pins : List (Addr × Obj)) (s : Shared) (σ : St) (H : Hp) (E : Value → Shared → Prop), Inv X pins σ H s → (∀ b ∈ fp, FpOk X pins H b) → tn i s.heap → J.go i H →
    wpAny (model P w) X.A (pyNext (.ref it)) (fun r s1 => ∃ u, r = some u ∧
      wpAny (model P w) X.A (letOwnedTupleGo tg (.ref it) u) (fun _ s2 => ∃ x H', Inv X pins σ H' s2 ∧ RelV x u ∧ J.yld i H x H' ∧ tn (i + 1) s2.heap ∧ ∀ b ∈ fp, H' b = none) E s1) E s
  done : ∀ (X : Cx), X.prog = P → X.w = w → X.K = K → X.calm = true → ∀ (i : Nat) (pins : List (Addr × Obj)) (s : Shared) (σ : St) (H : Hp) (E : Value → Shared → Prop), Inv X pins σ H s → (∀ b ∈ fp, FpOk X pins H b) → tn i s.heap → J.stop i H →
    wpAny (model P w) X.A (pyNext (.ref it)) (fun r s1 => r = none ∧ Inv X pins σ H s1) E s
  self : ∀ (A : Around) (i : Nat) (s : Shared) (Q : Value → Shared → Prop) (E : Value → Shared → Prop), tn i s.heap → Q (.ref it) s → wpAny (model P w) A (pyIter (.ref it)) Q E s
abbrev TI := St → Hp → (It → Hp → Prop) → Prop
/-- an iterator has come -/
def PIE (X : Cx) (pins : List (Addr × Obj)) (σ : St) (tg : Expr) (R : It → Hp → Prop) (itv : Value) (s2 : Shared) : Prop :=
  ∃ (it : Addr) (fp : List Addr) (tn : Nat → Heap → Prop) (J : It) (H' : Hp), itv = .ref it ∧ Inv X pins σ H' s2 ∧ Turn X.prog X.w X.K tg J fp it tn ∧ tn 0 s2.heap ∧ (∀ b ∈ fp, FpOk X pins H' b) ∧ R J H'
def PI (X : Cx) (tg iter : Expr) (wi : TI) : Prop :=
  ∀ (pins : List (Addr × Obj)) (s : Shared) (σ : St) (H : Hp) (R : It → Hp → Prop), Inv X pins σ H s → wi σ H R →
    wpAny (model X.prog X.w) X.A (eval iter X.env) (fun v s1 => wpAny (model X.prog X.w) X.A (pyIter v) (PIE X pins σ tg R) X.xe s1) X.xe s

/-- the step ahead of the store is nothing for an iterator that keeps no tuple -/
theorem go_of {M : Model} {A : Around} {E : Value → Shared → Prop} {s : Shared} {tg : Expr} {it : Addr} {u : Value} {o : Obj} {n : String} {vs : Array Value} {Q : Unit → Shared → Prop} (ho : s.heap.get? it = some o) (hc : o.cls = .type n) (hd : o.data = .fields vs)
    (hn : ["enumerate", "zip", "dict_itemiterator", "dict_reverseitemiterator", "odict_iterator", "itertools.zip_longest", "itertools.pairwise"].contains n = false) (hQ : Q () s) : wpAny M A (letOwnedTupleGo tg (.ref it) u) Q E s := by
  unfold letOwnedTupleGo
  cases tg <;> first
    | exact wpAny_pure hQ
    | (cases u <;> first
        | exact wpAny_pure hQ
        | (refine wpAny_bind (wpAny_load ho ?_)
           rw [hc, hd]
           show wpAny M A (if (["enumerate", "zip", "dict_itemiterator", "dict_reverseitemiterator", "odict_iterator", "itertools.zip_longest", "itertools.pairwise"].contains n && vs[0]? == some (rawInt _)) = true then _ else _) Q E s
           rw [if_neg (by intro h; rw [hn, Bool.false_and] at h; cases h)]
           exact wpAny_pure hQ))

/-- the list at a, as it stands at each turn (a loop may append to it) -/
def Itl (K : PySem.W.Frag) (a : Addr) : It :=
  ⟨fun i H => ∃ xs x, SqL K H a xs ∧ xs[i]? = some x, fun i H x H' => H' = H ∧ ∀ xs, SqL K H a xs → xs[i]? = some x, fun i H => ∃ xs, SqL K H a xs ∧ xs.length ≤ i⟩
def Itt (K : PySem.W.Frag) (a : Addr) : It :=
  ⟨fun i H => ∃ xs x, SqT K H a xs ∧ xs[i]? = some x, fun i H x H' => H' = H ∧ ∀ xs, SqT K H a xs → xs[i]? = some x, fun i H => ∃ xs, SqT K H a xs ∧ xs.length ≤ i⟩
/-- lo, lo + 1, .. (n of them) -/
def Itr (lo : Int) (n : Nat) : It := ⟨fun i _ => i < n, fun i H x H' => H' = H ∧ x = .int (lo + i), fun i _ => n ≤ i⟩
theorem turn_list {P : Program} {w : World} {K : PySem.W.Frag} {tg : Expr} (a it : Addr) : Turn P w K tg (Itl K a) [it] it (fun i h => h.IsListIter it a i) where
  mem := by simp
  obj := fun i h st b hb => by
    have e : b = it := by simpa using hb
    subst e
    obtain ⟨o, e, c, d⟩ := st
    exact ⟨o, e, fun v z => by rw [d] at z; cases z⟩
  keep := fun i h h' st k => st.at fun o e => k it (by simp) o e
  item := by
    intro X hP hw hK hc i pins s σ H E I hf st hg
    subst hP hw hK
    obtain ⟨xs, x, hq, hx⟩ := hg
    obtain ⟨its, rv, p, hz⟩ := I.list hq
    obtain ⟨u, hu, ru⟩ := rv.get hx
    obtain ⟨f0, f1, f2, f3, f4, f5⟩ := hf it (by simp)
    refine wpAny_pyNext_list_item st p.isList (x := u) (by simpa using hu) fun h' st' sb => ?_
    have I1 : Inv X pins σ H { s with heap := h' } := I.turned (t' := s.toks) (fun b o hb e => (sb.2 b hb).trans e) f0 f1 f3 f4 f5
    obtain ⟨o, e, c, d⟩ := id st'
    exact ⟨u, rfl, go_of (s := { s with heap := h' }) e c d (by decide) ⟨x, H, I1, ru, ⟨rfl, fun ys hy => by rw [I.list_inj hy hq]; exact hx⟩, st', fun b hb => (hf b hb).1⟩⟩
  done := by
    intro X hP hw hK hc i pins s σ H E I hf st hg
    subst hP hw hK
    obtain ⟨xs, hq, hx⟩ := hg
    obtain ⟨its, rv, p, hz⟩ := I.list hq
    obtain ⟨f0, f1, f2, f3, f4, f5⟩ := hf it (by simp)
    have hl := rv.length
    exact wpAny_pyNext_list_end (I.ok.hd hc) st p.isList (by simp; omega) fun h' eb => ⟨rfl, I.turned (t' := s.toks) (fun b o hb e => eb b o hb e) f0 f1 f3 f4 f5⟩
  self := fun _ _ _ _ _ st h => wpAny_pyIter_listiter st h
theorem turn_tuple {P : Program} {w : World} {K : PySem.W.Frag} {tg : Expr} (a it : Addr) : Turn P w K tg (Itt K a) [it] it (fun i h => h.IsTupleIter it a i) where
  mem := by simp
  obj := fun i h st b hb => by
    have e : b = it := by simpa using hb
    subst e
    obtain ⟨o, e, c, d⟩ := st
    exact ⟨o, e, fun v z => by rw [d] at z; cases z⟩
  keep := fun i h h' st k => st.at fun o e => k it (by simp) o e
  item := by
    intro X hP hw hK hc i pins s σ H E I hf st hg
    subst hP hw hK
    obtain ⟨xs, x, hq, hx⟩ := hg
    obtain ⟨its, rv, p, hz⟩ := I.tuple hq
    obtain ⟨u, hu, ru⟩ := rv.get hx
    obtain ⟨f0, f1, f2, f3, f4, f5⟩ := hf it (by simp)
    refine wpAny_pyNext_tuple_item st (show s.heap.IsTuple a its.toArray from p) (x := u) (by simpa using hu) fun h' st' sb => ?_
    have I1 : Inv X pins σ H { s with heap := h' } := I.turned (t' := s.toks) (fun b o hb e => (sb.2 b hb).trans e) f0 f1 f3 f4 f5
    obtain ⟨o, e, c, d⟩ := id st'
    exact ⟨u, rfl, go_of (s := { s with heap := h' }) e c d (by decide) ⟨x, H, I1, ru, ⟨rfl, fun ys hy => by rw [I.tuple_inj hy hq]; exact hx⟩, st', fun b hb => (hf b hb).1⟩⟩
  done := by
    intro X hP hw hK hc i pins s σ H E I hf st hg
    subst hP hw hK
    obtain ⟨xs, hq, hx⟩ := hg
    obtain ⟨its, rv, p, hz⟩ := I.tuple hq
    obtain ⟨f0, f1, f2, f3, f4, f5⟩ := hf it (by simp)
    have hl := rv.length
    exact wpAny_pyNext_tuple_end (I.ok.hd hc) st (show s.heap.IsTuple a its.toArray from p) (by simp; omega) fun h' eb => ⟨rfl, I.turned (t' := s.toks) (fun b o hb e => eb b o hb e) f0 f1 f3 f4 f5⟩
  self := fun _ _ _ _ _ st h => wpAny_pyIter_tupleiter st h
theorem turn_range {P : Program} {w : World} {K : PySem.W.Frag} {tg : Expr} (it : Addr) (lo : Int) (n : Nat) : Turn P w K tg (Itr lo n) [it] it (fun i h => IsRangeIter h it (lo + (i : Nat) * 1) ((n : Int) - (i : Nat)) 1) where
  mem := by simp
  obj := fun i h st b hb => by
    have e : b = it := by simpa using hb
    subst e
    exact ⟨_, st, fun v z => by
      have z' : Data.fields _ = Data.cell v := z
      cases z'⟩
  keep := fun i h h' st k => k it (by simp) _ st
  item := by
    intro X hP hw hK hc i pins s σ H E I hf st hg
    subst hP hw hK
    obtain ⟨f0, f1, f2, f3, f4, f5⟩ := hf it (by simp)
    have W := Walks.range (prog := X.prog) (w := X.w) (I.ok.hd hc) it lo 1 n
    refine W.item i s _ _ hg st fun v h' tk hv st' kk => ?_
    obtain ⟨t, rfl⟩ := hv
    have I1 : Inv X pins σ H { s with heap := h', toks := tk } := I.turned (fun b o hb e => kk b o (by simpa using hb) e) f0 f1 f3 f4 f5
    refine ⟨_, rfl, go_of (s := { s with heap := h', toks := tk }) (n := "range_iterator") st' rfl rfl (by decide) ⟨.int (lo + i), H, I1, ⟨t, ?_⟩, ⟨rfl, rfl⟩, st', fun b hb => (hf b hb).1⟩⟩
    rw [Int.mul_one]
  done := by
    intro X hP hw hK hc i pins s σ H E I hf st hg
    subst hP hw hK
    obtain ⟨f0, f1, f2, f3, f4, f5⟩ := hf it (by simp)
    exact wpAny_pyNext_range_end (I.ok.hd hc) st (by have : n ≤ i := hg; omega) fun h' eb => ⟨rfl, I.turned (t' := s.toks) (fun b o hb e => eb b o hb e) f0 f1 f3 f4 f5⟩
  self := fun _ _ _ _ _ st h => wpAny_pyIter_rangeiter st h
end L2

namespace L2
open PySem PySem.Spec PyProof.Rows
section
variable {X : Cx} {tg : Expr}
def iList (K : PySem.W.Frag) (tl : TE) : TI := fun σ H R => tl σ H fun x H1 => ∃ a, x = .ref a ∧ (∃ xs, SqL K H1 a xs) ∧ R (Itl K a) H1
def iTup (K : PySem.W.Frag) (tl : TE) : TI := fun σ H R => tl σ H fun x H1 => ∃ a, x = .ref a ∧ (∃ xs, SqT K H1 a xs) ∧ R (Itt K a) H1
theorem pi_list {l : Expr} {tl : TE} (hl : PE X l tl) : PI X tg l (iList X.K tl) := by
  intro pins s σ H R I h
  refine thn (hl pins s σ H _ I h) fun v s1 ⟨x, H1, I1, r1, q1⟩ => ?_
  obtain ⟨a, e, ⟨xs, hq⟩, q⟩ := q1
  subst e
  cases r1
  obtain ⟨its, rv, p, hz⟩ := I1.list hq
  refine wpAny_pyIter_list p.isList ?_
  refine ⟨s1.heap.objs.size, [s1.heap.objs.size], _, _, H1, rfl, I1.kept (t' := s1.toks) fun b o e => Heap.get?_push_of_some _ e, turn_list a _, ⟨_, Heap.get?_push_size _ rfl, rfl, rfl⟩, fun b hb => ?_, q⟩
  have e : b = s1.heap.objs.size := by simpa using hb
  subst e
  exact I1.fpOk (Nat.le_refl _) (I1.hok.fresh (Nat.le_refl _))
theorem pi_tup {l : Expr} {tl : TE} (hl : PE X l tl) : PI X tg l (iTup X.K tl) := by
  intro pins s σ H R I h
  refine thn (hl pins s σ H _ I h) fun v s1 ⟨x, H1, I1, r1, q1⟩ => ?_
  obtain ⟨a, e, ⟨xs, hq⟩, q⟩ := q1
  subst e
  cases r1
  obtain ⟨its, rv, p, hz⟩ := I1.tuple hq
  refine wpAny_pyIter_tuple (show s1.heap.IsTuple a its.toArray from p) ?_
  refine ⟨s1.heap.objs.size, [s1.heap.objs.size], _, _, H1, rfl, I1.kept (t' := s1.toks) fun b o e => Heap.get?_push_of_some _ e, turn_tuple a _, ⟨_, Heap.get?_push_size _ rfl, rfl, rfl⟩, fun b hb => ?_, q⟩
  have e : b = s1.heap.objs.size := by simpa using hb
  subst e
  exact I1.fpOk (Nat.le_refl _) (I1.hok.fresh (Nat.le_refl _))
/-- a range object just made, walked -/
theorem range_it {pins : List (Addr × Obj)} {σ : St} {H : Hp} {s : Shared} {R : It → Hp → Prop} {E : Value → Shared → Prop} {lo hi : Int} {t u v : Tok} {tk : Nat} (I : Inv X pins σ H s) (h1 : -(2 ^ 62) ≤ lo) (h2 : lo < 2 ^ 62) (h3 : -(2 ^ 62) ≤ hi) (h4 : hi < 2 ^ 62)
    (q : R (Itr lo (hi - lo).toNat) H) : wpAny (model X.prog X.w) X.A (pyIter (.ref s.heap.objs.size)) (PIE X pins σ tg R) E { s with heap := s.heap.push { cls := .type "range", data := .fields #[.int lo t, .int hi u, .int 1 v] }, toks := tk } := by
  refine wpAny_pyIter_range (IsRange.new ..) (small_one h1 h2 h3 h4) ?_
  have I1 : Inv X pins σ H { s with heap := s.heap.push { cls := .type "range", data := .fields #[.int lo t, .int hi u, .int 1 v] }, toks := tk } := I.kept fun b o e => Heap.get?_push_of_some _ e
  refine ⟨(s.heap.push { cls := .type "range", data := .fields #[.int lo t, .int hi u, .int 1 v] }).objs.size, [(s.heap.push { cls := .type "range", data := .fields #[.int lo t, .int hi u, .int 1 v] }).objs.size], _, _, H, rfl,
    I1.kept (t' := tk) fun b o e => Heap.get?_push_of_some _ e, turn_range _ lo (hi - lo).toNat, ?_, fun b hb => ?_, q⟩
  · have e1 : lo + ((0 : Nat) : Int) * 1 = lo := by simp
    have e2 : (((hi - lo).toNat : Nat) : Int) - ((0 : Nat) : Int) = Builtin.Range.rangeSize lo hi 1 := by rw [rangeSize_one]; split <;> omega
    show IsRangeIter _ _ (lo + ((0 : Nat) : Int) * 1) ((((hi - lo).toNat : Nat) : Int) - ((0 : Nat) : Int)) 1
    rw [e1, e2]
    exact Heap.get?_push_size _ rfl
  · have e : b = (s.heap.push { cls := .type "range", data := .fields #[.int lo t, .int hi u, .int 1 v] }).objs.size := by simpa using hb
    subst e
    exact I1.fpOk (Nat.le_refl _) (I1.hok.fresh (Nat.le_refl _))
def iRng1 (ta : TA) : TI := fun σ H R => ta σ H fun vs H1 => ∃ j : Int, vs = [.int j] ∧ -(2 ^ 62) ≤ j ∧ j < 2 ^ 62 ∧ R (Itr 0 j.toNat) H1
def iRng2 (ta : TA) : TI := fun σ H R => ta σ H fun vs H1 => ∃ i j : Int, vs = [.int i, .int j] ∧ (-(2 ^ 62) ≤ i ∧ i < 2 ^ 62 ∧ -(2 ^ 62) ≤ j ∧ j < 2 ^ 62) ∧ R (Itr i (j - i).toNat) H1
theorem pi_range1 {a : Expr} {ta : TA} {p pos : Pos} (hg : Gl X "range") (hm : X.mg "range" = none) (ha : PA X [a] ta) (hs : starEach [a] X.env = [(false, eval a X.env)] := by rfl) : PI X tg (.Call (.Name "range" p) [a] [] pos) (iRng1 ta) := by
  intro pins s σ H R I h
  refine Call_ (ld_blt I hg hm boot_range (PyProof.Rows.callWith_type1 (thn (ha pos pins s σ H _ I h) fun us s1 ⟨vs, H1, I1, r1, q1⟩ => ?_) hs rfl))
  obtain ⟨j, e, q1, q2, q⟩ := q1
  subst e
  cases r1 with
  | cons r rr =>
    cases rr
    obtain ⟨t, rfl⟩ := r
    exact call_range_1 (range_it I1 (by omega) (by omega) q1 q2 (by simpa using q))
theorem pi_range2 {a b : Expr} {ta : TA} {p pos : Pos} (hg : Gl X "range") (hm : X.mg "range" = none) (ha : PA X [a, b] ta) (hs : starEach [a, b] X.env = [(false, eval a X.env), (false, eval b X.env)] := by rfl) (hs2 : starEach [b] X.env = [(false, eval b X.env)] := by rfl) :
    PI X tg (.Call (.Name "range" p) [a, b] [] pos) (iRng2 ta) := by
  intro pins s σ H R I h
  refine Call_ (ld_blt I hg hm boot_range (PyProof.Rows.callWith_type1 (thn (ha pos pins s σ H _ I h) fun us s1 ⟨vs, H1, I1, r1, q1⟩ => ?_) (by rw [hs, hs2]) (by rw [hs2]; rfl)))
  obtain ⟨i, j, e, ⟨q1, q2, q3, q4⟩, q⟩ := q1
  subst e
  cases r1 with
  | cons r rr =>
    cases rr with
    | cons r' rr =>
      cases rr
      obtain ⟨t, rfl⟩ := r
      obtain ⟨t', rfl⟩ := r'
      exact call_range_2 (range_it I1 q1 q2 q3 q4 q)

/-! ### for -/
/-- W: the invariant by the turn and a measure; N: what the body is to reach -/
def tFor (wi : TI) (g : TG) (tb : TS) : TS := fun D σ H => wi σ H fun J H1 => ∃ W : Nat → Nat → St → Hp → Prop, (∃ m, W 0 m σ H1) ∧ ∀ i m σ H, W i m σ H →
  (J.stop i H ∧ D.nx σ H) ∨ (J.go i H ∧ ∃ N : St → Hp → Prop, (∀ σ' H', N σ' H' → ∃ m', m' < m ∧ W (i + 1) m' σ' H') ∧ ∀ x H', J.yld i H x H' → g x σ H' fun σ2 H2 => tb { D with nx := N, ct := N, bk := D.nx } σ2 H2)
/-- the records at fp as they stand -/
def pinsAt (fp : List Addr) (h : Heap) : List (Addr × Obj) := fp.filterMap fun b => (h.get? b).map fun o => (b, o)
theorem mem_pinsAt {fp : List Addr} {h : Heap} {b : Addr} {o : Obj} (hb : b ∈ fp) (e : h.get? b = some o) : (b, o) ∈ pinsAt fp h := List.mem_filterMap.mpr ⟨b, hb, by rw [e]; rfl⟩
theorem of_pinsAt {fp : List Addr} {h : Heap} {p : Addr × Obj} (hp : p ∈ pinsAt fp h) : p.1 ∈ fp ∧ h.get? p.1 = some p.2 := by
  obtain ⟨b, hb, e⟩ := List.mem_filterMap.mp hp
  cases q : h.get? b with
  | none => rw [q] at e; cases e
  | some o =>
    rw [q] at e
    have e' : (b, o) = p := Option.some.inj e
    subst e'
    exact ⟨hb, q⟩
theorem Inv.pinned {pins : List (Addr × Obj)} {σ : St} {H : Hp} {s : Shared} {fp : List Addr} (I : Inv X pins σ H s) (hf : ∀ b ∈ fp, FpOk X pins H b) (ho : ∀ b ∈ fp, ∃ o, s.heap.get? b = some o ∧ ∀ v, o.data ≠ .cell v) : Inv X (pins ++ pinsAt fp s.heap) σ H s :=
  I.pins_of fun p hp => (List.mem_append.mp hp).elim (fun z => I.pin p (List.mem_append_right _ z)) fun z => by
    obtain ⟨hb, e⟩ := of_pinsAt z
    obtain ⟨f0, f1, f2, _⟩ := hf p.1 hb
    obtain ⟨o, e', d⟩ := ho p.1 hb
    rw [e] at e'; cases e'
    exact ⟨e, f0, f1, f2, d⟩
theorem Inv.unpinned {pins pl : List (Addr × Obj)} {σ : St} {H : Hp} {s : Shared} (I : Inv X (pins ++ pl) σ H s) : Inv X pins σ H s := I.pins_of fun p hp => I.pin p (List.mem_append_right _ (List.mem_append_left _ hp))
theorem ps_for {iter : Expr} {body : List Stmt} {wi : TI} {g : TG} {tb : TS} {pos : Pos} (hp : PassesOwn (model X.prog X.w) X.A X.env X.xe) (hc : X.calm = true) (hi : PI X tg iter wi) (hg : PG X tg g) (hb : PSs X body tb)
    (hs : ∀ x, foldedSetIterable iter X.env x = pure x := by intro _; rfl) : PS X (.For tg iter body [] pos) (tFor wi g tb) := by
  intro pins s σ H D I h
  refine wpAny_For (thn (hi pins s σ H _ I h) fun v s1 h1 => thn h1 fun itv s2 h2 => ?_) hs
  obtain ⟨it, fp, tn, J, H2, e, I2, T, st2, f2, W, ⟨m0, w0⟩, turn⟩ := h2
  subst e
  -- what stays true of the iterator's objects through the loop
  have stat : ∀ {H' : Hp}, (∀ b ∈ fp, H' b = none) → ∀ b ∈ fp, FpOk X pins H' b := fun hn b hb => ⟨hn b hb, (f2 b hb).2⟩
  refine codeAny_forLoop_any (fun n s' => ∃ i σ' H', Inv X pins σ' H' s' ∧ tn i s'.heap ∧ (∀ b ∈ fp, H' b = none) ∧ W i n σ' H') ?_ m0 ⟨0, σ, H2, I2, st2, fun b hb => (f2 b hb).1, w0⟩
  rintro n s3 ⟨i, σ3, H3, I3, st3, fr3, w3⟩
  rcases turn i n σ3 H3 w3 with ⟨stop, qn⟩ | ⟨go, N, hN, step⟩
  · refine wpAny_passesOwn hp (thn (T.done X rfl rfl rfl hc i pins s3 σ3 H3 X.xe I3 (stat fr3) st3 stop) fun r s4 ⟨hr, I4⟩ => ?_)
    subst hr
    exact wpAny_execs_nil ⟨σ3, H3, I4, qn⟩
  · refine wpAny_passesOwn hp (thn (T.item X rfl rfl rfl hc i pins s3 σ3 H3 X.xe I3 (stat fr3) st3 go) fun r s4 ⟨u, hr, h4⟩ => ?_)
    subst hr
    refine wpAny_passesOwn hp (thn h4 fun _ s5 ⟨x, H5, I5, r5, y5, st5, fr5⟩ => ?_)
    have I5' := I5.pinned (stat fr5) (T.obj _ _ st5)
    refine wpAny_passesOwn hp (thn (hg _ s5 σ3 H5 x u _ I5' r5 (step x H5 y5)) fun _ s6 ⟨σ6, H6, I6, q6⟩ => ?_)
    refine wpAny_passesOwn hp (thn (hb _ s6 σ6 H6 _ I6 q6) fun f s7 q7 => ?_)
    have again : ∀ {σ7 : St} {H7 : Hp}, Inv X (pins ++ pinsAt fp s5.heap) σ7 H7 s7 → N σ7 H7 → ∃ m, m < n ∧ ∃ i σ' H', Inv X pins σ' H' s7 ∧ tn i s7.heap ∧ (∀ b ∈ fp, H' b = none) ∧ W i m σ' H' := fun {σ7 H7} I7 n7 => by
      obtain ⟨m', hm, w7⟩ := hN σ7 H7 n7
      refine ⟨m', hm, i + 1, σ7, H7, I7.unpinned, T.keep _ _ _ st5 fun b hb o e => (I7.pin (b, o) (List.mem_append_right _ (List.mem_append_right _ (mem_pinsAt hb e)))).1, fun b hb => ?_, w7⟩
      obtain ⟨o, e, d⟩ := T.obj _ _ st5 b hb
      exact (I7.pin (b, o) (List.mem_append_right _ (List.mem_append_right _ (mem_pinsAt hb e)))).2.1
    cases f with
    | next => obtain ⟨σ7, H7, I7, n7⟩ := q7; exact again I7 n7
    | cont => obtain ⟨σ7, H7, I7, n7⟩ := q7; exact again I7 n7
    | brk => obtain ⟨σ7, H7, I7, q7⟩ := q7; exact ⟨σ7, H7, I7.unpinned, q7⟩
    | ret v => obtain ⟨x7, σ7, H7, I7, r7, q7⟩ := q7; exact ⟨x7, σ7, H7, I7.unpinned, r7, q7⟩
end

/-! ### the forms one uses -/
/-- over a list that the body leaves as it is -/
theorem for_list {K : PySem.W.Frag} {a : Addr} {xs : List V} {g : TG} {tb : TS} {D : Ends} {σ : St} {H : Hp} (Pv : Nat → St → Hp → Prop) (h0 : Pv 0 σ H) (hl : ∀ i σ H, i ≤ xs.length → Pv i σ H → SqL K H a xs)
    (hs : ∀ i x σ H, xs[i]? = some x → Pv i σ H → g x σ H fun σ2 H2 => tb { D with nx := Pv (i + 1), ct := Pv (i + 1), bk := D.nx } σ2 H2) (hd : ∀ σ H, Pv xs.length σ H → D.nx σ H) :
    ∃ W : Nat → Nat → St → Hp → Prop, (∃ m, W 0 m σ H) ∧ ∀ i m σ H, W i m σ H →
      ((Itl K a).stop i H ∧ D.nx σ H) ∨ ((Itl K a).go i H ∧ ∃ N : St → Hp → Prop, (∀ σ' H', N σ' H' → ∃ m', m' < m ∧ W (i + 1) m' σ' H') ∧ ∀ x H', (Itl K a).yld i H x H' → g x σ H' fun σ2 H2 => tb { D with nx := N, ct := N, bk := D.nx } σ2 H2) := by
  refine ⟨fun i m σ H => m = xs.length - i ∧ i ≤ xs.length ∧ Pv i σ H, ⟨xs.length, by simp, Nat.zero_le _, h0⟩, ?_⟩
  rintro i m σ H ⟨rfl, hi, p⟩
  have q := hl i σ H hi p
  by_cases hlt : i < xs.length
  · refine .inr ⟨⟨xs, xs[i], q, by simp [hlt]⟩, Pv (i + 1), fun σ' H' p' => ⟨xs.length - (i + 1), by omega, rfl, hlt, p'⟩, fun x H' y => ?_⟩
    obtain ⟨e, y⟩ := y
    subst e
    exact hs i x σ _ (y xs q) p
  · have e : i = xs.length := by omega
    subst e
    exact .inl ⟨⟨xs, q, Nat.le_refl _⟩, hd σ H p⟩
theorem for_tup {K : PySem.W.Frag} {a : Addr} {xs : List V} {g : TG} {tb : TS} {D : Ends} {σ : St} {H : Hp} (Pv : Nat → St → Hp → Prop) (h0 : Pv 0 σ H) (hl : ∀ i σ H, i ≤ xs.length → Pv i σ H → SqT K H a xs)
    (hs : ∀ i x σ H, xs[i]? = some x → Pv i σ H → g x σ H fun σ2 H2 => tb { D with nx := Pv (i + 1), ct := Pv (i + 1), bk := D.nx } σ2 H2) (hd : ∀ σ H, Pv xs.length σ H → D.nx σ H) :
    ∃ W : Nat → Nat → St → Hp → Prop, (∃ m, W 0 m σ H) ∧ ∀ i m σ H, W i m σ H →
      ((Itt K a).stop i H ∧ D.nx σ H) ∨ ((Itt K a).go i H ∧ ∃ N : St → Hp → Prop, (∀ σ' H', N σ' H' → ∃ m', m' < m ∧ W (i + 1) m' σ' H') ∧ ∀ x H', (Itt K a).yld i H x H' → g x σ H' fun σ2 H2 => tb { D with nx := N, ct := N, bk := D.nx } σ2 H2) := by
  refine ⟨fun i m σ H => m = xs.length - i ∧ i ≤ xs.length ∧ Pv i σ H, ⟨xs.length, by simp, Nat.zero_le _, h0⟩, ?_⟩
  rintro i m σ H ⟨rfl, hi, p⟩
  have q := hl i σ H hi p
  by_cases hlt : i < xs.length
  · refine .inr ⟨⟨xs, xs[i], q, by simp [hlt]⟩, Pv (i + 1), fun σ' H' p' => ⟨xs.length - (i + 1), by omega, rfl, hlt, p'⟩, fun x H' y => ?_⟩
    obtain ⟨e, y⟩ := y
    subst e
    exact hs i x σ _ (y xs q) p
  · have e : i = xs.length := by omega
    subst e
    exact .inl ⟨⟨xs, q, Nat.le_refl _⟩, hd σ H p⟩
theorem for_range {lo : Int} {n : Nat} {g : TG} {tb : TS} {D : Ends} {σ : St} {H : Hp} (Pv : Nat → St → Hp → Prop) (h0 : Pv 0 σ H)
    (hs : ∀ i σ H, i < n → Pv i σ H → g (.int (lo + i)) σ H fun σ2 H2 => tb { D with nx := Pv (i + 1), ct := Pv (i + 1), bk := D.nx } σ2 H2) (hd : ∀ σ H, Pv n σ H → D.nx σ H) :
    ∃ W : Nat → Nat → St → Hp → Prop, (∃ m, W 0 m σ H) ∧ ∀ i m σ H, W i m σ H →
      ((Itr lo n).stop i H ∧ D.nx σ H) ∨ ((Itr lo n).go i H ∧ ∃ N : St → Hp → Prop, (∀ σ' H', N σ' H' → ∃ m', m' < m ∧ W (i + 1) m' σ' H') ∧ ∀ x H', (Itr lo n).yld i H x H' → g x σ H' fun σ2 H2 => tb { D with nx := N, ct := N, bk := D.nx } σ2 H2) := by
  refine ⟨fun i m σ H => m = n - i ∧ i ≤ n ∧ Pv i σ H, ⟨n, by simp, Nat.zero_le _, h0⟩, ?_⟩
  rintro i m σ H ⟨rfl, hi, p⟩
  by_cases hlt : i < n
  · refine .inr ⟨hlt, Pv (i + 1), fun σ' H' p' => ⟨n - (i + 1), by omega, rfl, hlt, p'⟩, fun x H' y => ?_⟩
    obtain ⟨e, y⟩ := y
    subst e y
    exact hs i σ _ hlt p
  · have e : i = n := by omega
    subst e
    exact .inl ⟨Nat.le_refl _, hd σ H p⟩
/-- while, by a word and a measure of the state -/
theorem while_by {c : TT} {tb : TS} {D : Ends} {σ : St} {H : Hp} (Pv : St → Hp → Prop) (μ : St → Hp → Nat) (h0 : Pv σ H)
    (hs : ∀ σ H, Pv σ H → c σ H fun b H1 => if b = true then tb { D with nx := fun σ' H' => Pv σ' H' ∧ μ σ' H' < μ σ H, ct := fun σ' H' => Pv σ' H' ∧ μ σ' H' < μ σ H, bk := D.nx } σ H1 else D.nx σ H1)
    (mono : ∀ σ H Q Q', (∀ b H1, Q b H1 → Q' b H1) → c σ H Q → c σ H Q') : tWhile c tb D σ H := by
  refine ⟨fun m σ H => m = μ σ H ∧ Pv σ H, ⟨_, rfl, h0⟩, ?_⟩
  rintro m σ H ⟨rfl, p⟩
  refine mono σ H _ _ (fun b H1 q => ?_) (hs σ H p)
  cases b with
  | true => exact ⟨_, fun σ' H' ⟨p', l⟩ => ⟨_, l, rfl, p'⟩, q⟩
  | false => exact q
end L2

namespace L2
open PySem PySem.Spec PyProof.Rows

abbrev R2 := V → V → Hp → VK → Prop
/-- a two-place operation on values: f is binaryOp op, inplaceOp op or compareOp op -/
def OpR (X : Cx) (f : Value → Value → Sem Value) (r : R2) : Prop :=
  ∀ (pins : List (Addr × Obj)) (s : Shared) (σ : St) (H : Hp) (x y : V) (v u : Value) (Q : VK), Inv X pins σ H s → RelV x v → RelV y u → r x y H Q →
    wpAny (model X.prog X.w) X.A (f v u) (EP X pins σ Q) X.xe s
/-- a one-place operation -/
def UnR (X : Cx) (f : Value → Sem Value) (r : V → Hp → VK → Prop) : Prop :=
  ∀ (pins : List (Addr × Obj)) (s : Shared) (σ : St) (H : Hp) (x : V) (v : Value) (Q : VK), Inv X pins σ H s → RelV x v → r x H Q →
    wpAny (model X.prog X.w) X.A (f v) (EP X pins σ Q) X.xe s
/-- a call of a value that is known (a builtin, a type) with values -/
def CallR (X : Cx) (f : Value) (r : List V → Hp → VK → Prop) : Prop :=
  ∀ (pins : List (Addr × Obj)) (s : Shared) (σ : St) (H : Hp) (xs : List V) (us : List Value) (Q : VK), Inv X pins σ H s → Vals xs us → r xs H Q →
    wpAny (model X.prog X.w) X.A (call f us) (EP X pins σ Q) X.xe s
/-- a value's truth -/
def TruR (X : Cx) (r : V → Hp → (Bool → Hp → Prop) → Prop) : Prop :=
  ∀ (pins : List (Addr × Obj)) (s : Shared) (σ : St) (H : Hp) (x : V) (v : Value) (Q : Bool → Hp → Prop), Inv X pins σ H s → RelV x v → r x H Q →
    wpAny (model X.prog X.w) X.A (truthy v) (TP X pins σ Q) X.xe s

def tOp (r : R2) (ta tb : TE) : TE := fun σ H Q => ta σ H fun x H1 => tb σ H1 fun y H2 => r x y H2 Q
def tUn (r : V → Hp → VK → Prop) (ta : TE) : TE := fun σ H Q => ta σ H fun x H1 => r x H1 Q
/-- ints in, under C, and a value out -/
def rI (C : Int → Int → Prop) (g : Int → Int → V) : R2 := fun x y H Q => ∃ i j, x = .int i ∧ y = .int j ∧ C i j ∧ Q (g i j) H
def rI0 (g : Int → Int → V) : R2 := fun x y H Q => ∃ i j, x = .int i ∧ y = .int j ∧ Q (g i j) H
def rU (g : Int → V) : V → Hp → VK → Prop := fun x H Q => ∃ i, x = .int i ∧ Q (g i) H

section
variable {X : Cx} {a b c : Expr} {ta tb tc : TE} {pos : Pos}

theorem binT (ha : PE X a ta) (hb : PE X b tb) {pins : List (Addr × Obj)} {s : Shared} {σ : St} {H : Hp} {R : V → V → Hp → Prop} (I : Inv X pins σ H s)
    (h : ta σ H fun x H1 => tb σ H1 fun y H2 => R x y H2) {Q : Value → Shared → Prop} {f : Value → Value → Sem Value}
    (hf : ∀ v u s2 x y H2, Inv X pins σ H2 s2 → RelV x v → RelV y u → R x y H2 → wpAny (model X.prog X.w) X.A (f v u) Q X.xe s2) :
    wpAny (model X.prog X.w) X.A (eval a X.env) (fun v s₁ => wpAny (model X.prog X.w) X.A (eval b X.env) (fun u s₂ => wpAny (model X.prog X.w) X.A (f v u) Q X.xe s₂) X.xe s₁) X.xe s := by
  refine thn (ha pins s σ H _ I h) fun v s1 ⟨x, H1, I1, r1, q1⟩ => ?_
  refine thn (hb pins s1 σ H1 _ I1 q1) fun u s2 ⟨y, H2, I2, r2, q2⟩ => ?_
  exact hf v u s2 x y H2 I2 r1 r2 q2

theorem pe_op {op : Operator} {r : R2} (ho : OpR X (binaryOp op) r) (ha : PE X a ta) (hb : PE X b tb) : PE X (.BinOp a op b pos) (tOp r ta tb) := by
  intro pins s σ H Q I h
  exact wpAny_BinOp (binT ha hb I h fun v u s2 x y H2 I2 rx ry q => ho pins s2 σ H2 x y v u Q I2 rx ry q)
theorem pe_un {op : UnaryOp} {r : V → Hp → VK → Prop} (ho : UnR X (unaryOp op) r) (ha : PE X a ta) : PE X (.UnaryOp op a pos) (tUn r ta) := by
  intro pins s σ H Q I h
  exact UnaryOp_ (thn (ha pins s σ H _ I h) fun v s1 ⟨x, H1, I1, r1, q1⟩ => ho pins s1 σ H1 x v Q I1 r1 q1)
/-- a op= e at a name: the name's slot i -/
theorem augR {op : Operator} {r : R2} (ho : OpR X (inplaceOp op) r) {pins : List (Addr × Obj)} {s : Shared} {σ : St} {H : Hp} {x y : V} {v u : Value} {Q : VK} (I : Inv X pins σ H s)
    (rx : RelV x v) (ry : RelV y u) (q : r x y H Q) : wpAny (model X.prog X.w) X.A (inplaceOp op v u) (EP X pins σ Q) X.xe s := ho pins s σ H x y v u Q I rx ry q

/-! ### ints -/
theorem opI {f : Value → Value → Sem Value} {C : Int → Int → Prop} {g : Int → Int → Int}
    (rule : ∀ (i j : Int) (t u : Tok) (s : Shared) (Q : Value → Shared → Prop) (E : Value → Shared → Prop), C i j → Q (.int (g i j) s.toks) { s with toks := s.toks + 1 } → wpAny (model X.prog X.w) X.A (f (.int i t) (.int j u)) Q E s) :
    OpR X f (rI C fun i j => .int (g i j)) := by
  intro pins s σ H x y v u Q I rx ry h
  obtain ⟨i, j, rfl, rfl, hc, q⟩ := h
  obtain ⟨t, rfl⟩ := rx
  obtain ⟨t', rfl⟩ := ry
  exact rule i j t t' s _ _ hc ⟨.int (g i j), H, I.tok _, ⟨_, rfl⟩, q⟩
theorem opI0 {f : Value → Value → Sem Value} {g : Int → Int → Int}
    (rule : ∀ (i j : Int) (t u : Tok) (s : Shared) (Q : Value → Shared → Prop) (E : Value → Shared → Prop), Q (.int (g i j) s.toks) { s with toks := s.toks + 1 } → wpAny (model X.prog X.w) X.A (f (.int i t) (.int j u)) Q E s) :
    OpR X f (rI0 fun i j => .int (g i j)) := by
  intro pins s σ H x y v u Q I rx ry h
  obtain ⟨i, j, rfl, rfl, q⟩ := h
  obtain ⟨t, rfl⟩ := rx
  obtain ⟨t', rfl⟩ := ry
  exact rule i j t t' s _ _ ⟨.int (g i j), H, I.tok _, ⟨_, rfl⟩, q⟩
theorem opB0 {f : Value → Value → Sem Value} {g : Int → Int → Bool}
    (rule : ∀ (i j : Int) (t u : Tok) (s : Shared) (Q : Value → Shared → Prop) (E : Value → Shared → Prop), Q (.bool (g i j)) s → wpAny (model X.prog X.w) X.A (f (.int i t) (.int j u)) Q E s) :
    OpR X f (rI0 fun i j => .bl (g i j)) := by
  intro pins s σ H x y v u Q I rx ry h
  obtain ⟨i, j, rfl, rfl, q⟩ := h
  obtain ⟨t, rfl⟩ := rx
  obtain ⟨t', rfl⟩ := ry
  exact rule i j t t' s _ _ ⟨.bl (g i j), H, I, rfl, q⟩

def CDiv (i j : Int) : Prop := 0 < j ∧ j < 1073741824
def CDivN (i j : Int) : Prop := j ≠ 0 ∧ j.natAbs < 1073741824
def CPow (i j : Int) : Prop := 0 ≤ j ∧ j ≤ 1000000 ∧ i.natAbs < 2 ^ 64
def CMul (i j : Int) : Prop := (-(2 ^ 64) < i ∧ i < 2 ^ 64) ∨ (-(2 ^ 64) < j ∧ j < 2 ^ 64)
theorem CMul.ok {i j : Int} (h : CMul i j) : IntMulOk i j := by
  rcases h with ⟨h1, h2⟩ | ⟨h1, h2⟩
  · exact .of_left (intBits_le_64 h1 h2)
  · exact .of_right (intBits_le_64 h1 h2)
theorem two_pow_nn (k : Nat) : (0 : Int) ≤ 2 ^ k := by
  rw [two_pow_cast]
  exact Int.natCast_nonneg _

theorem op_add : OpR X (binaryOp .Add) (rI0 fun i j => .int (i + j)) := opI0 fun _ _ _ _ _ _ _ q => add_int q
theorem op_sub : OpR X (binaryOp .Sub) (rI0 fun i j => .int (i - j)) := opI0 fun _ _ _ _ _ _ _ q => sub_int q
theorem op_mul : OpR X (binaryOp .Mult) (rI CMul fun i j => .int (i * j)) := opI fun _ _ _ _ _ _ _ hc q => mul_int q hc.ok
/-- // by a positive divisor -/
theorem op_fdiv : OpR X (binaryOp .FloorDiv) (rI CDiv fun i j => .int (i / j)) := opI fun i j _ _ _ _ _ hc q => by
  have h1 : (0 : Int) < j := hc.1
  have h2 : j < 1073741824 := hc.2
  exact floordiv_int (by omega) (by rw [Int.fdiv_eq_ediv_of_nonneg i (by omega)]; exact q) (.inl (PyProof.noPylong_small (by omega)))
theorem op_fdivN : OpR X (binaryOp .FloorDiv) (rI CDivN fun i j => .int (i.fdiv j)) := opI fun _ _ _ _ _ _ _ hc q => floordiv_int hc.1 q (.inl (PyProof.noPylong_small hc.2))
/-- % by a positive divisor of any size -/
theorem op_mod : OpR X (binaryOp .Mod) (rI (fun _ j => 0 < j) fun i j => .int (i % j)) := opI fun i j _ _ _ _ _ hc q => by
  have h1 : (0 : Int) < j := hc
  exact mod_int' (by omega) (by rw [Int.fmod_eq_emod_of_nonneg i (by omega)]; exact q)
theorem op_modN : OpR X (binaryOp .Mod) (rI (fun _ j => j ≠ 0) fun i j => .int (i.fmod j)) := opI fun _ _ _ _ _ _ _ hc q => mod_int' hc q
theorem op_pow : OpR X (binaryOp .Pow) (rI CPow fun i j => .int (i ^ j.toNat)) := opI fun _ _ _ _ _ _ _ hc q => pow_int_small hc.1 hc.2.1 hc.2.2 q
theorem op_shl : OpR X (binaryOp .LShift) (rI CPow fun i j => .int (i * 2 ^ j.toNat)) := opI fun _ _ _ _ _ _ _ hc q => lshift_int_small hc.1 hc.2.1 hc.2.2 q
theorem op_shr : OpR X (binaryOp .RShift) (rI (fun _ j => 0 ≤ j) fun i j => .int (i / 2 ^ j.toNat)) := opI fun i j _ _ _ _ _ hc q =>
  rshift_int hc (by rw [Int.fdiv_eq_ediv_of_nonneg i (two_pow_nn _)]; exact q)
theorem op_and : OpR X (binaryOp .BitAnd) (rI0 fun i j => .int (Builtin.bitAnd i j)) := opI0 fun _ _ _ _ _ _ _ q => and_int q
theorem op_or : OpR X (binaryOp .BitOr) (rI0 fun i j => .int (Builtin.bitOr i j)) := opI0 fun _ _ _ _ _ _ _ q => or_int q
theorem op_xor : OpR X (binaryOp .BitXor) (rI0 fun i j => .int (Builtin.bitXor i j)) := opI0 fun _ _ _ _ _ _ _ q => xor_int q

theorem iop_add : OpR X (inplaceOp .Add) (rI0 fun i j => .int (i + j)) := opI0 fun _ _ _ _ _ _ _ q => iadd_int q
theorem iop_sub : OpR X (inplaceOp .Sub) (rI0 fun i j => .int (i - j)) := opI0 fun _ _ _ _ _ _ _ q => isub_int q
theorem iop_mul : OpR X (inplaceOp .Mult) (rI CMul fun i j => .int (i * j)) := opI fun _ _ _ _ _ _ _ hc q => imul_int q hc.ok
theorem iop_fdiv : OpR X (inplaceOp .FloorDiv) (rI CDiv fun i j => .int (i / j)) := opI fun i j _ _ _ _ _ hc q => by
  have h1 : (0 : Int) < j := hc.1
  have h2 : j < 1073741824 := hc.2
  exact ifloordiv_int (by omega) (by rw [Int.fdiv_eq_ediv_of_nonneg i (by omega)]; exact q) (.inl (PyProof.noPylong_small (by omega)))
theorem iop_mod : OpR X (inplaceOp .Mod) (rI (fun _ j => 0 < j) fun i j => .int (i % j)) := opI fun i j _ _ _ _ _ hc q => by
  have h1 : (0 : Int) < j := hc
  exact imod_int (by omega) (by rw [Int.fmod_eq_emod_of_nonneg i (by omega)]; exact q)
theorem iop_shl : OpR X (inplaceOp .LShift) (rI CPow fun i j => .int (i * 2 ^ j.toNat)) := opI fun _ _ _ _ _ _ _ hc q => ilshift_int_small hc.1 hc.2.1 hc.2.2 q
theorem iop_shr : OpR X (inplaceOp .RShift) (rI (fun _ j => 0 ≤ j) fun i j => .int (i / 2 ^ j.toNat)) := opI fun i j _ _ _ _ _ hc q =>
  irshift_int hc (by rw [Int.fdiv_eq_ediv_of_nonneg i (two_pow_nn _)]; exact q)
theorem iop_and : OpR X (inplaceOp .BitAnd) (rI0 fun i j => .int (Builtin.bitAnd i j)) := opI0 fun _ _ _ _ _ _ _ q => iand_int q
theorem iop_or : OpR X (inplaceOp .BitOr) (rI0 fun i j => .int (Builtin.bitOr i j)) := opI0 fun _ _ _ _ _ _ _ q => ior_int q
theorem iop_xor : OpR X (inplaceOp .BitXor) (rI0 fun i j => .int (Builtin.bitXor i j)) := opI0 fun _ _ _ _ _ _ _ q => ixor_int q

theorem unI {f : Value → Sem Value} {g : Int → Int}
    (rule : ∀ (i : Int) (t : Tok) (s : Shared) (Q : Value → Shared → Prop) (E : Value → Shared → Prop), Q (.int (g i) s.toks) { s with toks := s.toks + 1 } → wpAny (model X.prog X.w) X.A (f (.int i t)) Q E s) :
    UnR X f (rU fun i => .int (g i)) := by
  intro pins s σ H x v Q I rx h
  obtain ⟨i, rfl, q⟩ := h
  obtain ⟨t, rfl⟩ := rx
  exact rule i t s _ _ ⟨.int (g i), H, I.tok _, ⟨_, rfl⟩, q⟩
theorem un_neg : UnR X (unaryOp .USub) (rU fun i => .int (-i)) := unI fun _ _ _ _ _ q => neg_int q
theorem un_inv : UnR X (unaryOp .Invert) (rU fun i => .int (Builtin.bitNot i)) := unI fun _ _ _ _ _ q => invert_int q

/-! ### bools among ints: n += (a < b) -/
theorem op_add_ib : OpR X (binaryOp .Add) (fun x y H Q => ∃ i k, x = .int i ∧ y = .bl k ∧ Q (.int (i + b2i k)) H) := by
  intro pins s σ H x y v u Q I rx ry h
  obtain ⟨i, k, rfl, rfl, q⟩ := h
  obtain ⟨t, rfl⟩ := rx
  cases ry
  exact add_int_bool ⟨.int (i + b2i k), H, I.tok _, ⟨_, rfl⟩, q⟩
end

/-! ### comparisons -/
/-- the scalars that == tells apart as data does -/
def scal : V → V → Bool
  | .non, .non => true | .non, .int _ => true | .int _, .non => true | .non, .bl _ => true | .bl _, .non => true | .non, .str _ => true | .str _, .non => true
  | .int _, .int _ => true | .bl _, .bl _ => true | .str _, .str _ => true | .byt _, .byt _ => true
  | .int _, .str _ => true | .str _, .int _ => true | .bl _, .str _ => true | .str _, .bl _ => true
  | _, _ => false
def rEq : R2 := fun x y H Q => scal x y = true ∧ Q (.bl (decide (x = y))) H
def rNe : R2 := fun x y H Q => scal x y = true ∧ Q (.bl (!decide (x = y))) H

theorem dec_int {i j : Int} : decide (V.int i = V.int j) = (i == j) := by
  rw [Bool.eq_iff_iff]
  simp
theorem dec_bl {i j : Bool} : decide (V.bl i = V.bl j) = (i == j) := by
  rw [Bool.eq_iff_iff]
  simp
theorem dec_str {i j : Str} : decide (V.str i = V.str j) = (i == j) := by
  rw [Bool.eq_iff_iff]
  simp
theorem dec_byt {i j : Array UInt8} : decide (V.byt i = V.byt j) = (i.toList == j.toList) := by
  rw [Bool.eq_iff_iff]
  cases i
  cases j
  simp

section
variable {X : Cx} {a b c : Expr} {ta tb tc : TE} {pos : Pos}
theorem fin_bl {pins : List (Addr × Obj)} {σ : St} {H : Hp} {s : Shared} {Q : VK} {k k' : Bool} (I : Inv X pins σ H s) (q : Q (.bl k) H) (e : k = k') : EP X pins σ Q (.bool k') s := by
  subst e
  exact ⟨.bl k, H, I, rfl, q⟩
theorem op_eq : OpR X (compareOp .Eq) rEq := by
  intro pins s σ H x y v u Q I rx ry h
  obtain ⟨hs, q⟩ := h
  cases x with
  | non =>
    cases rx
    cases y with
    | non => cases ry; exact PySem.EqNone.eq_none_none (fin_bl I q (by simp))
    | bl j => cases ry; exact PySem.EqNone.eq_none_bool (fin_bl I q (by simp))
    | int j => obtain ⟨t', rfl⟩ := ry; exact PySem.EqNone.eq_none_int (fin_bl I q (by simp))
    | str j => obtain ⟨t', rfl⟩ := ry; exact PySem.EqNone.eq_none_str (fin_bl I q (by simp))
    | _ => exact absurd (show false = true from hs) Bool.false_ne_true
  | bl i =>
    cases rx
    cases y with
    | non => cases ry; exact PySem.EqNone.eq_bool_none (fin_bl I q (by simp))
    | bl j => cases ry; exact eq_bool (fin_bl I q dec_bl)
    | str j => obtain ⟨t', rfl⟩ := ry; exact PySem.EqMixed.eq_bool_str (fin_bl I q (by simp))
    | _ => exact absurd (show false = true from hs) Bool.false_ne_true
  | int i =>
    obtain ⟨t, rfl⟩ := rx
    cases y with
    | non => cases ry; exact PySem.EqNone.eq_int_none (fin_bl I q (by simp))
    | int j => obtain ⟨t', rfl⟩ := ry; exact eq_int (fin_bl I q dec_int)
    | str j => obtain ⟨t', rfl⟩ := ry; exact PySem.EqMixed.eq_int_str (fin_bl I q (by simp))
    | _ => exact absurd (show false = true from hs) Bool.false_ne_true
  | str i =>
    obtain ⟨t, rfl⟩ := rx
    cases y with
    | non => cases ry; exact PySem.EqNone.eq_str_none (fin_bl I q (by simp))
    | bl j => cases ry; exact PySem.EqMixed.eq_str_bool (fin_bl I q (by simp))
    | int j => obtain ⟨t', rfl⟩ := ry; exact PySem.EqMixed.eq_str_int (fin_bl I q (by simp))
    | str j => obtain ⟨t', rfl⟩ := ry; exact eq_str (fin_bl I q dec_str)
    | _ => exact absurd (show false = true from hs) Bool.false_ne_true
  | byt i =>
    obtain ⟨t, rfl⟩ := rx
    cases y with
    | byt j => obtain ⟨t', rfl⟩ := ry; exact PySem.W.eq_bytes (fin_bl I q dec_byt)
    | _ => exact absurd (show false = true from hs) Bool.false_ne_true
  | _ => cases y <;> exact absurd (show false = true from hs) Bool.false_ne_true
theorem op_ne : OpR X (compareOp .NotEq) rNe := by
  intro pins s σ H x y v u Q I rx ry h
  obtain ⟨hs, q⟩ := h
  cases x with
  | non =>
    cases rx
    cases y with
    | non => cases ry; exact PySem.EqNone.ne_none_none (fin_bl I q (by simp))
    | bl j => cases ry; exact PySem.EqNone.ne_none_bool (fin_bl I q (by simp))
    | int j => obtain ⟨t', rfl⟩ := ry; exact PySem.EqNone.ne_none_int (fin_bl I q (by simp))
    | str j => obtain ⟨t', rfl⟩ := ry; exact PySem.EqNone.ne_none_str (fin_bl I q (by simp))
    | _ => exact absurd (show false = true from hs) Bool.false_ne_true
  | bl i =>
    cases rx
    cases y with
    | non => cases ry; exact PySem.EqNone.ne_bool_none (fin_bl I q (by simp))
    | bl j => cases ry; exact ne_bool (fin_bl I q (congrArg not dec_bl))
    | str j => obtain ⟨t', rfl⟩ := ry; exact PySem.EqMixed.ne_bool_str (fin_bl I q (by simp))
    | _ => exact absurd (show false = true from hs) Bool.false_ne_true
  | int i =>
    obtain ⟨t, rfl⟩ := rx
    cases y with
    | non => cases ry; exact PySem.EqNone.ne_int_none (fin_bl I q (by simp))
    | int j => obtain ⟨t', rfl⟩ := ry; exact ne_int (fin_bl I q (congrArg not dec_int))
    | str j => obtain ⟨t', rfl⟩ := ry; exact PySem.EqMixed.ne_int_str (fin_bl I q (by simp))
    | _ => exact absurd (show false = true from hs) Bool.false_ne_true
  | str i =>
    obtain ⟨t, rfl⟩ := rx
    cases y with
    | non => cases ry; exact PySem.EqNone.ne_str_none (fin_bl I q (by simp))
    | bl j => cases ry; exact PySem.EqMixed.ne_str_bool (fin_bl I q (by simp))
    | int j => obtain ⟨t', rfl⟩ := ry; exact PySem.EqMixed.ne_str_int (fin_bl I q (by simp))
    | str j => obtain ⟨t', rfl⟩ := ry; exact ne_str (fin_bl I q (congrArg not dec_str))
    | _ => exact absurd (show false = true from hs) Bool.false_ne_true
  | byt i =>
    obtain ⟨t, rfl⟩ := rx
    cases y with
    | byt j => obtain ⟨t', rfl⟩ := ry; exact PySem.W.ne_bytes (fin_bl I q (congrArg not dec_byt))
    | _ => exact absurd (show false = true from hs) Bool.false_ne_true
  | _ => cases y <;> exact absurd (show false = true from hs) Bool.false_ne_true

theorem op_lt : OpR X (compareOp .Lt) (rI0 fun i j => .bl (decide (i < j))) := opB0 fun _ _ _ _ _ _ _ q => lt_int q
theorem op_le : OpR X (compareOp .LtE) (rI0 fun i j => .bl (decide (i ≤ j))) := opB0 fun _ _ _ _ _ _ _ q => le_int q
theorem op_gt : OpR X (compareOp .Gt) (rI0 fun i j => .bl (decide (j < i))) := opB0 fun _ _ _ _ _ _ _ q => gt_int q
theorem op_ge : OpR X (compareOp .GtE) (rI0 fun i j => .bl (decide (j ≤ i))) := opB0 fun _ _ _ _ _ _ _ q => ge_int q
theorem op_lt_str : OpR X (compareOp .Lt) (fun x y H Q => ∃ i j, x = .str i ∧ y = .str j ∧ Q (.bl (decide (i.cps.toList < j.cps.toList))) H) := by
  intro pins s σ H x y v u Q I rx ry h
  obtain ⟨i, j, rfl, rfl, q⟩ := h
  obtain ⟨t, rfl⟩ := rx
  obtain ⟨t', rfl⟩ := ry
  exact lt_str (fin_bl I q rfl)
/-- the one string within the other -/
theorem op_in_str : OpR X (compareOp .In) (fun x y H Q => ∃ i j, x = .str i ∧ y = .str j ∧ Q (.bl (!(Builtin.Str.occurrences j i 0 j.length 1).isEmpty)) H) := by
  intro pins s σ H x y v u Q I rx ry h
  obtain ⟨i, j, rfl, rfl, q⟩ := h
  obtain ⟨t, rfl⟩ := rx
  obtain ⟨t', rfl⟩ := ry
  exact in_str (fin_bl I q rfl)

/-- is None, is not None: the right side a value none -/
theorem op_isN : OpR X (compareOp .Is) (fun x y H Q => y = .non ∧ Q (.bl (decide (x = .non))) H) := by
  intro pins s σ H x y v u Q I rx ry h
  obtain ⟨rfl, q⟩ := h
  cases ry
  refine is_none_gen (fin_bl I q ?_)
  cases x <;> first
    | (cases rx; rfl)
    | (obtain ⟨t, rfl⟩ := rx; rfl)
theorem op_notN : OpR X (compareOp .IsNot) (fun x y H Q => y = .non ∧ Q (.bl (!decide (x = .non))) H) := by
  intro pins s σ H x y v u Q I rx ry h
  obtain ⟨rfl, q⟩ := h
  cases ry
  refine isnot_none_gen (fin_bl I q ?_)
  cases x <;> first
    | (cases rx; rfl)
    | (obtain ⟨t, rfl⟩ := rx; rfl)

theorem op_notin_str : OpR X (compareOp .NotIn) (fun x y H Q => ∃ i j, x = .str i ∧ y = .str j ∧ Q (.bl (!(!(Builtin.Str.occurrences j i 0 j.length 1).isEmpty))) H) := by
  intro pins s σ H x y v u Q I rx ry h
  obtain ⟨i, j, rfl, rfl, q⟩ := h
  obtain ⟨t, rfl⟩ := rx
  obtain ⟨t', rfl⟩ := ry
  exact notIn_str (fin_bl I q rfl)
/-- is, is not of two objects that are tracked lists or instances -/
def isObj : HO → Bool
  | .lst _ => true
  | .ins _ _ _ => true
  | _ => false
theorem obj_there {pins : List (Addr × Obj)} {s : Shared} {σ : St} {H : Hp} {a : Addr} {o : HO} (I : Inv X pins σ H s) (h : H a = some o) (p : isObj o = true) : ∃ ob, s.heap.get? a = some ob ∧ ob.cls ≠ .type "tuple" := by
  cases o with
  | lst xs =>
    obtain ⟨_, its, n, _, e⟩ : xs.length ≤ sizeLine ∧ ∃ (its : List Value) (n : Nat), Vals xs its ∧ s.heap.get? a = some { cls := .type "list", data := .seq its.toArray n } := I.hok a _ h
    exact ⟨_, e, (by show Value.type "list" ≠ .type "tuple"; decide +kernel)⟩
  | ins C dx fs =>
    have x := I.hok a _ h
    obtain ⟨_, _, _, e, _⟩ := x
    exact ⟨_, e, (by show Value.ref C ≠ .type "tuple"; exact fun z => by cases z)⟩
  | _ => exact absurd (show false = true from p) Bool.false_ne_true
theorem op_is_ref : OpR X (compareOp .Is) (fun x y H Q => ∃ a b oa ob, x = .ref a ∧ y = .ref b ∧ H a = some oa ∧ isObj oa = true ∧ H b = some ob ∧ isObj ob = true ∧ Q (.bl (decide (a = b))) H) := by
  intro pins s σ H x y v u Q I rx ry h
  obtain ⟨a, b, oa, ob, rfl, rfl, ha, pa, hb, pb, q⟩ := h
  cases rx
  cases ry
  obtain ⟨o1, e1, n1⟩ := obj_there I ha pa
  obtain ⟨o2, e2, _⟩ := obj_there I hb pb
  by_cases z : a = b
  · subst z
    exact wpAny_is_ref_self (fin_bl I q (by simp))
  · exact wpAny_is_ref_other z e1 e2 n1 (fin_bl I q (by simp [z]))
theorem op_isnot_ref : OpR X (compareOp .IsNot) (fun x y H Q => ∃ a b oa ob, x = .ref a ∧ y = .ref b ∧ H a = some oa ∧ isObj oa = true ∧ H b = some ob ∧ isObj ob = true ∧ Q (.bl (!decide (a = b))) H) := by
  intro pins s σ H x y v u Q I rx ry h
  obtain ⟨a, b, oa, ob, rfl, rfl, ha, pa, hb, pb, q⟩ := h
  cases rx
  cases ry
  obtain ⟨o1, e1, n1⟩ := obj_there I ha pa
  obtain ⟨o2, e2, _⟩ := obj_there I hb pb
  by_cases z : a = b
  · subst z
    exact wpAny_isNot_ref_self (fin_bl I q (by simp))
  · exact wpAny_isNot_ref_other z e1 e2 n1 (fin_bl I q (by simp [z]))

/-- two rules for one operation: by cases -/
theorem OpR.or {f : Value → Value → Sem Value} {r r' : R2} (h : OpR X f r) (h' : OpR X f r') : OpR X f (fun x y H Q => r x y H Q ∨ r' x y H Q) := by
  intro pins s σ H x y v u Q I rx ry q
  rcases q with q | q
  · exact h pins s σ H x y v u Q I rx ry q
  · exact h' pins s σ H x y v u Q I rx ry q

theorem nomark (b : Expr) {op : CmpOp} (h : op ≠ .In := by decide) (h2 : op ≠ .NotIn := by decide) : behindInMarks op b = false := by
  have e1 : (op == CmpOp.In) = false := by cases op <;> first | rfl | exact absurd rfl h
  have e2 : (op == CmpOp.NotIn) = false := by cases op <;> first | rfl | exact absurd rfl h2
  cases b <;> simp [behindInMarks, e1, e2]
/-- a comparison as a value; hm: nomark b, or (for in, not in) by with_unfolding_all rfl -/
theorem pe_cmpR {op : CmpOp} {r : R2} (ho : OpR X (compareOp op) r) (ha : PE X a ta) (hb : PE X b tb) (hm : behindInMarks op b = false) : PE X (.Compare a [op] [b] pos) (tOp r ta tb) := by
  intro pins s σ H Q I h
  exact wpAny_Compare1 (binT ha hb I h fun v u s2 x y H2 I2 rx ry q => ho pins s2 σ H2 x y v u Q I2 rx ry q) hm
/-- a reading of a value as a test -/
def tTest (t : TE) : TT := fun σ H Q => t σ H fun x H' => ∃ k, x = .bl k ∧ Q k H'
theorem pt_cmpR {op : CmpOp} {r : R2} (ho : OpR X (compareOp op) r) (ha : PE X a ta) (hb : PE X b tb) (hm : behindInMarks op b = false) : PT X (.Compare a [op] [b] pos) (tTest (tOp r ta tb)) := by
  intro pins s σ H Q I h
  refine wpAny_isTrue_Compare1 (thn (ha pins s σ H _ I h) fun v s1 ⟨x, H1, I1, r1, q1⟩ => thn (hb pins s1 σ H1 _ I1 q1) fun u s2 ⟨y, H2, I2, r2, q2⟩ =>
    thn (ho pins s2 σ H2 x y v u _ I2 r1 r2 q2) fun c s3 ⟨z, H3, I3, r3, k, e, q3⟩ => ?_) hm
  subst e
  cases r3
  exact wpAny_truthy_bool ⟨H3, I3, q3⟩
/-- a op1 b op2 c -/
def tChain (r r' : R2) (ta tb tc : TE) : TE := fun σ H Q => ta σ H fun x H1 => tb σ H1 fun y H2 => r x y H2 fun z H3 => ∃ k, z = .bl k ∧
  (if k = true then tc σ H3 fun w' H4 => r' y w' H4 Q else Q (.bl false) H3)
theorem pe_chain {op op' : CmpOp} {r r' : R2} (ho : OpR X (compareOp op) r) (ho' : OpR X (compareOp op') r') (ha : PE X a ta) (hb : PE X b tb) (hc : PE X c tc)
    (hm : lastMarks [op, op'] [b, c] = false := by with_unfolding_all rfl) : PE X (.Compare a [op, op'] [b, c] pos) (tChain r r' ta tb tc) := by
  intro pins s σ H Q I h
  refine Compare_chain (thn (ha pins s σ H _ I h) fun v s1 ⟨x, H1, I1, r1, q1⟩ => chain_link (thn (hb pins s1 σ H1 _ I1 q1) fun u s2 ⟨y, H2, I2, r2, q2⟩ =>
    thn (ho pins s2 σ H2 x y v u _ I2 r1 r2 q2) fun d s3 ⟨z, H3, I3, r3, k, e, q3⟩ => ?_)) hm
  subst e
  cases r3
  refine wpAny_truthy_bool ?_
  cases k with
  | false => exact ite_ff ⟨.bl false, H3, I3, rfl, q3⟩
  | true => exact ite_tt (chain_last (thn (hc pins s3 σ H3 _ I3 q3) fun w' s4 ⟨z', H4, I4, r4, q4⟩ => ho' pins s4 σ H4 y z' u w' Q I4 r2 r4 q4))
theorem pt_chain {op op' : CmpOp} {r r' : R2} (ho : OpR X (compareOp op) r) (ho' : OpR X (compareOp op') r') (ha : PE X a ta) (hb : PE X b tb) (hc : PE X c tc)
    (hm : lastMarks [op, op'] [b, c] = false := by with_unfolding_all rfl) : PT X (.Compare a [op, op'] [b, c] pos) (tTest (tChain r r' ta tb tc)) := by
  intro pins s σ H Q I h
  refine isTrue_chain (thn (ha pins s σ H _ I h) fun v s1 ⟨x, H1, I1, r1, q1⟩ => test_link (thn (hb pins s1 σ H1 _ I1 q1) fun u s2 ⟨y, H2, I2, r2, q2⟩ =>
    thn (ho pins s2 σ H2 x y v u _ I2 r1 r2 q2) fun d s3 ⟨z, H3, I3, r3, k, e, q3⟩ => ?_)) hm
  subst e
  cases r3
  refine wpAny_truthy_bool ?_
  cases k with
  | false =>
    obtain ⟨k', e', q'⟩ := q3
    cases e'
    exact ite_ff ⟨H3, I3, q'⟩
  | true =>
    refine ite_tt (test_last (thn (hc pins s3 σ H3 _ I3 q3) fun w' s4 ⟨z', H4, I4, r4, q4⟩ => thn (ho' pins s4 σ H4 y z' u w' _ I4 r2 r4 q4) fun d' s5 ⟨z2, H5, I5, r5, k2, e2, q5⟩ => ?_))
    subst e2
    cases r5
    exact wpAny_truthy_bool ⟨H5, I5, q5⟩

/-! ### truth -/
/-- a value's truth by the abstract heap -/
def TruV (K : PySem.W.Frag) (x : V) (H : Hp) (k : Bool) : Prop :=
  match x with
  | .non => k = false
  | .bl b => k = b
  | .int i => k = (i != 0)
  | .str y => y.length ≤ sizeLine ∧ k = ((y.length : Int) != 0)
  | .byt y => y.size ≤ sizeLine ∧ k = ((y.size : Int) != 0)
  | .ref p => (∃ xs, SqL K H p xs ∧ k = !xs.isEmpty) ∨ (∃ xs, SqT K H p xs ∧ k = !xs.isEmpty) ∨ ∃ kvs, H p = some (.dK kvs) ∧ k = !kvs.isEmpty
  | _ => False
theorem isEmpty_kv {κ : Type} {kvs : List (κ × V)} {vs : List (κ × Value)} (r : KV kvs vs) : (!vs.isEmpty) = !kvs.isEmpty := by
  cases r <;> rfl
theorem isEmpty_of {xs : List V} {its : List Value} (r : Vals xs its) : (!its.toArray.isEmpty) = !xs.isEmpty := by
  cases r <;> simp
theorem line63 : (sizeLine : Nat) < 2 ^ 63 := by rw [sizeLine_eq]; decide
theorem tru_ok : TruR X (fun x H Q => ∃ k, TruV X.K x H k ∧ Q k H) := by
  intro pins s σ H x v Q I rx h
  obtain ⟨k, e, q⟩ := h
  have hl := line63
  have hs : sizeLine = 16777216 := sizeLine_eq
  cases x with
  | non =>
    cases rx
    have e' : k = false := e
    subst e'
    exact truthy_none ⟨H, I, q⟩
  | bl b =>
    cases rx
    have e' : k = b := e
    subst e'
    exact wpAny_truthy_bool ⟨H, I, q⟩
  | int i =>
    obtain ⟨t, rfl⟩ := rx
    have e' : k = (i != 0) := e
    subst e'
    exact PySem.P.truthy_int ⟨H, I, q⟩
  | str y =>
    obtain ⟨t, rfl⟩ := rx
    obtain ⟨hy, e'⟩ : y.length ≤ sizeLine ∧ k = ((y.length : Int) != 0) := e
    subst e'
    exact PySem.P.truthy_str (by omega) ⟨H, I.tok _, q⟩
  | byt y =>
    obtain ⟨t, rfl⟩ := rx
    obtain ⟨hy, e'⟩ : y.size ≤ sizeLine ∧ k = ((y.size : Int) != 0) := e
    subst e'
    exact PySem.W.truthy_bytes (by omega) ⟨H, I.tok _, q⟩
  | ref p =>
    cases rx
    have e' : (∃ xs, SqL X.K H p xs ∧ k = !xs.isEmpty) ∨ (∃ xs, SqT X.K H p xs ∧ k = !xs.isEmpty) ∨ ∃ kvs, H p = some (.dK kvs) ∧ k = !kvs.isEmpty := e
    rcases e' with ⟨xs, hx, e'⟩ | ⟨xs, hx, e'⟩ | ⟨kvs, hx, e'⟩
    · subst e'
      obtain ⟨its, r, pl, hz⟩ := I.list hx
      have hlen := r.length
      exact wpAny_truthy_list pl.isList (by simp only [List.size_toArray]; omega) ⟨H, I.tok _, by rw [isEmpty_of r]; exact q⟩
    · subst e'
      obtain ⟨its, r, pl, hz⟩ := I.tuple hx
      have hlen := r.length
      exact truthy_tuple pl (by simp only [List.size_toArray]; omega) ⟨H, I.tok _, by rw [isEmpty_of r]; exact q⟩
    · subst e'
      obtain ⟨hz, hS, vs, r, m⟩ : kvs.length ≤ sizeLine ∧ (p == sysModules) = false ∧ ∃ vs, KV kvs vs ∧ s.heap.DictOf (mixKind X.prog X.w) p vs := I.hok p _ hx
      have hlen : kvs.length = vs.length := Paired.length r
      exact wpAny_truthy_dict hS m (by omega) ⟨H, I.tok _, by rw [isEmpty_kv r]; exact q⟩
  | _ => exact (show False from e).elim
/-- any expression whose test is its value's truth (a name, a call, a subscript, a field ..: he by fun _ => rfl) -/
theorem pt_truth (ha : PE X a ta) (he : ∀ whole, isTrue a X.env whole = (do let v ← whole; standAt a.pos; holding [v] (truthy v))) :
    PT X a (fun σ H Q => ta σ H fun x H' => ∃ k, TruV X.K x H' k ∧ Q k H') := by
  intro pins s σ H Q I h
  exact isTrue_plain (thn (ha pins s σ H _ I h) fun v s1 ⟨x, H1, I1, r1, q1⟩ => tru_ok pins s1 σ H1 x v Q I1 r1 q1) (he _)

/-! ### strs and bytes -/
theorem pe_byt {x : List UInt8} {k : Nat} : PE X (.Constant (.bytes x) k pos) (fun _ H Q => Q (.byt x.toArray) H) := fun _ _ _ H _ I h => PySem.W.Constant_bytes ⟨.byt x.toArray, H, I.tok _, ⟨_, rfl⟩, h⟩
theorem op_add_str : OpR X (binaryOp .Add) (fun x y H Q => ∃ i j, x = .str i ∧ y = .str j ∧ i.length + j.length ≤ sizeLine ∧ Q (.str (i ++ j)) H) := by
  intro pins s σ H x y v u Q I rx ry h
  obtain ⟨i, j, rfl, rfl, hz, q⟩ := h
  obtain ⟨t, rfl⟩ := rx
  obtain ⟨t', rfl⟩ := ry
  exact add_str (fun t' tk => ⟨.str (i ++ j), H, I.tok _, ⟨_, rfl⟩, q⟩) hz
theorem iop_add_str : OpR X (inplaceOp .Add) (fun x y H Q => ∃ i j, x = .str i ∧ y = .str j ∧ i.length + j.length ≤ sizeLine ∧ Q (.str (i ++ j)) H) := by
  intro pins s σ H x y v u Q I rx ry h
  obtain ⟨i, j, rfl, rfl, hz, q⟩ := h
  obtain ⟨t, rfl⟩ := rx
  obtain ⟨t', rfl⟩ := ry
  exact iadd_str (fun t' tk => ⟨.str (i ++ j), H, I.tok _, ⟨_, rfl⟩, q⟩) hz
theorem op_add_byt : OpR X (binaryOp .Add) (fun x y H Q => ∃ i j, x = .byt i ∧ y = .byt j ∧ i.size + j.size ≤ 16777216 ∧ Q (.byt (i ++ j)) H) := by
  intro pins s σ H x y v u Q I rx ry h
  obtain ⟨i, j, rfl, rfl, hz, q⟩ := h
  obtain ⟨t, rfl⟩ := rx
  obtain ⟨t', rfl⟩ := ry
  exact PySem.W.KBy.add_bytes hz (fun t' tk => ⟨.byt (i ++ j), H, I.tok _, ⟨_, rfl⟩, q⟩)

def PlainIxT (b : Expr) : Prop := ∀ o i, subscripted b false o i = operate [o, i] (getItem o i)
/-- s[i], 0 ≤ i < len -/
theorem pe_item_str (ha : PE X a ta) (hb : PE X b tb) (hs : PlainIxT b) :
    PE X (.Subscript a b pos) (tOp (fun x y H Q => ∃ z i c, x = .str z ∧ y = .int i ∧ 0 ≤ i ∧ i < 2 ^ 63 ∧ i < z.length ∧ z.cps[i.toNat]? = some c ∧ Q (.str ⟨#[c]⟩) H) ta tb) := by
  intro pins s σ H Q I h
  refine Subscript_ (binT ha hb I h fun v u s2 x y H2 I2 rx ry q => ?_)
  obtain ⟨z, i, c, rfl, rfl, h0, h63, h1, hc, q⟩ := q
  obtain ⟨t, rfl⟩ := rx
  obtain ⟨t', rfl⟩ := ry
  have e : seqIndex? i z.length = some i.toNat := PySem.StrLaws.seqIndex_nonneg h0 h1
  exact tail_any (typeIs_str s2 z t) slot_str_getitem.lookup (getItem_str (c := c) (by
    have e1 : decide (i < -(2 ^ 63 : Int)) = false := decide_eq_false (by omega)
    have e2 : decide (i ≥ 2 ^ 63) = false := decide_eq_false (by omega)
    rw [e1, e2] <;> rfl) (by rw [e]; exact hc) ⟨.str ⟨#[c]⟩, H2, I2.tok _, ⟨_, rfl⟩, q⟩) (hs _ _)
/-- b[i], 0 ≤ i < len -/
theorem pe_item_byt (ha : PE X a ta) (hb : PE X b tb) (hs : PlainIxT b) :
    PE X (.Subscript a b pos) (tOp (fun x y H Q => ∃ (z : List UInt8) (i : Int), x = .byt z.toArray ∧ y = .int i ∧ z.length ≤ sizeLine ∧ 0 ≤ i ∧ i < z.length ∧ Q (.int ((z.getD i.toNat 0).toNat : Nat)) H) ta tb) := by
  intro pins s σ H Q I h
  refine Subscript_ (binT ha hb I h fun v u s2 x y H2 I2 rx ry q => ?_)
  obtain ⟨z, i, rfl, rfl, hz, h0, h1, q⟩ := q
  obtain ⟨t, rfl⟩ := rx
  obtain ⟨t', rfl⟩ := ry
  have hl : sizeLine = 16777216 := sizeLine_eq
  exact tail_any (PySem.W.typeIs_bytes s2 z.toArray t) PySem.W.FB.slot_bytes_getitem.lookup (PySem.W.getItem_bytes (by omega) h0 h1 ⟨.int ((z.getD i.toNat 0).toNat : Nat), H2, I2.tok _, ⟨_, rfl⟩, q⟩) (hs _ _)

/-! ### scalar builtins, by CallR -/
theorem vals1 {x : V} {us : List Value} (r : Vals [x] us) : ∃ u, us = [u] ∧ RelV x u := by
  cases r with
  | cons r1 r2 => cases r2; exact ⟨_, rfl, r1⟩
theorem vals2 {x y : V} {us : List Value} (r : Vals [x, y] us) : ∃ u w', us = [u, w'] ∧ RelV x u ∧ RelV y w' := by
  cases r with
  | cons r1 r2 =>
    cases r2 with
    | cons r3 r4 => cases r4; exact ⟨_, _, rfl, r1, r3⟩
theorem call_abs : CallR X (.builtin "abs") (fun xs H Q => ∃ i, xs = [.int i] ∧ Q (.int (if i < 0 then -i else i)) H) := by
  intro pins s σ H xs us Q I r h
  obtain ⟨i, rfl, q⟩ := h
  obtain ⟨u, rfl, t, rfl⟩ := vals1 r
  exact call_abs_int fun u tk => ⟨.int (if i < 0 then -i else i), H, I.tok _, ⟨_, rfl⟩, q⟩
theorem call_max2 (hc : X.calm = true) : CallR X (.builtin "max") (fun xs H Q => ∃ i j, xs = [.int i, .int j] ∧ Q (.int (if j > i then j else i)) H) := by
  intro pins s σ H xs us Q I r h
  obtain ⟨i, j, rfl, q⟩ := h
  obtain ⟨u, w', rfl, ⟨t, rfl⟩, ⟨t', rfl⟩⟩ := vals2 r
  refine max_two_ints (I.ok.hd hc) fun h' tk k => ⟨_, H, I.kept k, ?_, q⟩
  by_cases hj : j > i
  · rw [if_pos hj, if_pos hj]; exact ⟨_, rfl⟩
  · rw [if_neg hj, if_neg hj]; exact ⟨_, rfl⟩
theorem call_min2 (hc : X.calm = true) : CallR X (.builtin "min") (fun xs H Q => ∃ i j, xs = [.int i, .int j] ∧ Q (.int (if j < i then j else i)) H) := by
  intro pins s σ H xs us Q I r h
  obtain ⟨i, j, rfl, q⟩ := h
  obtain ⟨u, w', rfl, ⟨t, rfl⟩, ⟨t', rfl⟩⟩ := vals2 r
  refine min_two_ints (I.ok.hd hc) fun h' tk k => ⟨_, H, I.kept k, ?_, q⟩
  by_cases hj : j < i
  · rw [if_pos hj, if_pos hj]; exact ⟨_, rfl⟩
  · rw [if_neg hj, if_neg hj]; exact ⟨_, rfl⟩
theorem call_int1 : CallR X (.type "int") (fun xs H Q => (∃ i, xs = [.int i] ∧ Q (.int i) H) ∨ ∃ k, xs = [.bl k] ∧ Q (.int (if k then 1 else 0)) H) := by
  intro pins s σ H xs us Q I r h
  rcases h with ⟨i, rfl, q⟩ | ⟨k, rfl, q⟩
  · obtain ⟨u, rfl, t, rfl⟩ := vals1 r
    exact call_int_int ⟨.int i, H, I, ⟨_, rfl⟩, q⟩
  · obtain ⟨u, rfl, r1⟩ := vals1 r
    cases r1
    exact call_int_bool ⟨.int (if k then 1 else 0), H, I.tok _, ⟨_, rfl⟩, q⟩
theorem call_bool1 : CallR X (.type "bool") (fun xs H Q => (∃ i, xs = [.int i] ∧ Q (.bl (i != 0)) H) ∨ ∃ k, xs = [.bl k] ∧ Q (.bl k) H) := by
  intro pins s σ H xs us Q I r h
  rcases h with ⟨i, rfl, q⟩ | ⟨k, rfl, q⟩
  · obtain ⟨u, rfl, t, rfl⟩ := vals1 r
    exact call_bool_int ⟨.bl (i != 0), H, I, rfl, q⟩
  · obtain ⟨u, rfl, r1⟩ := vals1 r
    cases r1
    exact call_bool_bool ⟨.bl k, H, I, rfl, q⟩
theorem call_str_int : CallR X (.type "str") (fun xs H Q => ∃ i, xs = [.int i] ∧ i.natAbs.log2 < 1920 ∧ Q (.str (toString i)) H) := by
  intro pins s σ H xs us Q I r h
  obtain ⟨i, rfl, hz, q⟩ := h
  obtain ⟨u, rfl, t, rfl⟩ := vals1 r
  exact PySem.P.str_of_int hz ⟨.str _, H, I.tok _, ⟨_, rfl⟩, q⟩
theorem call_ord : CallR X (.builtin "ord") (fun xs H Q => ∃ x, xs = [.str x] ∧ x.length = 1 ∧ Q (.int (x.cps.getD 0 0 : Nat)) H) := by
  intro pins s σ H xs us Q I r h
  obtain ⟨x, rfl, hz, q⟩ := h
  obtain ⟨u, rfl, t, rfl⟩ := vals1 r
  exact ord_of_one hz ⟨.int _, H, I.tok _, ⟨_, rfl⟩, q⟩
theorem call_chr : CallR X (.builtin "chr") (fun xs H Q => ∃ i, xs = [.int i] ∧ 0 ≤ i ∧ i ≤ 1114111 ∧ Q (.str ⟨#[i.toNat]⟩) H) := by
  intro pins s σ H xs us Q I r h
  obtain ⟨i, rfl, h0, h1, q⟩ := h
  obtain ⟨u, rfl, t, rfl⟩ := vals1 r
  exact chr_of_range h0 h1 ⟨.str _, H, I.tok _, ⟨_, rfl⟩, q⟩
/-- len of a str, a bytes, a list, a tuple -/
def LenV (K : PySem.W.Frag) (x : V) (H : Hp) (n : Nat) : Prop :=
  match x with
  | .str y => y.length ≤ sizeLine ∧ n = y.length
  | .byt y => y.size ≤ sizeLine ∧ n = y.size
  | .ref p => (∃ xs, SqL K H p xs ∧ n = xs.length) ∨ ∃ xs, SqT K H p xs ∧ n = xs.length
  | _ => False
theorem call_len : CallR X (.builtin "len") (fun xs H Q => ∃ x n, xs = [x] ∧ LenV X.K x H n ∧ Q (.int n) H) := by
  intro pins s σ H xs us Q I r h
  obtain ⟨x, n, rfl, e, q⟩ := h
  obtain ⟨u, rfl, rx⟩ := vals1 r
  have hl := line63
  have hs : sizeLine = 16777216 := sizeLine_eq
  cases x with
  | str y =>
    obtain ⟨t, rfl⟩ := rx
    obtain ⟨hy, e'⟩ : y.length ≤ sizeLine ∧ n = y.length := e
    subst e'
    exact len_str (by omega) ⟨.int _, H, I.tok _, ⟨_, rfl⟩, q⟩
  | byt y =>
    obtain ⟨t, rfl⟩ := rx
    obtain ⟨hy, e'⟩ : y.size ≤ sizeLine ∧ n = y.size := e
    subst e'
    exact PySem.W.len_bytes (by omega) ⟨.int _, H, I.tok _, ⟨_, rfl⟩, q⟩
  | ref p =>
    cases rx
    have e' : (∃ xs, SqL X.K H p xs ∧ n = xs.length) ∨ ∃ xs, SqT X.K H p xs ∧ n = xs.length := e
    rcases e' with ⟨xs, hx, e'⟩ | ⟨xs, hx, e'⟩
    · subst e'
      obtain ⟨its, r', pl, hz⟩ := I.list hx
      have hlen := r'.length
      exact Calls.call_len_list pl.isList (by simp only [List.size_toArray]; omega) ⟨.int xs.length, H, I.tok _, ⟨_, by simp only [List.size_toArray]; rw [hlen]⟩, q⟩
    · subst e'
      obtain ⟨its, r', pl, hz⟩ := I.tuple hx
      have hlen := r'.length
      exact len_tuple pl (by simp only [List.size_toArray]; omega) ⟨.int xs.length, H, I.tok _, ⟨_, by simp only [List.size_toArray]; rw [hlen]⟩, q⟩
  | _ => exact (show False from e).elim
/-- divmod: a new tuple -/
theorem call_divmod : CallR X (.builtin "divmod") (fun xs H Q => ∃ i j, xs = [.int i, .int j] ∧ CDiv i j ∧ ∀ p, H p = none → Q (.ref p) (upd H p (.tup [.int (i / j), .int (i % j)]))) := by
  intro pins s σ H xs us Q I r h
  obtain ⟨i, j, rfl, ⟨h1, h2⟩, q⟩ := h
  obtain ⟨u, w', rfl, ⟨t, rfl⟩, ⟨t', rfl⟩⟩ := vals2 r
  refine divmod_int (by omega) ?_ (.inl (PyProof.noPylong_small (by omega)))
  rw [Int.fdiv_eq_ediv_of_nonneg i (by omega), Int.fmod_eq_emod_of_nonneg i (by omega)]
  have hn : H s.heap.objs.size = none := I.hok.fresh (Nat.le_refl _)
  refine ⟨.ref s.heap.objs.size, _, ?_, rfl, q _ hn⟩
  refine I.laid (fun b o e => Heap.get?_push_of_some _ e) (Nat.le_refl _) ⟨⟨by simp only [List.length_cons, List.length_nil]; rw [sizeLine_eq]; decide, ⟨_, Heap.get?_push_size _ rfl, rfl⟩⟩, [.int (i / j) s.toks, .int (i % j) (s.toks + 1)], .cons ⟨_, rfl⟩ (.cons ⟨_, rfl⟩ .nil), ?_⟩
  exact ⟨_, Heap.get?_push_size s.heap rfl, rfl, 0, rfl⟩
end
end L2

namespace L2
open PySem PySem.Spec PyProof.Rows

/-! ### an instance, its attributes a map -/
structure ObjM (h : Heap) (x dx C : Addr) (mA : Str → Option Value) : Prop where
  obj : h.get? x = some (PySem.W.instObj C dx)
  ns : h.Ns1 dx mA
  ne : dx ≠ x

theorem lookIn_ns {h : Heap} {dx : Addr} {mA : Str → Option Value} (n : h.Ns1 dx mA) : ∃ od, h.get? dx = some od ∧ ∀ name, PySem.W.lookIn name od = some (mA name) := by
  obtain ⟨o, es, ep, ho, hd, hk, _, hm⟩ := n
  refine ⟨o, ho, fun name => ?_⟩
  have e := hm name
  unfold nsFind findBy at e
  rw [← Array.find?_toList] at e
  unfold PySem.W.lookIn
  rw [hd]
  dsimp only
  split
  · rename_i y q
    rw [q] at e
    exact congrArg some e
  · rename_i q
    rw [q] at e
    have a : es.toList.any (·.refKey) = false := by
      rw [List.any_eq_false]
      intro y hy
      obtain ⟨z, t, hkey⟩ := hk y (Array.mem_toList_iff.mp hy)
      simp [DictEntry.refKey, hkey]
    have a' : ¬ es.toList.any (·.refKey) = true := by rw [a]; exact Bool.false_ne_true
    rw [if_neg a']
    exact congrArg some e

theorem ObjM.look {h : Heap} {x dx C : Addr} {mA : Str → Option Value} (I : ObjM h x dx C mA) : ∃ od, PySem.W.InstAt h x (PySem.W.instObj C dx) C (some od) ∧ ∀ name, PySem.W.lookIn name od = some (mA name) :=
  let ⟨od, ho, hl⟩ := lookIn_ns I.ns
  ⟨od, ⟨I.obj, rfl, rfl, ho⟩, hl⟩

section
variable {prog : Program} {w : World} {A : Around} {E : Value → Shared → Prop} {s : Shared} {K : PySem.W.Frag} {x dx C f : Addr} {mA : Str → Option Value} {name : Str} {v : Value}

theorem get_map {expr : Bool} {Q : Value → Shared → Prop} (X : K.In s.heap) (I : ObjM s.heap x dx C mA) (hg : PySem.W.plainGet K C name = true) (hh : PySem.W.hasDictIn K C = true)
    (ha : PySem.W.findIn K (.ref C) name = some none) (hv : mA name = some v) (hv' : PySem.W.handedIn v = true) (h : Q v { s with toks := s.toks + 1 }) :
    wpAny (model prog w) A (getAttr (.ref x) name expr) Q E s := by
  obtain ⟨od, J, hl⟩ := I.look
  exact PySem.W.get_value X J (PySem.W.plainGet_of hg).1 (PySem.W.findObj_own hh ha rfl (by rw [hl, hv])) hv' h

theorem get_const {expr : Bool} {a : Value} {Q : Value → Shared → Prop} (X : K.In s.heap) (I : ObjM s.heap x dx C mA) (hg : PySem.W.plainGet K C name = true) (hh : PySem.W.hasDictIn K C = true)
    (ha : PySem.W.findIn K (.ref C) name = some (some a)) (hn : PySem.W.specialIn K a "__get__" = some none) (hc : PySem.W.copiedNames.contains name = false) (hv : mA name = none) (hv' : PySem.W.handedIn a = true)
    (h : Q a { s with toks := s.toks + 1 }) : wpAny (model prog w) A (getAttr (.ref x) name expr) Q E s := by
  obtain ⟨od, J, hl⟩ := I.look
  exact PySem.W.get_value X J (PySem.W.plainGet_of hg).1 (PySem.W.findObj_cls hh ha hn hv' hc (by rw [hl, hv])) hv' h

theorem get_meth {pl : Sem Bool} {Q : Value × List Value → Shared → Prop} (X : K.In s.heap) (I : ObjM s.heap x dx C mA) (hg : PySem.W.plainGet K C name = true)
    (hf : PySem.W.findIn K (.ref C) name = some (some (.ref f))) (ht : PySem.W.isFn K (.ref f) = true) (hv : mA name = none) (h : Q (.ref f, [.ref x]) s) :
    wpAny (model prog w) A (getMethod (.ref x) name pl) Q E s := by
  obtain ⟨od, J, hl⟩ := I.look
  exact PySem.W.method_fn X J (PySem.W.plainGet_of hg).1 (PySem.W.plainGet_of hg).2 hf (beq_iff_eq.mp ht) (by show (PySem.W.lookIn name od).map (·.isSome) = some false; rw [hl, hv]; rfl) h

theorem set_map {ns : List Str} {Q : Unit → Shared → Prop} (X : K.In s.heap) (I : ObjM s.heap x dx C mA)
    (hs : PySem.W.findIn K (.ref C) "__setattr__" = some (some (.builtin "object.__setattr__"))) (hp : PySem.W.plainOver K C = true) (ht : PySem.W.takerIn K C name = some none) (hh : PySem.W.hasDictIn K C = true)
    (hw : PySem.Within mA ns) (hsz : ns.length ≤ sizeLine)
    (h : ∀ h', ObjM h' x dx C (fun y => if y = name then some v else mA y) → Heap.SameBut dx s.heap h' → Q () { s with heap := h', toks := s.toks + 2 }) :
    wpAny (model prog w) A (setAttr (.ref x) name v) Q E s := by
  obtain ⟨od, J, hl⟩ := I.look
  refine PySem.W.set_plain X J hs (PySem.W.osa_open (s := { s with toks := s.toks + 1 }) (r := none) X J hp ht fun b => ?_)
  obtain ⟨cd, hc, hd'⟩ := PySem.W.any_some hh
  have hx : s.heap.get? x = some ⟨.ref C, some dx, .plain, #[]⟩ := I.obj
  refine wpAny_bind (wpAny_pure (wpAny_bind (wpAny_bind (wpAny_loadPart hx (wpAny_bind (PySem.W.Looks.here (s := { s with toks := s.toks + 1 }) (PySem.W.looks_clsIn X hc) ?_))))))
  rw [hd']
  refine wpAny_pure (a := some dx) (wpAny_bind (wpAny_pure (wpAny_bind ?_)))
  refine wpAny_nsSet1 (s := { s with toks := s.toks + 1 }) I.ns fun h' hn2 hs2 => ?_
  obtain ⟨oD, esD, epD, hoD, hdD, hcD⟩ := hn2.count (PySem.Within.cons name v hw)
  refine wpAny_bind (wpAny_lookBehind hoD (by rw [hdD]; exact pastItsLine_dict (Nat.le_trans hcD (by rw [List.length_cons]; omega))) ?_)
  exact wpAny_pure (h _ ⟨(hs2.2 _ (Ne.symm I.ne)).trans I.obj, hn2, I.ne⟩ hs2)

/-- C(..): the dict at the heap's end, the instance behind it; then its __init__ -/
theorem make_map {R : Result → Shared → Prop} {vs : List Value} {kw : List (Str × Value)} (X : K.In s.heap) (hm : PySem.W.makesIn K C = true)
    (hi : PySem.W.findIn K (.ref C) "__init__" = some (some (.ref f))) (hf : PySem.W.typeIn K (.ref f) = some (.type "function"))
    (h : codeAny (model prog w) (A.under (.builtin "type.__call__" ⟨.ref C :: vs, kw⟩)) (.call (.ref f) ⟨.ref (s.heap.objs.size + 1) :: vs, kw⟩) (PySem.W.InitBack (s.heap.objs.size + 1) R)
      { s with heap := (s.heap.push PySem.W.emptyDict).push (PySem.W.instObj C s.heap.objs.size) }) :
    codeAny (model prog w) A (.call (.ref C) ⟨vs, kw⟩) R s := by
  obtain ⟨hh, g, d, t, os⟩ := s
  exact PySem.W.make_core (PySem.W.makes_of X hm) (PySem.W.looks_findIn X hi) (fun self => PySem.W.bind_fn X self hf) (.inl rfl) h
/-- C() where there is no __init__ but object's -/
theorem make_map0 {R : Result → Shared → Prop} (X : K.In s.heap) (hm : PySem.W.makesIn K C = true)
    (hi : PySem.W.findIn K (.ref C) "__init__" = some (some (.builtin "object.__init__")))
    (hb : ∀ self, PySem.W.Looks (model prog w) s.heap (bindSpecial (.builtin "object.__init__") self) (.builtin "object.__init__", [self]))
    (h : codeAny (model prog w) (A.under (.builtin "type.__call__" ⟨[.ref C], []⟩)) (.call (.builtin "object.__init__") ⟨[.ref (s.heap.objs.size + 1)], []⟩) (PySem.W.InitBack (s.heap.objs.size + 1) R)
      { s with heap := (s.heap.push PySem.W.emptyDict).push (PySem.W.instObj C s.heap.objs.size) }) :
    codeAny (model prog w) A (.call (.ref C) ⟨[], []⟩) R s := by
  obtain ⟨hh, g, d, t, os⟩ := s
  exact PySem.W.make_core (PySem.W.makes_of X hm) (PySem.W.looks_findIn X hi) hb (.inr ⟨rfl, rfl⟩) h
end

/-! ### the attributes as a list of pairs -/
def putF (f : Str) (v : V) : List (Str × V) → List (Str × V)
  | [] => [(f, v)]
  | (g, x) :: r => if g = f then (g, v) :: r else (g, x) :: putF f v r
theorem lookup_putF (f g : Str) (v : V) : ∀ fs : List (Str × V), (putF f v fs).lookup g = if g = f then some v else fs.lookup g
  | [] => by
    show List.lookup g [(f, v)] = _
    by_cases h : g = f
    · have hb : (g == f) = true := beq_iff_eq.mpr h
      simp only [List.lookup, hb, if_pos h]
    · have hb : (g == f) = false := beq_eq_false_iff_ne.mpr h
      simp only [List.lookup, hb, if_neg h]
  | (k, x) :: r => by
    have ih := lookup_putF f g v r
    rw [show putF f v ((k, x) :: r) = (if k = f then (k, v) :: r else (k, x) :: putF f v r) from rfl]
    by_cases hk : k = f
    · rw [if_pos hk]
      by_cases h : g = k
      · have hb : (g == k) = true := beq_iff_eq.mpr h
        simp only [List.lookup, hb, if_pos (h.trans hk)]
      · have hb : (g == k) = false := beq_eq_false_iff_ne.mpr h
        simp only [List.lookup, hb, if_neg (fun e : g = f => h (e.trans hk.symm))]
    · rw [if_neg hk]
      by_cases h : g = k
      · have hb : (g == k) = true := beq_iff_eq.mpr h
        simp only [List.lookup, hb, if_neg (fun e : g = f => hk (h.symm.trans e))]
      · have hb : (g == k) = false := beq_eq_false_iff_ne.mpr h
        simp only [List.lookup, hb]
        exact ih
theorem keys_putF (f : Str) (v : V) : ∀ fs : List (Str × V), f ∈ (putF f v fs).map (·.1) ∧ ∀ g, g ∈ fs.map (·.1) → g ∈ (putF f v fs).map (·.1)
  | [] => ⟨by simp [putF], fun g h => by simp at h⟩
  | (k, x) :: r => by
    obtain ⟨i1, i2⟩ := keys_putF f v r
    rw [show putF f v ((k, x) :: r) = (if k = f then (k, v) :: r else (k, x) :: putF f v r) from rfl]
    by_cases hk : k = f
    · rw [if_pos hk]
      subst hk
      exact ⟨by simp, fun g h => by simpa using h⟩
    · rw [if_neg hk]
      refine ⟨?_, fun g h => ?_⟩
      · rw [List.map_cons]
        exact List.mem_cons_of_mem _ i1
      · rw [List.map_cons] at h ⊢
        rcases List.mem_cons.mp h with e | e
        · exact List.mem_cons.mpr (.inl e)
        · exact List.mem_cons_of_mem _ (i2 g e)
theorem length_putF (f : Str) (v : V) : ∀ fs : List (Str × V), (putF f v fs).length ≤ fs.length + 1
  | [] => by simp [putF]
  | (k, x) :: r => by
    have ih := length_putF f v r
    rw [show putF f v ((k, x) :: r) = (if k = f then (k, v) :: r else (k, x) :: putF f v r) from rfl]
    by_cases hk : k = f
    · rw [if_pos hk, List.length_cons, List.length_cons]; omega
    · rw [if_neg hk, List.length_cons, List.length_cons]; omega

theorem RelO.some_of {v : V} {o : Option Value} (r : RelO (some v) o) : ∃ u, o = some u ∧ RelV v u := by
  cases o with
  | none => exact (show False from r).elim
  | some u => exact ⟨u, rfl, r⟩
theorem RelO.none_of {o : Option Value} (r : RelO none o) : o = none := by
  cases o with
  | none => rfl
  | some u => exact (show False from r).elim
theorem handed_of {v : V} {u : Value} (r : RelV v u) : PySem.W.handedIn u = true := by
  cases v with
  | non => cases (show u = Value.none from r); rfl
  | bl b => cases (show u = Value.bool b from r); rfl
  | int i => obtain ⟨t, e⟩ := (show ∃ t, u = Value.int i t from r); cases e; rfl
  | str x => obtain ⟨t, e⟩ := (show ∃ t, u = Value.str x t from r); cases e; rfl
  | byt b => obtain ⟨t, e⟩ := (show ∃ t, u = Value.bytes b t from r); cases e; rfl
  | flt b => obtain ⟨t, e⟩ := (show ∃ t, u = Value.float b t from r); cases e; rfl
  | ref a => cases (show u = Value.ref a from r); rfl
  | ty n => cases (show u = Value.type n from r); rfl

section
variable {P : Program} {w : World} {H H' : Hp} {h h' : Heap} {a C dx : Addr} {fs fs' : List (Str × V)}
theorem ins_get (hok : HOk P w H h) (e : H a = some (.ins C dx fs)) : ∃ mA, ObjM h a dx C mA ∧ (∀ f, RelO (fs.lookup f) (mA f)) ∧ PySem.Within mA (fs.map (·.1)) ∧ fs.length ≤ 1000 ∧ H dx = some (.own a) := by
  obtain ⟨d, z, ne, ob, mA, n, r, q⟩ := (show ObjOk P w H h a (.ins C dx fs) from hok a _ e)
  exact ⟨mA, ⟨ob, n, ne⟩, r, q, z, d⟩
end

/-! ### what of the text a class must have -/
structure Cls (K : PySem.W.Frag) (C : Addr) : Prop where
  pg : PySem.W.plainGet K C Str.empty = true
  hd : PySem.W.hasDictIn K C = true
  po : PySem.W.plainOver K C = true
  sa : PySem.W.findIn K (.ref C) "__setattr__" = some (some (.builtin "object.__setattr__"))
theorem Cls.get {K : PySem.W.Frag} {C : Addr} (c : Cls K C) (f : Str) : PySem.W.plainGet K C f = true := c.pg
/-- no class of it has the name -/
def NoAttr (K : PySem.W.Frag) (C : Addr) (f : Str) : Prop := PySem.W.findIn K (.ref C) f = some none
theorem NoAttr.taker {K : PySem.W.Frag} {C : Addr} {f : Str} (n : NoAttr K C f) : PySem.W.takerIn K C f = some none := by
  unfold PySem.W.takerIn
  rw [show PySem.W.findIn K (.ref C) f = some none from n]
  rfl
/-- a constant of the class -/
structure Con (K : PySem.W.Frag) (C : Addr) (f : Str) (v : V) (u : Value) : Prop where
  at_ : PySem.W.findIn K (.ref C) f = some (some u)
  rel : RelV v u
  get : PySem.W.specialIn K u "__get__" = some none
  cp : PySem.W.copiedNames.contains f = false
/-- a method: a plain def of the class or of one above it -/
structure Meth (K : PySem.W.Frag) (C : Addr) (m : Str) (f : Addr) : Prop where
  at_ : PySem.W.findIn K (.ref C) m = some (some (.ref f))
  fn : PySem.W.isFn K (.ref f) = true
  kp : PySem.W.keepIn K (.ref f) = true

section
variable {X : Cx} {pins : List (Addr × Obj)} {σ : St} {H : Hp} {s : Shared} {a C dx : Addr} {fs : List (Str × V)} {f : Str} {v : V} {A : Around} {E : Value → Shared → Prop}

theorem getattr_ok {b : Bool} {Q : Value → Shared → Prop} (I : Inv X pins σ H s) (e : H a = some (.ins C dx fs)) (c : Cls X.K C) (n : NoAttr X.K C f) (l : fs.lookup f = some v)
    (h : ∀ u s', Inv X pins σ H s' → RelV v u → Q u s') : wpAny (model X.prog X.w) A (getAttr (.ref a) f b) Q E s := by
  obtain ⟨mA, O, r, _, _, _⟩ := ins_get I.hok e
  obtain ⟨u, hu, ru⟩ := RelO.some_of (v := v) (o := mA f) (by rw [← l]; exact r f)
  exact get_map I.kIn O (c.get f) c.hd n hu (handed_of ru) (h u _ (I.tok _) ru)

theorem getcon_ok {b : Bool} {u : Value} {Q : Value → Shared → Prop} (I : Inv X pins σ H s) (e : H a = some (.ins C dx fs)) (c : Cls X.K C) (k : Con X.K C f v u) (l : fs.lookup f = none)
    (h : ∀ s', Inv X pins σ H s' → Q u s') : wpAny (model X.prog X.w) A (getAttr (.ref a) f b) Q E s := by
  obtain ⟨mA, O, r, _, _, _⟩ := ins_get I.hok e
  have hn : mA f = none := RelO.none_of (by rw [← l]; exact r f)
  exact get_const I.kIn O (c.get f) c.hd k.at_ k.get k.cp hn (handed_of k.rel) (h _ (I.tok _))

theorem getmeth_ok {m : Str} {g : Addr} {pl : Sem Bool} {Q : Value × List Value → Shared → Prop} (I : Inv X pins σ H s) (e : H a = some (.ins C dx fs)) (c : Cls X.K C) (k : Meth X.K C m g) (l : fs.lookup m = none)
    (h : Q (.ref g, [.ref a]) s) : wpAny (model X.prog X.w) A (getMethod (.ref a) m pl) Q E s := by
  obtain ⟨mA, O, r, _, _, _⟩ := ins_get I.hok e
  have hn : mA m = none := RelO.none_of (by rw [← l]; exact r m)
  exact get_meth I.kIn O (c.get m) k.at_ k.fn hn h

theorem setattr_ok {y : V} {u : Value} {Q : Unit → Shared → Prop} (I : Inv X pins σ H s) (e : H a = some (.ins C dx fs)) (c : Cls X.K C) (n : NoAttr X.K C f) (hl : fs.length < 1000) (ry : RelV y u)
    (h : ∀ s', Inv X pins σ (upd H a (.ins C dx (putF f y fs))) s' → Q () s') : wpAny (model X.prog X.w) A (setAttr (.ref a) f u) Q E s := by
  obtain ⟨mA, O, r, wi, _, ho⟩ := ins_get I.hok e
  have hz : (fs.map (·.1)).length ≤ sizeLine := by rw [List.length_map, sizeLine_eq]; omega
  refine set_map I.kIn O c.sa c.po n.taker c.hd wi hz fun h' O' sb => h _ ?_
  have hd : ∃ o, h'.get? dx = some o := let ⟨o, _, _, e', _⟩ := O'.ns; ⟨o, e'⟩
  refine I.write (x := a) (e := dx) (by rw [e]; exact True.intro) (.inr ho) (fun b q hb z => (sb.2 b hb).trans z) hd ?_
  refine ⟨by rw [upd_ne O.ne]; exact ho, ?_, O.ne, O'.obj, _, O'.ns, fun g => ?_, fun g hg => ?_⟩
  · have := length_putF f y fs; omega
  · show RelO ((putF f y fs).lookup g) (if g = f then some u else mA g)
    rw [lookup_putF]
    by_cases q : g = f
    · rw [if_pos q, if_pos q]; exact ry
    · rw [if_neg q, if_neg q]; exact r g
  · by_cases q : g = f
    · rw [q]; exact (keys_putF f y fs).1
    · refine (keys_putF f y fs).2 g (wi g fun z => hg ?_)
      show (if g = f then some u else mA g) = none
      rw [if_neg q]; exact z

/-- a new instance, tracked, without attributes -/
theorem Inv.made (I : Inv X pins σ H s) : Inv X pins σ (upd (upd H s.heap.objs.size (.own (s.heap.objs.size + 1))) (s.heap.objs.size + 1) (.ins C s.heap.objs.size []))
    { s with heap := (s.heap.push PySem.W.emptyDict).push (PySem.W.instObj C s.heap.objs.size) } := by
  have e1 : (s.heap.push PySem.W.emptyDict).get? s.heap.objs.size = some PySem.W.emptyDict := Heap.get?_push_size s.heap rfl
  have e2 : ((s.heap.push PySem.W.emptyDict).push (PySem.W.instObj C s.heap.objs.size)).get? (s.heap.objs.size + 1) = some (PySem.W.instObj C s.heap.objs.size) := by
    have := Heap.get?_push_size (s.heap.push PySem.W.emptyDict) (o := PySem.W.instObj C s.heap.objs.size) rfl
    rwa [Heap.size_push] at this
  have e3 : (s.heap.push PySem.W.emptyDict).Ns s.heap.objs.size (fun _ => none) := ⟨PySem.W.emptyDict, #[], _, e1, rfl, (fun e he => absurd he (by simp)), fun _ => rfl⟩
  have I1 := I.laid (a := s.heap.objs.size) (o := .own (s.heap.objs.size + 1)) (h' := s.heap.push PySem.W.emptyDict) (t' := s.toks) (fun b u q => Heap.get?_push_of_some _ q) (Nat.le_refl _) ⟨_, e1⟩
  refine I1.laid (a := s.heap.objs.size + 1) (o := .ins C s.heap.objs.size []) (t' := s.toks) (fun b u q => Heap.get?_push_of_some _ q) (Nat.le_of_eq (Heap.size_push _ _)) ?_
  have ne : s.heap.objs.size ≠ s.heap.objs.size + 1 := Nat.ne_of_lt (Nat.lt_succ_self _)
  refine ⟨by rw [upd_ne ne, upd_same], Nat.zero_le _, ne, e2, fun _ => none, (Heap.Ns1.of_empty e3).at fun o q => Heap.get?_push_of_some _ q, fun _ => True.intro, fun y hy => absurd rfl hy⟩

/-- e.f where nothing but the object is asked: through attributeBase (super) and the last hold -/
theorem attr_of {prog : Program} {w : World} {env : Env} {e : Expr} {f : Str} {pos : Pos} {s : Shared} {Q : Value → Shared → Prop} (hb : attributeBase e f env (eval e env) = eval e env)
    (h : wpAny (model prog w) A (eval e env) (fun o s₁ => wpAny (model prog w) A (getAttr o f true) Q E s₁) E s) : wpAny (model prog w) A (eval (.Attribute e f pos) env) Q E s :=
  Attribute_any_ h (by rw [arm_eval_Attribute, hb])
end

/-! ### readings and rules -/
/-- e.f, an attribute of the instance -/
def tFld (K : PySem.W.Frag) (ta : TE) (f : Str) : TE := fun σ H Q => ta σ H fun x H1 => ∃ a C dx fs v, x = .ref a ∧ H1 a = some (.ins C dx fs) ∧ Cls K C ∧ NoAttr K C f ∧ fs.lookup f = some v ∧ Q v H1
/-- e.f, a constant of the class -/
def tCon (K : PySem.W.Frag) (ta : TE) (f : Str) : TE := fun σ H Q => ta σ H fun x H1 => ∃ a C dx fs v u, x = .ref a ∧ H1 a = some (.ins C dx fs) ∧ Cls K C ∧ Con K C f v u ∧ fs.lookup f = none ∧ Q v H1
/-- e.f = value -/
def sFld (K : PySem.W.Frag) (ta tv : TE) (f : Str) : TS := fun D σ H => tv σ H fun y H1 => ta σ H1 fun x H2 => ∃ a C dx fs, x = .ref a ∧ H2 a = some (.ins C dx fs) ∧ Cls K C ∧ NoAttr K C f ∧ fs.length < 1000 ∧
  D.nx σ (upd H2 a (.ins C dx (putF f y fs)))
/-- an augmented operator on two values -/
def InOp (X : Cx) (op : Operator) (rd : V → V → Hp → VK → Prop) : Prop :=
  ∀ (pins : List (Addr × Obj)) (s : Shared) (σ : St) (H : Hp) (x y : V) (u v : Value) (Q : VK), Inv X pins σ H s → RelV x u → RelV y v → rd x y H Q → wpAny (model X.prog X.w) X.A (inplaceOp op u v) (EP X pins σ Q) X.xe s
/-- e.f op= value -/
def sFldAug (K : PySem.W.Frag) (ta tv : TE) (rd : V → V → Hp → VK → Prop) (f : Str) : TS := fun D σ H => ta σ H fun x H1 => ∃ a C dx fs v, x = .ref a ∧ H1 a = some (.ins C dx fs) ∧ Cls K C ∧ NoAttr K C f ∧ fs.lookup f = some v ∧
  tv σ H1 fun y H2 => rd v y H2 fun z H3 => ∃ dx' fs', H3 a = some (.ins C dx' fs') ∧ fs'.length < 1000 ∧ D.nx σ (upd H3 a (.ins C dx' (putF f z fs')))

section
variable {X : Cx} {o e value : Expr} {f : Str} {pos pos' tpos : Pos} {ta tv : TE}
theorem pe_fld (he : PE X e ta) (hb : attributeBase e f X.env (eval e X.env) = eval e X.env) : PE X (.Attribute e f pos) (tFld X.K ta f) := by
  intro pins s σ H Q I h
  refine attr_of hb (thn (he pins s σ H _ I h) fun u s1 ⟨x, H1, I1, rx, a, C, dx, fs, v, ex, ea, c, n, l, q⟩ => ?_)
  subst ex
  obtain rfl : u = Value.ref a := rx
  exact getattr_ok I1 ea c n l fun u' s2 I2 ru => ⟨v, H1, I2, ru, q⟩
theorem pe_con (he : PE X e ta) (hb : attributeBase e f X.env (eval e X.env) = eval e X.env) : PE X (.Attribute e f pos) (tCon X.K ta f) := by
  intro pins s σ H Q I h
  refine attr_of hb (thn (he pins s σ H _ I h) fun u s1 ⟨x, H1, I1, rx, a, C, dx, fs, v, u0, ex, ea, c, k, l, q⟩ => ?_)
  subst ex
  obtain rfl : u = Value.ref a := rx
  exact getcon_ok I1 ea c k l fun s2 I2 => ⟨v, H1, I2, k.rel, q⟩
theorem ps_fld (ha : PE X o ta) (hv : PE X value tv) (hs : swapsWith value (some (.Attribute o f pos')) pos.line X.env = pure false) : PS X (.Assign [.Attribute o f pos'] value pos) (sFld X.K ta tv f) := by
  intro pins s σ H D I h
  refine plainObj_wpAny_Assign_Attribute (thn (hv pins s σ H _ I h) fun u s1 ⟨y, H1, I1, ry, q⟩ => thn (ha pins s1 σ H1 _ I1 q) fun ov s2 ⟨x, H2, I2, rx, a, C, dx, fs, ex, ea, c, n, l, q2⟩ => ?_) hs
  subst ex
  obtain rfl : ov = Value.ref a := rx
  exact setattr_ok I2 ea c n l ry fun s3 I3 => ⟨σ, _, I3, q2⟩
theorem ps_fldaug {op : Operator} {rd : V → V → Hp → VK → Prop} (ha : PE X o ta) (hv : PE X value tv) (hop : InOp X op rd) : PS X (.AugAssign (.Attribute o f tpos) op value pos) (sFldAug X.K ta tv rd f) := by
  intro pins s σ H D I h
  refine wpAny_AugAssign_AttributeAny (thn (ha pins s σ H _ I h) fun ov s1 ⟨x, H1, I1, rx, a, C, dx, fs, v, ex, ea, c, n, l, q⟩ => ?_)
  subst ex
  obtain rfl : ov = Value.ref a := rx
  refine getattr_ok I1 ea c n l fun u s2 I2 ru => thn (hv pins s2 σ H1 _ I2 q) fun w3 s3 ⟨y, H2, I3, ry, q3⟩ => thn (hop pins s3 σ H2 v y u w3 _ I3 ru ry q3) fun w4 s4 ⟨z, H3, I4, rz, dx', fs', ea', l', q4⟩ => ?_
  exact setattr_ok I4 ea' c n l' rz fun s5 I5 => ⟨σ, _, I5, q4⟩
def rAdd : V → V → Hp → VK → Prop := fun x y H Q => ∃ i j, x = .int i ∧ y = .int j ∧ Q (.int (i + j)) H
def rSub : V → V → Hp → VK → Prop := fun x y H Q => ∃ i j, x = .int i ∧ y = .int j ∧ Q (.int (i - j)) H
theorem in_add : InOp X .Add rAdd := by
  rintro pins s σ H x y u v Q I rx ry ⟨i, j, rfl, rfl, q⟩
  obtain ⟨t, rfl⟩ := (show ∃ t, u = Value.int i t from rx)
  obtain ⟨t', rfl⟩ := (show ∃ t', v = Value.int j t' from ry)
  exact PyProof.Rows.iadd_int ⟨.int (i + j), H, I.tok _, ⟨_, rfl⟩, q⟩
theorem in_sub : InOp X .Sub rSub := by
  rintro pins s σ H x y u v Q I rx ry ⟨i, j, rfl, rfl, q⟩
  obtain ⟨t, rfl⟩ := (show ∃ t, u = Value.int i t from rx)
  obtain ⟨t', rfl⟩ := (show ∃ t', v = Value.int j t' from ry)
  exact PyProof.Rows.isub_int ⟨.int (i - j), H, I.tok _, ⟨_, rfl⟩, q⟩

/-- what is between an instance and its method: the tree of a method call -/
theorem methcall_of {pl : Sem Bool} {m : Str} {apos : Pos} {args : List Expr} {pins : List (Addr × Obj)} {s : Shared} {σ : St} {H : Hp} {Q : Value → Shared → Prop} {te : TE} (he : PE X e te) (I : Inv X pins σ H s)
    (h : te σ H fun x H1 => ∃ a C dx fs g, x = .ref a ∧ H1 a = some (.ins C dx fs) ∧ Cls X.K C ∧ Meth X.K C m g ∧ fs.lookup m = none ∧
      ∀ s1, Inv X pins σ H1 s1 → wpAny (model X.prog X.w) X.A (callWith pos (.ref g) [.ref a] (backTo pos (starEach args X.env)) (backToKw pos (keywordEach [] X.env))) Q X.xe s1)
    (ht : eval (.Call (.Attribute e m apos) args [] pos) X.env = (do
      let ov ← eval e X.env
      standAt apos.atName
      let (f, first) ← holding [ov] (getMethod ov m pl)
      callWith pos f first (backTo pos (starEach args X.env)) (backToKw pos (keywordEach [] X.env)))) :
    wpAny (model X.prog X.w) X.A (eval (.Call (.Attribute e m apos) args [] pos) X.env) Q X.xe s := by
  refine PySem.W.methodCall_KW (pl := pl) (thn (he pins s σ H _ I h) fun u s1 ⟨x, H1, I1, rx, a, C, dx, fs, g, ex, ea, c, k, l, q⟩ => ?_) ht
  subst ex
  obtain rfl : u = Value.ref a := rx
  exact getmeth_ok I1 ea c k l (q s1 I1)
end

/-! ### isinstance -/
section
variable {X : Cx} {pins : List (Addr × Obj)} {σ : St} {H : Hp} {s : Shared} {A : Around} {E : Value → Shared → Prop} {Q : Value → Shared → Prop} {c : Value} {b : Bool}
/-- the type of a value, as the fragment's deciders take it; for an instance its class -/
inductive TyOf (K : PySem.W.Frag) (H : Hp) : V → Value → Prop where
  | non : TyOf K H .non (.type "NoneType")
  | bl (x : Bool) : TyOf K H (.bl x) (.type "bool")
  | int (i : Int) : TyOf K H (.int i) (.type "int")
  | str (x : Str) : TyOf K H (.str x) (.type "str")
  | flt (x : UInt64) : TyOf K H (.flt x) (.type "float")
  | lst {a : Addr} {xs : List V} (e : H a = some (.lst xs)) : TyOf K H (.ref a) (.type "list")
  | frz {a : Addr} {o : Obj} {xs : List V} (e : H a = some (.frz o (.lst xs))) : TyOf K H (.ref a) (.type "list")
  | tup {a : Addr} {xs : List V} (e : H a = some (.tup xs)) : TyOf K H (.ref a) (.type "tuple")
  | dK {a : Addr} {kvs : List (Key × V)} (e : H a = some (.dK kvs)) : TyOf K H (.ref a) (.type "dict")
  | dT {a : Addr} {kvs : List (List Key × V)} (e : H a = some (.dT kvs)) : TyOf K H (.ref a) (.type "dict")
  | ins {a C dx : Addr} {fs : List (Str × V)} (e : H a = some (.ins C dx fs)) (cl : Cls K C) (ha : PySem.W.findIn K (.ref C) "__class__" = some (some (.builtin "object.__class__")))
      (hn : PySem.W.specialIn K (.builtin "object.__class__") "__get__" = some (some (.builtin "getset_descriptor.__get__"))) (htk : PySem.W.takesIn K (.builtin "object.__class__") = some true)
      (hm : PySem.W.mroIn K C (.type "object") = some true) : TyOf K H (.ref a) (.ref C)
/-- isinstance(x, c) for one class c, a built-in or an own one: kitOne's answer -/
theorem isinst_ok {x : V} {u t : Value} (I : Inv X pins σ H s) (rx : RelV x u) (ty : TyOf X.K H x t) (e : PySem.W.kitOne X.K t c = some b) (h : ∀ tk, Q (.bool b) { s with toks := tk }) :
    wpAny (model X.prog X.w) A (call (.builtin "isinstance") [u, c]) Q E s := by
  cases ty with
  | non => cases (show u = Value.none from rx); exact PySem.W.kia_one PySem.W.kitx_none I.kIn True.intro e (fun z => nomatch z) h
  | bl y => cases (show u = Value.bool y from rx); exact PySem.W.kia_one PySem.W.kitx_bool I.kIn True.intro e (fun z => nomatch z) h
  | int i => obtain ⟨t, q⟩ := (show ∃ t, u = Value.int i t from rx); cases q; exact PySem.W.kia_one PySem.W.kitx_int I.kIn True.intro e (fun z => nomatch z) h
  | str y => obtain ⟨t, q⟩ := (show ∃ t, u = Value.str y t from rx); cases q; exact PySem.W.kia_one PySem.W.kitx_str I.kIn True.intro e (fun z => nomatch z) h
  | flt y => obtain ⟨t, q⟩ := (show ∃ t, u = Value.float y t from rx); cases q; exact PySem.W.kia_one PySem.W.kitx_float I.kIn True.intro e (fun z => nomatch z) h
  | @lst a xs ea =>
    cases (show u = Value.ref a from rx)
    obtain ⟨_, _, n, _, h1⟩ := (show ObjOk X.prog X.w H s.heap a (.lst xs) from I.hok a _ ea)
    exact PySem.W.kia_one PySem.W.kitx_list I.kIn ⟨_, h1, rfl⟩ e (fun z => nomatch z) h
  | @frz a ob xs ea =>
    cases (show u = Value.ref a from rx)
    obtain ⟨_, _, _, n, _, h1⟩ := (show ObjOk X.prog X.w H s.heap a (.frz ob (.lst xs)) from I.hok a _ ea)
    exact PySem.W.kia_one PySem.W.kitx_list I.kIn ⟨_, h1, rfl⟩ e (fun z => nomatch z) h
  | @tup a xs ea =>
    cases (show u = Value.ref a from rx)
    obtain ⟨_, _, _, p⟩ := (show ObjOk X.prog X.w H s.heap a (.tup xs) from I.hok a _ ea)
    obtain ⟨o, h1, h2, _⟩ := p
    exact PySem.W.kia_one PySem.W.kitx_tuple I.kIn ⟨o, h1, h2⟩ e (fun z => nomatch z) h
  | @dK a kvs ea =>
    cases (show u = Value.ref a from rx)
    obtain ⟨_, _, vs, _, p⟩ := (show ObjOk X.prog X.w H s.heap a (.dK kvs) from I.hok a _ ea)
    obtain ⟨o, es, ep, h1, h2, _⟩ := p
    exact PySem.W.kia_one PySem.W.kitx_dict I.kIn ⟨o, h1, h2.1⟩ e (fun z => nomatch z) h
  | @dT a kvs ea =>
    cases (show u = Value.ref a from rx)
    obtain ⟨_, _, xs, _, o, es, ep, h1, h2, _⟩ := (show ObjOk X.prog X.w H s.heap a (.dT kvs) from I.hok a _ ea)
    exact PySem.W.kia_one PySem.W.kitx_dict I.kIn ⟨o, h1, h2.1⟩ e (fun z => nomatch z) h
  | @ins a C dx fs ea cl ha hn htk hm =>
    cases (show u = Value.ref a from rx)
    obtain ⟨mA, O, _⟩ := ins_get I.hok ea
    obtain ⟨od, J, _⟩ := O.look
    exact PySem.W.kia_one (PySem.W.kitx_own (cl.get _) cl.hd ha hn htk hm) I.kIn J e (fun z => nomatch z) h
end
end L2

namespace L2
open PySem PySem.Spec PyProof.Rows

/-! ### room -/
structure Room (k : Nat) (A : Around) : Prop where
  hd : A.handled = none
  dp : A.depth + 3 * k + 5 < recursionLimit
  un : A.units + 16 * k + 200 < cLine
theorem Room.mono {j k : Nat} {A : Around} (r : Room k A) (h : j ≤ k) : Room j A := ⟨r.hd, by have := r.dp; omega, by have := r.un; omega⟩
theorem Room.deeper {k : Nat} {A : Around} (r : Room (k + 1) A) (env : Env) : Room k (A.deeper env) :=
  ⟨r.hd, by have := r.dp; show A.depth + 1 + 3 * k + 5 < _; omega, by have := r.un; show A.units + 3 + 16 * k + 200 < _; omega⟩
theorem Room.in1 {k : Nat} {A : Around} (r : Room (k + 1) A) : Room k A.in1 :=
  ⟨r.hd, by have := r.dp; show A.depth + 3 * k + 5 < _; omega, by have := r.un; show A.units + 1 + 16 * k + 200 < _; omega⟩
theorem make_depth {A : Around} {C : Addr} {us : List Value} {kw : List (Str × Value)} : (A.under (.builtin "type.__call__" ⟨.ref C :: us, kw⟩)).depth = A.depth + 1 := by
  first | rfl | simp [Around.under, Code.weight, Code.isCreation, Code.isGuard, Code.isCaller, Code.frames, Code.isFrame, guardIds]
theorem make_units {A : Around} {C : Addr} {us : List Value} {kw : List (Str × Value)} : (A.under (.builtin "type.__call__" ⟨.ref C :: us, kw⟩)).units = A.units + 1 := by
  first | rfl | simp [Around.under, Code.cUnits, Code.frames, Code.isFrame]
theorem Room.make {k : Nat} {A : Around} (r : Room (k + 1) A) (C : Addr) (us : List Value) (kw : List (Str × Value)) : Room k (A.under (.builtin "type.__call__" ⟨.ref C :: us, kw⟩)) :=
  ⟨r.hd, by have := r.dp; rw [make_depth]; omega, by have := r.un; rw [make_units]; omega⟩
theorem Room.depth {k : Nat} {A : Around} (r : Room k A) : A.depth < recursionLimit := by have := r.dp; omega
theorem Room.units {k : Nat} {A : Around} (r : Room k A) : A.units + 64 < cLine := by have := r.un; omega
theorem Room.units0 {k : Nat} {A : Around} (r : Room k A) : A.units < cLine := by have := r.un; omega

/-! ### argument lists and displays -/
def tNil : TA := fun _ H Q => Q [] H
def tCons (ta : TE) (tr : TA) : TA := fun σ H Q => ta σ H fun x H1 => tr σ H1 fun xs H2 => Q (x :: xs) H2
section
variable {X : Cx} {e : Expr} {es : List Expr} {te : TE} {t : TA} {pos : Pos}
theorem pa_nil : PA X [] tNil := fun _ _ _ _ H Q I h => Calls.spliced_nil ⟨[], H, I, .nil, h⟩
theorem pa_cons (ha : PE X e te) (hr : PA X es t) (hs : starEach (e :: es) X.env = (false, eval e X.env) :: starEach es X.env := by rfl) : PA X (e :: es) (tCons te t) := by
  intro pos pins s σ H Q I h
  rw [hs]
  show wpAny _ _ (spliced ((false, eval e X.env) :: backTo pos (starEach es X.env))) _ _ s
  refine Calls.spliced_cons (thn (ha pins s σ H _ I h) fun u s1 ⟨x, H1, I1, r1, q1⟩ => ?_)
  exact thn (hr pos pins s1 σ H1 _ I1 q1) fun us s2 ⟨xs, H2, I2, r2, q2⟩ => ⟨x :: xs, H2, I2, .cons r1 r2, q2⟩

/-- a tuple, a list of written items -/
def tTup (t : TA) : TE := fun σ H Q => t σ H fun xs H1 => xs.length ≤ sizeLine ∧ ∀ p, H1 p = none → Q (.ref p) (upd H1 p (.tup xs))
def tLst (t : TA) : TE := fun σ H Q => t σ H fun xs H1 => xs.length ≤ sizeLine ∧ ∀ p, H1 p = none → Q (.ref p) (upd H1 p (.lst xs))
theorem pe_tup {x1} (h : PA X es t) : PE X (.Tuple es x1 pos) (tTup t) := by
  intro pins s σ H Q I hq
  refine wpAny_Tuple_spliced (thn (h pos pins s σ H _ I hq) fun us s1 ⟨xs, H1, I1, r, z, q⟩ => ⟨by rw [← r.length]; exact z, ?_⟩)
  have hf : H1 s1.heap.objs.size = none := I1.hok.fresh (Nat.le_refl _)
  refine ⟨.ref s1.heap.objs.size, upd H1 s1.heap.objs.size (.tup xs), I1.laid (t' := s1.toks) (fun b u e => Heap.get?_push_of_some _ e) (Nat.le_refl _) ?_, rfl, q _ hf⟩
  exact ⟨⟨z, ⟨_, Heap.get?_push_size _ rfl, rfl⟩⟩, us, r, ⟨_, Heap.get?_push_size _ rfl, rfl, _, rfl⟩⟩
theorem pe_lst (h : PA X es t) : PE X (.List es pos) (tLst t) := by
  intro pins s σ H Q I hq
  refine wpAny_List_spliced (thn (h pos pins s σ H _ I hq) fun us s1 ⟨xs, H1, I1, r, z, q⟩ => ⟨by rw [← r.length]; exact z, ?_⟩)
  have hf : H1 s1.heap.objs.size = none := I1.hok.fresh (Nat.le_refl _)
  refine ⟨.ref s1.heap.objs.size, upd H1 s1.heap.objs.size (.lst xs), I1.laid (t' := s1.toks) (fun b u e => Heap.get?_push_of_some _ e) (Nat.le_refl _) ?_, rfl, q _ hf⟩
  exact ⟨z, us, 0, r, Heap.get?_push_size _ rfl⟩
end

/-! ### what a def promises -/
/-- a def's promise: the bound arguments in the parameters' order, the heap, the wanted end, the wanted exception -/
abbrev Sp := List V → Hp → VK → XK → Prop
/-- how an exception lies behind a call (file 08 gives it): the callers' frames, abstract heap and state ahead of the call, the wish, the exception, the state -/
abbrev CXT := List Env → Hp → Shared → XK → Value → Shared → Prop

/-- the state at a call -/
structure Env0 (P : Program) (w : World) (K : PySem.W.Frag) (mg : Str → Option Value) (base : Heap) (A : Around) (outer : List Env) (s : Shared) (H : Hp) : Prop where
  frames : A.frames = some outer
  mod : Mod K mg base
  bs : ∀ b o, base.get? b = some o → s.heap.get? b = some o ∧ H b = none
  bsz : base.objs.size ≤ s.heap.objs.size
  funs : s.heap.FunFrames base outer
  frf : ∀ b ∈ frs outer, H b = none
  hok : HOk P w H s.heap
  bare : AllBare s.gens
/-- a call's end -/
def CE (outer : List Env) (P : Program) (w : World) (H : Hp) (s : Shared) (Q : VK) (u : Value) (s' : Shared) : Prop :=
  ∃ v H', s'.os = s.os ∧ AllBare s'.gens ∧ Un (frs outer) [] H H' s.heap s'.heap ∧ HOk P w H' s'.heap ∧ RelV v u ∧ Q v H'
def CR (CX : CXT) (outer : List Env) (P : Program) (w : World) (H : Hp) (s : Shared) (Q : VK) (E : XK) (r : Result) (s' : Shared) : Prop :=
  match r with
  | .ok (.ret u) => CE outer P w H s Q u s'
  | .ok _ => False
  | .error e => CX outer H s E e s'
structure FnOk (P : Program) (w : World) (K : PySem.W.Frag) (mg : Str → Option Value) (base : Heap) (CX : CXT) (k : Nat) (f : Addr) (fd : FuncData) (ps : List Str) (sp : Sp) : Prop where
  len : ∀ vs H Q E, sp vs H Q E → vs.length = ps.length
  run : ∀ (A : Around) (outer : List Env) (s : Shared) (H : Hp) (args : Args) (us : List Value) (vs : List V) (Q : VK) (E : XK), Room k A → Env0 P w K mg base A outer s H → BindsTo s fd args (ps.zip us) → Vals vs us → sp vs H Q E →
    codeAny (model P w) A (.call (.ref f) args) (CR CX outer P w H s Q E) s
theorem FnOk.mono {P : Program} {w : World} {K : PySem.W.Frag} {mg : Str → Option Value} {base : Heap} {CX : CXT} {j k : Nat} {f : Addr} {fd : FuncData} {ps : List Str} {sp : Sp} (F : FnOk P w K mg base CX j f fd ps sp) (h : j ≤ k) :
    FnOk P w K mg base CX k f fd ps sp := ⟨F.len, fun A outer s H args us vs Q E hr => F.run A outer s H args us vs Q E (hr.mono h)⟩
/-- a weaker promise -/
theorem FnOk.imp {P : Program} {w : World} {K : PySem.W.Frag} {mg : Str → Option Value} {base : Heap} {CX : CXT} {k : Nat} {f : Addr} {fd : FuncData} {ps : List Str} {sp sp' : Sp} (F : FnOk P w K mg base CX k f fd ps sp)
    (h : ∀ vs H Q E, sp' vs H Q E → sp vs H Q E) : FnOk P w K mg base CX k f fd ps sp' :=
  ⟨fun vs H Q E q => F.len vs H Q E (h _ _ _ _ q), fun A outer s H args us vs Q E hr he hb hv hs => F.run A outer s H args us vs Q E hr he hb hv (h _ _ _ _ hs)⟩

theorem Env0.make {P : Program} {w : World} {K : PySem.W.Frag} {mg : Str → Option Value} {base : Heap} {A : Around} {outer : List Env} {s : Shared} {H : Hp} (e : Env0 P w K mg base A outer s H) (C : Addr) (us : List Value) (kw : List (Str × Value)) :
    Env0 P w K mg base (A.under (.builtin "type.__call__" ⟨.ref C :: us, kw⟩)) outer s H := ⟨by first | exact e.frames | (simpa [Around.under, Code.envs, Code.isFrame, pushEnvs] using e.frames), e.mod, e.bs, e.bsz, e.funs, e.frf, e.hok, e.bare⟩
theorem Env0.in1 {P : Program} {w : World} {K : PySem.W.Frag} {mg : Str → Option Value} {base : Heap} {A : Around} {outer : List Env} {s : Shared} {H : Hp} (e : Env0 P w K mg base A outer s H) :
    Env0 P w K mg base A.in1 outer s H := ⟨e.frames, e.mod, e.bs, e.bsz, e.funs, e.frf, e.hok, e.bare⟩

section
variable {X : Cx} {pins : List (Addr × Obj)} {σ : St} {H : Hp} {s s' : Shared}
/-- from a body: what a callee wants -/
theorem Inv.env0 (I : Inv X pins σ H s) : Env0 X.prog X.w X.K X.mg X.base X.A X.stack s H :=
  ⟨I.ok.frames, I.ok.mod, I.bs, Nat.le_trans I.ok.bsz I.sz, I.stack, I.stkFree, I.hok, I.bare⟩
/-- behind a call -/
theorem Inv.after {Q : VK} {u : Value} (I : Inv X pins σ H s) (h : CE X.stack X.prog X.w H s Q u s') : EP X pins σ Q u s' := by
  obtain ⟨v, H', os, bare, un, hok, r, q⟩ := h
  obtain ⟨hh, g, d, t, os'⟩ := s'
  obtain rfl : os' = s.os := os
  exact ⟨v, H', I.call (h' := hh) (g' := g) (d' := d) (t' := t) (ch := []) un hok bare (fun b z => absurd z (by simp)), r, q⟩
end

/-! ### calls -/
/-- f(..): the written arguments, then the defaults dvs; E: what is wanted of an exception -/
def tCall (sp : Sp) (dvs : List V) (E : XK) (t : TA) : TE := fun σ H Q => t σ H fun vs H1 => sp (vs ++ dvs) H1 Q E
/-- o.m(..) of an instance of the class at C -/
def tMeth (C : Addr) (m : Str) (sp : Sp) (dvs : List V) (E : XK) (ta : TE) (t : TA) : TE := fun σ H Q => ta σ H fun x H1 => ∃ a dx fs, x = .ref a ∧ H1 a = some (.ins C dx fs) ∧ fs.lookup m = none ∧
  t σ H1 fun vs H2 => sp (x :: (vs ++ dvs)) H2 Q E
/-- C(..): a new instance and its dict, then __init__ -/
def tMake (C : Addr) (sp : Sp) (dvs : List V) (E : XK) (t : TA) : TE := fun σ H Q => t σ H fun vs H1 => ∀ x dx, H1 x = none → H1 dx = none → dx ≠ x →
  sp (.ref x :: (vs ++ dvs)) (upd (upd H1 dx (.own x)) x (.ins C dx [])) (fun v H2 => v = .non ∧ Q (.ref x) H2) E

/-- how the parameters are bound: us the positional arguments, kw the keywords' values by name, ds the defaults that fill up -/
def Binds (K : PySem.W.Frag) (fd : FuncData) (ps : List Str) (ds : List Value) : Prop :=
  ∀ (s : Shared) (us : List Value), K.In s.heap → (us ++ ds).length = ps.length → BindsTo s fd ⟨us, []⟩ (ps.zip (us ++ ds))
/-- every parameter is given -/
theorem Binds.all {K : PySem.W.Frag} {fd : FuncData} {ps : List Str} (h : ∀ us : List Value, us.length = ps.length → bindArgs fd ⟨us, []⟩ = pure (ps.zip us)) : Binds K fd ps [] := fun s us _ hl => by
  rw [List.append_nil] at hl ⊢
  exact .of_eq (h us hl)

/-- an exception of a callee reaches what this body wants of exceptions -/
def Passes (CX : CXT) (X : Cx) (E : XK) : Prop := ∀ (pins : List (Addr × Obj)) (σ : St) (H : Hp) (s : Shared) (e : Value) (s' : Shared), Inv X pins σ H s → CX X.stack H s E e s' → X.xe e s'

section
variable {X : Cx} {CX : CXT} {k : Nat} {f C : Addr} {fd : FuncData} {ps : List Str} {sp : Sp} {dvs : List V} {ds : List Value} {E : XK} {x m : Str} {p pos apos : Pos} {e o : Expr} {es : List Expr} {ta : TE} {t : TA}

/-- the callee runs -/
theorem run_fn {pins : List (Addr × Obj)} {σ : St} {H : Hp} {s : Shared} {Q : VK} {us : List Value} {vs : List V} (F : FnOk X.prog X.w X.K X.mg X.base CX k f fd ps sp) (hr : Room k X.A) (hb : Binds X.K fd ps ds) (hd : Vals dvs ds) (hx : Passes CX X E)
    (I : Inv X pins σ H s) (r : Vals vs us) (h : sp (vs ++ dvs) H Q E) : wpAny (model X.prog X.w) X.A (call (.ref f) us) (EP X pins σ Q) X.xe s := by
  have r2 : Vals (vs ++ dvs) (us ++ ds) := r.append hd
  have hl : (us ++ ds).length = ps.length := by rw [← r2.length]; exact F.len _ _ _ _ h
  refine wpAny_call (codeAny_mono (F.run X.A X.stack s H ⟨us, []⟩ (us ++ ds) (vs ++ dvs) Q E hr I.env0 (hb s us I.kIn hl) r2 h) fun r s' hq => ?_)
  cases r with
  | error e => exact hx pins σ H s e s' I hq
  | ok fl =>
    cases fl with
    | ret u => exact I.after hq
    | next => exact False.elim hq
    | brk => exact False.elim hq
    | cont => exact False.elim hq

theorem pe_call (F : FnOk X.prog X.w X.K X.mg X.base CX k f fd ps sp) (hr : Room k X.A) (hg : Gl X x) (hm : X.mg x = some (.ref f)) (hk : PySem.W.keepIn X.K (.ref f) = true) (hb : Binds X.K fd ps ds) (hd : Vals dvs ds) (hx : Passes CX X E)
    (ha : PA X (e :: es) t) (hdb : (x == ("__debug__" : Str)) = false := by decide) (he : starEach (e :: es) X.env = (false, eval e X.env) :: starEach es X.env := by rfl) (hpl : (backTo pos (starEach es X.env)).any (·.1) = false := by rfl) :
    PE X (.Call (.Name x p) (e :: es) [] pos) (tCall sp dvs E t) := by
  intro pins s σ H Q I h
  refine wpAny_Call_Name_kw (ld_glob I hg hm ?_ hdb)
  refine PySem.W.callWith_K (h₀ := X.base) I.ok.mod.kin hk (thn (ha pos pins s σ H _ I h) fun us s1 ⟨vs, H1, I1, r, q⟩ => ⟨I1.kIn, ?_⟩) he hpl
  exact run_fn F hr hb hd hx I1 r q
theorem pe_call0 (F : FnOk X.prog X.w X.K X.mg X.base CX k f fd ps sp) (hr : Room k X.A) (hg : Gl X x) (hm : X.mg x = some (.ref f)) (hk : PySem.W.keepIn X.K (.ref f) = true) (hb : Binds X.K fd ps ds) (hd : Vals dvs ds) (hx : Passes CX X E)
    (hdb : (x == ("__debug__" : Str)) = false := by decide) : PE X (.Call (.Name x p) [] [] pos) (tCall sp dvs E tNil) := by
  intro pins s σ H Q I h
  refine wpAny_Call_Name_kw (ld_glob I hg hm ?_ hdb)
  exact PySem.W.callWith_K0 I.kIn hk (run_fn (us := []) F hr hb hd hx I .nil h)

/-- o.m(e, ..) -/
theorem pe_meth {pl : Sem Bool} (he : PE X o ta) (c : Cls X.K C) (hm : Meth X.K C m f) (F : FnOk X.prog X.w X.K X.mg X.base CX k f fd ps sp) (hr : Room k X.A) (hb : Binds X.K fd ps ds) (hd : Vals dvs ds) (hx : Passes CX X E) (ha : PA X (e :: es) t)
    (hst : starEach (e :: es) X.env = (false, eval e X.env) :: starEach es X.env := by rfl) (hpl : (backTo pos (starEach es X.env)).any (·.1) = false := by rfl)
    (ht : eval (.Call (.Attribute o m apos) (e :: es) [] pos) X.env = (do
      let ov ← eval o X.env
      standAt apos.atName
      let (f, first) ← holding [ov] (getMethod ov m pl)
      callWith pos f first (backTo pos (starEach (e :: es) X.env)) (backToKw pos (keywordEach [] X.env))) := by rfl) :
    PE X (.Call (.Attribute o m apos) (e :: es) [] pos) (tMeth C m sp dvs E ta t) := by
  intro pins s σ H Q I h
  refine PySem.W.methodCall_KW (pl := pl) (thn (he pins s σ H _ I h) fun u s1 ⟨x, H1, I1, rx, a, dx, fs, ex, ea, l, q⟩ => ?_) ht
  subst ex
  obtain rfl : u = Value.ref a := rx
  refine getmeth_ok I1 ea c hm l ?_
  refine PySem.W.callWith_K (first := [.ref a]) (h₀ := X.base) I.ok.mod.kin hm.kp (thn (ha pos pins s1 σ H1 _ I1 q) fun us s2 ⟨vs, H2, I2, r, q2⟩ => ⟨I2.kIn, ?_⟩) hst hpl
  exact run_fn (us := .ref a :: us) (vs := .ref a :: vs) F hr hb hd hx I2 (.cons rfl r) q2
/-- o.m() -/
theorem pe_meth0 {pl : Sem Bool} (he : PE X o ta) (c : Cls X.K C) (hm : Meth X.K C m f) (F : FnOk X.prog X.w X.K X.mg X.base CX k f fd ps sp) (hr : Room k X.A) (hb : Binds X.K fd ps ds) (hd : Vals dvs ds) (hx : Passes CX X E)
    (ht : eval (.Call (.Attribute o m apos) [] [] pos) X.env = (do
      let ov ← eval o X.env
      standAt apos.atName
      let (f, first) ← holding [ov] (getMethod ov m pl)
      callWith pos f first (backTo pos (starEach [] X.env)) (backToKw pos (keywordEach [] X.env))) := by rfl) :
    PE X (.Call (.Attribute o m apos) [] [] pos) (tMeth C m sp dvs E ta tNil) := by
  intro pins s σ H Q I h
  refine PySem.W.methodCall_KW (pl := pl) (thn (he pins s σ H _ I h) fun u s1 ⟨x, H1, I1, rx, a, dx, fs, ex, ea, l, q⟩ => ?_) ht
  subst ex
  obtain rfl : u = Value.ref a := rx
  refine getmeth_ok I1 ea c hm l ?_
  exact PySem.W.callWith_K0 (first := [.ref a]) I1.kIn hm.kp (run_fn (us := [.ref a]) (vs := [.ref a]) F hr hb hd hx I1 (.cons rfl .nil) q)

/-- what a class must have to be made -/
structure Mk (K : PySem.W.Frag) (C f : Addr) : Prop where
  makes : PySem.W.makesIn K C = true
  init : PySem.W.findIn K (.ref C) "__init__" = some (some (.ref f))
  fn : PySem.W.isFn K (.ref f) = true
  kp : PySem.W.keepIn K (.ref C) = true

theorem run_make {pins : List (Addr × Obj)} {σ : St} {H : Hp} {s : Shared} {Q : VK} {us : List Value} {vs : List V} (M : Mk X.K C f) (F : FnOk X.prog X.w X.K X.mg X.base CX k f fd ps sp) (hr : Room (k + 1) X.A) (hb : Binds X.K fd ps ds) (hd : Vals dvs ds)
    (hx : Passes CX X E) (I : Inv X pins σ H s) (r : Vals vs us)
    (h : ∀ x dx, H x = none → H dx = none → dx ≠ x → sp (.ref x :: (vs ++ dvs)) (upd (upd H dx (.own x)) x (.ins C dx [])) (fun v H2 => v = .non ∧ Q (.ref x) H2) E) :
    wpAny (model X.prog X.w) X.A (call (.ref C) us) (EP X pins σ Q) X.xe s := by
  have hq := h (s.heap.objs.size + 1) s.heap.objs.size (I.hok.fresh (Nat.le_succ _)) (I.hok.fresh (Nat.le_refl _)) (Nat.ne_of_lt (Nat.lt_succ_self _))
  have I2 := Inv.made (C := C) I
  have r2 : Vals (V.ref (s.heap.objs.size + 1) :: (vs ++ dvs)) (Value.ref (s.heap.objs.size + 1) :: (us ++ ds)) := .cons rfl (r.append hd)
  have hl : (Value.ref (s.heap.objs.size + 1) :: us ++ ds).length = ps.length := by
    have e := r2.length
    rw [F.len _ _ _ _ hq] at e
    exact e.symm
  refine wpAny_call (make_map (f := f) I.kIn M.makes M.init (beq_iff_eq.mp M.fn) (codeAny_mono (F.run _ X.stack _ _ ⟨Value.ref (s.heap.objs.size + 1) :: us, []⟩ (Value.ref (s.heap.objs.size + 1) :: (us ++ ds)) _ _ E (hr.make C us [])
    (I2.env0.make C us []) (hb _ (Value.ref (s.heap.objs.size + 1) :: us) I2.kIn hl) r2 hq) fun r s' hq' => ?_))
  cases r with
  | error e => exact hx pins σ _ _ e s' I2 hq'
  | ok fl =>
    cases fl with
    | ret u =>
      obtain ⟨v, H', I3, rv, ev, q3⟩ := I2.after hq'
      subst ev
      exact ⟨rv, ⟨V.ref (s.heap.objs.size + 1), H', I3, rfl, q3⟩⟩
    | next => exact False.elim hq'
    | brk => exact False.elim hq'
    | cont => exact False.elim hq'
theorem pe_make (M : Mk X.K C f) (F : FnOk X.prog X.w X.K X.mg X.base CX k f fd ps sp) (hr : Room (k + 1) X.A) (hg : Gl X x) (hm : X.mg x = some (.ref C)) (hb : Binds X.K fd ps ds) (hd : Vals dvs ds) (hx : Passes CX X E)
    (ha : PA X (e :: es) t) (hdb : (x == ("__debug__" : Str)) = false := by decide) (he : starEach (e :: es) X.env = (false, eval e X.env) :: starEach es X.env := by rfl) (hpl : (backTo pos (starEach es X.env)).any (·.1) = false := by rfl) :
    PE X (.Call (.Name x p) (e :: es) [] pos) (tMake C sp dvs E t) := by
  intro pins s σ H Q I h
  refine wpAny_Call_Name_kw (ld_glob I hg hm ?_ hdb)
  refine PySem.W.callWith_K (h₀ := X.base) I.ok.mod.kin M.kp (thn (ha pos pins s σ H _ I h) fun us s1 ⟨vs, H1, I1, r, q⟩ => ⟨I1.kIn, ?_⟩) he hpl
  exact run_make M F hr hb hd hx I1 r q
theorem pe_make0 (M : Mk X.K C f) (F : FnOk X.prog X.w X.K X.mg X.base CX k f fd ps sp) (hr : Room (k + 1) X.A) (hg : Gl X x) (hm : X.mg x = some (.ref C)) (hb : Binds X.K fd ps ds) (hd : Vals dvs ds) (hx : Passes CX X E)
    (hdb : (x == ("__debug__" : Str)) = false := by decide) : PE X (.Call (.Name x p) [] [] pos) (tMake C sp dvs E tNil) := by
  intro pins s σ H Q I h
  refine wpAny_Call_Name_kw (ld_glob I hg hm ?_ hdb)
  exact PySem.W.callWith_K0 I.kIn M.kp (run_make (us := []) M F hr hb hd hx I .nil h)
end

/-! ### keywords -/
/-- the values of the keywords, from the left -/
def PK (X : Cx) (kws : List Keyword) (t : TA) : Prop :=
  ∀ (pos : Pos) (pins : List (Addr × Obj)) (s : Shared) (σ : St) (H : Hp) (Q : List V → Hp → Prop), Inv X pins σ H s → t σ H Q → wpAny (model X.prog X.w) X.A (evalAll ((backToKw pos (keywordEach kws X.env)).map (·.2))) (AP X pins σ Q) X.xe s
section
variable {X : Cx} {CX : CXT} {k : Nat} {f C : Addr} {fd : FuncData} {ps ks : List Str} {sp : Sp} {E : XK} {x m : Str} {p pos apos kpos : Pos} {e o : Expr} {es : List Expr} {kws : List Keyword} {te ta : TE} {t tk : TA} {nm : Option Str}
theorem pk_nil : PK X [] tNil := fun _ _ _ _ H Q I h => wpAny_evalAll_nil ⟨[], H, I, .nil, h⟩
theorem pk_cons (ha : PE X e te) (hr : PK X kws t) : PK X (⟨nm, e, kpos⟩ :: kws) (tCons te t) := by
  intro pos pins s σ H Q I h
  show wpAny _ _ (evalAll ((do let v ← eval e X.env; standAt pos; pure v) :: (backToKw pos (keywordEach kws X.env)).map (·.2))) _ _ s
  refine wpAny_evalAll_cons (wpAny_bind (thn (ha pins s σ H _ I h) fun u s1 ⟨x, H1, I1, r1, q1⟩ => wpAny_bind (wpAny_standAt (wpAny_pure ?_))))
  exact thn (hr pos pins s1 σ H1 _ I1 q1) fun us s2 ⟨xs, H2, I2, r2, q2⟩ => ⟨x :: xs, H2, I2, .cons r1 r2, q2⟩

/-- how a call with keywords binds: g puts the positional values us and the keywords' values ws (names ks) in the parameters' order, defaults among them -/
structure KBinds (K : PySem.W.Frag) (fd : FuncData) (ps ks : List Str) (g : List Value → List Value → List Value) (gV : List V → List V → List V) : Prop where
  to : ∀ (s : Shared) (us ws : List Value), K.In s.heap → (g us ws).length = ps.length → BindsTo s fd ⟨us, ks.zip ws⟩ (ps.zip (g us ws))
  rel : ∀ {vs : List V} {us : List Value} {zs : List V} {ws : List Value}, Vals vs us → Vals zs ws → Vals (gV vs zs) (g us ws)
def tCallK (sp : Sp) (gV : List V → List V → List V) (E : XK) (t tk : TA) : TE := fun σ H Q => t σ H fun vs H1 => tk σ H1 fun zs H2 => sp (gV vs zs) H2 Q E
variable {g : List Value → List Value → List Value} {gV : List V → List V → List V}
theorem run_fnk {pins : List (Addr × Obj)} {σ : St} {H : Hp} {s : Shared} {Q : VK} {us ws : List Value} {vs zs : List V} (F : FnOk X.prog X.w X.K X.mg X.base CX k f fd ps sp) (hr : Room k X.A) (hb : KBinds X.K fd ps ks g gV) (hx : Passes CX X E)
    (I : Inv X pins σ H s) (r : Vals vs us) (rz : Vals zs ws) (h : sp (gV vs zs) H Q E) : wpAny (model X.prog X.w) X.A (call (.ref f) us (ks.zip ws)) (EP X pins σ Q) X.xe s := by
  have r2 := hb.rel r rz
  have hl : (g us ws).length = ps.length := by rw [← r2.length]; exact F.len _ _ _ _ h
  refine wpAny_call (codeAny_mono (F.run X.A X.stack s H ⟨us, ks.zip ws⟩ (g us ws) (gV vs zs) Q E hr I.env0 (hb.to s us ws I.kIn hl) r2 h) fun r s' hq => ?_)
  cases r with
  | error e => exact hx pins σ H s e s' I hq
  | ok fl =>
    cases fl with
    | ret u => exact I.after hq
    | next => exact False.elim hq
    | brk => exact False.elim hq
    | cont => exact False.elim hq
/-- f(e, .., k = v, ..) -/
theorem pe_callK (F : FnOk X.prog X.w X.K X.mg X.base CX k f fd ps sp) (hr : Room k X.A) (hg : Gl X x) (hm : X.mg x = some (.ref f)) (hk : PySem.W.keepIn X.K (.ref f) = true) (hb : KBinds X.K fd ps ks g gV) (hx : Passes CX X E)
    (ha : PA X (e :: es) t) (hkw : PK X kws tk) (hall : (backToKw pos (keywordEach kws X.env)).all (·.1.isSome) = true := by rfl) (hks : (backToKw pos (keywordEach kws X.env)).filterMap (·.1) = ks := by rfl)
    (hdb : (x == ("__debug__" : Str)) = false := by decide) (he : starEach (e :: es) X.env = (false, eval e X.env) :: starEach es X.env := by rfl)
    (hpl : ((backTo pos (starEach (e :: es) X.env)).any (·.1) || (backToKw pos (keywordEach kws X.env)).any (·.1.isNone)) = false := by rfl) :
    PE X (.Call (.Name x p) (e :: es) kws pos) (tCallK sp gV E t tk) := by
  intro pins s σ H Q I h
  refine wpAny_Call_Name_kw (ld_glob I hg hm ?_ hdb)
  refine PySem.W.callWith_KW (h₀ := X.base) I.ok.mod.kin hk hall (thn (ha pos pins s σ H _ I h) fun us s1 ⟨vs, H1, I1, r, q⟩ => ?_) hpl he
  refine thn (hkw pos pins s1 σ H1 _ I1 q) fun ws s2 ⟨zs, H2, I2, rz, q2⟩ => ⟨I2.kIn, ?_⟩
  rw [hks]
  exact run_fnk F hr hb hx I2 r rz q2
end

/-! ### a def's body keeps its promise -/
/-- names: the parameters first -/
structure FnScope (N P : List Str) (sc : Scope) : Prop where
  kind : sc.kind = .function
  co : sc.isCoroutine = false
  gen : sc.isGenerator = false
  nd : N.Nodup
  pre : N.take P.length = P
  par : ∀ x ∈ P, sc.names.lookup x = some .local ∨ sc.names.lookup x = some .cell
  nofree : ∀ y ∈ sc.names, y.2 ≠ .free

theorem bindL_out {kindOf : Str → Option NameKind} {x : Str} : ∀ {binds : List (Str × Value)} {m : Str → Option Value}, (∀ v, (x, v) ∉ binds) → bindL kindOf binds m x = m x
  | [], _, _ => rfl
  | (n, v) :: r, m, h => by
    unfold bindL
    rw [bindL_out fun w hw => h w (List.mem_cons_of_mem _ hw)]
    split
    · have : x ≠ n := by rintro rfl; exact h v List.mem_cons_self
      simp [this]
    · rfl
theorem bindC_out {kindOf : Str → Option NameKind} {x : Str} : ∀ {binds : List (Str × Value)} {m : Str → Option Value}, (∀ v, (x, v) ∉ binds) → bindC kindOf binds m x = m x
  | [], _, _ => rfl
  | (n, v) :: r, m, h => by
    unfold bindC
    rw [bindC_out fun w hw => h w (List.mem_cons_of_mem _ hw)]
    split
    · rfl
    · have : x ≠ n := by rintro rfl; exact h v List.mem_cons_self
      simp [this]
theorem bindL_get {kindOf : Str → Option NameKind} {x : Str} {v : Value} : ∀ {P : List Str} {vs : List Value} {i : Nat} {m : Str → Option Value}, P.Nodup → P[i]? = some x → vs[i]? = some v → kindOf x = some .local →
    bindL kindOf (P.zip vs) m x = some v
  | [], _, _, _, _, h, _, _ => by simp at h
  | _ :: _, [], _, _, _, _, h, _ => by simp at h
  | p :: P, w :: vs, 0, m, nd, h1, h2, hk => by
    simp at h1 h2; subst h1; subst h2
    show bindL kindOf ((p, w) :: P.zip vs) m p = _
    unfold bindL
    rw [bindL_out fun v hv => (List.nodup_cons.mp nd).1 (List.of_mem_zip hv).1, if_pos hk]
    simp
  | p :: P, w :: vs, i + 1, m, nd, h1, h2, hk => by
    show bindL kindOf ((p, w) :: P.zip vs) m x = _
    unfold bindL
    exact bindL_get (i := i) (List.nodup_cons.mp nd).2 (by simpa using h1) (by simpa using h2) hk
theorem bindC_get {kindOf : Str → Option NameKind} {x : Str} {v : Value} : ∀ {P : List Str} {vs : List Value} {i : Nat} {m : Str → Option Value}, P.Nodup → P[i]? = some x → vs[i]? = some v → kindOf x ≠ some .local →
    bindC kindOf (P.zip vs) m x = some v
  | [], _, _, _, _, h, _, _ => by simp at h
  | _ :: _, [], _, _, _, _, h, _ => by simp at h
  | p :: P, w :: vs, 0, m, nd, h1, h2, hk => by
    simp at h1 h2; subst h1; subst h2
    show bindC kindOf ((p, w) :: P.zip vs) m p = _
    unfold bindC
    rw [bindC_out fun v hv => (List.nodup_cons.mp nd).1 (List.of_mem_zip hv).1, if_neg hk]
    simp
  | p :: P, w :: vs, i + 1, m, nd, h1, h2, hk => by
    show bindC kindOf ((p, w) :: P.zip vs) m x = _
    unfold bindC
    exact bindC_get (i := i) (List.nodup_cons.mp nd).2 (by simpa using h1) (by simpa using h2) hk

/-- the names' values at the entry -/
def start (N : List Str) (vs : List V) : St := vs.map some ++ List.replicate (N.length - vs.length) none

/-- the context of a def's body, at its entry; an exception leaves the frame, then lies as CX says -/
def cxOf (CX : CXT) (P : Program) (w : World) (K : PySem.W.Frag) (mg : Str → Option Value) (base : Heap) (N : List Str) (qual : Str) (scope : Scope) (f : Addr) (cd : Value) (A : Around) (outer : List Env) (s : Shared) (H : Hp) (E : XK) : Cx where
  prog := P
  w := w
  K := K
  mg := mg
  base := base
  A := A.deeper (envOfC qual scope s.heap.objs.size f cd)
  N := N
  s₀ := s
  H₀ := H
  env := envOfC qual scope s.heap.objs.size f cd
  outer := outer
  stack := envOfC qual scope s.heap.objs.size f cd :: outer
  ex := []
  calm := true
  fn := fun _ => true
  pn := []
  xe := fun e s' => wpAny (model P w) (A.deeper (envOfC qual scope s.heap.objs.size f cd)) (leaving (envOfC qual scope s.heap.objs.size f cd) e) (fun _ s'' => CX outer H s E e s'') (fun e' s'' => CX outer H s E e' s'') s'

theorem cell_has {sc : Scope} {n : Nat} {x : Str} (h : sc.names.lookup x = some .cell) : ∃ c, (cellsFrom n sc.names []).lookup x = some c := by
  have q := PySem.W.cellsFrom_some sc.names n [] (.inl h)
  exact Option.isSome_iff_exists.mp q

theorem inv_start {CX : CXT} {P : Program} {w : World} {K : PySem.W.Frag} {mg : Str → Option Value} {base : Heap} {N ps : List Str} {qual : Str} {scope : Scope} {f : Addr} {cd : Value} {A : Around} {outer : List Env} {s s1 : Shared} {H : Hp} {E : XK} {us : List Value} {vs : List V}
    (S : FnScope N ps scope) (hd : A.handled = none) (e0 : Env0 P w K mg base A outer s H) (hl : vs.length = ps.length) (r : Vals vs us)
    (x : InCallC s s.heap.objs.size (bindL (envOfC qual scope s.heap.objs.size f cd).kindOf (ps.zip us) fun _ => none) (cellsFrom (s.heap.objs.size + 1) scope.names []) (bindC (envOfC qual scope s.heap.objs.size f cd).kindOf (ps.zip us) fun _ => none) s1) :
    Inv (cxOf CX P w K mg base N qual scope f cd A outer s H E) [] (start N vs) H s1 := by
  have hpl : ps.length ≤ N.length := by have := congrArg List.length S.pre; rw [List.length_take] at this; omega
  obtain ⟨h1, tk, rfl, hk⟩ := x.done
  have noA : ∀ b : Addr, b ∉ (cxOf CX P w K mg base N qual scope f cd A outer s H E).ex := fun b z => absurd (show b ∈ ([] : List Addr) from z) (by simp)
  refine ⟨⟨e0.mod, S.kind, rfl, rfl, Nat.le_refl _, fun y z c h1 h2 => ?_, fun y hy => ?_, fun y c _ h => ?_, fun _ => hd, Around.frames_deeper e0.frames, .inr ⟨rfl, rfl⟩, fun b z => absurd z (noA b), e0.bs, e0.bsz, fun b _ _ => noA b, fun b z => absurd z (noA b), e0.funs, e0.frf⟩,
    rfl, e0.bare, Un.kept hk, ⟨_, x.toInCall.ns, fun i y v h1 h2 h3 => ?_⟩, fun y c h => ⟨_, x.cell y c h⟩, e0.hok.fresh (Nat.le_refl _), fun y c h => ?_, fun p hp => absurd (show p ∈ ([] : List (Addr × Obj)) from hp) (by simp), e0.hok.kept hk, ?_⟩
  · exact name_of_addr x.apart (PySem.mem_of_lookup h1) (PySem.mem_of_lookup h2)
  · have hy : scope.names.lookup y = some .cell ∨ scope.names.lookup y = some .free := hy
    rcases hy with hy | hy
    · exact cell_has hy
    · exact absurd rfl (S.nofree _ (PySem.mem_of_lookup hy))
  · exact Nat.le_of_lt (x.above y c (PySem.mem_of_lookup h))
  · have hi : i < vs.length := by
      unfold start at h2
      by_cases hi : i < vs.length
      · exact hi
      · rw [List.getElem?_append_right (by simpa using hi)] at h2
        rw [List.getElem?_replicate] at h2
        split at h2 <;> cases h2
    have ha : vs[i]? = some v := by
      unfold start at h2
      rw [List.getElem?_append_left (by simpa using hi), List.getElem?_map] at h2
      cases e : vs[i]? with
      | none => rw [e] at h2; cases h2
      | some a => rw [e] at h2; cases h2; rfl
    obtain ⟨u, hu, rv⟩ := r.get ha
    have hp : ps[i]? = some y := by
      rw [← S.pre, List.getElem?_take_of_lt (by omega)]; exact h1
    have ndP : ps.Nodup := by rw [← S.pre]; exact S.nd.sublist (List.take_sublist _ _)
    refine ⟨u, rv, ?_⟩
    rcases S.par y (List.mem_of_getElem? hp) with k | k
    · exact .inl ⟨k, bindL_get ndP hp hu k⟩
    · obtain ⟨c, e⟩ := cell_has (n := s.heap.objs.size + 1) k
      refine .inr ⟨.inl k, c, e, ?_⟩
      have q := x.cell y c e
      rw [bindC_get ndP hp hu (by show scope.names.lookup y ≠ _; rw [k]; decide)] at q
      exact q
  · exact e0.hok.fresh (Nat.le_of_lt (x.above y c (PySem.mem_of_lookup h)))
  · unfold start
    show _ = N.length
    rw [List.length_append, List.length_map, List.length_replicate]
    omega

/-- THE RULE: a def (or a method) of the text, by its body. The body's reading t is chosen for each entry; it is run at the parameters' values -/
theorem fn_of {CX : CXT} {P : Program} {w : World} {K : PySem.W.Frag} {mg : Str → Option Value} {base : Heap} {k : Nat} {f : Addr} {name qual : Str} {params : Arguments} {body : List Stmt} {scope : Scope} {dV kV doc pm cdv ct oc : Value} {an od : Option Addr}
    {osl : Array (Option Value)} {N ps : List Str} {sp : Sp} (lk : K.lookup f = some ⟨oc, od, .func (PySem.W.fnOf name qual params body scope dV kV doc pm an cdv ct), osl⟩) (hcd : PySem.W.codeIn K cdv qual = true) (S : FnScope N ps scope)
    (len : ∀ vs H Q E, sp vs H Q E → vs.length = ps.length)
    (hbody : ∀ (A : Around) (outer : List Env) (s : Shared) (H : Hp) (vs : List V) (Q : VK) (E : XK), Room k (A.deeper (envOfC qual scope s.heap.objs.size f cdv)) → sp vs H Q E →
      ∃ t, PSs (cxOf CX P w K mg base N qual scope f cdv A outer s H E) body t ∧ t { nx := fun _ H' => Q .non H', rt := Q } (start N vs) H) :
    FnOk P w K mg base CX (k + 1) f (PySem.W.fnOf name qual params body scope dV kV doc pm an cdv ct) ps sp := by
  refine ⟨len, fun A outer s H args us vs Q E hr e0 hb r hsp => ?_⟩
  have hl := len _ _ _ _ hsp
  have KX : K.In s.heap := e0.mod.kin.keeps fun b o e => (e0.bs b o e).1
  have lim : s.heap.NoLimit := e0.mod.nolimit.keeps fun b o e => (e0.bs b o e).1
  have hkind : ∀ y ∈ ps.zip us, scope.names.lookup y.1 = some .local ∨ (scope.names.lookup y.1 = some .cell ∧ ((cellsFrom (s.heap.objs.size + 1) scope.names []).lookup y.1).isSome = true) := fun ⟨n, v⟩ hy => by
    rcases S.par n (List.of_mem_zip hy).1 with q | q
    · exact .inl q
    · exact .inr ⟨q, PySem.W.cellsFrom_some _ _ _ (.inl q)⟩
  refine codeAny_call_function hr.depth (KX _ _ lk) rfl S.co S.gen rfl (PySem.W.codeRec_of KX hcd) (hb _ _ _ _ ?_)
  refine wpAny_newFunctionEnv_cells S.kind hkind fun env he s1 x => ?_
  subst he
  refine ⟨lim.keeps x.toInCall.keep, codeAny_func ?_⟩
  obtain ⟨t, ht, hq⟩ := hbody A outer s H vs Q E (hr.deeper _) hsp
  have I : Inv (cxOf CX P w K mg base N qual scope f cdv A outer s H E) [] (start N vs) H s1 := inv_start S hr.hd e0 hl r x
  refine wpAny_mono (ht [] s1 (start N vs) H _ I hq) (fun fl s' hs => ?_) fun e s' hs => hs
  have fin : ∀ {σ' : St} {H' : Hp} {v : V} {u : Value}, Inv (cxOf CX P w K mg base N qual scope f cdv A outer s H E) [] σ' H' s' → RelV v u → Q v H' → CE outer P w H s Q u s' :=
    fun {σ' H' v u} J rv q => ⟨v, H', J.os, J.bare, J.base, J.hok, rv, q⟩
  cases fl with
  | ret u =>
    obtain ⟨v, σ', H', J, rv, q⟩ := hs
    exact fin J rv q
  | next =>
    obtain ⟨σ', H', J, q⟩ := hs
    exact fin (v := V.non) (u := Value.none) J rfl q
  | brk =>
    obtain ⟨_, _, _, q⟩ := hs
    exact False.elim q
  | cont =>
    obtain ⟨_, _, _, q⟩ := hs
    exact False.elim q
end L2

namespace L2
open PySem PySem.Spec PyProof.Rows
section
variable {X : Cx} {x : Str} {p pos : Pos} {e : Expr} {es : List Expr} {t : TA} {id T : String} {r : List V → Hp → VK → Prop}

def tCB (r : List V → Hp → VK → Prop) (t : TA) : TE := fun σ H Q => t σ H fun vs H1 => r vs H1 Q
/-- f(e, ..), f a built-in function -/
theorem pe_callB (hc : CallR X (.builtin id) r) (hg : Gl X x) (hm : X.mg x = none) (hv : bootBuiltins x = some (.builtin id)) (ha : PA X (e :: es) t) (hn : x ≠ "__name__" := by decide) (hdb : (x == ("__debug__" : Str)) = false := by decide)
    (he : starEach (e :: es) X.env = (false, eval e X.env) :: starEach es X.env := by rfl) (hpl : (backTo pos (starEach es X.env)).any (·.1) = false := by rfl) : PE X (.Call (.Name x p) (e :: es) [] pos) (tCB r t) := by
  intro pins s σ H Q I h
  refine wpAny_Call_Name_kw (ld_blt I hg hm hv ?_ hn hdb)
  exact PyProof.Rows.callWith_builtin1 (thn (ha pos pins s σ H _ I h) fun us s1 ⟨vs, H1, I1, r1, q1⟩ => hc pins s1 σ H1 vs us Q I1 r1 q1) he hpl
/-- T(e, ..), T a built-in type -/
theorem pe_callTy (hc : CallR X (.type T) r) (hg : Gl X x) (hm : X.mg x = none) (hv : bootBuiltins x = some (.type T)) (ha : PA X (e :: es) t) (hn : x ≠ "__name__" := by decide) (hdb : (x == ("__debug__" : Str)) = false := by decide)
    (he : starEach (e :: es) X.env = (false, eval e X.env) :: starEach es X.env := by rfl) (hpl : (backTo pos (starEach es X.env)).any (·.1) = false := by rfl) : PE X (.Call (.Name x p) (e :: es) [] pos) (tCB r t) := by
  intro pins s σ H Q I h
  refine wpAny_Call_Name_kw (ld_blt I hg hm hv ?_ hn hdb)
  exact PyProof.Rows.callWith_type1 (thn (ha pos pins s σ H _ I h) fun us s1 ⟨vs, H1, I1, r1, q1⟩ => hc pins s1 σ H1 vs us Q I1 r1 q1) he hpl
/-- T() -/
theorem pe_callTy0 (hc : CallR X (.type T) r) (hg : Gl X x) (hm : X.mg x = none) (hv : bootBuiltins x = some (.type T)) (hn : x ≠ "__name__" := by decide) (hdb : (x == ("__debug__" : Str)) = false := by decide) :
    PE X (.Call (.Name x p) [] [] pos) (tCB r tNil) := by
  intro pins s σ H Q I h
  refine wpAny_Call_Name_kw (ld_blt I hg hm hv ?_ hn hdb)
  exact PyProof.Rows.callWith_type0 (hc pins s σ H [] [] Q I .nil h)
end
end L2

namespace HT
open PySem PyProof.Rows

/-- t < u of tuples of ints -/
def lexLt : List Int → List Int → Bool
  | [], [] => false
  | [], _ :: _ => true
  | _ :: _, [] => false
  | x :: xs, y :: ys => if x = y then lexLt xs ys else decide (x < y)
theorem lexLt_cons (x y : Int) (xs ys : List Int) : lexLt (x :: xs) (y :: ys) = if x = y then lexLt xs ys else decide (x < y) := rfl
theorem lexLt_nil_nil : lexLt [] [] = false := rfl
theorem lexLt_nil_cons (y : Int) (ys : List Int) : lexLt [] (y :: ys) = true := rfl
theorem lexLt_cons_nil (x : Int) (xs : List Int) : lexLt (x :: xs) [] = false := rfl

theorem eqAt_int (A : Around) (s : Shared) (a : Int) (t : Tok) (c : Int) (u : Tok) : ∃ e, SeqAt.EqAt A s (.int a t) (.int c u) e ∧ (e = true ↔ a = c) :=
  ⟨(a == c), SeqAt.EqAt.int_int a t c u, by simp⟩
theorem rcLt_int (A : Around) (s : Shared) (a : Int) (t : Tok) (c : Int) (u : Tok) (prog : Program) (w : World) (E : Value → Shared → Prop) (Q : Value → Shared → Prop) (h : Q (.bool (decide (a < c))) s) :
    wpAny (model prog w) A (richCompare .Lt (.int a t) (.int c u)) Q E s :=
  (PyProof.Rows.lt_int h : wpAny (model prog w) A (compareOp .Lt (.int a t) (.int c u)) Q E s)

section
open PySem.SeqAt
open PySem.AutoSeq1 (wpAny_loadPart')
open PySem.MeetsSeq PySem.MeetsSeq2 PySem.MeetsSeq3

theorem tuple_lt_ints (l b : Addr) (items items2 : Array Value) (n n2 : Nat) (dd dd2 : Option Addr) (sl sl2 : Array (Option Value)) (ns ms : List Int) (hi : IntsAre items.toList ns) (hj : IntsAre items2.toList ms) :
    Meets (Builtin.«tuple.__lt__» ⟨[.ref l, .ref b], []⟩)
      (fun _ R s => s.heap.get? l = some { cls := .type "tuple", dict := dd, data := .seq items n, slots := sl } ∧ s.heap.get? b = some { cls := .type "tuple", dict := dd2, data := .seq items2 n2, slots := sl2 } ∧
        R (.ok (.ret (.bool (lexLt ns ms)))) s) :=
  .of_wp fun prog w A R s h => by
    obtain ⟨hp, g, d, tk, os⟩ := s; obtain ⟨hl, hb, h⟩ := h
    have f2 := AutoSeq1.sub_tuple_tuple
    have z1 : items.size = ns.length := by rw [← hi.length]; simp
    have z2 : items2.size = ms.length := by rw [← hj.length]; simp
    wp_walk using wpAny_loadPart' hl, wpAny_loadPart' hb, wpAny_forIn_list _ (fun rest b s' => b.1 = none ∧ s' = ⟨hp, g, d, tk, os⟩ ∧ ∃ (vs ws : List Value) (ns' ms' : List Int), rest = vs.zip ws ∧
      IntsAre vs ns' ∧ IntsAre ws ms' ∧ ns'.length + items2.size = ms'.length + items.size ∧ R (.ok (.ret (.bool (lexLt ns' ms')))) ⟨hp, g, d, tk, os⟩) _
    case turn =>
      rintro ⟨y, x⟩ rest b s' ⟨hb', rfl, vs, ws, ns', ms', hz, hvi, hwi, hlen, hR⟩
      cases hvi with
      | nil => rw [List.zip_nil_left] at hz; cases hz
      | cons a t hvi' =>
        cases hwi with
        | nil => rw [List.zip_nil_right] at hz; cases hz
        | cons c u hwi' =>
          rw [List.zip_cons_cons] at hz
          injection hz with hyx hrest
          injection hyx with hy hx
          subst hy hx
          rw [lexLt_cons] at hR
          simp only [List.length_cons] at hlen
          obtain ⟨e, he, hiff⟩ := eqAt_int A.in1 ⟨hp, g, d, tk, os⟩ a t c u
          refine wpAny_bind (he prog w _ _ ?_)
          cases e with
          | true =>
            rw [if_pos (hiff.mp rfl)] at hR
            wp_walk
            exact ⟨rfl, rfl, _, _, _, _, hrest, hvi', hwi', by omega, hR⟩
          | false =>
            rw [if_neg (fun q => absurd (hiff.mpr q) Bool.false_ne_true)] at hR
            have hri := rcLt_int A.in1 ⟨hp, g, d, tk, os⟩ a t c u prog w
            wp_walk using hri
            exact ⟨_, rfl, by simpa using hR⟩
    case fin =>
      rintro ⟨b1, b2⟩ s' ⟨hb', rfl, vs, ws, ns', ms', hz, hvi, hwi, hlen, hR⟩
      simp only at hb'
      subst hb'
      have hv : lexLt ns' ms' = decide (items.size < items2.size) := by
        cases hvi with
        | nil =>
          cases hwi with
          | nil =>
            simp only [List.length_nil] at hlen
            rw [lexLt_nil_nil]
            exact (decide_eq_false (by omega)).symm
          | cons c u hw =>
            simp only [List.length_nil, List.length_cons] at hlen
            rw [lexLt_nil_cons]
            exact (decide_eq_true (by omega)).symm
        | cons a t hv =>
          cases hwi with
          | nil =>
            simp only [List.length_nil, List.length_cons] at hlen
            rw [lexLt_cons_nil]
            exact (decide_eq_false (by omega)).symm
          | cons c u hw =>
            rw [List.zip_cons_cons] at hz
            cases hz
      rw [hv] at hR
      wp_walk
      exact ⟨_, rfl, by simpa [Builtin.Tuple.tupleCompareSizes] using hR⟩
    case h =>
      exact ⟨rfl, rfl, items.toList, items2.toList, ns, ms, rfl, hi, hj, by omega, h⟩
end

section
variable {prog : Program} {w : World} {A : Around} {E : Value → Shared → Prop} {s : Shared}

theorem lt_tupInts {l b : Addr} {items items2 : Array Value} {ns ms : List Int} {Q : Value → Shared → Prop} (hl : IsTup s.heap l items) (hb : IsTup s.heap b items2) (hi : IntsAre items.toList ns) (hj : IntsAre items2.toList ms)
    (hu : A.units < cLine) (h : Q (.bool (lexLt ns ms)) s) : wpAny (model prog w) A (compareOp .Lt (.ref l) (.ref b)) Q E s := by
  obtain ⟨⟨cls, dd, data, sl⟩, ho, hc, n, hd⟩ := id hl
  obtain ⟨⟨cls2, dd2, data2, sl2⟩, ho2, hc2, n2, hd2⟩ := id hb
  simp only at hc hd hc2 hd2
  subst hc hd hc2 hd2
  exact richCompare_meets_room (op := .Lt) ⟨_, ho, rfl⟩ ⟨_, ho2, rfl⟩ PySem.F.slot_tuple_lt PySem.F.entry_tuple_lt (PySem.F.args_tuple_lt_2 _ _) (tuple_lt_ints l b items items2 n n2 dd dd2 sl sl2 ns ms hi hj)
    ⟨ho, ho2, show Value.bool (lexLt ns ms) ≠ Value.notImplemented ∧ Q (.bool (lexLt ns ms)) s from ⟨(fun x => nomatch x), h⟩⟩ hu

/-- t + u, t not empty -/
theorem cat_tup {t b : Addr} {vs ws : List Value} {Q : Value → Shared → Prop} (ht : IsTup s.heap t vs.toArray) (hb : IsTup s.heap b ws.toArray) (hv : vs ≠ [])
    (h1 : ws = [] → Q (.ref t) s) (h2 : ws ≠ [] → Q (.ref s.heap.objs.size) { s with heap := s.heap.push { cls := .type "tuple", data := .seq (vs ++ ws).toArray } })
    (hsz : vs.length + ws.length ≤ sizeLine) : wpAny (model prog w) A (binaryOp .Add (.ref t) (.ref b)) Q E s := by
  obtain ⟨⟨cls, dd, data, sl⟩, ho, hc, n, hd⟩ := id ht
  obtain ⟨⟨cls2, dd2, data2, sl2⟩, ho2, hc2, n2, hd2⟩ := id hb
  simp only at hc hd hc2 hd2
  subst hc hd hc2 hd2
  have e : vs.toArray ++ ws.toArray = (vs ++ ws).toArray := by simp
  by_cases hw : ws = []
  · exact concat_meets ⟨_, ho, rfl⟩ ⟨_, ho2, rfl⟩ noFill_tuple_add seq_tuple_add PySem.F.slot_tuple_add PySem.F.entry_tuple_add (PySem.F.args_tuple_add_2 _ _)
      (tuple_addW1 t b vs.toArray ws.toArray n n2 dd dd2 sl sl2 (by simpa using hv) (by simp [hw])) ⟨ho, ho2, h1 hw⟩
  · refine concat_meets ⟨_, ho, rfl⟩ ⟨_, ho2, rfl⟩ noFill_tuple_add seq_tuple_add PySem.F.slot_tuple_add PySem.F.entry_tuple_add (PySem.F.args_tuple_add_2 _ _)
      (tuple_addW2 t b vs.toArray ws.toArray n n2 dd dd2 sl sl2 (by simpa using hv) (by simpa using hw) (by rw [List.size_toArray, List.size_toArray]; exact hsz)) ⟨ho, ho2, ?_⟩
    rw [e]
    exact h2 hw

/-! ### t[a:b], not the whole -/
/-- a slice's bound as a place among n (d where it is left out) -/
def sIx (n d : Nat) : Option Int → Nat
  | none => d
  | some v => if v < 0 then (v + (n : Int)).toNat else min v.toNat n
theorem sIx_none (n d : Nat) : sIx n d none = d := rfl
theorem sIx_nat (n d k : Nat) : sIx n d (some (k : Int)) = min k n := by
  show (if (k : Int) < 0 then ((k : Int) + (n : Int)).toNat else min (k : Int).toNat n) = min k n
  rw [if_neg (by omega), Int.toNat_natCast]
theorem sIx_le (n d : Nat) (hd : d ≤ n) (o : Option Int) : sIx n d o ≤ n := by
  cases o with
  | none => exact hd
  | some v =>
    show (if v < 0 then (v + (n : Int)).toNat else min v.toNat n) ≤ n
    by_cases hv : v < 0
    · rw [if_pos hv]; omega
    · rw [if_neg hv]; exact Nat.min_le_right _ _
theorem clip_eq (v : Int) (n d : Nat) : (if v < 0 then max (v + (n : Int)) 0 else min v (n : Int)) = ((sIx n d (some v) : Nat) : Int) := by
  show (if v < 0 then max (v + (n : Int)) 0 else min v (n : Int)) = (((if v < 0 then (v + (n : Int)).toNat else min v.toNat n) : Nat) : Int)
  by_cases hv : v < 0
  · simp only [if_pos hv]; omega
  · simp only [if_neg hv]; omega
theorem adjust_gen (lo hi : Option Int) (n : Nat) : Builtin.Slice.sliceAdjust lo hi 1 (n : Int) = (((sIx n 0 lo : Nat) : Int), ((sIx n n hi : Nat) : Int)) := by
  have h1 : ¬ ((1 : Int) < 0) := by omega
  unfold Builtin.Slice.sliceAdjust
  simp only [h1, if_false]
  refine Prod.ext ?_ ?_
  · cases lo with
    | none => rfl
    | some v => exact clip_eq v n 0
  · cases hi with
    | none => rfl
    | some v => exact clip_eq v n n
theorem places_gen (i j : Nat) : Builtin.Slice.slicePlaces (i : Int) (j : Int) 1 = j - i := by
  unfold Builtin.Slice.slicePlaces
  have h1 : (1 : Int) > 0 := by omega
  simp only [h1, if_true, Int.ediv_one]
  split <;> omega
theorem slicePart_ {v : Value} {o : Option Int} {Q : Option Int → Shared → Prop} (p : IsPart v o) (h : Q o s) : wpAny (model prog w) A (Builtin.Slice.slicePartIndex v) Q E s := by
  cases p with
  | none => exact slicePart_none h
  | int i t => exact slicePart_int h
theorem sliceApplied_gen {sl : Addr} {vl vu : Value} {lo hi : Option Int} {n : Nat} {Q : Int × Int × Nat → Shared → Prop} (hs : s.heap.IsSliceOf sl vl vu .none) (pl : IsPart vl lo) (pu : IsPart vu hi)
    (h : Q (((sIx n 0 lo : Nat) : Int), 1, sIx n n hi - sIx n 0 lo) s) : wpAny (model prog w) A (Builtin.Slice.sliceApplied (.ref sl) (pure (n : Int))) Q E s := by
  obtain ⟨os, hos, hcs, hds⟩ := id hs
  unfold Builtin.Slice.sliceApplied Builtin.Slice.sliceFields
  refine wpAny_bind (wpAny_bind (wpAny_field hos hds (x := vl) rfl (wpAny_bind (wpAny_field hos hds (x := vu) rfl (wpAny_bind (wpAny_field hos hds (x := .none) rfl (wpAny_pure ?_)))))))
  refine wpAny_bind (slicePart_none ?_)
  show wpAny _ _ (if ((1 : Int) == 0) = true then _ else _) _ _ s
  rw [if_neg (by decide)]
  refine wpAny_bind (slicePart_ pl (wpAny_bind (slicePart_ pu (wpAny_bind (wpAny_pure ?_)))))
  show wpAny _ _ (match Builtin.Slice.sliceAdjust lo hi 1 (n : Int) with | (lo, hi) => pure (lo, (1 : Int), Builtin.Slice.slicePlaces lo hi 1)) _ _ s
  rw [adjust_gen lo hi n]
  show wpAny _ _ (pure (((sIx n 0 lo : Nat) : Int), (1 : Int), Builtin.Slice.slicePlaces ((sIx n 0 lo : Nat) : Int) ((sIx n n hi : Nat) : Int) 1)) _ _ s
  rw [places_gen]
  exact wpAny_pure h
theorem pick_gen (xs : Array Value) (i k : Nat) : ((List.range k).filterMap fun (m : Nat) => xs[((i : Int) + (m : Int) * 1).toNat]?).toArray = ((xs.toList.drop i).take k).toArray := by
  have e : (fun (m : Nat) => xs[((i : Int) + (m : Int) * 1).toNat]?) = fun m => xs[i + m]? := by
    funext m
    have : ((i : Int) + (m : Int) * 1).toNat = i + m := by omega
    rw [this]
  rw [e]
  have := pick_run xs i k
  rw [List.filterMap_map] at this
  have e2 : ((fun x => xs[x]?) ∘ fun x => i + x) = fun m => xs[i + m]? := rfl
  rw [e2] at this
  rw [this]

theorem getItem_tuple_cut {t sl : Addr} {items : Array Value} {vl vu : Value} {lo hi : Option Int} {Q : Value → Shared → Prop} (ht : IsTup s.heap t items) (hs : s.heap.IsSliceOf sl vl vu .none) (pl : IsPart vl lo) (pu : IsPart vu hi)
    (hw : ¬ (sIx items.size 0 lo = 0 ∧ sIx items.size items.size hi = items.size))
    (h : Q (.ref s.heap.objs.size) { s with heap := s.heap.push { cls := .type "tuple", data := .seq ((items.toList.drop (sIx items.size 0 lo)).take (sIx items.size items.size hi - sIx items.size 0 lo)).toArray } })
    (hsz : items.size ≤ sizeLine) : wpAny (model prog w) A (getItem (.ref t) (.ref sl)) Q E s := by
  have htake : sizeOk (.seq ((items.toList.drop (sIx items.size 0 lo)).take (sIx items.size items.size hi - sIx items.size 0 lo)).toArray) := by
    show ((items.toList.drop (sIx items.size 0 lo)).take (sIx items.size items.size hi - sIx items.size 0 lo)).toArray.size ≤ sizeLine
    rw [List.size_toArray, List.length_take, List.length_drop, Array.length_toList]
    omega
  have hj : sIx items.size items.size hi ≤ items.size := sIx_le _ _ (Nat.le_refl _) hi
  obtain ⟨os, hos, hcs, hds⟩ := id hs
  have hTs : s.TypeIs (.ref sl) "slice" := ⟨os, hos, hcs⟩
  unfold getItem
  try with_reducible refine wpAny_holding ?_
  first | refine wpAny_bind (wpAny_pure ?_) | skip
  refine wpAny_bind (wpAny_sequenceKey ht.typeIs (by decide) ?_)
  refine wpAny_bind (wpAny_callSpecial?_slot (name := Str.ofString "__getitem__") ht.typeIs PyProof.Rows.slot_tuple_getitem
    (wpAny_call_entry PyProof.Rows.slot_tuple_getitem ht.typeIs entry_tuple_getitem ?_ (args_tuple_getitem _ _)))
  show wpAny _ _ (Builtin.Tuple.tupleItemsOf (.ref t) >>= _) _ _ s
  refine wpAny_bind (tupleItemsOf_ ht ?_)
  refine wpAny_bind (wpAny_typeOf hTs ?_)
  rw [if_pos (by decide)]
  refine wpAny_bind (sliceApplied_gen hs pl pu ?_)
  have hno : ¬ ((((sIx items.size 0 lo : Nat) : Int) == 0 && (1 : Int) == 1 && (sIx items.size items.size hi - sIx items.size 0 lo) == items.size) = true) := by
    intro q
    rw [Bool.and_eq_true, Bool.and_eq_true] at q
    have q1 : ((sIx items.size 0 lo : Nat) : Int) = 0 := eq_of_beq q.1.1
    have q2 : sIx items.size items.size hi - sIx items.size 0 lo = items.size := eq_of_beq q.2
    exact hw ⟨by omega, by omega⟩
  show wpAny _ _ (if (((sIx items.size 0 lo : Nat) : Int) == 0 && (1 : Int) == 1 && (sIx items.size items.size hi - sIx items.size 0 lo) == items.size) = true then _ else _) _ _ s
  rw [if_neg hno, pick_gen]
  first
    | exact wpAny_bind (m := Builtin.Tuple.tupleExact _) (wpAny_newObj_type (wpAny_pure ⟨_, rfl, wpAny_pure h⟩) htake)
    | exact wpAny_bind (m := Builtin.Tuple.tupleExact _) (wpAny_newObj_type (wpAny_bind (wpAny_pure (wpAny_pure ⟨_, rfl, wpAny_pure h⟩))) htake)
    | exact wpAny_bind (wpAny_bind (m := Builtin.Tuple.tupleExact _) (wpAny_newObj_type (wpAny_pure (wpAny_pure ⟨_, rfl, wpAny_pure h⟩)) htake))
    | exact wpAny_bind (wpAny_bind (m := Builtin.Tuple.tupleExact _) (wpAny_newObj_type (wpAny_pure ⟨_, rfl, wpAny_pure h⟩) htake))
end
end HT

namespace L2
open PySem PySem.Spec PyProof.Rows

/-! ### the parts of a slice -/
abbrev TO := St → Hp → (Option Int → Hp → Prop) → Prop
/-- a slice's part (left out, or an int) -/
def PO (X : Cx) (e : Option Expr) (t : TO) : Prop :=
  ∀ (pins : List (Addr × Obj)) (s : Shared) (σ : St) (H : Hp) (Q : Option Int → Hp → Prop), Inv X pins σ H s → t σ H Q →
    wpAny (model X.prog X.w) X.A (evalPart e X.env) (fun u s' => ∃ o H', Inv X pins σ H' s' ∧ IsPart u o ∧ Q o H') X.xe s
def tNoPart : TO := fun _ H Q => Q none H
def tPart (t : TE) : TO := fun σ H Q => t σ H fun x H1 => ∃ i, x = .int i ∧ Q (some i) H1

theorem intsAre_of {ns : List Int} : ∀ {us : List Value}, Vals (ns.map V.int) us → IntsAre us ns := by
  induction ns with
  | nil => intro us r; rw [List.map_nil] at r; cases r; exact .nil
  | cons n ns ih =>
    intro us r
    rw [List.map_cons] at r
    cases r with
    | cons r1 r2 =>
      obtain ⟨t, e⟩ := r1
      subst e
      exact .cons n t (ih r2)

section
variable {X : Cx} {e : Expr} {te : TE} {lo hi : Option Expr} {tl th : TO} {pos p2 : Pos}

theorem po_none : PO X none tNoPart := by
  intro pins s σ H Q I h
  rw [evalPart_none]
  exact wpAny_pure ⟨none, H, I, .none, h⟩
theorem po_some (h : PE X e te) : PO X (some e) (tPart te) := by
  intro pins s σ H Q I hw
  rw [evalPart_some]
  refine thn (h pins s σ H _ I hw) fun u s1 ⟨x, H1, I1, r1, q1⟩ => ?_
  obtain ⟨i, rfl, q⟩ := q1
  obtain ⟨t, rfl⟩ := r1
  exact ⟨some i, H1, I1, .int i t, q⟩

/-- what a slice of a value is, by values: the slice object stands at sl -/
def SlR (X : Cx) (r : V → Option Int → Option Int → Hp → VK → Prop) : Prop :=
  ∀ (pins : List (Addr × Obj)) (s : Shared) (σ : St) (H : Hp) (x : V) (v vl vu : Value) (lo hi : Option Int) (sl : Addr) (Q : VK), Inv X pins σ H s → RelV x v → s.heap.IsSliceOf sl vl vu .none → IsPart vl lo → IsPart vu hi → r x lo hi H Q →
    ∃ T id, typeLookup (.type T) "__getitem__" = pure (some (.builtin id)) ∧ s.TypeIs v T ∧ wpAny (model X.prog X.w) X.A (getItem v (.ref sl)) (EP X pins σ Q) X.xe s
theorem SlR.or {r r' : V → Option Int → Option Int → Hp → VK → Prop} (h : SlR X r) (h' : SlR X r') : SlR X (fun x lo hi H Q => r x lo hi H Q ∨ r' x lo hi H Q) := by
  intro pins s σ H x v vl vu lo hi sl Q I rx hs pl pu q
  rcases q with q | q
  · exact h pins s σ H x v vl vu lo hi sl Q I rx hs pl pu q
  · exact h' pins s σ H x v vl vu lo hi sl Q I rx hs pl pu q
def tSl (r : V → Option Int → Option Int → Hp → VK → Prop) (te : TE) (tl th : TO) : TE := fun σ H Q => te σ H fun x H1 => tl σ H1 fun l H2 => th σ H2 fun u H3 => r x l u H3 Q
/-- a[lo:hi], any a -/
theorem pe_slice {r : V → Option Int → Option Int → Hp → VK → Prop} (hr : SlR X r) (he : PE X e te) (hl : PO X lo tl) (hu : PO X hi th) : PE X (.Subscript e (.Slice lo hi none p2) pos) (tSl r te tl th) := by
  intro pins s σ H Q I h
  refine Subscript_ (thn (he pins s σ H _ I h) fun v s1 ⟨x, H1, I1, r1, q1⟩ => ?_)
  refine wpAny_Slice (thn (hl pins s1 σ H1 _ I1 q1) fun vl s2 ⟨l, H2, I2, pl, q2⟩ => thn (hu pins s2 σ H2 _ I2 q2) fun vu s3 ⟨u, H3, I3, pu, q3⟩ => ?_)
  rw [evalPart_none]
  refine wpAny_pure ?_
  have I4 : Inv X pins σ H3 { s3 with heap := s3.heap.push { cls := .type "slice", data := .fields #[vl, vu, .none] } } := I3.kept (t' := s3.toks) fun b ob q => Heap.get?_push_of_some _ q
  obtain ⟨T, id, hT, ht, hg⟩ := hr pins { s3 with heap := s3.heap.push { cls := .type "slice", data := .fields #[vl, vu, .none] } } σ H3 x v vl vu l u s3.heap.objs.size Q I4 r1 (Heap.IsSliceOf.new ..) pl pu q3
  show wpAny (model X.prog X.w) X.A (subscriptTail e (.Slice lo hi none p2) v (.ref s3.heap.objs.size)) (EP X pins σ Q) X.xe { s3 with heap := s3.heap.push { cls := .type "slice", data := .fields #[vl, vu, .none] } }
  exact tail_any (ops := [.ref s3.heap.objs.size, v]) ht hT hg (by with_unfolding_all rfl)

/-- the items of xs[lo:hi] -/
def cutV (xs : List V) (lo hi : Option Int) : List V := (xs.drop (HT.sIx xs.length 0 lo)).take (HT.sIx xs.length xs.length hi - HT.sIx xs.length 0 lo)
theorem cutV_length (xs : List V) (lo hi : Option Int) : (cutV xs lo hi).length ≤ xs.length := by
  unfold cutV
  rw [List.length_take, List.length_drop]
  omega
/-- t[lo:hi], not the whole of it (the whole would be t itself) -/
def rSlT (K : PySem.W.Frag) : V → Option Int → Option Int → Hp → VK → Prop := fun x lo hi H Q => ∃ a xs, x = .ref a ∧ SqT K H a xs ∧
  ¬ (HT.sIx xs.length 0 lo = 0 ∧ HT.sIx xs.length xs.length hi = xs.length) ∧ ∀ p, H p = none → Q (.ref p) (upd H p (.tup (cutV xs lo hi)))
theorem sl_tup : SlR X (rSlT X.K) := by
  intro pins s σ H x v vl vu lo hi sl Q I rx hs pl pu h
  obtain ⟨a, xs, rfl, hx, hw, q⟩ := h
  cases rx
  obtain ⟨its, r, ht, hz⟩ := I.tuple hx
  have hlen : its.toArray.size = xs.length := by rw [List.size_toArray]; exact r.length.symm
  refine ⟨"tuple", _, PyProof.Rows.slot_tuple_getitem.lookup, ht.typeIs, ?_⟩
  refine HT.getItem_tuple_cut ht hs pl pu (by rw [hlen]; exact hw) ?_ (by rw [hlen]; exact hz)
  rw [hlen]
  refine ⟨.ref s.heap.objs.size, _, I.laid (t' := s.toks) (o := .tup (cutV xs lo hi)) (fun b ob q => Heap.get?_push_of_some _ q) (Nat.le_refl _) ?_, rfl, q _ (I.hok.fresh (Nat.le_refl _))⟩
  exact ⟨⟨Nat.le_trans (cutV_length xs lo hi) hz, ⟨_, Heap.get?_push_size _ rfl, rfl⟩⟩, _, (r.drop (HT.sIx xs.length 0 lo)).take (HT.sIx xs.length xs.length hi - HT.sIx xs.length 0 lo), IsTup.new _ _⟩

/-! ### t < u, t + u -/
def rLtT (K : PySem.W.Frag) : R2 := fun x y H Q => ∃ a b ns ms, x = .ref a ∧ y = .ref b ∧ SqT K H a (ns.map V.int) ∧ SqT K H b (ms.map V.int) ∧ Q (.bl (HT.lexLt ns ms)) H
theorem op_ltT (hu : X.A.units < cLine) : OpR X (compareOp .Lt) (rLtT X.K) := by
  intro pins s σ H x y v u Q I rx ry h
  obtain ⟨a, b, ns, ms, rfl, rfl, ha, hb, q⟩ := h
  cases rx
  cases ry
  obtain ⟨its, r1, p1, _⟩ := I.tuple ha
  obtain ⟨its2, r2, p2, _⟩ := I.tuple hb
  have i1 : IntsAre its.toArray.toList ns := intsAre_of r1
  have i2 : IntsAre its2.toArray.toList ms := intsAre_of r2
  exact HT.lt_tupInts p1 p2 i1 i2 hu ⟨.bl (HT.lexLt ns ms), H, I, rfl, q⟩
/-- t + u, t not empty: u empty gives t itself -/
def rCatT (K : PySem.W.Frag) : R2 := fun x y H Q => ∃ a b xs ys, x = .ref a ∧ y = .ref b ∧ SqT K H a xs ∧ SqT K H b ys ∧ xs ≠ [] ∧ xs.length + ys.length ≤ sizeLine ∧
  (ys = [] → Q (.ref a) H) ∧ (ys ≠ [] → ∀ p, H p = none → Q (.ref p) (upd H p (.tup (xs ++ ys))))
theorem Vals.nil_iff {xs : List V} {us : List Value} (r : Vals xs us) : us = [] ↔ xs = [] := by
  cases r with
  | nil => simp
  | cons _ _ => simp
theorem op_catT : OpR X (binaryOp .Add) (rCatT X.K) := by
  intro pins s σ H x y v u Q I rx ry h
  obtain ⟨a, b, xs, ys, rfl, rfl, ha, hb, hx, hz, q1, q2⟩ := h
  cases rx
  cases ry
  obtain ⟨its, r1, p1, _⟩ := I.tuple ha
  obtain ⟨its2, r2, p2, _⟩ := I.tuple hb
  refine HT.cat_tup p1 p2 (fun z => hx (r1.nil_iff.mp z)) (fun z => ⟨.ref a, H, I, rfl, q1 (r2.nil_iff.mp z)⟩) (fun z => ?_) (by rw [← r1.length, ← r2.length]; exact hz)
  refine ⟨.ref s.heap.objs.size, _, I.laid (t' := s.toks) (o := .tup (xs ++ ys)) (fun b ob q => Heap.get?_push_of_some _ q) (Nat.le_refl _) ?_, rfl, q2 (fun w => z (r2.nil_iff.mpr w)) _ (I.hok.fresh (Nat.le_refl _))⟩
  exact ⟨⟨by rw [List.length_append]; exact hz, ⟨_, Heap.get?_push_size _ rfl, rfl⟩⟩, _, r1.append r2, IsTup.new _ _⟩
/-- tuple(t) -/
theorem call_tupleT : CallR X (.type "tuple") (fun xs H Q => ∃ a ys, xs = [.ref a] ∧ SqT X.K H a ys ∧ Q (.ref a) H) := by
  intro pins s σ H xs us Q I r h
  obtain ⟨a, ys, rfl, ha, q⟩ := h
  obtain ⟨u, rfl, ru⟩ := vals1 r
  cases ru
  obtain ⟨its, _, p1, _⟩ := I.tuple ha
  exact call_tuple_same (items := its.toArray) p1 ⟨.ref a, H, I, rfl, q⟩
end
end L2

namespace L2
open PySem PySem.Spec PyProof.Rows

/-! ### places -/
/-- the place that an index of any sign means -/
def ixN (n : Nat) (i : Int) : Option Nat := if 0 ≤ i then (if i < n then some i.toNat else none) else if -(n : Int) ≤ i then some (i + n).toNat else none
def atI {α : Type} (xs : List α) (i : Int) : Option α := (ixN xs.length i).bind fun j => xs[j]?
theorem ixN_seq {n : Nat} {i : Int} {j : Nat} (h : ixN n i = some j) : seqIndex? i n = some j ∧ j < n ∧ -(n : Int) ≤ i ∧ i < n := by
  unfold ixN at h
  by_cases h0 : 0 ≤ i
  · rw [if_pos h0] at h
    by_cases h1 : i < n
    · rw [if_pos h1] at h
      have e : i.toNat = j := Option.some.inj h
      exact ⟨by rw [seqIndex_of h0 h1, e], by omega, by omega, h1⟩
    · rw [if_neg h1] at h; cases h
  · rw [if_neg h0] at h
    by_cases h1 : -(n : Int) ≤ i
    · rw [if_pos h1] at h
      have e : (i + n).toNat = j := Option.some.inj h
      exact ⟨by rw [seqIndex_neg (by omega) h1, e], by omega, h1, by omega⟩
    · rw [if_neg h1] at h; cases h
theorem atI_get {α : Type} {xs : List α} {i : Int} {v : α} (h : atI xs i = some v) : ∃ j, seqIndex? i xs.length = some j ∧ xs[j]? = some v ∧ j < xs.length ∧ -(xs.length : Int) ≤ i ∧ i < xs.length := by
  unfold atI at h
  cases e : ixN xs.length i with
  | none => rw [e] at h; cases h
  | some j =>
    rw [e] at h
    obtain ⟨h1, h2, h3, h4⟩ := ixN_seq e
    exact ⟨j, h1, h, h2, h3, h4⟩
theorem atI_nat {α : Type} {xs : List α} {j : Nat} {v : α} (h : xs[j]? = some v) : atI xs (j : Int) = some v := by
  have hj : j < xs.length := (List.getElem?_eq_some_iff.mp h).1
  have e : ixN xs.length (j : Int) = some j := by
    unfold ixN
    rw [if_pos (by omega), if_pos (by omega)]; simp
  unfold atI; rw [e]; exact h
theorem atI_last {α : Type} (xs : List α) (v : α) : atI (xs ++ [v]) (-1) = some v := by
  have hl : (xs ++ [v]).length = xs.length + 1 := by simp
  have e : ixN (xs ++ [v]).length (-1) = some xs.length := by
    unfold ixN
    rw [hl, if_neg (by decide), if_pos (by omega)]
    congr 1
    omega
  unfold atI
  rw [e]
  show (xs ++ [v])[xs.length]? = some v
  simp

/-! ### what may be subscripted -/
/-- what stands as an index of a plain subscript -/
def PlainIx (b : Expr) : Prop := ∀ o i, subscripted b false o i = operate [o, i] (getItem o i)
/-- a subscript by values -/
def IxR (X : Cx) (r : R2) : Prop :=
  ∀ (value slice : Expr) (pins : List (Addr × Obj)) (s : Shared) (σ : St) (H : Hp) (x y : V) (v u : Value) (Q : VK), Inv X pins σ H s → RelV x v → RelV y u → r x y H Q →
    subscripted slice false v u = operate [v, u] (getItem v u) → wpAny (model X.prog X.w) X.A (subscriptTail value slice v u) (EP X pins σ Q) X.xe s
/-- a call of a builtin's method by values: the receiver, the arguments -/
def MtR (X : Cx) (id : String) (r : V → List V → Hp → VK → Prop) : Prop :=
  ∀ (pins : List (Addr × Obj)) (s : Shared) (σ : St) (H : Hp) (x : V) (xs : List V) (v : Value) (us : List Value) (Q : VK), Inv X pins σ H s → RelV x v → Vals xs us → r x xs H Q →
    wpAny (model X.prog X.w) X.A (call (.builtin id) (v :: us)) (EP X pins σ Q) X.xe s
section
variable {X : Cx} {a b : Expr} {ta tb : TE} {pos : Pos}
theorem IxR.or {r r' : R2} (h : IxR X r) (h' : IxR X r') : IxR X (fun x y H Q => r x y H Q ∨ r' x y H Q) := by
  intro value slice pins s σ H x y v u Q I rx ry q hs
  rcases q with q | q
  · exact h value slice pins s σ H x y v u Q I rx ry q hs
  · exact h' value slice pins s σ H x y v u Q I rx ry q hs
theorem MtR.or {id : String} {r r' : V → List V → Hp → VK → Prop} (h : MtR X id r) (h' : MtR X id r') : MtR X id (fun x xs H Q => r x xs H Q ∨ r' x xs H Q) := by
  intro pins s σ H x xs v us Q I rx rs q
  rcases q with q | q
  · exact h pins s σ H x xs v us Q I rx rs q
  · exact h' pins s σ H x xs v us Q I rx rs q
/-- a[b] -/
theorem pe_ix {r : R2} (hr : IxR X r) (ha : PE X a ta) (hb : PE X b tb) (hs : PlainIx b) : PE X (.Subscript a b pos) (tOp r ta tb) := by
  intro pins s σ H Q I h
  exact Subscript_ (binT ha hb I h fun v u s2 x y H2 I2 rx ry q => hr a b pins s2 σ H2 x y v u Q I2 rx ry q (hs _ _))

def rIxL (K : PySem.W.Frag) : R2 := fun x y H Q => ∃ p xs i v, x = .ref p ∧ y = .int i ∧ SqL K H p xs ∧ atI xs i = some v ∧ Q v H
def rIxT (K : PySem.W.Frag) : R2 := fun x y H Q => ∃ p xs i v, x = .ref p ∧ y = .int i ∧ SqT K H p xs ∧ atI xs i = some v ∧ Q v H
def rIxS : R2 := fun x y H Q => ∃ z i c, x = .str z ∧ y = .int i ∧ z.length ≤ sizeLine ∧ atI z.cps.toList i = some c ∧ Q (.str ⟨#[c]⟩) H
theorem ix_list : IxR X (rIxL X.K) := by
  intro value slice pins s σ H x y v u Q I rx ry h hs
  obtain ⟨p, xs, i, z, rfl, rfl, hq, he, q⟩ := h
  cases rx
  obtain ⟨t, rfl⟩ := ry
  obtain ⟨its, r, pl, hz⟩ := I.list hq
  obtain ⟨j, h1, h2, h3, h4, h5⟩ := atI_get he
  obtain ⟨w, ew, rw'⟩ := r.get h2
  have hl := r.length
  have hn := line63
  have fin : EP X pins σ Q w s := ⟨z, H, I, rw', q⟩
  by_cases h0 : 0 ≤ i
  · have hj : i.toNat = j := by
      rw [seqIndex_of h0 h5] at h1
      exact Option.some.inj h1
    exact item_listR pl.isList h0 (by omega) (by rw [hj]; simpa using ew) fin hs
  · have hj : (i + (its.toArray.size : Int)).toNat = j := by
      rw [seqIndex_neg (by omega) h4] at h1
      rw [List.size_toArray, ← hl]
      exact Option.some.inj h1
    exact subscriptTail_builtinR (x := w) pl.isList.typeIs slot_list_getitem.lookup
      (wpAny_getItem_list_neg (Q := fun r s' => r = w ∧ EP X pins σ Q r s') pl.isList (by omega) (by rw [List.size_toArray] <;> omega) (by omega) (by rw [hj]; simpa using ew) ⟨rfl, fin⟩) hs
theorem ix_tup : IxR X (rIxT X.K) := by
  intro value slice pins s σ H x y v u Q I rx ry h hs
  obtain ⟨p, xs, i, z, rfl, rfl, hq, he, q⟩ := h
  cases rx
  obtain ⟨t, rfl⟩ := ry
  obtain ⟨its, r, pl, hz⟩ := I.tuple hq
  obtain ⟨j, h1, h2, h3, h4, h5⟩ := atI_get he
  obtain ⟨w, ew, rw'⟩ := r.get h2
  have hl := r.length
  have hn := line63
  have fin : EP X pins σ Q w s := ⟨z, H, I, rw', q⟩
  exact subscriptTail_builtinR (x := w) pl.typeIs slot_tuple_getitem.lookup
    (getItem_tuple (j := j) (Q := fun r s' => r = w ∧ EP X pins σ Q r s') pl (by omega) (by omega) (by rw [List.size_toArray, ← hl]; exact h1) (by simpa using ew) ⟨rfl, fin⟩) hs
theorem ix_str : IxR X rIxS := by
  intro value slice pins s σ H x y v u Q I rx ry h hs
  obtain ⟨z, i, c, rfl, rfl, hz, he, q⟩ := h
  obtain ⟨t, rfl⟩ := rx
  obtain ⟨t', rfl⟩ := ry
  obtain ⟨j, h1, h2, h3, h4, h5⟩ := atI_get he
  have hl : z.cps.toList.length = z.length := by simp [Str.length]
  rw [hl] at h1 h4 h5
  have hn := line63
  exact tail_any (typeIs_str s z t) slot_str_getitem.lookup (getItem_str (c := c) (by
    have e1 : decide (i < -(2 ^ 63 : Int)) = false := decide_eq_false (by omega)
    have e2 : decide (i ≥ 2 ^ 63) = false := decide_eq_false (by omega)
    rw [e1, e2, Bool.or_false]) (by rw [h1]; simpa using h2) ⟨.str ⟨#[c]⟩, H, I.tok _, ⟨_, rfl⟩, q⟩) hs
/-- list, tuple or str -/
def rIx (K : PySem.W.Frag) : R2 := fun x y H Q => rIxL K x y H Q ∨ rIxT K x y H Q ∨ rIxS x y H Q
theorem ix_seq : IxR X (rIx X.K) := ix_list.or (ix_tup.or ix_str)

/-! ### xs[i] = v, any sign -/
/-- the list's object behind a store -/
theorem mapSeq_set (its : List Value) (n j : Nat) (u : Value) : Obj.mapSeq (·.setIfInBounds j u) { cls := .type "list", data := .seq its.toArray n } = { cls := .type "list", data := .seq (its.set j u).toArray n } := by
  simp [Obj.mapSeq]
theorem Inv.lst {pins : List (Addr × Obj)} {σ : St} {H : Hp} {s : Shared} {p : Addr} {xs : List V} (I : Inv X pins σ H s) (h : H p = some (.lst xs)) :
    ∃ (its : List Value) (n : Nat), Vals xs its ∧ s.heap.get? p = some { cls := .type "list", data := .seq its.toArray n } ∧ xs.length ≤ sizeLine := by
  obtain ⟨z, its, n, r, e⟩ := I.hok p _ h
  exact ⟨its, n, r, e, z⟩
/-- the list at p is written by an update of its object -/
theorem Inv.lstUpd {pins : List (Addr × Obj)} {σ : St} {H : Hp} {s : Shared} {p : Addr} {xs ys : List V} {its its' : List Value} {n n' : Nat} {f : Obj → Obj} (I : Inv X pins σ H s) (h : H p = some (.lst xs))
    (ho : s.heap.get? p = some { cls := .type "list", data := .seq its.toArray n }) (hf : f { cls := .type "list", data := .seq its.toArray n } = { cls := .type "list", data := .seq its'.toArray n' }) (r : Vals ys its') (hz : ys.length ≤ sizeLine) (t : Nat) :
    Inv X pins σ (upd H p (.lst ys)) { s with heap := s.heap.update p f, toks := t } := by
  have e : (s.heap.update p f).get? p = some { cls := .type "list", data := .seq its'.toArray n' } := by
    rw [Heap.get?_update_self f ho (by rw [hf] <;> rfl), hf]
  refine I.write (x := p) (e := p) (by rw [h]; trivial) (.inl rfl) (fun b u hb q => (Heap.get?_update_other _ _ (Ne.symm hb)).trans q) ⟨_, e⟩ ?_
  exact ⟨hz, its', n', r, e⟩
def rSetL : V → V → V → Hp → (Hp → Prop) → Prop := fun o i v H Q => ∃ p xs k j, o = .ref p ∧ i = .int k ∧ H p = some (.lst xs) ∧ ixN xs.length k = some j ∧ Q (upd H p (.lst (xs.set j v)))
theorem set_list : PSet X rSetL := by
  intro pins s σ H o i v ov iv u Q I ro ri rv h
  obtain ⟨p, xs, k, j, rfl, rfl, hp, hj, q⟩ := h
  cases ro
  obtain ⟨t, rfl⟩ := ri
  obtain ⟨its, n, r, ho, hz⟩ := I.lst hp
  obtain ⟨h1, h2, h3, h4⟩ := ixN_seq hj
  have hl := r.length
  have hn := line63
  have I' : Inv X pins σ (upd H p (.lst (xs.set j v))) { s with heap := s.heap.update p (Obj.mapSeq (·.setIfInBounds j u)) } :=
    I.lstUpd hp ho (mapSeq_set its n j u) (r.set rv j) (by rw [List.length_set]; exact hz) s.toks
  by_cases h0 : 0 ≤ k
  · have hk : k.toNat = j := by
      rw [seqIndex_of h0 h4] at h1
      exact Option.some.inj h1
    exact PySem.W.ki_setAt ho h0 (by omega) (by rw [List.size_toArray, ← hl]; exact h4) (by rw [hk]; exact ⟨_, I', q⟩)
  · have hk : (k + (its.toArray.size : Int)).toNat = j := by
      rw [seqIndex_neg (by omega) h3] at h1
      rw [List.size_toArray, ← hl]
      exact Option.some.inj h1
    exact PySem.W.ki_setBack ho (by omega) (by rw [List.size_toArray, ← hl]; exact h3) (by omega) (by rw [hk]; exact ⟨_, I', q⟩)

/-! ### slices -/
theorem slice_bounds (lo hi : Option Int) (n : Nat) : (sliceBounds lo hi none n).1 = ((HT.sIx n 0 lo : Nat) : Int) ∧ (sliceBounds lo hi none n).2.1 = ((HT.sIx n n hi : Nat) : Int) ∧ (sliceBounds lo hi none n).2.2 = 1 := by
  refine ⟨?_, ?_, rfl⟩
  · cases lo with
    | none => simp [sliceBounds, HT.sIx]
    | some i =>
      simp only [sliceBounds, HT.sIx, Option.getD_none, show (1 : Int) > 0 by decide, if_true]
      by_cases h : i < 0
      · simp only [h, if_true] <;> omega
      · simp only [h, if_false] <;> omega
  · cases hi with
    | none => simp [sliceBounds, HT.sIx]
    | some i =>
      simp only [sliceBounds, HT.sIx, Option.getD_none, show (1 : Int) > 0 by decide, if_true]
      by_cases h : i < 0
      · simp only [h, if_true] <;> omega
      · simp only [h, if_false] <;> omega
theorem slicePick_cut (its : List Value) (lo hi : Option Int) : slicePick its.toArray lo hi none = ((its.drop (HT.sIx its.length 0 lo)).take (HT.sIx its.length its.length hi - HT.sIx its.length 0 lo)).toArray := by
  obtain ⟨h1, h2, h3⟩ := slice_bounds lo hi its.toArray.size
  unfold slicePick
  rw [h1, h2, h3]
  simp only [sliceRange_one, pick_run, List.size_toArray] <;> rfl
/-- xs[lo:hi] of a list: a new list -/
def rSlL (K : PySem.W.Frag) : V → Option Int → Option Int → Hp → VK → Prop := fun x lo hi H Q => ∃ a xs, x = .ref a ∧ SqL K H a xs ∧ ∀ p, H p = none → Q (.ref p) (upd H p (.lst (cutV xs lo hi)))
theorem sl_list : SlR X (rSlL X.K) := by
  intro pins s σ H x v vl vu lo hi sl Q I rx hs pl pu h
  obtain ⟨a, xs, rfl, hx, q⟩ := h
  cases rx
  obtain ⟨its, r, ht, hz⟩ := I.list hx
  have hlen := r.length
  refine ⟨"list", _, slot_list_getitem.lookup, ht.isList.typeIs, ?_⟩
  refine wpAny_getItem_list_slice ht.isList hs pl pu .none (by simp) ?_ (by rw [List.size_toArray] <;> omega)
  rw [slicePick_cut, ← hlen]
  refine ⟨.ref s.heap.objs.size, _, I.laid (t' := s.toks) (o := .lst (cutV xs lo hi)) (fun b ob q => Heap.get?_push_of_some _ q) (Nat.le_refl _) ?_, rfl, q _ (I.hok.fresh (Nat.le_refl _))⟩
  exact ⟨Nat.le_trans (cutV_length xs lo hi) hz, _, 0, (r.drop (HT.sIx xs.length 0 lo)).take (HT.sIx xs.length xs.length hi - HT.sIx xs.length 0 lo), Heap.get?_push_size _ rfl⟩

/-! ### in, not in: flat items -/
def flatV : V → Bool
  | .non => true
  | .bl _ => true
  | .int _ => true
  | .str _ => true
  | _ => false
/-- == of flat values -/
def eqV : V → V → Bool
  | .non, .non => true
  | .bl a, .bl b => a == b
  | .bl a, .int b => (if a then 1 else 0) == b
  | .int a, .bl b => a == (if b then 1 else 0)
  | .int a, .int b => a == b
  | .str a, .str b => a == b
  | _, _ => false
theorem eqAt_V {A : Around} {s : Shared} {y x : V} {u v : Value} (ry : RelV y u) (rx : RelV x v) (fy : flatV y = true) (fx : flatV x = true) : SeqAt.EqAt A s u v (eqV y x) := by
  cases y with
  | non =>
    cases ry
    cases x with
    | non => cases rx; exact SeqAt.EqAt.same _
    | bl b => cases rx; exact SeqAt.EqAt.none_bool b
    | int b => obtain ⟨t, rfl⟩ := rx; exact SeqAt.EqAt.none_int b t
    | str b => obtain ⟨t, rfl⟩ := rx; exact SeqAt.EqAt.none_str b t
    | _ => exact absurd (show false = true from fx) Bool.false_ne_true
  | bl a =>
    cases ry
    cases x with
    | non => cases rx; exact SeqAt.EqAt.bool_none a
    | bl b => cases rx; exact SeqAt.EqAt.bool_bool a b
    | int b => obtain ⟨t, rfl⟩ := rx; exact SeqAt.EqAt.bool_int a b t
    | str b => obtain ⟨t, rfl⟩ := rx; exact SeqAt.EqAt.bool_str a b t
    | _ => exact absurd (show false = true from fx) Bool.false_ne_true
  | int a =>
    obtain ⟨t', rfl⟩ := ry
    cases x with
    | non => cases rx; exact SeqAt.EqAt.int_none a t'
    | bl b => cases rx; exact SeqAt.EqAt.int_bool a t' b
    | int b => obtain ⟨t, rfl⟩ := rx; exact SeqAt.EqAt.int_int a t' b t
    | str b => obtain ⟨t, rfl⟩ := rx; exact SeqAt.EqAt.int_str a t' b t
    | _ => exact absurd (show false = true from fx) Bool.false_ne_true
  | str a =>
    obtain ⟨t', rfl⟩ := ry
    cases x with
    | non => cases rx; exact SeqAt.EqAt.str_none a t'
    | bl b => cases rx; exact SeqAt.EqAt.str_bool a t' b
    | int b => obtain ⟨t, rfl⟩ := rx; exact SeqAt.EqAt.str_int a t' b t
    | str b => obtain ⟨t, rfl⟩ := rx; exact SeqAt.EqAt.str_str a t' b t
    | _ => exact absurd (show false = true from fx) Bool.false_ne_true
  | _ => exact absurd (show false = true from fy) Bool.false_ne_true
/-- the items' answers, read off the values (a value's own answer does not lean on its token) -/
def eqU (x : V) (u : Value) : Bool := match u with
  | .none => eqV .non x
  | .bool b => eqV (.bl b) x
  | .int i _ => eqV (.int i) x
  | .str z _ => eqV (.str z) x
  | _ => false
theorem eqU_of {x y : V} {u : Value} (r : RelV y u) (f : flatV y = true) : eqU x u = eqV y x := by
  cases y with
  | non => cases r; rfl
  | bl b => cases r; rfl
  | int i => obtain ⟨t, rfl⟩ := r; rfl
  | str z => obtain ⟨t, rfl⟩ := r; rfl
  | _ => exact absurd (show false = true from f) Bool.false_ne_true
theorem any_eqU {x : V} : ∀ {xs : List V} {us : List Value}, Vals xs us → xs.all flatV = true → us.any (eqU x) = xs.any fun y => eqV y x
  | _, _, .nil, _ => rfl
  | y :: xs, u :: us, .cons r t, f => by
    rw [List.all_cons, Bool.and_eq_true] at f
    rw [List.any_cons, List.any_cons, eqU_of r f.1, any_eqU t f.2]
theorem mem_eqAt {A : Around} {s : Shared} {x : V} {v : Value} (rx : RelV x v) (fx : flatV x = true) : ∀ {xs : List V} {us : List Value}, Vals xs us → xs.all flatV = true → ∀ u ∈ us, SeqAt.EqAt A s u v (eqU x u)
  | _, _, .nil, _ => fun u hu => by cases hu
  | y :: xs, u :: us, .cons r t, f => fun u' hu => by
    rw [List.all_cons, Bool.and_eq_true] at f
    rcases List.mem_cons.mp hu with rfl | hu
    · rw [eqU_of r f.1]; exact eqAt_V r rx f.1 fx
    · exact mem_eqAt rx fx t f.2 u' hu
def inV (x : V) (xs : List V) : Bool := xs.any fun y => eqV y x
/-- x in a list or tuple of flat items -/
def rIn (K : PySem.W.Frag) (neg : Bool) : R2 := fun x y H Q => ∃ p xs, y = .ref p ∧ (SqL K H p xs ∨ SqT K H p xs) ∧ flatV x = true ∧ xs.all flatV = true ∧ Q (.bl (if neg then !inV x xs else inV x xs)) H
theorem op_in_seq : OpR X (compareOp .In) (rIn X.K false) := by
  intro pins s σ H x y v u Q I rx ry h
  obtain ⟨p, xs, rfl, hq, fx, fs, q⟩ := h
  cases ry
  rcases hq with hq | hq
  · obtain ⟨its, r, pl, hz⟩ := I.list hq
    refine SeqAt.in_listAt (eqU x) pl.isList (fun w hw => mem_eqAt rx fx r fs w (by simpa using hw)) ⟨.bl _, H, I, rfl, ?_⟩
    rw [show its.toArray.any (eqU x) = its.any (eqU x) by simp, any_eqU r fs]
    exact q
  · obtain ⟨its, r, pl, hz⟩ := I.tuple hq
    refine SeqAt.in_tupleAt (eqU x) pl (fun w hw => mem_eqAt rx fx r fs w (by simpa using hw)) ⟨.bl _, H, I, rfl, ?_⟩
    rw [show its.toArray.any (eqU x) = its.any (eqU x) by simp, any_eqU r fs]
    exact q
theorem op_notIn_seq : OpR X (compareOp .NotIn) (rIn X.K true) := by
  intro pins s σ H x y v u Q I rx ry h
  obtain ⟨p, xs, rfl, hq, fx, fs, q⟩ := h
  cases ry
  rcases hq with hq | hq
  · obtain ⟨its, r, pl, hz⟩ := I.list hq
    refine SeqAt.notIn_listAt (eqU x) pl.isList (fun w hw => mem_eqAt rx fx r fs w (by simpa using hw)) ⟨.bl _, H, I, rfl, ?_⟩
    rw [show its.toArray.any (eqU x) = its.any (eqU x) by simp, any_eqU r fs]
    exact q
  · obtain ⟨its, r, pl, hz⟩ := I.tuple hq
    refine SeqAt.notIn_tupleAt (eqU x) pl (fun w hw => mem_eqAt rx fx r fs w (by simpa using hw)) ⟨.bl _, H, I, rfl, ?_⟩
    rw [show its.toArray.any (eqU x) = its.any (eqU x) by simp, any_eqU r fs]
    exact q
theorem op_notIn_str : OpR X (compareOp .NotIn) (fun x y H Q => ∃ i j, x = .str i ∧ y = .str j ∧ Q (.bl (!(!(Builtin.Str.occurrences j i 0 j.length 1).isEmpty))) H) := by
  intro pins s σ H x y v u Q I rx ry h
  obtain ⟨i, j, rfl, rfl, q⟩ := h
  obtain ⟨t, rfl⟩ := rx
  obtain ⟨t', rfl⟩ := ry
  exact notIn_str ⟨.bl _, H, I, rfl, q⟩

/-! ### len, list(x), tuple(x) of any list or tuple that is read -/
theorem call_len_seq : CallR X (.builtin "len") (fun xs H Q => ∃ p ys, xs = [.ref p] ∧ (SqL X.K H p ys ∨ SqT X.K H p ys) ∧ Q (.int ys.length) H) := by
  intro pins s σ H xs us Q I r h
  obtain ⟨p, ys, rfl, hq, q⟩ := h
  obtain ⟨u, rfl, rx⟩ := vals1 r
  cases rx
  have hn := line63
  rcases hq with hq | hq
  · obtain ⟨its, r', pl, hz⟩ := I.list hq
    have hlen := r'.length
    exact Calls.call_len_list pl.isList (by simp only [List.size_toArray] <;> omega) ⟨.int ys.length, H, I.tok _, ⟨s.toks + 1, by rw [List.size_toArray, hlen]⟩, q⟩
  · obtain ⟨its, r', pl, hz⟩ := I.tuple hq
    have hlen := r'.length
    exact len_tuple pl (by simp only [List.size_toArray] <;> omega) ⟨.int ys.length, H, I.tok _, ⟨s.toks + 1, by rw [List.size_toArray, hlen]⟩, q⟩
theorem call_len_str : CallR X (.builtin "len") (fun xs H Q => ∃ z, xs = [.str z] ∧ z.length ≤ sizeLine ∧ Q (.int z.length) H) := by
  intro pins s σ H xs us Q I r h
  obtain ⟨z, rfl, hz, q⟩ := h
  obtain ⟨u, rfl, t, rfl⟩ := vals1 r
  have hn := line63
  exact len_str (by omega) ⟨.int z.length, H, I.tok _, ⟨_, rfl⟩, q⟩
theorem CallR.or {f : Value} {r r' : List V → Hp → VK → Prop} (h : CallR X f r) (h' : CallR X f r') : CallR X f (fun xs H Q => r xs H Q ∨ r' xs H Q) := by
  intro pins s σ H xs us Q I rs q
  rcases q with q | q
  · exact h pins s σ H xs us Q I rs q
  · exact h' pins s σ H xs us Q I rs q
theorem call_list_of : CallR X (.type "list") (fun xs H Q => ∃ p ys, xs = [.ref p] ∧ (SqL X.K H p ys ∨ SqT X.K H p ys) ∧ ∀ l, H l = none → Q (.ref l) (upd H l (.lst ys))) := by
  intro pins s σ H xs us Q I r h
  obtain ⟨p, ys, rfl, hq, q⟩ := h
  obtain ⟨u, rfl, rx⟩ := vals1 r
  cases rx
  have fin : ∀ (its : List Value), Vals ys its → ys.length ≤ sizeLine → ∀ (h' : Heap) (c' : Nat), (∀ b o', s.heap.get? b = some o' → h'.get? b = some o') →
      h'.get? s.heap.objs.size = some { cls := .type "list", dict := none, data := .seq its.toArray c', slots := #[] } → EP X pins σ Q (.ref s.heap.objs.size) { s with heap := h' } := fun its r' hz h' c' kp e =>
    ⟨.ref s.heap.objs.size, _, I.laid (t' := s.toks) kp (Nat.le_refl _) (show ObjOk X.prog X.w _ h' _ (.lst ys) from ⟨hz, its, c', r', e⟩), rfl, q _ (I.hok.fresh (Nat.le_refl _))⟩
  rcases hq with hq | hq
  · obtain ⟨its, r', pl, hz⟩ := I.list hq
    have hlen := r'.length
    obtain ⟨o, ho, hc, n, hd⟩ := pl.isList
    exact call_list_seq p (.inl rfl) ho hc hd (fun h' c' kp e => fin its r' hz h' c' kp e) (by simp only [List.size_toArray] <;> omega)
  · obtain ⟨its, r', pl, hz⟩ := I.tuple hq
    have hlen := r'.length
    obtain ⟨o, ho, hc, n, hd⟩ := pl
    exact call_list_seq p (.inr rfl) ho hc hd (fun h' c' kp e => fin its r' hz h' c' kp e) (by simp only [List.size_toArray] <;> omega)
theorem call_tuple_of : CallR X (.type "tuple") (fun xs H Q => ∃ p ys, xs = [.ref p] ∧ ((SqL X.K H p ys ∧ ∀ l, H l = none → Q (.ref l) (upd H l (.tup ys))) ∨ (SqT X.K H p ys ∧ Q (.ref p) H))) := by
  intro pins s σ H xs us Q I r h
  obtain ⟨p, ys, rfl, h⟩ := h
  obtain ⟨u, rfl, rx⟩ := vals1 r
  cases rx
  rcases h with ⟨hq, q⟩ | ⟨hq, q⟩
  · obtain ⟨its, r', pl, hz⟩ := I.list hq
    have hlen := r'.length
    refine call_tuple_list pl.isList (fun h' kp => ?_) (by simp only [List.size_toArray] <;> omega)
    have I1 : Inv X pins σ H { s with heap := h' } := I.kept (t' := s.toks) kp
    have I2 : Inv X pins σ (upd H h'.objs.size (.tup ys)) { s with heap := h'.push { cls := .type "tuple", data := .seq its.toArray } } :=
      I1.laid (t' := s.toks) (fun b o e => Heap.get?_push_of_some _ e) (Nat.le_refl _) (show ObjOk X.prog X.w _ _ _ (.tup ys) from ⟨⟨hz, ⟨_, Heap.get?_push_size _ rfl, rfl⟩⟩, its, r', IsTup.new _ _⟩)
    exact ⟨.ref h'.objs.size, _, I2, rfl, q _ (I1.hok.fresh (Nat.le_refl _))⟩
  · obtain ⟨its, r', pl, hz⟩ := I.tuple hq
    exact call_tuple_same pl ⟨.ref p, H, I, rfl, q⟩

/-! ### the call of a builtin's method: o.m(..) -/
/-- the value is of that builtin type -/
def tyV (K : PySem.W.Frag) (T : String) (x : V) (H : Hp) : Prop := match x with
  | .str _ => T = "str"
  | .int _ => T = "int"
  | .ref p => (T = "list" ∧ ∃ xs, SqL K H p xs) ∨ (T = "tuple" ∧ ∃ o, K.lookup p = some o ∧ o.cls = .type "tuple" ∧ o.dict = none) ∨
      (T = "dict" ∧ ((∃ kvs, H p = some (.dK kvs)) ∨ ∃ kvs, H p = some (.dT kvs))) ∨ (T = "set" ∧ ∃ S n, H p = some (.set S n))
  | _ => False
theorem tyV_is {pins : List (Addr × Obj)} {σ : St} {H : Hp} {s : Shared} {T : String} {x : V} {v : Value} (I : Inv X pins σ H s) (r : RelV x v) (ty : tyV X.K T x H) :
    s.TypeIs v T ∧ ∀ a, v = .ref a → ∃ ob, s.heap.get? a = some ob ∧ ob.dict = none := by
  cases x with
  | str z =>
    obtain ⟨t, rfl⟩ := r
    cases (show T = "str" from ty)
    exact ⟨typeIs_str s z t, fun _ e => nomatch e⟩
  | int i =>
    obtain ⟨t, rfl⟩ := r
    cases (show T = "int" from ty)
    exact ⟨typeIs_int s i t, fun _ e => nomatch e⟩
  | ref p =>
    cases r
    rcases ty with ⟨rfl, xs, hq⟩ | ⟨rfl, o, hk, hc, hd⟩ | ⟨rfl, hk⟩ | ⟨rfl, S, n, hk⟩
    · obtain ⟨its, _, pl, _⟩ := I.list hq
      refine ⟨pl.isList.typeIs, fun a e => ?_⟩
      cases e
      obtain ⟨o, n, e, c, hd, _⟩ := pl
      exact ⟨o, e, hd⟩
    · refine ⟨⟨o, I.kIn p o hk, hc⟩, fun a e => ?_⟩
      cases e
      exact ⟨o, I.kIn _ o hk, hd⟩
    · have z : ∃ o, s.heap.get? p = some o ∧ o.ExactDict := by
        rcases hk with ⟨kvs, hk⟩ | ⟨kvs, hk⟩
        · obtain ⟨_, _, _, _, o, _, _, e, ex, _⟩ := I.hok p _ hk
          exact ⟨o, e, ex⟩
        · obtain ⟨_, _, _, _, o, _, _, e, ex, _⟩ := I.hok p _ hk
          exact ⟨o, e, ex⟩
      obtain ⟨o, e, ex⟩ := z
      refine ⟨⟨o, e, ex.1⟩, fun a e2 => ?_⟩
      cases e2
      exact ⟨o, e, ex.2.1⟩
    · obtain ⟨o, _, _, _, e, ex, _⟩ := I.hok p _ hk
      refine ⟨⟨o, e, ex.1⟩, fun a e2 => ?_⟩
      cases e2
      exact ⟨o, e, ex.2.1⟩
  | _ => exact False.elim ty
def tBM0 (K : PySem.W.Frag) (T : String) (r : V → List V → Hp → VK → Prop) (to : TE) : TE := fun σ H Q => to σ H fun x H1 => tyV K T x H1 ∧ r x [] H1 Q
def tBM (K : PySem.W.Frag) (T : String) (r : V → List V → Hp → VK → Prop) (to : TE) (t : TA) : TE := fun σ H Q => to σ H fun x H1 => tyV K T x H1 ∧ t σ H1 fun xs H2 => r x xs H2 Q
variable {o e : Expr} {es : List Expr} {to : TE} {t : TA} {name : Str} {apos cpos : Pos} {T id : String} {r : V → List V → Hp → VK → Prop}
theorem pe_bm0 (pa : PlainAttrs T) (slot : Slot T name id) (hty : typeOf (.builtin id) = pure (.type "method_descriptor")) (hm : MtR X id r) (ho : PE X o to)
    (hbase : attributeBase o name X.env (eval o X.env) = eval o X.env := by rfl) (hline : (apos.endLine == cpos.line) = true := by rfl) : PE X (.Call (.Attribute o name apos) [] [] cpos) (tBM0 X.K T r to) := by
  intro pins s σ H Q I h
  refine wpAny_Call_method0_late hbase hline (thn (ho pins s σ H _ I h) fun v s1 ⟨x, H1, I1, r1, ty, q1⟩ => ?_)
  obtain ⟨h1, h2⟩ := tyV_is I1 r1 ty
  exact ⟨T, id, pa, slot, hty, h1, h2, Calls.callWith_builtin rfl (PySem.evalArgs_none (hm pins s1 σ H1 x [] v [] Q I1 r1 .nil q1))⟩
theorem pe_bm (pa : PlainAttrs T) (slot : Slot T name id) (hty : typeOf (.builtin id) = pure (.type "method_descriptor")) (hm : MtR X id r) (ho : PE X o to) (ha : PA X (e :: es) t)
    (hbase : attributeBase o name X.env (eval o X.env) = eval o X.env := by rfl)
    (hfew : ((backTo cpos (starEach (e :: es) X.env)).all (fun x => !x.1) && (backToKw cpos (keywordEach [] X.env)).all (fun x => x.1.isSome)
      && decide ((e :: es).length + ([] : List Keyword).length + (if ([] : List Keyword).isEmpty then 0 else 1) < 30)) = true := by rfl)
    (hline : (apos.endLine == cpos.line) = true := by rfl) (hs : starEach (e :: es) X.env = (false, eval e X.env) :: starEach es X.env := by rfl) (hplain : (backTo cpos (starEach es X.env)).any (·.1) = false := by rfl) :
    PE X (.Call (.Attribute o name apos) (e :: es) [] cpos) (tBM X.K T r to t) := by
  intro pins s σ H Q I h
  refine wpAny_Call_method_late hbase hfew hline rfl (thn (ho pins s σ H _ I h) fun v s1 ⟨x, H1, I1, r1, ty, q1⟩ => ?_)
  obtain ⟨h1, h2⟩ := tyV_is I1 r1 ty
  refine ⟨T, id, pa, slot, hty, h1, h2, ?_⟩
  have hA := ha cpos pins s1 σ H1 _ I1 q1
  rw [hs] at hA ⊢
  refine Calls.callWith_builtin (by show (false || (backTo cpos (starEach es X.env)).any (·.1)) = false; rw [hplain] <;> rfl) (Calls.evalArgs_plain ?_)
  exact thn hA fun us s2 ⟨vs, H2, I2, r2, q2⟩ => hm pins s2 σ H2 x vs v us Q I2 r1 r2 q2
/- xs.append(e), list.index on a module's tuple .. are MtR facts of 06m -/
end
end L2

namespace L2
open PySem PySem.Spec PyProof.Rows

def MtM (X : Cx) (id : String) (r : V → List V → Hp → VK → Prop) : Prop :=
  ∀ (pins : List (Addr × Obj)) (s : Shared) (σ : St) (H : Hp) (x : V) (xs : List V) (v : Value) (us : List Value) (Q : VK), Inv X pins σ H s → RelV x v → Vals xs us → r x xs H Q →
    wpAny (model X.prog X.w) X.A (call (.builtin id) (v :: us)) (EP X pins σ Q) X.xe s

/-! ### lists of values -/
theorem Vals.one : ∀ {x : V} {us : List Value}, Vals [x] us → ∃ u, us = [u] ∧ RelV x u
  | _, _, .cons r .nil => ⟨_, rfl, r⟩
theorem Vals.two : ∀ {x y : V} {us : List Value}, Vals [x, y] us → ∃ u v, us = [u, v] ∧ RelV x u ∧ RelV y v
  | _, _, _, .cons r (.cons q .nil) => ⟨_, _, rfl, r, q⟩
theorem Vals.zero : ∀ {us : List Value}, Vals [] us → us = []
  | _, .nil => rfl
theorem Vals.dropLast {xs : List V} {us : List Value} (h : Vals xs us) : Vals xs.dropLast us.dropLast := by
  induction h with
  | nil => exact .nil
  | cons r t ih =>
    cases t with
    | nil => exact .nil
    | cons q t' => exact .cons r ih
theorem Vals.eraseIdx : ∀ {xs : List V} {us : List Value} (i : Nat), Vals xs us → Vals (xs.eraseIdx i) (us.eraseIdx i)
  | _, _, _, .nil => .nil
  | _, _, 0, .cons _ t => t
  | _, _, i + 1, .cons r t => .cons r (Vals.eraseIdx i t)
theorem Vals.reverse {xs : List V} {us : List Value} (h : Vals xs us) : Vals xs.reverse us.reverse := by
  induction h with
  | nil => exact .nil
  | cons r t ih => rw [List.reverse_cons, List.reverse_cons]; exact Vals.append ih (.cons r .nil)
theorem Vals.rep {xs : List V} {us : List Value} (h : Vals xs us) : ∀ k : Nat, Vals (List.replicate k xs).flatten (List.replicate k us).flatten
  | 0 => .nil
  | k + 1 => by
    rw [List.replicate_succ, List.replicate_succ, List.flatten_cons, List.flatten_cons]
    exact Vals.append h (Vals.rep h k)
theorem erase_last {α : Type} (l : List α) : l.eraseIdx (l.length - 1) = l.dropLast := by
  induction l with
  | nil => rfl
  | cons a r ih =>
    cases r with
    | nil => rfl
    | cons b r =>
      have e : (a :: b :: r).length - 1 = ((b :: r).length - 1) + 1 := by
        have h1 : (a :: b :: r).length = r.length + 2 := rfl
        have h2 : (b :: r).length = r.length + 1 := rfl
        omega
      rw [e, List.eraseIdx_cons_succ, ih]
      all_goals rfl
theorem len_erase {α : Type} : ∀ (l : List α) (i : Nat), (l.eraseIdx i).length ≤ l.length
  | [], _ => Nat.le_refl _
  | _ :: _, 0 => Nat.le_succ _
  | _ :: r, i + 1 => Nat.succ_le_succ (len_erase r i)
theorem foldl_rep (its : List Value) : ∀ (k : Nat) (acc : List Value),
    List.foldl (fun x1 x2 => x1 ++ x2) acc.toArray (List.replicate k its.toArray) = (acc ++ (List.replicate k its).flatten).toArray
  | 0, acc => by simp
  | k + 1, acc => by
    have e : acc.toArray ++ its.toArray = (acc ++ its).toArray := by simp
    have e2 : (acc ++ its) ++ (List.replicate k its).flatten = acc ++ (List.replicate (k + 1) its).flatten := by
      rw [List.replicate_succ, List.flatten_cons, List.append_assoc]
    rw [← e2, ← foldl_rep its k (acc ++ its), ← e, List.replicate_succ, List.foldl_cons]

section
variable {X : Cx} {pins : List (Addr × Obj)} {σ : St} {H : Hp} {s : Shared} {l b : Addr} {xs ys zs : List V}

/-! ### the two steps: a tracked list is rewritten, a new list is laid -/
theorem Inv.lset {its its' : List Value} {n : Nat} {f : Array Value → Array Value} {t' : Nat} (I : Inv X pins σ H s) (hH : H l = some (.lst xs))
    (e : s.heap.get? l = some { cls := .type "list", data := .seq its.toArray n }) (hf : f its.toArray = its'.toArray) (hv : Vals ys its') (hz : ys.length ≤ sizeLine) :
    Inv X pins σ (upd H l (.lst ys)) { s with heap := s.heap.update l (Obj.mapSeq f), toks := t' } := by
  have q := PySem.IsL.update e f
  rw [hf] at q
  refine I.write (x := l) (e := l) (by rw [hH]; exact trivial) (.inl rfl) (fun b' u hb hu => (Heap.get?_update_other s.heap (Obj.mapSeq f) (Ne.symm hb)).trans hu) ⟨_, q⟩ ?_
  exact ⟨hz, its', _, hv, q⟩
theorem Inv.lnew {its : List Value} {t' : Nat} (I : Inv X pins σ H s) (hv : Vals ys its) (hz : ys.length ≤ sizeLine) :
    Inv X pins σ (upd H s.heap.objs.size (.lst ys)) { s with heap := s.heap.push { cls := .type "list", data := .seq its.toArray }, toks := t' } :=
  I.laid (fun _ _ q => Heap.get?_push_of_some _ q) (Nat.le_refl _) ⟨hz, its, 0, hv, Heap.get?_push_size _ rfl⟩
theorem Inv.fresh (I : Inv X pins σ H s) : H s.heap.objs.size = none := I.hok.fresh (Nat.le_refl _)
theorem Inv.lstM (I : Inv X pins σ H s) (hH : H l = some (.lst xs)) : xs.length ≤ sizeLine ∧ ∃ (its : List Value) (n : Nat), Vals xs its ∧ xs.length = its.length ∧ s.heap.get? l = some { cls := .type "list", data := .seq its.toArray n } := by
  obtain ⟨z, its, n, r, e⟩ := I.hok l _ hH
  exact ⟨z, its, n, r, r.length, e⟩

theorem notLongL {n : Nat} (h : n ≤ sizeLine) : Builtin.List.listTooLong n = false := by
  unfold Builtin.List.listTooLong
  exact decide_eq_false (by omega)
end

section
variable {X : Cx}

/-! ### methods -/
def rAppend : V → List V → Hp → VK → Prop := fun x vs H Q => ∃ l xs y, x = .ref l ∧ vs = [y] ∧ H l = some (.lst xs) ∧ xs.length < sizeLine ∧ Q .non (upd H l (.lst (xs ++ [y])))
theorem mt_append : MtM X "list.append" rAppend := by
  intro pins s σ H x vs v us Q I rx rv h
  obtain ⟨l, xs, y, rfl, rfl, hH, hz, q⟩ := h
  cases rx
  obtain ⟨u, rfl, ru⟩ := rv.one
  obtain ⟨z, its, n, r, hl, e⟩ := I.lstM hH
  refine call_meets F.slot_list_append ⟨_, e, rfl⟩ F.entry_list_append (F.args_list_append_2 _ _) (PySem.list_append l its.toArray n u (by rw [List.size_toArray]; omega)) ⟨e, ?_⟩
  refine ⟨.non, _, I.lset (its' := its ++ [u]) hH e (by simp) (r.append (.cons ru .nil)) ?_, rfl, q⟩
  rw [List.length_append, List.length_singleton]
  omega

def rExtend : V → List V → Hp → VK → Prop := fun x vs H Q => ∃ l b xs zs, x = .ref l ∧ vs = [.ref b] ∧ H l = some (.lst xs) ∧ H b = some (.lst zs) ∧ xs.length + zs.length ≤ sizeLine ∧ Q .non (upd H l (.lst (xs ++ zs)))
theorem mt_extend : MtM X "list.extend" rExtend := by
  intro pins s σ H x vs v us Q I rx rv h
  obtain ⟨l, b, xs, zs, rfl, rfl, hH, hB, hz, q⟩ := h
  cases rx
  obtain ⟨u, rfl, ru⟩ := rv.one
  cases ru
  obtain ⟨z, its, n, r, hl, e⟩ := I.lstM hH
  obtain ⟨z2, its2, n2, r2, hl2, e2⟩ := I.lstM hB
  have hsz : its.toArray.size + its2.toArray.size ≤ sizeLine := by rw [List.size_toArray, List.size_toArray]; omega
  have hlong : ¬ (!its.toArray.isEmpty && Builtin.List.listTooLong (its.toArray.size + its2.toArray.size)) = true := by
    rw [notLongL hsz, Bool.and_false]
    exact Bool.false_ne_true
  refine call_meets F.slot_list_extend ⟨_, e, rfl⟩ F.entry_list_extend (F.args_list_extend_2 _ _)
    (AutoSeq1.list_extend_list_list_0 l its.toArray n b its2.toArray n2 hlong (by rw [List.size_toArray]; omega) (by omega)) ⟨e, e2, ?_⟩
  refine ⟨.non, _, I.lset (its' := its ++ its2) hH e (by simp) (r.append r2) ?_, rfl, q⟩
  rw [List.length_append]
  omega

def rPop : V → List V → Hp → VK → Prop := fun x vs H Q => ∃ l xs y, x = .ref l ∧ vs = [] ∧ H l = some (.lst xs) ∧ xs[xs.length - 1]? = some y ∧ Q y (upd H l (.lst xs.dropLast))
theorem mt_pop : MtM X "list.pop" rPop := by
  intro pins s σ H x vs v us Q I rx rv h
  obtain ⟨l, xs, y, rfl, rfl, hH, hy, q⟩ := h
  cases rx
  have hus := rv.zero
  subst hus
  obtain ⟨z, its, n, r, hl, e⟩ := I.lstM hH
  obtain ⟨u, hu, ru⟩ := r.get hy
  have hy' : its.toArray[its.toArray.size - 1]? = some u := by
    show its.toArray[its.length - 1]? = some u
    rw [← Array.getElem?_toList, ← hl]
    exact hu
  refine call_meets F.slot_list_pop ⟨_, e, rfl⟩ F.entry_list_pop (F.args_list_pop_1 _) (MeetsSeq.list_pop_last l its.toArray n u hy' (by rw [List.size_toArray]; omega)) ⟨e, ?_⟩
  refine ⟨y, _, I.lset (its' := its.dropLast) hH e ?_ r.dropLast ?_, ru, q⟩
  · show its.toArray.eraseIdxIfInBounds (its.toArray.size - 1) = its.dropLast.toArray
    rw [List.size_toArray, List.eraseIdxIfInBounds_toArray, erase_last]
  · rw [List.length_dropLast]
    omega

def rPopAt : V → List V → Hp → VK → Prop := fun x vs H Q => ∃ l xs i k y, x = .ref l ∧ vs = [.int i] ∧ H l = some (.lst xs) ∧ -(2 ^ 63) ≤ i ∧ i < 2 ^ 63 ∧ seqIndex? i xs.length = some k ∧ xs[k]? = some y ∧ Q y (upd H l (.lst (xs.eraseIdx k)))
theorem mt_popAt : MtM X "list.pop" rPopAt := by
  intro pins s σ H x vs v us Q I rx rv h
  obtain ⟨l, xs, i, k, y, rfl, rfl, hH, h1, h2, hk, hy, q⟩ := h
  cases rx
  obtain ⟨u, rfl, ru⟩ := rv.one
  obtain ⟨t, rfl⟩ := ru
  obtain ⟨z, its, n, r, hl, e⟩ := I.lstM hH
  obtain ⟨w, hw, rw'⟩ := r.get hy
  refine call_meets F.slot_list_pop ⟨_, e, rfl⟩ F.entry_list_pop (F.args_list_pop_2 _ _)
    (MeetsSeq.list_pop_at l its.toArray n i t k w (fitsIndex_both h1 h2) (by rw [List.size_toArray, ← hl]; exact hk) (by rw [← Array.getElem?_toList]; exact hw) (by rw [List.size_toArray]; omega)) ⟨e, ?_⟩
  refine ⟨y, _, I.lset (its' := its.eraseIdx k) hH e ?_ (r.eraseIdx k) ?_, rw', q⟩
  · show its.toArray.eraseIdxIfInBounds k = (its.eraseIdx k).toArray
    rw [List.eraseIdxIfInBounds_toArray]
  · have := len_erase xs k
    omega

def rReverse : V → List V → Hp → VK → Prop := fun x vs H Q => ∃ l xs, x = .ref l ∧ vs = [] ∧ H l = some (.lst xs) ∧ Q .non (upd H l (.lst xs.reverse))
theorem mt_reverse : MtM X "list.reverse" rReverse := by
  intro pins s σ H x vs v us Q I rx rv h
  obtain ⟨l, xs, rfl, rfl, hH, q⟩ := h
  cases rx
  have hus := rv.zero
  subst hus
  obtain ⟨z, its, n, r, hl, e⟩ := I.lstM hH
  refine call_meets F.slot_list_reverse ⟨_, e, rfl⟩ F.entry_list_reverse (F.args_list_reverse_1 _) (AutoSeq1.list_reverse_list_0 l its.toArray n (by rw [List.size_toArray]; omega)) ⟨e, ?_⟩
  refine ⟨.non, _, I.lset (its' := its.reverse) hH e (by simp) r.reverse ?_, rfl, q⟩
  rw [List.length_reverse]
  omega

def rClear : V → List V → Hp → VK → Prop := fun x vs H Q => ∃ l xs, x = .ref l ∧ vs = [] ∧ H l = some (.lst xs) ∧ Q .non (upd H l (.lst []))
theorem mt_clear : MtM X "list.clear" rClear := by
  intro pins s σ H x vs v us Q I rx rv h
  obtain ⟨l, xs, rfl, rfl, hH, q⟩ := h
  cases rx
  have hus := rv.zero
  subst hus
  obtain ⟨z, its, n, r, hl, e⟩ := I.lstM hH
  refine call_meets F.slot_list_clear ⟨_, e, rfl⟩ F.entry_list_clear (F.args_list_clear_1 _) (AutoSeq1.list_clear_list_0 l its.toArray n (by rw [List.size_toArray]; omega)) ⟨e, ?_⟩
  exact ⟨.non, _, I.lset (its' := []) (ys := []) hH e rfl .nil (Nat.zero_le _), rfl, q⟩

/-! ### list + list, list += list, list * int -/
def rCat : R2 := fun x y H Q => ∃ l b xs zs, x = .ref l ∧ y = .ref b ∧ H l = some (.lst xs) ∧ H b = some (.lst zs) ∧ xs.length + zs.length ≤ sizeLine ∧ ∀ p, H p = none → Q (.ref p) (upd H p (.lst (xs ++ zs)))
theorem op_cat : OpR X (binaryOp .Add) rCat := by
  intro pins s σ H x y v u Q I rx ry h
  obtain ⟨l, b, xs, zs, rfl, rfl, hH, hB, hz, q⟩ := h
  cases rx
  cases ry
  obtain ⟨z, its, n, r, hl, e⟩ := I.lstM hH
  obtain ⟨z2, its2, n2, r2, hl2, e2⟩ := I.lstM hB
  refine PySem.P.add_list e e2 ?_ (by rw [List.size_toArray, List.size_toArray]; omega)
  have ea : its.toArray ++ its2.toArray = (its ++ its2).toArray := by simp
  rw [ea]
  exact ⟨.ref _, _, I.lnew (t' := s.toks) (r.append r2) (by rw [List.length_append]; omega), rfl, q _ I.fresh⟩
/-- a list times an int (a negative one is nothing) -/
def rRep : R2 := fun x y H Q => ∃ l k xs, x = .ref l ∧ y = .int k ∧ H l = some (.lst xs) ∧ -(2 ^ 63) ≤ k ∧ k < 2 ^ 63 ∧ xs.length * k.toNat ≤ sizeLine ∧
  ∀ p, H p = none → Q (.ref p) (upd H p (.lst (List.replicate k.toNat xs).flatten))
theorem len_rep {α : Type} (xs : List α) (k : Nat) : (List.replicate k xs).flatten.length = k * xs.length := by
  induction k with
  | zero => simp
  | succ k ih => rw [List.replicate_succ, List.flatten_cons, List.length_append, ih, Nat.succ_mul, Nat.add_comm]
theorem op_rep : OpR X (binaryOp .Mult) rRep := by
  intro pins s σ H x y v u Q I rx ry h
  obtain ⟨l, k, xs, rfl, rfl, hH, h1, h2, hz, q⟩ := h
  cases rx
  obtain ⟨t, rfl⟩ := ry
  obtain ⟨z, its, n, r, hl, e⟩ := I.lstM hH
  have hlen : its.toArray.size * k.toNat ≤ sizeLine := by rw [List.size_toArray, ← hl]; exact hz
  have hcap : ¬ its.toArray.size * k.toNat > (2 ^ 63 - 1) / 8 := by
    have : (sizeLine : Nat) ≤ (2 ^ 63 - 1) / 8 := by decide
    omega
  have hfit : ¬ (!Builtin.List.listFitsIndex k) = true := by
    rw [fitsIndex_both h1 h2]
    exact Bool.false_ne_true
  have hlong : ¬ Builtin.List.listTooLong (its.toArray.size * k.toNat) = true := by
    rw [notLongL hlen]
    exact Bool.false_ne_true
  have hnew : List.foldl (fun x1 x2 => x1 ++ x2) #[] (List.replicate (if its.toArray.isEmpty = true then 0 else k.toNat) its.toArray) = (List.replicate k.toNat its).flatten.toArray := by
    have f0 : ∀ m : Nat, List.foldl (fun x1 x2 => x1 ++ x2) #[] (List.replicate m its.toArray) = (List.replicate m its).flatten.toArray := fun m => by
      have := foldl_rep its m []
      rw [List.nil_append] at this
      exact this
    rw [f0]
    cases its with
    | nil => simp
    | cons a r' => rw [if_neg (by simp)]
  refine wpAny_binaryOp_repeat_ref (T := "list") (U := "int") (by decide) ⟨_, e, rfl⟩ (fun s' => typeIs_int s' k t) noFill_list_mul F.fills_int_mul F.slot_int_rmul repeat_list F.slot_int_index.lookup
    (call_meets F.slot_int_rmul (typeIs_int s k t) F.entry_int_rmul (F.args_int_rmul_2 _ _) (int___rmul___int_list k t l its.toArray n)
      ⟨e, rfl, ⟨_, e, rfl⟩, call_meets F.slot_list_mul ⟨_, e, rfl⟩ F.entry_list_mul (F.args_list_mul_2 _ _) (AutoListH.list___mul___list_int_3 l its.toArray n k t hfit hcap hlong) ⟨e, ?_⟩⟩)
  rw [hnew]
  exact ⟨.ref _, _, I.lnew (t' := s.toks) (r.rep k.toNat) (by rw [len_rep, Nat.mul_comm]; exact hz), rfl, q _ I.fresh⟩

/-! ### del xs[i] -/
theorem del_list {pins : List (Addr × Obj)} {s : Shared} {σ : St} {H : Hp} {l : Addr} {xs : List V} {i : Int} {t : Tok} {k : Nat} {Q : Unit → Shared → Prop} (I : Inv X pins σ H s) (hH : H l = some (.lst xs))
    (h1 : -(2 ^ 63) ≤ i) (h2 : i < 2 ^ 63) (hk : seqIndex? i xs.length = some k) (h : ∀ s', Inv X pins σ (upd H l (.lst (xs.eraseIdx k))) s' → Q () s') :
    wpAny (model X.prog X.w) X.A (delItem (.ref l) (.int i t)) Q X.xe s := by
  obtain ⟨z, its, n, r, hl, e⟩ := I.lstM hH
  refine PySem.P.delItem_list (k := k) e (fitsIndex_both h1 h2) (by rw [List.size_toArray, ← hl]; exact hk) (h _ ?_) (by rw [List.size_toArray]; omega)
  refine I.lset (its' := its.eraseIdx k) (t' := s.toks) hH e ?_ (r.eraseIdx k) ?_
  · show its.toArray.eraseIdxIfInBounds k = (its.eraseIdx k).toArray
    rw [List.eraseIdxIfInBounds_toArray]
  · have := len_erase xs k
    omega
end

/-! ### xs[a:b] = ys -/
section
variable {prog : Program} {w : World} {A : Around} {E : Value → Shared → Prop} {s : Shared}
theorem splice_eq (its its2 : List Value) (a c : Nat) : its.toArray.extract 0 a ++ its2.toArray ++ its.toArray.extract c its.toArray.size = (its.take a ++ its2 ++ its.drop c).toArray := by
  apply Array.toList_inj.mp
  first
    | (simp
       exact List.take_of_length_le (by simp))
    | simp [List.take_of_length_le]
    | simp
theorem bounds_run {a c n : Nat} (hac : a ≤ c) (hc : c ≤ n) : sliceBounds (some (a : Int)) (some (c : Int)) none n = ((a : Int), (c : Int), 1) := by
  simp only [sliceBounds, Option.getD_none]
  have h1 : ¬ ((a : Int) < 0) := by omega
  have h2 : ¬ ((c : Int) < 0) := by omega
  simp only [h1, h2, if_false, show (1 : Int) > 0 by decide, if_true]
  congr 1
  · omega
  · congr 1; omega
set_option maxRecDepth 100000 in
/-- list.__setitem__ with a slice of step one and another list -/
theorem setItem_slice {l b sl : Addr} {items new : Array Value} {n n2 : Nat} {vl vu : Value} {a c : Nat} {Q : Unit → Shared → Prop}
    (e : s.heap.get? l = some { cls := .type "list", data := .seq items n }) (e2 : s.heap.get? b = some { cls := .type "list", data := .seq new n2 }) (hne : l ≠ b)
    (hs : s.heap.IsSliceOf sl vl vu .none) (pl : IsPart vl (some (a : Int))) (pu : IsPart vu (some (c : Int))) (hac : a ≤ c) (hc : c ≤ items.size)
    (hsz : items.size + new.size ≤ sizeLine) (h : Q () { s with heap := s.heap.update l (Obj.mapSeq fun xs => xs.extract 0 a ++ new ++ xs.extract c xs.size) }) :
    wpAny (model prog w) A (setItem (.ref l) (.ref sl) (.ref b)) Q E s := by
  have hl : s.heap.IsList l items := PySem.IsL.isList e
  have hb : s.heap.IsList b new := PySem.IsL.isList e2
  obtain ⟨os, hos, hcs, hds⟩ := id hs
  have hTs : s.TypeIs (.ref sl) "slice" := ⟨os, hos, hcs⟩
  have hstep : ¬ ((rawPart none == rawInt 0) = true) := Bool.false_ne_true
  have hsame : Builtin.List.listSameRef (.ref l) (.ref b) = false := by
    unfold Builtin.List.listSameRef
    exact beq_eq_false_iff_ne.mpr hne
  have hmax : (max (a : Int) (c : Int)).toNat = c := by omega
  have hz' : ((fun xs : Array Value => xs.extract 0 a ++ new ++ xs.extract c xs.size) items).size ≤ sizeLine + 1 := by
    simp only [Array.size_append, Array.size_extract]
    omega
  unfold setItem
  try with_reducible refine wpAny_holding ?_
  first | refine wpAny_bind (wpAny_pure ?_) | skip
  refine wpAny_bind (wpAny_sequenceKey hl.typeIs (by decide) ?_)
  refine wpAny_bind (wpAny_callSpecial?_slot (name := Str.ofString "__setitem__") hl.typeIs slot_list_setitem
    (wpAny_call_entry slot_list_setitem hl.typeIs entry_list_setitem ?_ (args_list_setitem _ _ _)))
  show wpAny _ _ (Builtin.List.listSubscript? (.ref sl) >>= _) _ _ s
  refine wpAny_bind ?_
  unfold Builtin.List.listSubscript?
  refine wpAny_bind (wpAny_specialOf hTs slice_no_index ?_)
  simp only [Option.isNone_none, if_true]
  refine wpAny_pure ?_
  show wpAny _ _ (typeOf (.ref sl) >>= _) _ _ s
  refine wpAny_bind (wpAny_typeOf hTs ?_)
  first
    | rw [if_neg (by decide)]
    | refine PySem.W.KFB.if_not (by decide) ?_
  rw [listSliceParts_eq]
  refine wpAny_bind (wpAny_bind (wpAny_field hos hds (x := .none) rfl (wpAny_bind (wpAny_listPart .none ?_))))
  rw [if_neg hstep]
  refine wpAny_bind (wpAny_field hos hds (x := vl) rfl (wpAny_bind (wpAny_listPart pl ?_)))
  refine wpAny_bind (wpAny_field hos hds (x := vu) rfl (wpAny_bind (wpAny_listPart pu (wpAny_pure ?_))))
  first
    | simp only [hsame, Bool.false_eq_true, if_false]
    | refine PySem.W.KFB.if_not hsame ?_
    | (dsimp only
       rw [if_neg (by rw [hsame]; exact Bool.false_ne_true)])
  refine wpAny_bind (m := Builtin.List.listAllItems (.ref b) "must assign iterable to extended slice") ?_
  unfold Builtin.List.listAllItems
  refine wpAny_bind (wpAny_typeOf hb.typeIs ?_)
  first
    | refine PySem.W.KFB.if_so (by decide) ?_
    | rw [if_pos (by decide)]
    | simp only [beq_self_eq_true, Bool.true_or, if_true]
  unfold Builtin.List.listItems
  refine wpAny_bind (wpAny_seqItems e2 rfl (wpAny_pure ?_))
  refine wpAny_bind (wpAny_bind (wpAny_seqItems e rfl (wpAny_pure ?_)))
  refine wpAny_bind (wpAny_of_eq ((sliceIndices_raw (some (a : Int)) (some (c : Int)) none items.size (by simp)).trans (congrArg (pure : Int × Int × Int → Sem (Int × Int × Int)) (bounds_run hac hc))) ?_)
  show wpAny _ _ (if ((1 : Int) == 1) = true then _ else _) _ _ s
  rw [if_pos (by decide)]
  refine wpAny_bind (wpAny_rule ?_)
  first
    | simp only [notLongL hsz, Bool.false_eq_true, if_false]
    | refine PySem.W.KFB.if_not (notLongL hsz) ?_
  first | refine wpAny_bind (wpAny_pure ?_) | skip
  show wpAny _ _ (updateSeq l (fun xs => xs.extract 0 ((a : Int)).toNat ++ new ++ xs.extract (max (a : Int) (c : Int)).toNat xs.size) >>= _) _ _ s
  rw [hmax, Int.toNat_natCast]
  refine wpAny_bind (wpAny_updateSeq (hz := Nat.le_trans (Nat.le_add_right _ _) hsz) (_hz' := hz') e rfl ?_)
  refine wpAny_bind (wpAny_letGo ?_)
  first
    | exact wpAny_bind (wpAny_pure (wpAny_pure ⟨.none, rfl, wpAny_pure h⟩))
    | exact wpAny_pure ⟨.none, rfl, wpAny_pure h⟩
end

section
variable {X : Cx}
/-- xs[a:c] = ys of another list, at the value level: sl is the slice object that was just made -/
theorem set_slice {pins : List (Addr × Obj)} {s : Shared} {σ : St} {H : Hp} {l b sl : Addr} {xs ys : List V} {a c : Int} {vl vu : Value} {Q : Unit → Shared → Prop} (I : Inv X pins σ H s)
    (hH : H l = some (.lst xs)) (hB : H b = some (.lst ys)) (hne : l ≠ b) (hs : s.heap.IsSliceOf sl vl vu .none) (ra : RelV (.int a) vl) (rc : RelV (.int c) vu) (h0 : 0 ≤ a) (hac : a ≤ c) (hc : c ≤ xs.length)
    (hz : xs.length + ys.length ≤ sizeLine) (h : ∀ s', Inv X pins σ (upd H l (.lst (xs.take a.toNat ++ ys ++ xs.drop c.toNat))) s' → Q () s') :
    wpAny (model X.prog X.w) X.A (setItem (.ref l) (.ref sl) (.ref b)) Q X.xe s := by
  obtain ⟨ta, rfl⟩ := ra
  obtain ⟨tc, rfl⟩ := rc
  obtain ⟨z, its, n, r, hl, e⟩ := I.lstM hH
  obtain ⟨z2, its2, n2, r2, hl2, e2⟩ := I.lstM hB
  obtain ⟨a', rfl⟩ := Int.eq_ofNat_of_zero_le h0
  obtain ⟨c', rfl⟩ := Int.eq_ofNat_of_zero_le (Int.le_trans h0 hac)
  simp only [Int.toNat_natCast] at h
  refine setItem_slice (a := a') (c := c') e e2 hne hs (.int _ _) (.int _ _) (by omega) (by rw [List.size_toArray]; omega) (by rw [List.size_toArray, List.size_toArray]; omega) (h _ ?_)
  refine I.lset (its' := its.take a' ++ its2 ++ its.drop c') (t' := s.toks) hH e ?_ (Vals.append (Vals.append (r.take _) r2) (r.drop _)) ?_
  · exact splice_eq its its2 a' c'
  · rw [List.length_append, List.length_append, List.length_take, List.length_drop]
    omega
end
end L2

namespace Att
open PySem PySem.W PySem.Calls PyProof.Rows

/-! ### the script -/
theorem ints_of_wellAll {P : Params} {h : Heap} : ∀ (ns : List Int) (vs : List Value), WellAll P h vs (ns.map WData.int) → IntsAre vs ns := by
  intro ns
  induction ns with
  | nil =>
    intro vs w
    rw [List.map_nil] at w
    cases w
    exact .nil
  | cons n ns ih =>
    intro vs w
    rw [List.map_cons] at w
    cases w with
    | cons a b =>
      cases a
      exact .cons _ _ (ih _ b)

theorem script_of {l : OpenLaw} {n : Nat} (hn : l.most = some n) {P : Params} {h : Heap} {args : List WData} {vals : List Value}
    (hpre : l.row.toRowW.claim.pre args = true) (hwl : WellAll P h vals args) :
    ∃ a vs ns, vals = [Value.ref a] ∧ args = [WData.list (ns.map WData.int)] ∧ h.get? a = some { cls := .type "list", data := .seq vs.toArray } ∧ IntsAre vs ns ∧ ns.length ≤ n := by
  have hsh : WShape.hasAll [] args [.list .int] = true := (pre_splitW hpre).1
  have hc : l.pre.holds [] { args := args } = true := (pre_splitW hpre).2
  obtain ⟨d, r, rfl, h1, h2⟩ := hasAllW_cons hsh
  obtain rfl := hasAllW_nil h2
  obtain ⟨xs, rfl, h3⟩ := hasW_list h1
  obtain ⟨ns, rfl⟩ := items_int h3
  have hlen : ns.length ≤ n := by
    unfold OpenLaw.pre at hc
    have h4 : (WTm.not (.lt (.lit (.int (n : Int))) (.len (.arg 0)))).holds [] { args := [.list (ns.map .int)] } = true := by
      have h4 := (holds_andW hc).1
      rw [hn] at h4
      exact h4
    have h5 := condW_of h4 (w_not (w_lt w_lit (w_len_list (w_arg rfl))))
    rw [List.length_map] at h5
    refine Nat.le_of_not_lt fun q => ?_
    have q' : (n : Int) < ((ns.length : Nat) : Int) := by omega
    first
      | (rw [decide_eq_true q'] at h5; exact absurd h5 (by decide))
      | (simp at h5; omega)
  cases hwl with
  | cons w1 w2 =>
    cases w2
    cases w1 with
    | list ho hall => exact ⟨_, _, ns, rfl, rfl, ho, ints_of_wellAll ns _ hall, hlen⟩

theorem post_true (l : OpenLaw) (args : List WData) : l.row.toRowW.claim.post args (.bool true) args = true :=
  postW_of (r := l.row.toRowW) (X := (true == true))
    (show WShape.has [] (.bool true) .bool = true by first | rfl | decide | simp [WShape.has, WShape.arms, WShape.armsAll])
    (show (WTm.eq .res (.lit (.bool true))).value [] { args := args, res := some (.bool true), after := args } = some (.bool (true == true)) from w_eq_bool (w_res rfl) w_lit) rfl

/-! ### the attachment: holds_open's last premise (the goal 'hc' behind k_head) from a wpAny of the law's body -/
theorem attach {l : OpenLaw} {n : Nat} {q : Program} {loose : List Str} {XP : (Str → Option Value) → Heap → Prop} {YP : World → Heap → Prop} {d : DefRec} {x : Str}
    (hn : l.most = some n) (hdf : d.params.defaults = [])
    (hbind : ∀ pm cd doc v : Value, bindArgs (docDef d.name d.params d.body d.scope pm cd doc) ⟨[v], []⟩ = pure [(x, v)])
    (hx : d.scope.names.lookup x = some .local ∨ d.scope.names.lookup x = some .cell)
    (hk : d.scope.kind = .function) (hco : d.scope.isCoroutine = false) (hgen : d.scope.isGenerator = false)
    (body : ∀ (w : World) (s₀ s₁ s : Shared) (mg mb : Str → Option Value) (fa : Addr) (o : Obj) (pm cd doc : Value) (a : Addr) (vs : List Value) (ns : List Int),
      Ground q loose [] XP w s₀ mg mb s₁.heap → YP w s₁.heap →
      s₁.heap.get? fa = some o → o.data = .func (docDef d.name d.params d.body d.scope pm cd doc) → s₁.heap.CodeRec cd d.name → mg d.name = some (.ref fa) →
      s₁.heap.get? a = some { cls := .type "list", data := .seq vs.toArray } → IntsAre vs ns → ns.length ≤ n →
      s.gens = #[] → s.os = s₁.os →
      Fr s₁.heap s₁.heap.objs.size s.heap (bindL (envOfC d.name d.scope s₁.heap.objs.size fa cd).kindOf [(x, .ref a)] fun _ => none) →
      Cl s₁.heap.objs.size (cellsFrom (s₁.heap.objs.size + 1) d.scope.names []) s.heap (bindC (envOfC d.name d.scope s₁.heap.objs.size fa cd).kindOf [(x, .ref a)] fun _ => none) →
      wpAny (model l.prog w) (callerA.deeper (envOfC d.name d.scope s₁.heap.objs.size fa cd)) (execs d.body (envOfC d.name d.scope s₁.heap.objs.size fa cd))
        (fun f s' => f = .ret (.bool true) ∧ OldK s₁.heap s'.heap ∧ s'.os = s₁.os ∧ AllBare s'.gens) (fun _ _ => False) s) :
    WalkO q loose XP YP l.row.toRowW d [] (fun f vs => PySem.call f vs) := by
  intro w s₀ s₁ mg mb G Y fa o pm cd doc dV kV ho hd hcd hD hmg hg args vals as hpre hlay hrd hwl hlo
  obtain rfl : dV = .none := Dflts.none hD hdf
  obtain rfl : kV = .none := Dflts.noKw hD
  obtain ⟨a, vs, ns, rfl, rfl, hobj, hints, hlen⟩ := script_of hn hpre hwl
  refine enter_call ?_
  refine call_cells_ret (o := o) (by rw [depth_caller]; decide) ho (fd_plain hd) G.T.nolimit hcd (hbind pm cd doc (.ref a)) (fun y hy => ?_) (fun h₁ tk F X => ?_) hco hgen hk
  · obtain rfl : y = (x, Value.ref a) := List.mem_singleton.mp hy
    rcases hx with e | e
    · exact .inl e
    · exact .inr ⟨e, cellsFrom_some _ _ _ (.inl e)⟩
  · refine wpAny_mono (body w s₀ s₁ { s₁ with heap := h₁, toks := tk } mg mb fa o pm cd doc a vs ns G Y ho (fd_plain hd) hcd hmg hobj hints hlen hg rfl F X) (fun f s' hq => ?_) (fun _ _ hq => hq)
    obtain ⟨rfl, h2, h3, h4⟩ := hq
    exact ⟨.inl ⟨.bool true, .bool true, [], rfl, fun _ => rfl, .bool true, post_true l _, fun _ => ⟨List.Pairwise.nil, fun _ hm => (nomatch hm)⟩⟩, h2, h3, h4⟩

/-- the same from a codeAny of the CALL (for a layer whose function contracts speak of calls) -/
theorem attach_call {l : OpenLaw} {n : Nat} {q : Program} {loose : List Str} {XP : (Str → Option Value) → Heap → Prop} {YP : World → Heap → Prop} {d : DefRec}
    (hn : l.most = some n) (hdf : d.params.defaults = [])
    (call : ∀ (w : World) (s₀ s₁ : Shared) (mg mb : Str → Option Value) (fa : Addr) (o : Obj) (pm cd doc : Value) (a : Addr) (vs : List Value) (ns : List Int),
      Ground q loose [] XP w s₀ mg mb s₁.heap → YP w s₁.heap →
      s₁.heap.get? fa = some o → o.data = .func (docDef d.name d.params d.body d.scope pm cd doc) → s₁.heap.CodeRec cd d.name → mg d.name = some (.ref fa) →
      s₁.heap.get? a = some { cls := .type "list", data := .seq vs.toArray } → IntsAre vs ns → ns.length ≤ n → s₁.gens = #[] →
      codeAny (model l.prog w) callerA (.call (.ref fa) ⟨[.ref a], []⟩) (fun r s' => r = .ok (.ret (.bool true)) ∧ OldK s₁.heap s'.heap ∧ s'.os = s₁.os ∧ AllBare s'.gens) s₁) :
    WalkO q loose XP YP l.row.toRowW d [] (fun f vs => PySem.call f vs) := by
  intro w s₀ s₁ mg mb G Y fa o pm cd doc dV kV ho hd hcd hD hmg hg args vals as hpre hlay hrd hwl hlo
  obtain rfl : dV = .none := Dflts.none hD hdf
  obtain rfl : kV = .none := Dflts.noKw hD
  obtain ⟨a, vs, ns, rfl, rfl, hobj, hints, hlen⟩ := script_of hn hpre hwl
  refine enter_call (codeAny_mono (call w s₀ s₁ mg mb fa o pm cd doc a vs ns G Y ho (fd_plain hd) hcd hmg hobj hints hlen hg) fun r s' hq => ?_)
  obtain ⟨rfl, h2, h3, h4⟩ := hq
  exact ⟨.inl ⟨.bool true, .bool true, [], rfl, fun _ => rfl, .bool true, post_true l _, fun _ => ⟨List.Pairwise.nil, fun _ hm => (nomatch hm)⟩⟩, h2, h3, h4⟩

/-- the same where the top left finished generators (o_head chose holds_openN): nothing may have changed at all and no generator may be left -/
theorem attachN {l : OpenLaw} {n : Nat} {q : Program} {loose : List Str} {XP : (Str → Option Value) → Heap → Prop} {YP : World → Heap → Prop} {d : DefRec} {x : Str}
    (hn : l.most = some n) (hdf : d.params.defaults = [])
    (hbind : ∀ pm cd doc v : Value, bindArgs (docDef d.name d.params d.body d.scope pm cd doc) ⟨[v], []⟩ = pure [(x, v)])
    (hx : d.scope.names.lookup x = some .local ∨ d.scope.names.lookup x = some .cell)
    (hk : d.scope.kind = .function) (hco : d.scope.isCoroutine = false) (hgen : d.scope.isGenerator = false)
    (body : ∀ (w : World) (s₀ s₁ s : Shared) (mg mb : Str → Option Value) (fa : Addr) (o : Obj) (pm cd doc : Value) (a : Addr) (vs : List Value) (ns : List Int),
      Ground q loose [] XP w s₀ mg mb s₁.heap → YP w s₁.heap →
      s₁.heap.get? fa = some o → o.data = .func (docDef d.name d.params d.body d.scope pm cd doc) → s₁.heap.CodeRec cd d.name → mg d.name = some (.ref fa) →
      s₁.heap.get? a = some { cls := .type "list", data := .seq vs.toArray } → IntsAre vs ns → ns.length ≤ n →
      s.gens = #[] → s.os = s₁.os →
      Fr s₁.heap s₁.heap.objs.size s.heap (bindL (envOfC d.name d.scope s₁.heap.objs.size fa cd).kindOf [(x, .ref a)] fun _ => none) →
      Cl s₁.heap.objs.size (cellsFrom (s₁.heap.objs.size + 1) d.scope.names []) s.heap (bindC (envOfC d.name d.scope s₁.heap.objs.size fa cd).kindOf [(x, .ref a)] fun _ => none) →
      wpAny (model l.prog w) (callerA.deeper (envOfC d.name d.scope s₁.heap.objs.size fa cd)) (execs d.body (envOfC d.name d.scope s₁.heap.objs.size fa cd))
        (fun f s' => f = .ret (.bool true) ∧ (∀ b o, s₁.heap.get? b = some o → s'.heap.get? b = some o) ∧ s'.os = s₁.os ∧ s'.gens = #[]) (fun _ _ => False) s) :
    WalkN q loose XP YP l.row.toRowW d [] (fun f vs => PySem.call f vs) := by
  intro w s₀ s₁ mg mb G Y fa o pm cd doc dV kV ho hd hcd hD hmg hg args vals as hpre hlay hrd hwl hlo
  obtain rfl : dV = .none := Dflts.none hD hdf
  obtain rfl : kV = .none := Dflts.noKw hD
  obtain ⟨a, vs, ns, rfl, rfl, hobj, hints, hlen⟩ := script_of hn hpre hwl
  refine enter_callW ?_
  refine call_cells_ret (o := o) (by rw [depth_caller]; decide) ho (fd_plain hd) G.T.nolimit hcd (hbind pm cd doc (.ref a)) (fun y hy => ?_) (fun h₁ tk F X => ?_) hco hgen hk
  · obtain rfl : y = (x, Value.ref a) := List.mem_singleton.mp hy
    rcases hx with e | e
    · exact .inl e
    · exact .inr ⟨e, cellsFrom_some _ _ _ (.inl e)⟩
  · refine wpAny_mono (body w s₀ s₁ { s₁ with heap := h₁, toks := tk } mg mb fa o pm cd doc a vs ns G Y ho (fd_plain hd) hcd hmg hobj hints hlen hg rfl F X) (fun f s' hq => ?_) (fun _ _ hq => hq)
    obtain ⟨rfl, h2, h3, h4⟩ := hq
    exact ⟨.inl ⟨.bool true, .bool true, [], rfl, fun _ => rfl, .bool true, post_true l _, fun _ => ⟨List.Pairwise.nil, fun _ hm => (nomatch hm)⟩⟩, h2, h3, h4⟩

/-! ### rules over ANY heap (no ledger) from facts about the written part K: the library's own take a ledger (News) for what they write -/
section
variable {prog : Program} {w : World} {A : Around} {E : Value → Shared → Prop} {s : Shared} {K : Frag}

/-- a def of the module, or a method (qual 'C.m'), entered: the frame is the next address; cells behind it -/
theorem call_fn {R : Result → Shared → Prop} {name qual : Str} {params : Arguments} {body : List Stmt} {scope : Scope} {dV kV doc pm cdv ct oc : Value} {an od : Option Addr} {osl : Array (Option Value)} {f : Addr} {args : Args} {binds : List (Str × Value)}
    (X : K.In s.heap) (hlim : s.heap.NoLimit) (ho : K.lookup f = some ⟨oc, od, .func (fnOf name qual params body scope dV kV doc pm an cdv ct), osl⟩) (hcd : codeIn K cdv qual = true) (hroom : A.depth < recursionLimit)
    (hbind : BindsTo s (fnOf name qual params body scope dV kV doc pm an cdv ct) args binds)
    (hkind : (binds.all fun y => scope.names.lookup y.1 == some .local || scope.names.lookup y.1 == some .cell) = true)
    (h : ∀ s₁, InCallC s s.heap.objs.size (bindL (envOfC qual scope s.heap.objs.size f cdv).kindOf binds fun _ => none) (cellsFrom (s.heap.objs.size + 1) scope.names [])
        (bindC (envOfC qual scope s.heap.objs.size f cdv).kindOf binds fun _ => none) s₁ →
      wpAny (model prog w) (A.deeper (envOfC qual scope s.heap.objs.size f cdv)) (execs body (envOfC qual scope s.heap.objs.size f cdv))
        (fun fl s' => R (.ok (.ret (match fl with | .ret v => v | _ => .none))) s')
        (fun e s' => wpAny (model prog w) (A.deeper (envOfC qual scope s.heap.objs.size f cdv)) (leaving (envOfC qual scope s.heap.objs.size f cdv) e) (fun _ s'' => R (.error e) s'') (fun e' s'' => R (.error e') s'') s') s₁)
    (hco : scope.isCoroutine = false) (hgen : scope.isGenerator = false) (hk : scope.kind = .function) : codeAny (model prog w) A (.call (.ref f) args) R s := by
  refine codeAny_call_function hroom (X _ _ ho) rfl hco hgen rfl (codeRec_of X hcd) (hbind _ _ _ _ ?_)
  refine wpAny_newFunctionEnv_cells hk (kindsX hkind _) fun env he s₁ x => ?_
  subst he
  exact ⟨hlim.keeps x.toInCall.keep, codeAny_func (h s₁ x)⟩

/-- C(..): dict at size, instance at size + 1, then __init__ -/
theorem make_obj {R : Result → Shared → Prop} {C fI : Addr} {rest : List Value} {kw : List (Str × Value)}
    (X : K.In s.heap) (hm : makesIn K C = true) (hi : findIn K (.ref C) "__init__" = some (some (.ref fI))) (hf : isFn K (.ref fI) = true)
    (h : codeAny (model prog w) (A.under (.builtin "type.__call__" ⟨.ref C :: rest, kw⟩)) (.call (.ref fI) ⟨.ref (s.heap.objs.size + 1) :: rest, kw⟩) (InitBack (s.heap.objs.size + 1) R)
      { s with heap := (s.heap.push emptyDict).push (instObj C s.heap.objs.size) }) : codeAny (model prog w) A (.call (.ref C) ⟨rest, kw⟩) R s := by
  obtain ⟨hh, g, d, t, os⟩ := s
  exact make_core (makes_of X hm) (looks_findIn X hi) (fun self => bind_fn X self (beq_iff_eq.mp hf)) (.inl rfl) h

/-- x.name where the instance's dict holds the name and the class does not -/
theorem get_field {x C : Addr} {ox : Obj} {es : List DictEntry} {n : Nat} {name : Str} {expr : Bool} {v : Value} {Q : Value → Shared → Prop}
    (X : K.In s.heap) (I : PySem.W.InstAt s.heap x ox C (some (dictOf es n))) (hg : plainGet K C name = true) (hh : hasDictIn K C = true) (ha : findIn K (.ref C) name = some none)
    (hl : getL name es = some (some v)) (hv : handedIn v = true) (h : Q v { s with toks := s.toks + 1 }) : wpAny (model prog w) A (getAttr (.ref x) name expr) Q E s :=
  get_value X I (plainGet_of hg).1 (findObj_own hh ha rfl hl) hv h

/-- x.m(..): the method found in the class -/
theorem get_method {x C f : Addr} {ox : Obj} {es : List DictEntry} {n : Nat} {name : Str} {pl : Sem Bool} {Q : Value × List Value → Shared → Prop}
    (X : K.In s.heap) (I : PySem.W.InstAt s.heap x ox C (some (dictOf es n))) (hg : plainGet K C name = true) (hf : findIn K (.ref C) name = some (some (.ref f))) (ht : isFn K (.ref f) = true)
    (hl : getL name es = some none) (h : Q (.ref f, [.ref x]) s) : wpAny (model prog w) A (getMethod (.ref x) name pl) Q E s :=
  method_fn X I (plainGet_of hg).1 (plainGet_of hg).2 hf (beq_iff_eq.mp ht) (by show (lookIn name (dictOf es n)).map _ = _; rw [lookIn_dict, hl]; rfl) h

/-! the whole heap as the ledger: makes every rule that writes through a ledger a rule over any heap -/
def noObjs (h : Heap) : Heap := { h with objs := #[] }
theorem noObjs_get (h : Heap) (b : Addr) : (noObjs h).get? b = none := by
  cases e : (noObjs h).get? b with
  | none => rfl
  | some o => exact absurd (Heap.lt_size e) (Nat.not_lt_zero _)
def ledger (h : Heap) (L d : Addr) : List (Addr × Obj) := (List.range h.objs.size).filterMap fun a => if a = L ∨ a = d then none else (h.get? a).map fun o => (a, o)
theorem mem_ledger {h : Heap} {L d a : Addr} {o : Obj} : (a, o) ∈ ledger h L d ↔ a ≠ L ∧ a ≠ d ∧ h.get? a = some o := by
  unfold ledger
  rw [List.mem_filterMap]
  constructor
  · rintro ⟨b, _, e⟩
    split at e
    · cases e
    · rename_i hb
      obtain ⟨o', ho, e'⟩ := Option.map_eq_some_iff.mp e
      cases e'
      exact ⟨fun q => hb (.inl q), fun q => hb (.inr q), ho⟩
  · rintro ⟨n1, n2, ho⟩
    refine ⟨a, List.mem_range.mpr (Heap.lt_size ho), ?_⟩
    rw [if_neg (show ¬ (a = L ∨ a = d) from fun q => q.elim n1 n2), ho] <;> rfl
theorem news_ledger {h : Heap} {L d : Addr} {od : Obj} (hne : d ≠ L) (ho : h.get? d = some od) : News (noObjs h) L h ([] ++ (d, od) :: ledger h L d) := by
  rintro ⟨a, o⟩ hp
  rcases List.mem_cons.mp hp with e | hp
  · cases e
    exact ⟨ho, hne, noObjs_get _ _⟩
  · obtain ⟨n1, n2, e⟩ := mem_ledger.mp hp
    exact ⟨e, n1, noObjs_get _ _⟩
theorem fr_all {h : Heap} {L : Addr} {m : Str → Option Value} (n : h.Ns L m) : Fr (noObjs h) L h m :=
  ⟨n, fun b o e => (by rw [noObjs_get] at e; cases e), Nat.zero_le _⟩
/-- Upd of the head entry (for append_K, setItem_K ..) -/
theorem upd_ledger {h : Heap} {L d : Addr} {o o' : Obj} : Upd d o o' ((d, o) :: ledger h L d) ((d, o') :: ledger h L d) :=
  .head fun ⟨_, _⟩ hp => (mem_ledger.mp hp).2.1

/-- x.name = v over any heap: L is any namespace of the heap (the frame's, say): its map stays, its object is not told; all else but the dict stays -/
theorem set_field {x C dx L : Addr} {ox : Obj} {m : Str → Option Value} {es es' : List DictEntry} {n n' : Nat} {name : Str} {v : Value} {Q : Unit → Shared → Prop}
    (X : K.In s.heap) (I : PySem.W.InstAt s.heap x ox C (some (dictOf es n))) (hd : ox.dict = some dx) (hL : s.heap.Ns L m) (hne : dx ≠ L)
    (hs : findIn K (.ref C) "__setattr__" = some (some (.builtin "object.__setattr__"))) (hp : plainOver K C = true) (ht : takerIn K C name = some none) (hh : hasDictIn K C = true) (hl : (getL name es).isSome = true)
    (e : (putL name (PyData.keyHash w.params name) (.str name (s.toks + 1)) v es, putN name es n) = (es', n')) (hz : es'.length ≤ 1000)
    (h : ∀ h' : Heap, h'.Ns L m → h'.get? dx = some (dictOf es' n') → (∀ b o, b ≠ dx → b ≠ L → s.heap.get? b = some o → h'.get? b = some o) → Q () { s with heap := h', toks := s.toks + 2 }) :
    wpAny (model prog w) A (setAttr (.ref x) name v) Q E s := by
  obtain ⟨e1, e2⟩ := Prod.mk.inj e
  have hdx : s.heap.get? dx = some (dictOf es n) := by
    have := I.dict
    rw [hd] at this
    exact this
  refine set_plain X I hs (osa_dict (s := { s with toks := s.toks + 1 }) (h₀ := noObjs s.heap) (L := L) (m := m) (od := dictOf es n) (od' := dictOf es' n') (es := es') (n := n') (pre := []) (post := ledger s.heap L dx)
    (fr_all hL) (news_ledger hne hdx) X I hd hp ht hh hl (fun _ q => nomatch q) (fun ⟨_, _⟩ q => (mem_ledger.mp q).2.1) (by rw [putName_dict, e1, e2]) rfl hz fun h' F' N' => ?_)
  exact h h' F'.ns (N'.get (List.Mem.head _)) fun b o n1 n2 ho => N'.get (List.Mem.tail _ (mem_ledger.mpr ⟨n2, n1, ho⟩))
end
end Att

namespace L2
open PySem PySem.Spec PyProof.Rows

theorem vals_ints : ∀ {vs : List Value} {ns : List Int}, IntsAre vs ns → Vals (ns.map V.int) vs
  | _, _, .nil => .nil
  | _, _, .cons n t h => .cons ⟨t, rfl⟩ (vals_ints h)

/-- nothing is tracked but the script, known to the object (or it is an object of the module) -/
def Only (H : Hp) : Prop := ∀ b, H b = none ∨ ∃ o xs, H b = some (.frz o (.lst xs))

/-- THE HEAD: the law's promise, at the heap behind the top. F, the promise of the law's def, may use that base is part of the heap (so K.In base, base.Ns mainGlobals mg stand in Mod) -/
theorem law_call {P : Program} {w : World} {K : PySem.W.Frag} {mg mb : Str → Option Value} {CX : CXT} {k : Nat} {fa a : Addr} {fd : FuncData} {x : Str} {sp : Sp} {s₁ : Shared} {vs : List Value} {ns : List Int}
    (KX : K.In s₁.heap) (hns : s₁.heap.Ns mainGlobals mg) (hb : s₁.heap.Ns builtinsNs mb) (hbb : ∀ x : Str, x ≠ "__name__" → mb x = bootBuiltins x) (hlim : s₁.heap.NoLimit) (hg : s₁.gens = #[])
    (ha : s₁.heap.get? a = some { cls := .type "list", data := .seq vs.toArray }) (hi : IntsAre vs ns) (hl : ns.length ≤ sizeLine) (hr : Room k callerA)
    (F : ∀ base : Heap, K.In base → base.Ns mainGlobals mg → FnOk P w K mg base CX k fa fd [x] sp) (hbind : ∀ (s : Shared) (u : Value), BindsTo s fd ⟨[u], []⟩ [(x, u)])
    (hsp : ∀ H : Hp, Only H → SqL K H a (ns.map V.int) → sp [.ref a] H (fun v _ => v = .bl true) fun _ _ _ => False)
    (hCX : ∀ H e s', CX [] H s₁ (fun _ _ _ => False) e s' → False) :
    codeAny (model P w) callerA (.call (.ref fa) ⟨[.ref a], []⟩) (fun r s' => r = .ok (.ret (.bool true)) ∧ OldK s₁.heap s'.heap ∧ s'.os = s₁.os ∧ AllBare s'.gens) s₁ := by
  have rv := vals_ints hi
  have lenV := hi.length
  -- from an abstract heap in which nothing but the script may be tracked
  have core : ∀ H : Hp, Only H → SqL K H a (ns.map V.int) → HOk P w H s₁.heap → (∀ b, H b ≠ none → b = a) → (H a ≠ none → K.lookup a = none) →
      codeAny (model P w) callerA (.call (.ref fa) ⟨[.ref a], []⟩) (fun r s' => r = .ok (.ret (.bool true)) ∧ OldK s₁.heap s'.heap ∧ s'.os = s₁.os ∧ AllBare s'.gens) s₁ := by
    intro H hO hS hok hA hK
    have base_of : ∀ {b : Addr} {o : Obj}, s₁.heap.get? b = some o → H b = none → (hidT s₁.heap H).get? b = some o := fun e n => hidT_get e n
    have noA : ∀ {b : Addr} {o : Obj} {es : Array DictEntry} {ep : Nat}, s₁.heap.get? b = some o → o.data = .dict es ep → H b = none := fun {b o es ep} e d => by
      cases q : H b with
      | none => rfl
      | some u =>
        have e' : b = a := hA b (by rw [q]; simp)
        subst e'
        rw [ha] at e; cases e
        have d' : Data.seq vs.toArray _ = Data.dict es ep := d
        cases d'
    have nsK : ∀ {b : Addr} {m : Str → Option Value}, s₁.heap.Ns b m → (hidT s₁.heap H).Ns b m := fun {b m} ⟨o, es, ep, e, d, r⟩ => ⟨o, es, ep, base_of e (noA e d), d, r⟩
    have hKb : K.In (hidT s₁.heap H) := fun b o e => base_of (KX b o e) (by
      cases q : H b with
      | none => rfl
      | some u =>
        have e' : b = a := hA b (by rw [q]; simp)
        subst e'
        rw [hK (by rw [q]; simp)] at e; cases e)
    have hM : Mod K mg (hidT s₁.heap H) := ⟨hKb, nsK hns, ⟨mb, nsK hb, hbb⟩, let ⟨mc, h1, h2⟩ := hlim; ⟨mc, nsK h1, h2⟩⟩
    have e0 : Env0 P w K mg (hidT s₁.heap H) callerA [] s₁ H := ⟨rfl, hM, fun b o e => of_hidT e, Nat.le_of_eq (hidT_size _ _), trivial, fun b hb => absurd (show b ∈ ([] : List Addr) from hb) (by simp), hok, .of_eq hg⟩
    refine codeAny_mono ((F _ hKb (nsK hns)).run callerA [] s₁ H ⟨[.ref a], []⟩ [.ref a] [.ref a] _ _ hr e0 (hbind s₁ (.ref a)) (.cons rfl .nil) (hsp H hO hS)) fun r s' h => ?_
    cases r with
    | error e => exact (hCX H e s' h).elim
    | ok fl =>
      cases fl with
      | next => exact False.elim h
      | brk => exact False.elim h
      | cont => exact False.elim h
      | ret u =>
        obtain ⟨v, H', os, bare, un, hok', r', q⟩ := h
        have q' : v = .bl true := q
        subst q'
        obtain rfl : u = Value.bool true := r'
        refine ⟨rfl, OldK.of_keep fun b o e => ?_, os, bare⟩
        cases q : H b with
        | none => exact un.keep b o e q (by intro z; exact absurd (show b ∈ ([] : List Addr) from z) (by simp)) (by simp)
        | some u =>
          rcases hO b with z | ⟨ob, xs, z⟩
          · rw [q] at z; cases z
          · have z2 := un.frzs b ob _ z
            obtain ⟨e1, _⟩ := hok b _ z
            obtain ⟨e2, _⟩ := hok' b _ z2
            rw [e] at e1; cases e1
            exact e2
  cases hk : K.lookup a with
  | some o =>
    -- the script is one of the module's own objects
    have e := KX a o hk
    rw [ha] at e
    cases e
    refine core (fun _ => none) (fun _ => .inl rfl) (.inr ⟨_, vs.toArray, _, hk, rfl, rfl, rfl, by rw [List.size_toArray, lenV]; exact hl, by simpa using rv⟩) (fun b u z => by have z' : (none : Option HO) = some u := z; cases z') (fun b z => absurd rfl z) fun z => absurd rfl z
  | none =>
    refine core (fun b => if b = a then some (.frz { cls := .type "list", data := .seq vs.toArray } (.lst (ns.map V.int))) else none) (fun b => ?_) (.inl (.inr ⟨{ cls := .type "list", data := .seq vs.toArray }, if_pos rfl⟩)) (fun b u z => ?_) (fun b z => ?_) fun _ => hk
    · by_cases hb : b = a
      · exact .inr ⟨_, _, if_pos hb⟩
      · exact .inl (if_neg hb)
    · by_cases hb : b = a
      · have z' := (if_pos hb).symm.trans z
        cases z'
        subst hb
        exact ⟨ha, by rw [List.length_map]; exact hl, vs, _, rv, ha⟩
      · have z' := (if_neg hb).symm.trans z
        cases z'
    · by_cases hb : b = a
      · exact hb
      · exact absurd (if_neg hb) z
end L2

namespace L2
open PySem PySem.Spec PyProof.Rows

abbrev KOf {K : PySem.W.Frag} {h : Heap} (_ : K.In h) : PySem.W.Frag := K

/-- the goal that k_head leaves (case hc), from the law's promise. F gives the function object fd (K's own) once, then the promise over every base -/
theorem walk_of {l : PySem.W.OpenLaw} {n k : Nat} {q : Program} {loose : List Str} {XP : (Str → Option Value) → Heap → Prop} {YP : World → Heap → Prop} {d : DefRec} {K : Params → PySem.W.Frag} {CX : World → CXT} {sp : World → Sp} {x : Str}
    (hn : l.most = some n) (hn2 : n ≤ sizeLine) (hdf : d.params.defaults = []) (hr : Room k callerA)
    (hY : ∀ (w : World) (h : Heap), YP w h → (K w.params).In h)
    (F : ∀ (w : World) (mg : Str → Option Value) (fa : Addr) (h : Heap), (K w.params).In h → h.Ns mainGlobals mg → mg d.name = some (.ref fa) →
      ∃ fd : FuncData, (∀ (s : Shared) (u : Value), BindsTo s fd ⟨[u], []⟩ [(x, u)]) ∧
        ∀ base : Heap, (K w.params).In base → base.Ns mainGlobals mg → FnOk l.prog w (K w.params) mg base (CX w) k fa fd [x] (sp w))
    (hsp : ∀ (w : World) (H : Hp) (a : Addr) (ns : List Int), ns.length ≤ n → Only H → SqL (K w.params) H a (ns.map V.int) → sp w [.ref a] H (fun v _ => v = .bl true) fun _ _ _ => False)
    (hCX : ∀ (w : World) (H : Hp) (s : Shared) (e : Value) (s' : Shared), CX w [] H s (fun _ _ _ => False) e s' → False) :
    PySem.W.WalkO q loose XP YP l.row.toRowW d [] (fun f vs => PySem.call f vs) := by
  refine Att.attach_call hn hdf fun w s₀ s₁ mg mb fa o pm cd doc a vs ns G Y ho hd hcd hmg hobj hints hlen hg => ?_
  have KX := hY w _ Y
  obtain ⟨fd, hb, hF⟩ := F w mg fa _ KX G.T.g hmg
  exact law_call KX G.T.g G.T.b G.T.builtins G.T.nolimit hg hobj hints (Nat.le_trans hlen hn2) hr hF hb (fun H hO hS => hsp w H a ns hlen hO hS) fun H e s' => hCX w H s₁ e s'
/-- the same where the promise hangs on the written part alone: (sp := My.sp_law), no hole under a binder -/
theorem walk_ofK {l : PySem.W.OpenLaw} {n k : Nat} {q : Program} {loose : List Str} {XP : (Str → Option Value) → Heap → Prop} {YP : World → Heap → Prop} {d : DefRec} {K : Params → PySem.W.Frag} {CX : CXT} {sp : PySem.W.Frag → Sp} {x : Str}
    (hn : l.most = some n) (hn2 : n ≤ sizeLine) (hdf : d.params.defaults = []) (hr : Room k callerA)
    (hY : ∀ (w : World) (h : Heap), YP w h → (K w.params).In h)
    (F : ∀ (w : World) (mg : Str → Option Value) (fa : Addr) (h : Heap), (K w.params).In h → h.Ns mainGlobals mg → mg d.name = some (.ref fa) →
      ∃ fd : FuncData, (∀ (s : Shared) (u : Value), BindsTo s fd ⟨[u], []⟩ [(x, u)]) ∧
        ∀ base : Heap, (K w.params).In base → base.Ns mainGlobals mg → FnOk l.prog w (K w.params) mg base CX k fa fd [x] (sp (K w.params)))
    (hsp : ∀ (K : PySem.W.Frag) (H : Hp) (a : Addr) (ns : List Int), ns.length ≤ n → Only H → SqL K H a (ns.map V.int) → sp K [.ref a] H (fun v _ => v = .bl true) fun _ _ _ => False)
    (hCX : ∀ (H : Hp) (s : Shared) (e : Value) (s' : Shared), CX [] H s (fun _ _ _ => False) e s' → False) :
    PySem.W.WalkO q loose XP YP l.row.toRowW d [] (fun f vs => PySem.call f vs) :=
  walk_of (K := K) (CX := fun _ => CX) (sp := fun w => sp (K w.params)) hn hn2 hdf hr hY F (fun w H a ns h1 h2 h3 => hsp (K w.params) H a ns h1 h2 h3) fun _ H s e s' => hCX H s e s'
end L2

/- THE LAST THEOREM (shape; LID, My.* are yours):
   My.Adr: a structure of the addresses that your layer names (classes, functions); My.Txt K t: a structure (Prop) of the equations over K;
   My.txt_mk : {K} {implicit addresses ..} (e1 : nsIn K mainGlobals "law" = some (some (.ref f))) (e2 : K.lookup f = some ⟨oc, od, .func (fnOf "law" "law" params body scope dV kV doc pm an cdv ct), sl⟩) (e3 : codeIn K cdv "law" = true) .. : ∃ t, My.Txt K t

set_option maxRecDepth 100000 in
set_option maxHeartbeats 0 in
theorem PySem.Challenge.cw_LID_holds : PySem.Challenge.rw_LID.Holds := by
  w_on; o_law; k_head; (case hw => w_witness2)
  k_fill
  refine L2.walk_of (l := PySem.Challenge.rw_LID) (n := 63) (k := 40) (x := "script") (CX := fun w => ..) (sp := fun _ => My.sp_law) rfl (by decide) rfl ⟨rfl, by decide, by decide⟩ (fun w h Y => PySem.W.kIn_of Y) ?F ?S ?C
  case F =>
    intro w mg fa h KX G hmg
    have T : ∃ t, My.Txt (L2.KOf KX) t := by
      dsimp only [L2.KOf]                          -- K must stand as «<heap const> w.params» for k_is
      refine' My.txt_mk ?e1 ?e2 ?e3 ..
      (case e1 => PySem.W.k_is)                    -- in the order: a name -> its address -> its object -> its parts
      (case e2 => PySem.W.k_is)
      ..
    obtain ⟨t, T⟩ := T
    have e0 := hmg.symm.trans (PySem.W.mg_of KX G T.law)
    cases e0                                       -- fa is the law's own address
    exact ⟨_, fun s u => .of_eq rfl, fun base kb nb => My.law_fn T kb nb⟩     -- if «.of_eq rfl» comes too early: refine' ⟨_, ?b, fun base kb nb => My.law_fn T kb nb⟩; exact fun s u => .of_eq rfl
  case S => exact fun w H a ns hl hO hS => ..
  case C => exact ..
(the tactic k_is has no namespace: write k_is) -/

/-! SHORT WORDS over the layer: a def of the text, its body, what a loop and a test want. -/
namespace L2
open PySem PySem.Spec PyProof.Rows

/-! ### the text by places -/
/-- the j-th statement of a class's body -/
def inClass (s : Stmt) (j : Nat) : Stmt := match s with
  | .ClassDef _ _ _ body _ _ _ _ _ _ _ => body.getD j (.Pass ⟨0, 0, 0, 0⟩)
  | _ => .Pass ⟨0, 0, 0, 0⟩
def defArgs (s : Stmt) : Arguments := match s with
  | .FunctionDef _ a _ _ _ _ _ _ _ _ => a
  | _ => { posonlyargs := [], args := [], vararg := none, kwonlyargs := [], kw_defaults := [], kwarg := none, defaults := [] }
def defBody (s : Stmt) : List Stmt := match s with
  | .FunctionDef _ _ b _ _ _ _ _ _ _ => b
  | _ => []
def defScope (s : Stmt) : Scope := match s with
  | .FunctionDef _ _ _ _ _ _ sc _ _ _ => sc
  | _ => { kind := .function, names := [], isGenerator := false, isCoroutine := false }

/-! ### no exception leaves a def -/
abbrev CX0 : CXT := fun _ _ _ _ _ _ => False
abbrev E0 : XK := fun _ _ _ => False
theorem pass0 {X : Cx} : Passes CX0 X E0 := fun _ _ _ _ _ _ _ h => h.elim

/-! ### a def (or method) of the text as it stands behind the top -/
structure Fun (K : PySem.W.Frag) (x qual : Str) (st : Stmt) (f : Addr) (fd : FuncData) : Prop where
  ex : ∃ (oc : Value) (od : Option Addr) (kV doc pm : Value) (an : Option Addr) (cdv ct : Value) (osl : Array (Option Value)),
    fd = PySem.W.fnOf x qual (defArgs st) (defBody st) (defScope st) .none kV doc pm an cdv ct ∧ K.lookup f = some ⟨oc, od, .func fd, osl⟩ ∧ PySem.W.codeIn K cdv qual = true
  kp : PySem.W.keepIn K (.ref f) = true
section
variable {P : Program} {w : World} {K : PySem.W.Frag} {mg : Str → Option Value} {base : Heap}
/-- THE RULE for a def: its body as a term of rules, and the reading of that term -/
theorem Fun.ok {x qual : Str} {st : Stmt} {f : Addr} {fd : FuncData} {N ps : List Str} {k : Nat} {sp : Sp} (F : Fun K x qual st f fd) (S : FnScope N ps (defScope st)) (len : ∀ vs H Q E, sp vs H Q E → vs.length = ps.length)
    (hbody : ∀ (cdv : Value) (A : Around) (outer : List Env) (s : Shared) (H : Hp) (vs : List V) (Q : VK) (E : XK), Room k (A.deeper (envOfC qual (defScope st) s.heap.objs.size f cdv)) → sp vs H Q E →
      ∃ t, PSs (cxOf CX0 P w K mg base N qual (defScope st) f cdv A outer s H E).nox (defBody st) t ∧ t { nx := fun _ H' => Q .non H', rt := Q } (start N vs) H) : FnOk P w K mg base CX0 (k + 1) f fd ps sp := by
  obtain ⟨oc, od, kV, doc, pm, an, cdv, ct, osl, rfl, lk, hcd⟩ := F.ex
  refine fn_of lk hcd S len fun A outer s H vs Q E hr hsp => ?_
  obtain ⟨t, h, q⟩ := hbody cdv A outer s H vs Q E hr hsp
  exact ⟨t, h.nox, q⟩
/-- how its arguments bind (no defaults): h is «fun _ _ _ _ _ _ us hl => match us, hl with | [_, _], _ => rfl», one _ a parameter -/
theorem Fun.binds {x qual : Str} {st : Stmt} {f : Addr} {fd : FuncData} {ps : List Str} (F : Fun K x qual st f fd)
    (h : ∀ (kV doc pm : Value) (an : Option Addr) (cdv ct : Value) (us : List Value), us.length = ps.length → bindArgs (PySem.W.fnOf x qual (defArgs st) (defBody st) (defScope st) .none kV doc pm an cdv ct) ⟨us, []⟩ = pure (ps.zip us)) : Binds K fd ps [] := by
  obtain ⟨oc, od, kV, doc, pm, an, cdv, ct, osl, rfl, lk, hcd⟩ := F.ex
  exact .all (h kV doc pm an cdv ct)
theorem fun_mk {x qual : Str} {st : Stmt} {f : Addr} {oc : Value} {od an : Option Addr} {osl : Array (Option Value)} {kV doc pm cdv ct : Value} (l : K.lookup f = some ⟨oc, od, .func (PySem.W.fnOf x qual (defArgs st) (defBody st) (defScope st) .none kV doc pm an cdv ct), osl⟩)
    (c : PySem.W.codeIn K cdv qual = true) (k : PySem.W.keepIn K (.ref f) = true) : Fun K x qual st f (PySem.W.fnOf x qual (defArgs st) (defBody st) (defScope st) .none kV doc pm an cdv ct) := ⟨⟨oc, od, kV, doc, pm, an, cdv, ct, osl, rfl, l, c⟩, k⟩
end
theorem hu_of {A : Around} {k : Nat} (hr : Room k A) : A.units + 1 < cLine := Nat.lt_of_le_of_lt (Nat.add_le_add_left (by decide : 1 ≤ 64) _) hr.units
theorem small1000 {n : Nat} (h : n ≤ 1000) : n < sizeLine := Nat.lt_of_le_of_lt h (by decide)

/-! ### expressions in short: the name that stands in the i-th slot -/
section
variable {X : Cx}
theorem pv (i : Nat) {x : Str} {pos : Pos} (hN : X.N[i]? = some x := by rfl) (hv : Vis X.env.scope x := by first | exact Or.inl rfl | exact Or.inr (Or.inl rfl) | exact Or.inr (Or.inr rfl)) (hd : (x == ("__debug__" : Str)) = false := by decide)
    (hcd : (x == ("__classdict__" : Str)) = false := by decide) : PE X (.Name x pos) (tVar i) := pe_var hN hv hd hcd
end

/-! ### tests -/
theorem iteF {A B : Prop} (h : B) : if false = true then A else B := by
  rw [if_neg Bool.false_ne_true]
  exact h
theorem iteT {A B : Prop} (h : A) : if true = true then A else B := by
  rw [if_pos rfl]
  exact h
theorem ite2 {c A B : Prop} [Decidable c] (h1 : c → A) (h2 : ¬ c → B) : if c then A else B := by
  by_cases h : c
  · rw [if_pos h]
    exact h1 h
  · rw [if_neg h]
    exact h2 h
theorem iteNS {c A B : Prop} [Decidable c] (hc : c) (h : B) : if (!decide c) = true then A else B := by
  rw [decide_eq_true hc]
  exact iteF h

/-! ### heaps -/
/-- all that was tracked is as it was -/
def Same (H H' : Hp) : Prop := ∀ b o, H b = some o → H' b = some o
theorem Same.refl (H : Hp) : Same H H := fun _ _ h => h
theorem Same.trans {H H1 H2 : Hp} (a : Same H H1) (b : Same H1 H2) : Same H H2 := fun c o h => b c o (a c o h)
theorem Same.free {H H' : Hp} (e : Same H H') {l : Addr} (h : H' l = Option.none) : H l = Option.none := by
  cases q : H l with
  | none => rfl
  | some o =>
    rw [e l o q] at h
    cases h
theorem Same.seq {K : PySem.W.Frag} {H H' : Hp} {a : Addr} {xs : List V} (e : Same H H') (h : SqL K H a xs) : SqL K H' a xs := by
  rcases h with (h | ⟨o, h⟩) | h
  · exact .inl (.inl (e _ _ h))
  · exact .inl (.inr ⟨o, e _ _ h⟩)
  · exact .inr h

end L2

namespace L2
open PySem PySem.Spec PyProof.Rows

abbrev Go (prog : Program) (w : World) (A : Around) {α : Type} (t : Sem α) (Q : α → Shared → Prop) (s : Shared) : Prop := wpAny (model prog w) A t Q (fun _ _ => False) s
def tests (env : Env) (ifs : List Expr) : Sem Bool := forIn ifs true fun c r =>
  if r = true then (isTrue c env (eval c env) >>= fun ok => pure (ForInStep.yield ok)) else pure (ForInStep.yield r)
def OneItem (prog : Program) (w : World) (A : Around) (target elt : Expr) (ifs : List Expr) (it acc : Value) (env : Env) (fin : Shared → Prop) (v : Value) (s : Shared) : Prop :=
  Go prog w A (letOwnedTupleGo target it v) (fun _ s1 => Go prog w A (assign target env v) (fun _ s2 => Go prog w A (tests env ifs) (fun ok s3 =>
    if ok = true then Go prog w A (eval elt env) (fun x s4 => Go prog w A (call (.builtin "list.append") [acc, x]) (fun _ s5 => fin s5) s4) s3 else fin s3) s2) s1) s
theorem compLoop_go {prog : Program} {w : World} {A : Around} {R : Result → Shared → Prop} {s : Shared} {elt target iter : Expr} {ifs : List Expr} {scope : Scope} {pos : Pos} {it acc : Value} {env : Env} (J : Nat → Shared → Prop)
    (turn : ∀ (n : Nat) (z : Shared), J n z → Go prog w A (pyNext it) (fun r z1 => match r with
      | .none => R (.ok .next) z1
      | .some v => OneItem prog w A target elt ifs it acc env (fun z2 => ∃ m, m < n ∧ J m z2) v z1) z) (n : Nat) (h : J n s) :
    codeAny (model prog w) A (Code.compLoop (Expr.ListComp elt [⟨target, iter, ifs, 0⟩] scope pos) 0 it acc env) R s := by
  have step : ∀ (n : Nat) (z : Shared), J n z → Go prog w A (compTurn (Expr.ListComp elt [⟨target, iter, ifs, 0⟩] scope pos) 0 it acc env)
      (fun fin z' => match fin with
        | .done f => R (.ok f) z'
        | .again c' => c' = Code.compLoop (Expr.ListComp elt [⟨target, iter, ifs, 0⟩] scope pos) 0 it acc env ∧ ∃ m, m < n ∧ J m z') z := by
    intro n z hz
    rw [compTurn_list]
    refine wpAny_bind (wpAny_standAt (wpAny_bind (thn (turn n z hz) fun r z1 h1 => ?_)))
    cases r with
    | none => exact wpAny_pure h1
    | some v =>
      refine wpAny_bind (thn h1 fun _ z2 h2 => wpAny_bind (thn h2 fun _ z3 h3 => wpAny_bind (thn h3 fun ok z4 h4 => ?_)))
      cases ok with
      | false => exact wpAny_pure (And.intro rfl h4)
      | true => exact wpAny_bind (wpAny_bind (thn h4 fun x z5 h5 => wpAny_bind (thn h5 fun _ z6 h6 => wpAny_pure (wpAny_pure (And.intro rfl h6)))))
  refine codeAny_loop rfl J (fun n z hz => ?_) n h
  exact wpAny_noted (wpAny_mono (step n z hz) (fun _ _ q => q) fun _ _ q => q.elim)

theorem closure_of {scope : Scope} {env : Env} (h : ∀ y ∈ scope.names, y.2 = .free → ∃ c, env.cells.lookup y.1 = some c) :
    ∃ cl, closureFor scope env = pure cl ∧ (∀ x c, cl.lookup x = some c → env.cells.lookup x = some c) ∧ ∀ y ∈ scope.names, y.2 = .free → ∃ c, cl.lookup y.1 = some c := by
  have gen : ∀ (l : List (Str × NameKind)) (acc : List (Str × Addr)), (∀ y ∈ l, y.2 = .free → ∃ c, env.cells.lookup y.1 = some c) → (∀ x c, acc.lookup x = some c → env.cells.lookup x = some c) →
      ∃ cl, (forIn l acc fun (x : Str × NameKind) (r : List (Str × Addr)) => if (x.2 == NameKind.free) = true then do let c ← cellOf env x.1; pure (ForInStep.yield ((x.1, c) :: r)) else pure (ForInStep.yield r)) = (pure cl : Sem (List (Str × Addr))) ∧
        (∀ x c, cl.lookup x = some c → env.cells.lookup x = some c) ∧ (∀ y ∈ l, y.2 = .free → ∃ c, cl.lookup y.1 = some c) ∧ ∀ x c, acc.lookup x = some c → ∃ c', cl.lookup x = some c' := by
    intro l
    induction l with
    | nil => intro acc _ ha; exact ⟨acc, rfl, ha, fun _ z => (nomatch z), fun x c e => ⟨c, e⟩⟩
    | cons y r ih =>
      intro acc hl ha
      obtain ⟨n, k⟩ := y
      by_cases hk : k = .free
      · subst hk
        obtain ⟨c, hc⟩ := hl (n, .free) List.mem_cons_self rfl
        have ha' : ∀ x c', ((n, c) :: acc).lookup x = some c' → env.cells.lookup x = some c' := fun x c' e => by
          by_cases hx : x = n
          · subst hx
            have hb : (x == x) = true := beq_iff_eq.mpr rfl
            simp only [List.lookup, hb] at e
            cases e; exact hc
          · have hb : (x == n) = false := beq_eq_false_iff_ne.mpr hx
            simp only [List.lookup, hb] at e
            exact ha x c' e
        obtain ⟨cl, h1, h2, h3, h4⟩ := ih ((n, c) :: acc) (fun y hy => hl y (List.mem_cons_of_mem _ hy)) ha'
        refine ⟨cl, ?_, h2, fun y hy hf => ?_, fun x c' e => ?_⟩
        · rw [List.forIn_cons]
          have e : cellOf env n = pure c := by unfold cellOf; rw [hc]
          simp only [beq_self_eq_true, if_true, e, pure_bind]
          exact h1
        · refine (List.mem_cons.mp hy).elim (fun z => ?_) fun hy => ?_
          · subst z
            have hb : (n == n) = true := beq_iff_eq.mpr rfl
            exact h4 n c (by simp only [List.lookup, hb])
          · exact h3 y hy hf
        · by_cases hx : x = n
          · subst hx
            have hb : (x == x) = true := beq_iff_eq.mpr rfl
            exact h4 x c (by simp only [List.lookup, hb])
          · have hb : (x == n) = false := beq_eq_false_iff_ne.mpr hx
            exact h4 x c' (by simp only [List.lookup, hb]; exact e)
      · obtain ⟨cl, h1, h2, h3, h4⟩ := ih acc (fun y hy => hl y (List.mem_cons_of_mem _ hy)) ha
        refine ⟨cl, ?_, h2, fun y hy hf => ?_, h4⟩
        · rw [List.forIn_cons]
          have e : (k == NameKind.free) = false := by simpa using hk
          simp only [e, Bool.false_eq_true, if_false, pure_bind]
          exact h1
        · refine (List.mem_cons.mp hy).elim (fun z => ?_) fun hy => ?_
          · subst z
            exact absurd hf hk
          · exact h3 y hy hf
  obtain ⟨cl, h1, h2, h3, _⟩ := gen scope.names [] h (fun x c e => by simp at e)
  refine ⟨cl, ?_, h2, h3⟩
  unfold closureFor
  rw [← h1]
  simp only [bind_pure]
end L2

namespace L2
open PySem PySem.Spec PyProof.Rows

def compCx (X : Cx) (scope : Scope) (N : List Str) (cl : List (Str × Addr)) (C : Addr) (s₁ : Shared) (H₁ : Hp) (fp : List Addr) : Cx where
  prog := X.prog
  w := X.w
  K := X.K
  mg := X.mg
  base := X.base
  A := X.A
  N := N
  s₀ := s₁
  H₀ := H₁
  env := compEnvC scope cl C X.env
  outer := X.stack
  stack := X.stack
  ex := fp
  fn := fun _ => false
  calm := X.calm
  pn := []
  xe := fun _ _ => False

def PF (X : Cx) (ifs : List Expr) (t : TT) : Prop :=
  ∀ (pins : List (Addr × Obj)) (s : Shared) (σ : St) (H : Hp) (Q : Bool → Hp → Prop), Inv X pins σ H s → t σ H Q →
    wpAny (model X.prog X.w) X.A (tests X.env ifs) (TP X pins σ Q) X.xe s
def tYes : TT := fun _ H Q => Q true H
theorem pf_nil {X : Cx} : PF X [] tYes := fun _ _ _ H _ I h => wpAny_tests_nil ⟨H, I, h⟩
theorem pf_one {X : Cx} {c : Expr} {t : TT} (h : PT X c t) : PF X [c] t := fun pins s σ H Q I q => wpAny_tests_one (h pins s σ H Q I q)

def FvOk (X : Cx) (sc : Scope) : List (Nat × Str) → Prop
  | [] => True
  | p :: r => (X.N[p.1]? = some p.2 ∧ (X.env.scope.names.lookup p.2 = some .cell ∨ X.env.scope.names.lookup p.2 = some .free) ∧ (sc.names.lookup p.2 = some .cell ∨ sc.names.lookup p.2 = some .free)) ∧ FvOk X sc r
theorem FvOk.get {X : Cx} {sc : Scope} : ∀ {l : List (Nat × Str)} {k : Nat} {p : Nat × Str}, FvOk X sc l → l[k]? = some p →
    X.N[p.1]? = some p.2 ∧ (X.env.scope.names.lookup p.2 = some .cell ∨ X.env.scope.names.lookup p.2 = some .free) ∧ (sc.names.lookup p.2 = some .cell ∨ sc.names.lookup p.2 = some .free)
  | [], _, _, _, h => (by simp at h)
  | _ :: _, 0, _, hf, h => by simp at h; subst h; exact hf.1
  | _ :: _, k + 1, _, hf, h => FvOk.get (k := k) hf.2 (by simpa using h)

def st0 (nc : Nat) (fv : List (Nat × Str)) (σ : St) : St := List.replicate nc none ++ fv.map fun p => σ.getD p.1 none

def LcGo (J : It) (st : St) (g : TG) (tt : TT) (te : TE) (Q : VK) (H1 : Hp) : Prop :=
  ∃ W : Nat → Nat → List V → St → Hp → Prop, (∃ m, W 0 m [] st H1) ∧ ∀ i m ys σ' H', W i m ys σ' H' → ys.length ≤ sizeLine ∧
    ((J.stop i H' ∧ ∀ p, H' p = none → Q (.ref p) (upd H' p (.lst ys))) ∨
      (J.go i H' ∧ ∀ x H2, J.yld i H' x H2 → g x σ' H2 fun σ3 H3 => tt σ3 H3 fun b H4 =>
        if b = true then te σ3 H4 fun v H5 => ∃ m', m' < m ∧ W (i + 1) m' (ys ++ [v]) σ3 H5 else ∃ m', m' < m ∧ W (i + 1) m' ys σ3 H4))
def tLC (wi : TI) (nc : Nat) (fv : List (Nat × Str)) (g : TG) (tt : TT) (te : TE) : TE := fun σ H Q => wi σ H fun J H1 => LcGo J (st0 nc fv σ) g tt te Q H1

theorem relabel_mem {scope : Scope} {env : Env} {x : Str} (hcell : ∀ y ∈ scope.names, y.2 ≠ .cell)
    (h : (relabel scope env).names.lookup x = some .cell ∨ (relabel scope env).names.lookup x = some .free) : (x, NameKind.free) ∈ scope.names := by
  have key : ∀ k, (relabel scope env).names.lookup x = some k → k = .cell ∨ k = .free → (x, NameKind.free) ∈ scope.names := fun k hk hkk => by
    have hm := PySem.mem_of_lookup hk
    obtain ⟨⟨n, k'⟩, hy, e⟩ := List.mem_map.mp hm
    dsimp only at e
    by_cases hc : (k' == NameKind.free && env.scope.kind == .function && env.kindOf n == some .cell) = true
    · rw [if_pos hc] at e
      cases e
      have : k' = .free := by
        rw [Bool.and_eq_true, Bool.and_eq_true] at hc
        exact beq_iff_eq.mp hc.1.1
      subst this
      exact hy
    · rw [if_neg hc] at e
      cases e
      rcases hkk with e | e
      · subst e; exact absurd rfl (hcell _ hy)
      · subst e; exact hy
  rcases h with h | h
  · exact key _ h (.inl rfl)
  · exact key _ h (.inr rfl)

theorem Un.lay {fs ex : List Addr} {H H' : Hp} {h h' : Heap} {D : Addr} {o : HO} (u : Un fs ex H H' h h') (hD : h.objs.size ≤ D) (hn : H' D = none) : Un fs ex H (upd H' D o) h h' where
  keep := u.keep
  slot := u.slot
  free := fun b ob q n hx => by
    rw [upd_ne (Nat.ne_of_lt (Nat.lt_of_lt_of_le (Heap.lt_size q) hD))]
    exact u.free b ob q n hx
  there := u.there
  tups := fun b xs q => by have := u.tups b xs q; rw [upd_ne (ne_of_none this hn)]; exact this
  frzs := fun b ob xs q => by have := u.frzs b ob xs q; rw [upd_ne (ne_of_none this hn)]; exact this
  tbls := fun b ps q => by
    obtain ⟨m, e⟩ := u.tbls b ps q
    exact ⟨m, by rw [upd_ne (ne_of_none e hn)]; exact e⟩
theorem HOk.lay {P : Program} {w : World} {H : Hp} {h : Heap} {D : Addr} {o : HO} (x : HOk P w H h) (hn : H D = none) (new : ObjOk P w (upd H D o) h D o) : HOk P w (upd H D o) h := fun b u e => by
  by_cases hb : b = D
  · subst hb; rw [upd_same] at e; cases e; exact new
  · rw [upd_ne hb] at e
    exact (x b u e).stay (fun c v _ q => q) (fun c q => by rw [upd_ne (ne_of_none q hn)]; exact q) fun c xs q => by rw [upd_ne (ne_of_none q hn)]; exact q
theorem Un.same {fs ex : List Addr} {H H' : Hp} {h h1 h2 : Heap} {C : Addr} (u : Un fs ex H H' h h1) (hC : h.objs.size ≤ C) (sb : Heap.SameBut C h1 h2) : Un fs ex H H' h h2 := by
  have ne : ∀ b o, h.get? b = some o → b ≠ C := fun b o e => Nat.ne_of_lt (Nat.lt_of_lt_of_le (Heap.lt_size e) hC)
  refine ⟨fun b o q n hb hx => (sb.2 b (ne b o q)).trans (u.keep b o q n hb hx), fun b o q n hb hx => ?_, u.free, fun b o q hx => ?_, u.tups, u.frzs, u.tbls⟩
  · obtain ⟨sl, e⟩ := u.slot b o q n hb hx
    exact ⟨sl, (sb.2 b (ne b o q)).trans e⟩
  · obtain ⟨o', e⟩ := u.there b o q hx
    exact ⟨o', (sb.2 b (ne b o q)).trans e⟩
theorem HOk.same {P : Program} {w : World} {H : Hp} {h1 h2 : Heap} {C : Addr} (x : HOk P w H h1) (hn : H C = none) (sb : Heap.SameBut C h1 h2) : HOk P w H h2 := fun b u e => by
  refine (x b u e).stay (fun c v hc q => (sb.2 c ?_).trans q) (fun _ q => q) fun _ _ q => q
  rcases hc with rfl | hc
  · exact ne_of_none e hn
  · exact ne_of_none hc hn

section
variable {X : Cx} {tg iter elt : Expr} {ifs : List Expr} {scope : Scope} {pos : Pos} {wi : TI} {own : List Str} {fv : List (Nat × Str)} {g : TG} {tt : TT} {te : TE}

structure LcOk (X : Cx) (scope : Scope) (fv : List (Nat × Str)) : Prop where
  calm : X.calm = true
  kind : scope.kind = .function
  cell : ∀ y ∈ scope.names, y.2 ≠ .cell
  names : ∀ y ∈ scope.names, y.2 = .local → scope.names.lookup y.1 = some .local
  free : ∀ y ∈ scope.names, y.2 = .free → X.env.kindOf y.1 = some .cell ∨ X.env.kindOf y.1 = some .free
  fv : FvOk X (relabel scope X.env) fv

theorem comp_start {pins : List (Addr × Obj)} {σ : St} {H : Hp} {s : Shared} {fp : List Addr} {cl : List (Str × Addr)} {h₁ : Heap} {own : List Str} (I : Inv X pins σ H s) (L : LcOk X scope fv) (hf : ∀ b ∈ fp, FpOk X pins H b) (hfo : ∀ b ∈ fp, ∃ o, s.heap.get? b = some o)
    (hsub : ∀ x c, cl.lookup x = some c → X.env.cells.lookup x = some c) (hhas : ∀ y ∈ scope.names, y.2 = .free → ∃ c, cl.lookup y.1 = some c)
    (hns : h₁.Ns (s.heap.objs.size + 1) (fun x => ([] : List (Str × Value)).reverse.lookup x)) (hold : ∀ b o, s.heap.get? b = some o → h₁.get? b = some o) (hD : h₁.get? s.heap.objs.size = some { cls := .type "list", data := .seq #[] 0 }) {tk : Nat} :
    Inv (compCx X scope (own ++ fv.map (·.2)) cl (s.heap.objs.size + 1) s H fp) [(s.heap.objs.size, { cls := .type "list", data := .seq #[] 0 })] (st0 own.length fv σ) H { s with heap := h₁, toks := tk } := by
  have nst : ∀ b, s.heap.objs.size ≤ b → b ∉ frs X.stack := fun b hb hm => by
    rcases List.mem_cons.mp (I.stkSub b hm) with e | e
    · exact absurd I.lt (by rw [← e]; exact Nat.not_lt.mpr hb)
    · exact I.nofs hb e
  have fpst : ∀ b ∈ fp, b ∉ frs X.stack := fun b hb hm => by
    obtain ⟨_, f1, f2, _⟩ := hf b hb
    rcases List.mem_cons.mp (I.stkSub b hm) with e | e
    · exact f1 e
    · exact f2 e
  have celllt : ∀ x c, cl.lookup x = some c → c < s.heap.objs.size := fun x c e => by
    obtain ⟨v, z⟩ := I.cell x c (hsub x c e)
    exact z.lt
  refine ⟨⟨I.ok.mod, L.kind, I.ok.glob, I.ok.blt, Nat.le_succ _, fun x y c h1 h2 => I.ok.inj x y c (hsub _ _ h1) (hsub _ _ h2), fun x hx => hhas (x, .free) (relabel_mem L.cell hx) rfl, fun _ _ z => Bool.noConfusion z, I.ok.hd, I.ok.frames, .inl rfl,
      fun b hb => ⟨?_, fun x c e z => ?_⟩, I.bs, Nat.le_trans I.ok.bsz I.sz, fun b o e hb => ?_, fpst, I.stack, I.stkFree⟩,
    rfl, I.bare, Un.kept hold, ⟨_, hns, fun i x v e1 e2 e3 => ?_⟩, fun x c e => ?_, I.hok.fresh (Nat.le_succ _), fun x c e => I.freeC x c (hsub x c e), fun p hp => ?_, I.hok.kept hold, ?_⟩
  · obtain ⟨o, e⟩ := hfo b hb
    exact Nat.ne_of_lt (Nat.lt_succ_of_lt (Heap.lt_size e))
  · exact (hf b hb).2.2.2.2.1 x c (hsub x c e) z
  · obtain ⟨_, _, _, f3, _⟩ := hf b hb
    rcases f3 with f3 | f3
    · exact I.ok.noex b o e f3
    · exact absurd (Nat.lt_of_lt_of_le (Heap.lt_size e) (Nat.le_trans I.ok.bsz f3)) (Nat.lt_irrefl _)
  · -- a name that is read
    have e1' : (own ++ fv.map (·.2))[i]? = some x := e1
    unfold st0 at e2
    by_cases hi : i < own.length
    · rw [List.getElem?_append_left (by simpa using hi), List.getElem?_replicate] at e2
      split at e2 <;> cases e2
    · rw [List.getElem?_append_right (by simpa using hi), List.length_replicate, List.getElem?_map] at e2
      rw [List.getElem?_append_right (by simpa using hi), List.getElem?_map] at e1'
      cases hp : fv[i - own.length]? with
      | none => rw [hp] at e1'; cases e1'
      | some p =>
        rw [hp] at e1' e2
        have ex : p.2 = x := Option.some.inj e1'
        have ev : σ.getD p.1 none = some v := Option.some.inj e2
        obtain ⟨q1, q2, q3⟩ := L.fv.get hp
        rw [ex] at q1 q2 q3
        have hσ : σ[p.1]? = some (some v) := by
          rw [List.getD_eq_getElem?_getD] at ev
          cases q : σ[p.1]? with
          | none => rw [q] at ev; cases ev
          | some w => rw [q] at ev; exact congrArg some ev
        obtain ⟨m, _, hl⟩ := I.loc
        obtain ⟨u, r, l⟩ := hl p.1 x v q1 hσ (by rcases q2 with z | z; exact .inr (.inl z); exact .inr (.inr z))
        refine ⟨u, r, .inr ⟨q3, ?_⟩⟩
        rcases l with ⟨k, _⟩ | ⟨_, c, ec, z⟩
        · exfalso
          have k' : X.env.scope.names.lookup x = some .local := k
          rcases q2 with z | z <;> rw [k'] at z <;> cases z
        · obtain ⟨c', ec'⟩ := hhas (x, .free) (relabel_mem L.cell q3) rfl
          have : c' = c := Option.some.inj ((hsub x c' ec').symm.trans ec)
          subst this
          obtain ⟨o, ho, hd⟩ := z
          exact ⟨c', ec', o, hold _ _ ho, hd⟩
  · obtain ⟨v, o, ho, hd⟩ := I.cell x c (hsub x c e)
    exact ⟨v, o, hold _ _ ho, hd⟩
  · have e : p = (s.heap.objs.size, { cls := .type "list", data := .seq #[] 0 }) := by simpa [compCx] using hp
    subst e
    exact ⟨hD, I.hok.fresh (Nat.le_refl _), Nat.ne_of_lt (Nat.lt_succ_self _), nst _ (Nat.le_refl _), fun v z => by cases z⟩
  · show (st0 own.length fv σ).length = (own ++ fv.map (·.2)).length
    unfold st0
    simp

theorem pe_lc (L : LcOk X scope fv) (hi : PI X tg iter wi)
    (hg : ∀ cl C s₁ H₁ fp, PG (compCx X scope (own ++ fv.map (·.2)) cl C s₁ H₁ fp) tg g)
    (ht : ∀ cl C s₁ H₁ fp, PF (compCx X scope (own ++ fv.map (·.2)) cl C s₁ H₁ fp) ifs tt)
    (he : ∀ cl C s₁ H₁ fp, PE (compCx X scope (own ++ fv.map (·.2)) cl C s₁ H₁ fp) elt te)
    (hs : ∀ x, foldedSetIterable iter X.env x = pure x := by intro _; rfl) :
    PE X (.ListComp elt [⟨tg, iter, ifs, 0⟩] scope pos) (tLC wi own.length fv g tt te) := by
  intro pins s σ H Q I h
  rw [eval_ListComp]
  obtain ⟨cl, hclos, hsub, hhas⟩ := closure_of (scope := scope) (env := X.env) fun y hy hf => I.ok.has y.1 (L.free y hy hf)
  refine wpAny_comprehension_free (use := none) rfl hs hclos L.kind L.names (thn (hi pins s σ H _ I h) fun v s1 h1 => thn h1 fun itv s2 h2 => ?_)
  obtain ⟨it, fp, tn, J, H2, e, I2, T, st2, f2, W, ⟨m0, w0⟩, turn⟩ := h2
  subst e
  have hfo : ∀ b ∈ fp, ∃ o, s2.heap.get? b = some o := fun b hb => let ⟨o, e, _⟩ := T.obj _ _ st2 b hb; ⟨o, e⟩
  refine wpAny_newObj_type (wpAny_newFunctionEnv L.cell (by intro y hy; simp at hy) (fun h₁ hns₁ hsb₁ => ?_) L.kind)
  dsimp only at hns₁ hsb₁ ⊢
  have hCe : (s2.heap.push { cls := .type "list", dict := none, data := .seq ([] : List Value).toArray }).objs.size = s2.heap.objs.size + 1 := Heap.size_push _ _
  rw [hCe] at hns₁ hsb₁ ⊢
  have old : ∀ b o, s2.heap.get? b = some o → h₁.get? b = some o := fun b o e => hsb₁.extBut b o (Nat.ne_of_lt (Nat.lt_succ_of_lt (Heap.lt_size e))) (Heap.get?_push_of_some _ (Heap.get?_push_of_some _ e))
  have hD₁ : h₁.get? s2.heap.objs.size = some { cls := .type "list", data := .seq #[] 0 } := hsb₁.extBut _ _ (Nat.ne_of_lt (Nat.lt_succ_self _)) (Heap.get?_push_of_some _ (Heap.get?_push_size _ rfl))
  have I4 := comp_start (own := own) (tk := s2.toks + ([] : List (Str × Value)).length) I2 L f2 hfo hsub hhas hns₁ old hD₁
  generalize hXc : compCx X scope (own ++ fv.map (·.2)) cl (s2.heap.objs.size + 1) s2 H2 fp = Xc at I4
  have hg' := hg cl (s2.heap.objs.size + 1) s2 H2 fp
  have ht' := ht cl (s2.heap.objs.size + 1) s2 H2 fp
  have he' := he cl (s2.heap.objs.size + 1) s2 H2 fp
  have st4 : tn 0 h₁ := T.keep _ _ _ st2 fun b _ o e => old b o e
  have celllt : ∀ x c, cl.lookup x = some c → c < s2.heap.objs.size := fun x c e => by
    obtain ⟨v, z⟩ := I2.cell x c (hsub x c e)
    exact z.lt
  have nst : s2.heap.objs.size ∉ frs X.stack := fun hm => by
    rcases List.mem_cons.mp (I2.stkSub _ hm) with e | e
    · exact absurd I2.lt (by rw [← e]; exact Nat.lt_irrefl _)
    · exact I2.nofs (Nat.le_refl _) e
  rw [hXc] at hg' ht' he'
  have loop : ∀ s4 : Shared, s4 = { s2 with heap := h₁, toks := s2.toks + ([] : List (Str × Value)).length } →
      codeAny (model X.prog X.w) X.A (.compLoop (.ListComp elt [⟨tg, iter, ifs, 0⟩] scope pos) 0 (.ref it) (.ref s2.heap.objs.size) (compEnvC scope cl (s2.heap.objs.size + 1) X.env))
        (compPost (model X.prog X.w) X.A X.xe none (EP X pins σ Q) (.ref s2.heap.objs.size) (s2.heap.objs.size + 1)) s4 := by
    rintro s4 rfl
    have fpok : ∀ {pl : List (Addr × Obj)} {H' : Hp}, (∀ p ∈ pl, p.1 = s2.heap.objs.size) → (∀ b ∈ fp, H' b = none) → ∀ b ∈ fp, FpOk Xc pl H' b := fun {pl H'} hpl hn b hb => by
      obtain ⟨o, eo⟩ := hfo b hb
      have blt := Heap.lt_size eo
      subst hXc
      refine ⟨hn b hb, Nat.ne_of_lt (Nat.lt_succ_of_lt blt), fun hm => ?_, .inl hb, fun x c e => (f2 b hb).2.2.2.2.1 x c (hsub x c e), fun p hp => ?_⟩
      · obtain ⟨_, f1, f3, _⟩ := f2 b hb
        rcases List.mem_cons.mp (I2.stkSub b hm) with e | e
        · exact f1 e
        · exact f3 e
      · have hp' : p ∈ pl := by simpa [compCx] using hp
        rw [hpl p hp']
        exact Nat.ne_of_gt blt
    have xP : Xc.prog = X.prog := by subst hXc; rfl
    have xw : Xc.w = X.w := by subst hXc; rfl
    have xK : Xc.K = X.K := by subst hXc; rfl
    have xA : Xc.A = X.A := by subst hXc; rfl
    have xc : Xc.calm = true := by subst hXc; exact L.calm
    have xx : Xc.xe = fun _ _ => False := by subst hXc; rfl
    have xe : Xc.env = compEnvC scope cl (s2.heap.objs.size + 1) X.env := by subst hXc; rfl
    have xs : Xc.s₀ = s2 := by subst hXc; rfl
    have xH : Xc.H₀ = H2 := by subst hXc; rfl
    have xf : Xc.fs = frs X.stack := by subst hXc; rfl
    have xex : Xc.ex = fp := by subst hXc; rfl
    have xpn : Xc.pn = [] := by subst hXc; rfl
    refine compLoop_go (fun n s' => ∃ i ys its k σ' H', Inv Xc [(s2.heap.objs.size, { cls := .type "list", data := .seq its k })] σ' H' s' ∧ Vals ys its.toList ∧ tn i s'.heap ∧ (∀ b ∈ fp, H' b = none) ∧ W i n ys σ' H') ?_ m0
      ⟨0, [], #[], 0, _, H2, I4, .nil, st4, fun b hb => (f2 b hb).1, w0⟩
    rintro n s5 ⟨i, ys, its, k, σ5, H5, I5, r5, st5, fr5, w5⟩
    obtain ⟨hlen, hst⟩ := turn i n ys σ5 H5 w5
    have hf5 := fpok (pl := [(s2.heap.objs.size, { cls := .type "list", data := .seq its k })]) (fun p hp => by simp at hp; rw [hp]) fr5
    rcases hst with ⟨stop, qn⟩ | ⟨go, step⟩
    · -- the end
      have d := T.done Xc xP xw xK xc i _ s5 σ5 H5 (fun _ _ => False) I5 hf5 st5 stop
      rw [xA] at d
      refine thn d fun r s6 ⟨hr, I6⟩ => ?_
      subst hr
      obtain ⟨m, hn, _⟩ := I6.loc
      rw [xe] at hn
      refine ⟨m, hn, fun h' sb => ?_⟩
      obtain ⟨eD, nD, _⟩ := I6.pin (s2.heap.objs.size, _) (List.mem_append_right _ (List.mem_singleton.mpr rfl))
      have nC : H5 (s2.heap.objs.size + 1) = none := by have := I6.free; rw [xe] at this; exact this
      refine ⟨.ref s2.heap.objs.size, upd H5 s2.heap.objs.size (.lst ys), ?_, rfl, qn _ nD⟩
      have U : Un (frs X.stack) fp H2 H5 s2.heap s6.heap := by have := I6.base; rw [xf, xex, xs, xH] at this; exact this
      have ok6 : HOk X.prog X.w H5 s6.heap := by have := I6.hok; rw [xP, xw] at this; exact this
      have eD' : h'.get? s2.heap.objs.size = some { cls := .type "list", data := .seq its k } := (sb.2 _ (Nat.ne_of_lt (Nat.lt_succ_self _))).trans eD
      refine I2.call' (s' := { s6 with heap := h' }) (by have := I6.os; rw [xs] at this; exact this) ((U.same (Nat.le_succ _) sb).lay (Nat.le_refl _) nD) ((ok6.same nC sb).lay nD ?_) I6.bare fun b hb => ?_
      · exact ⟨hlen, its.toList, k, r5, by simpa using eD'⟩
      · obtain ⟨_, f1, _, f3, f4, f5⟩ := f2 b hb
        exact ⟨f3, f1, f4, f5⟩
    · have d := T.item Xc xP xw xK xc i _ s5 σ5 H5 (fun _ _ => False) I5 hf5 st5 go
      rw [xA] at d
      refine thn d fun r s6 ⟨u, hr, h6⟩ => ?_
      subst hr
      refine thn h6 fun _ s7 ⟨x, H7, I7, r7, y7, st7, fr7⟩ => ?_
      have I7' := I7.pinned (fpok (pl := [(s2.heap.objs.size, { cls := .type "list", data := .seq its k })]) (fun p hp => by simp at hp; rw [hp]) fr7) (T.obj _ _ st7)
      have a := hg' _ s7 σ5 H7 x u _ I7' r7 (step x H7 y7)
      rw [xP, xw, xA, xx, xe] at a
      refine thn a fun _ s8 ⟨σ8, H8, I8, q8⟩ => ?_
      have b := ht' _ s8 σ8 H8 _ I8 q8
      rw [xP, xw, xA, xx, xe] at b
      refine thn b fun ok s9 ⟨H9, I9, q9⟩ => ?_
      -- what holds behind the block's own steps
      have back : ∀ {s' : Shared} {σ' : St} {H' : Hp}, Inv Xc ([(s2.heap.objs.size, { cls := .type "list", data := .seq its k })] ++ pinsAt fp s7.heap) σ' H' s' →
          tn (i + 1) s'.heap ∧ (∀ b ∈ fp, H' b = none) ∧ s'.heap.get? s2.heap.objs.size = some { cls := .type "list", data := .seq its k } ∧ H' s2.heap.objs.size = none := fun {s' σ' H'} J' => by
        refine ⟨T.keep _ _ _ st7 fun b hb o e => (J'.pin (b, o) (List.mem_append_right _ (List.mem_append_right _ (mem_pinsAt hb e)))).1, fun b hb => ?_, ?_, ?_⟩
        · obtain ⟨o, e, _⟩ := T.obj _ _ st7 b hb
          exact (J'.pin (b, o) (List.mem_append_right _ (List.mem_append_right _ (mem_pinsAt hb e)))).2.1
        · exact (J'.pin (s2.heap.objs.size, _) (List.mem_append_right _ (List.mem_append_left _ (List.mem_singleton.mpr rfl)))).1
        · exact (J'.pin (s2.heap.objs.size, _) (List.mem_append_right _ (List.mem_append_left _ (List.mem_singleton.mpr rfl)))).2.1
      cases ok with
      | false =>
        rw [if_neg Bool.false_ne_true] at q9 ⊢
        obtain ⟨m', hm, w9⟩ := q9
        obtain ⟨b1, b2, _, _⟩ := back I9
        exact ⟨m', hm, i + 1, ys, its, k, σ8, H9, I9.unpinned, r5, b1, b2, w9⟩
      | true =>
        rw [if_pos rfl] at q9 ⊢
        have c := he' _ s9 σ8 H9 _ I9 q9
        rw [xP, xw, xA, xx, xe] at c
        refine thn c fun u' s10 ⟨y, H10, I10, r10, m', hm, w10⟩ => ?_
        obtain ⟨b1, b2, b3, b4⟩ := back I10
        have hz : its.size ≤ sizeLine := by
          have e := r5.length
          simp only [Array.length_toList] at e
          omega
        refine wpAny_list_append_plain (hsz := hz) ⟨k, b3⟩ fun h' hl' sb => ?_
        obtain ⟨k', hk'⟩ := hl'
        have I11 : Inv Xc [] σ8 H10 s10 := I10.pins_of fun p hp => nomatch hp
        have nDL : s2.heap.objs.size ≠ Xc.env.locals := by rw [xe]; exact Nat.ne_of_lt (Nat.lt_succ_self _)
        have I12 : Inv Xc [] σ8 H10 { s10 with heap := h' } := I11.turned (t' := s10.toks) (it := s2.heap.objs.size) (fun b o hb e => (sb.2 b hb).trans e) b4 nDL
          (.inr (by rw [xs]; exact Nat.le_refl _)) (fun x c e => by rw [xe] at e; exact Nat.ne_of_lt (celllt x c e)) (fun p hp => by rw [xpn] at hp; exact nomatch hp)
        have I13 : Inv Xc [(s2.heap.objs.size, { cls := .type "list", data := .seq (its.push u') k' })] σ8 H10 { s10 with heap := h' } := I12.pins_of fun p hp => by
          have e : p = (s2.heap.objs.size, { cls := .type "list", data := .seq (its.push u') k' }) := by simpa using hp
          subst e
          exact ⟨hk', b4, nDL, by rw [xf]; exact nst, fun v z => by cases z⟩
        refine ⟨m', hm, i + 1, ys ++ [y], its.push u', k', σ8, H10, I13, ?_, T.keep _ _ _ b1 fun b hb o e => (sb.2 b ?_).trans e, b2, w10⟩
        · rw [Array.toList_push]
          exact r5.append (.cons r10 .nil)
        · obtain ⟨o', eo⟩ := hfo b hb
          exact Nat.ne_of_lt (Heap.lt_size eo)
  exact codeAny_compStart_list (loop _ rfl) (T.self _ 0 _ _ _ st4 (loop _ rfl))
end
end L2

namespace L2
open PySem PySem.Spec PyProof.Rows
section
variable {X : Cx}

theorem op_is_bl : OpR X (compareOp .Is) (fun x y H Q => ∃ a b, x = .bl a ∧ y = .bl b ∧ Q (.bl (a == b)) H) := by
  intro pins s σ H x y v u Q I rx ry h
  obtain ⟨a, b, rfl, rfl, q⟩ := h
  cases rx
  cases ry
  exact is_bool (fin_bl I q rfl)
theorem op_isnot_bl : OpR X (compareOp .IsNot) (fun x y H Q => ∃ a b, x = .bl a ∧ y = .bl b ∧ Q (.bl (a != b)) H) := by
  intro pins s σ H x y v u Q I rx ry h
  obtain ⟨a, b, rfl, rfl, q⟩ := h
  cases rx
  cases ry
  exact isnot_bool (fin_bl I q rfl)

theorem bool_at {bs : List Bool} {us : List Value} (r : Vals (bs.map V.bl) us) {i : Nat} {v : Value} (e : us[i]? = some v) : ∃ b, bs[i]? = some b ∧ v = .bool b := by
  have hl := r.length
  rw [List.length_map] at hl
  have hi : i < us.length := (List.getElem?_eq_some_iff.mp e).1
  obtain ⟨u, hu, ru⟩ := r.get (i := i) (x := V.bl (bs[i]'(by omega))) (by simp)
  rw [e] at hu
  cases hu
  exact ⟨_, by simp, ru⟩
theorem range_all' (bs : List Bool) : ((List.range bs.length).all fun i => (bs[i]?).getD true) = bs.all id := by
  refine Bool.eq_iff_iff.mpr ⟨fun h => List.all_eq_true.mpr fun b hb => ?_, fun h => List.all_eq_true.mpr fun i hi => ?_⟩
  · obtain ⟨k, lk, rfl⟩ := List.mem_iff_getElem.mp hb
    simpa [lk] using List.all_eq_true.mp h k (List.mem_range.mpr lk)
  · have lk : i < bs.length := List.mem_range.mp hi
    simpa [lk] using List.all_eq_true.mp h bs[i] (List.getElem_mem lk)
theorem strs_of {ss : List Str} : ∀ {us : List Value}, Vals (ss.map V.str) us → StrsAre us ss := by
  induction ss with
  | nil => intro us r; rw [List.map_nil] at r; cases r; exact .nil
  | cons b bs ih =>
    intro us r
    rw [List.map_cons] at r
    cases r with
    | cons r1 r2 =>
      obtain ⟨t, rfl⟩ := r1
      exact .cons b t (ih r2)
theorem of_strs : ∀ {us : List Value} {ss : List Str}, StrsAre us ss → Vals (ss.map V.str) us
  | _, _, .nil => .nil
  | _, _, .cons b t r => .cons ⟨t, rfl⟩ (of_strs r)
theorem call_all (hc : X.calm = true) : CallR X (.builtin "all") (fun xs H Q => ∃ (p : Addr) (bs : List Bool), xs = [.ref p] ∧ SqL X.K H p (bs.map V.bl) ∧ Q (.bl (bs.all id)) H) := by
  intro pins s σ H xs us Q I r h
  obtain ⟨p, bs, rfl, hq, q⟩ := h
  obtain ⟨u, rfl, ru⟩ := vals1 r
  cases ru
  obtain ⟨its, rv, pl, hz⟩ := I.list hq
  obtain ⟨m, F⟩ := I.fr
  have hlt : p < s.heap.objs.size := by obtain ⟨o, n, e, _⟩ := pl; exact Heap.lt_size e
  refine call_all_walk (wpAny_pyIter_list pl.isList ?_)
  refine ⟨s.heap.objs.size, [s.heap.objs.size, p], [s.heap.objs.size], its.toArray.size, _, _, fun i => (bs[i]?).getD true, rfl,
    Walks.list (A := X.A.in1) (I.ok.hd hc) _ p (Nat.ne_of_lt hlt) its.toArray, ⟨⟨_, Heap.get?_push_size _ rfl, rfl, rfl⟩, pl.isList.push _⟩, fun i v s' Q' E' hP hQ => ?_, fun h' tk hk => ?_⟩
  · obtain ⟨b, e, rfl⟩ := bool_at rv (i := i) (v := v) (by simpa using hP)
    exact wpAny_truthy_bool (by simpa only [e, Option.getD_some] using hQ)
  · have e : ((List.range its.toArray.size).all fun i => (bs[i]?).getD true) = bs.all id := by
      rw [List.size_toArray, ← rv.length, List.length_map]
      exact range_all' bs
    rw [e]
    exact ⟨.bl _, H, I.kept fun b x e => hk b x (fun hm => absurd (Heap.lt_size e) (by rw [List.mem_singleton.mp hm]; exact Nat.lt_irrefl _)) (Heap.get?_push_of_some _ e), rfl, q⟩

theorem call_sorted_strs : CallR X (.builtin "sorted") (fun xs H Q => ∃ (p : Addr) (ss : List Str), xs = [.ref p] ∧ SqL X.K H p (ss.map V.str) ∧ ss.length < 64 ∧
    ∀ (l : Addr) (ss' : List Str), H l = none → ss'.Perm ss → sortedS ss' = true → Q (.ref l) (upd H l (.lst (ss'.map V.str)))) := by
  intro pins s σ H xs us Q I r h
  obtain ⟨p, ss, rfl, hq, h64, q⟩ := h
  obtain ⟨u, rfl, ru⟩ := vals1 r
  cases ru
  obtain ⟨its, rv, pl, hz⟩ := I.list hq
  have hS := strs_of rv
  refine sorted_strs pl.isList hS (by rw [hS.len_eq]; exact h64) fun out ss' a1 a2 a3 => ?_
  obtain ⟨e, he⟩ := sortedAll_at s.heap its out
  have hn : H (s.heap.objs.size + 1) = none := I.hok.fresh (Nat.le_succ _)
  refine ⟨.ref (s.heap.objs.size + 1), _, I.laid (t' := s.toks) (fun b u' e' => sortedAll_old e') (Nat.le_succ _) ?_, rfl, q _ ss' hn a2 a3⟩
  refine ⟨?_, out.toList, e, of_strs a1, ?_⟩
  · rw [List.length_map, a2.length_eq]
    rw [List.length_map] at hz
    exact hz
  · rw [he]

theorem op_mul_str : OpR X (binaryOp .Mult) (fun x y H Q => ∃ (z : Str) (n : Int), x = .str z ∧ y = .int n ∧ MulOk z n ∧ Q (.str (Txt.mul z n)) H) := by
  intro pins s σ H x y v u Q I rx ry h
  obtain ⟨z, n, rfl, rfl, hok, q⟩ := h
  obtain ⟨t, rfl⟩ := rx
  obtain ⟨t', rfl⟩ := ry
  exact SB.mul hok fun t' k => ⟨.str _, H, I.tok _, ⟨_, rfl⟩, q⟩

theorem part_of {v : Value} {o : Option Int} (p : IsPart v o) : ∃ l : Option (Int × Tok), v = partValue l ∧ l.map (·.1) = o := by
  cases p with
  | none => exact ⟨none, rfl, rfl⟩
  | int i t => exact ⟨some (i, t), rfl, rfl⟩
theorem sl_str : SlR X (fun x lo hi H Q => ∃ z : Str, x = .str z ∧ z.length ≤ sizeLine ∧ Q (.str (Txt.slice z lo hi)) H) := by
  intro pins s σ H x v vl vu lo hi sl Q I rx hs pl pu h
  obtain ⟨z, rfl, hz, q⟩ := h
  obtain ⟨t, rfl⟩ := rx
  obtain ⟨l, rfl, rfl⟩ := part_of pl
  obtain ⟨u, rfl, rfl⟩ := part_of pu
  refine ⟨"str", _, PySem.F.slot_str_getitem.lookup, typeIs_str _ _ _, ?_⟩
  refine wpAny_getItem_str_slice (l := l) (u := u) (st := none) hs rfl (post_val_or_str ⟨Nat.le_trans (Txt.slice_le z _ _) hz, fun t' k => ?_⟩)
  exact ⟨.str _, H, I.tok _, ⟨_, rfl⟩, q⟩
end
end L2

namespace L2
open PySem PySem.Spec PyProof.Rows
section
variable {X : Cx} {pins : List (Addr × Obj)} {σ : St} {H : Hp} {s : Shared} {h' : Heap}
theorem Inv.turnedL {t' : Nat} {ch : List Addr} (I : Inv X pins σ H s) (k : ∀ b o, b ∉ ch → s.heap.get? b = some o → h'.get? b = some o) (hf : ∀ b ∈ ch, FpOk X pins H b) : Inv X pins σ H { s with heap := h', toks := t' } := by
  have nit : ∀ b u, H b = some u → b ∉ ch := fun b u e z => by rw [(hf b z).1] at e; cases e
  refine I.step (g' := s.gens) (d' := s.drawn) (ch := ch) (fun b hb => ?_) (fun b o _ _ hc e _ => k b o hc e) (fun b o _ _ hc e _ => ⟨o.slots, k b o hc e⟩) (fun _ _ _ _ n => n) (fun b o hc e => ⟨o, k b o hc e⟩)
    (fun _ _ e => e) (fun _ _ _ e => e) (fun b ps e => ⟨#[], by rw [e]; simp⟩) (fun m hm => ?_) (fun b u e => ?_) I.bare
  · obtain ⟨_, f1, _, f3, f4, f5⟩ := hf b hb
    exact ⟨f3, f1, f4, f5⟩
  · obtain ⟨o, es, ep, ho, r⟩ := hm
    exact ⟨o, es, ep, k _ o (fun z => (hf _ z).2.1 rfl) ho, r⟩
  · refine (I.hok b u e).stay (fun c v hc q => k c v ?_ q) (fun _ q => q) fun _ _ q => q
    rcases hc with z | z
    · rw [z]; exact nit b u e
    · exact nit c _ z
theorem Inv.lay {T : Addr} {o : HO} (I : Inv X pins σ H s) (hf : FpOk X pins H T) (hs : X.s₀.heap.objs.size ≤ T) (new : ObjOk X.prog X.w (upd H T o) s.heap T o) : Inv X pins σ (upd H T o) s := by
  obtain ⟨f0, f1, f2, f3, f4, f5⟩ := hf
  refine ⟨I.ok, I.os, I.bare, I.base.lay hs f0, I.loc, I.cell, ?_, fun x c e => ?_, fun p hp => ?_, I.hok.lay f0 new, I.len⟩
  · rw [upd_ne (Ne.symm f1)]; exact I.free
  · rw [upd_ne (f4 x c e)]; exact I.freeC x c e
  · obtain ⟨e, n, r⟩ := I.pin p hp
    exact ⟨e, by rw [upd_ne (f5 p hp)]; exact n, r⟩
end

def Its (x : Str) : It := ⟨fun i _ => i < x.cps.size, fun i H v H' => H' = H ∧ ∃ c, x.cps[i]? = some c ∧ v = .str ⟨#[c]⟩, fun i _ => i = x.cps.size⟩
theorem turn_str {P : Program} {w : World} {K : PySem.W.Frag} {tg : Expr} {ty : String} (x : Str) (t : Tok) (it : Addr)
    (W : ∀ A : Around, A.handled = none → Walks P w A it [it] [it] x.cps.size (SignAt x) (fun i h => h.IsStrIter it ty x t i)) (W0 : ∀ A : Around, ∀ i (s : Shared) (Q : Value → Shared → Prop) (E : Value → Shared → Prop), s.heap.IsStrIter it ty x t i → Q (.ref it) s → wpAny (model P w) A (pyIter (.ref it)) Q E s)
    (hn : ["enumerate", "zip", "dict_itemiterator", "dict_reverseitemiterator", "odict_iterator", "itertools.zip_longest", "itertools.pairwise"].contains ty = false) : Turn P w K tg (Its x) [it] it (fun i h => h.IsStrIter it ty x t i) where
  mem := by simp
  obj := fun i h st b hb => by
    have e : b = it := by simpa using hb
    subst e
    obtain ⟨o, e, c, d⟩ := st
    exact ⟨o, e, fun v z => by rw [d] at z; cases z⟩
  keep := fun i h h' st k => by
    obtain ⟨o, e, r⟩ := st
    exact ⟨o, k it (by simp) o e, r⟩
  item := by
    intro X hP hw hK hc i pins s σ H E I hf st hg
    subst hP hw hK
    refine (W X.A (I.ok.hd hc)).item i s _ _ hg st fun v h' tk hv st' kk => ?_
    obtain ⟨c, u, hc', rfl⟩ := hv
    have I1 : Inv X pins σ H { s with heap := h', toks := tk } := I.turnedL kk hf
    obtain ⟨o, e, c2, d⟩ := id st'
    exact ⟨_, rfl, go_of (s := { s with heap := h', toks := tk }) e c2 d hn ⟨.str ⟨#[c]⟩, H, I1, ⟨u, rfl⟩, ⟨rfl, c, hc', rfl⟩, st', fun b hb => (hf b hb).1⟩⟩
  done := by
    intro X hP hw hK hc i pins s σ H E I hf st hg
    subst hP hw hK
    have e : i = x.cps.size := hg
    subst e
    exact (W X.A (I.ok.hd hc)).done s _ _ st fun h' tk kk => ⟨rfl, I.turnedL kk hf⟩
  self := fun A i s Q E st h => W0 A i s Q E st h
def iStr (tl : TE) : TI := fun σ H R => tl σ H fun x H1 => ∃ z, x = .str z ∧ R (Its z) H1
theorem pi_str {X : Cx} {tg l : Expr} {tl : TE} (hl : PE X l tl) : PI X tg l (iStr tl) := by
  intro pins s σ H R I h
  refine thn (hl pins s σ H _ I h) fun v s1 ⟨x, H1, I1, r1, q1⟩ => ?_
  obtain ⟨z, e, q⟩ := q1
  subst e
  obtain ⟨t, rfl⟩ := r1
  have fin : ∀ ty : String, (∀ A : Around, A.handled = none → Walks X.prog X.w A s1.heap.objs.size [s1.heap.objs.size] [s1.heap.objs.size] z.cps.size (SignAt z) (fun i h => h.IsStrIter s1.heap.objs.size ty z t i)) →
      (∀ A : Around, ∀ i (s : Shared) (Q : Value → Shared → Prop) (E : Value → Shared → Prop), s.heap.IsStrIter s1.heap.objs.size ty z t i → Q (.ref s1.heap.objs.size) s → wpAny (model X.prog X.w) A (pyIter (.ref s1.heap.objs.size)) Q E s) →
      ["enumerate", "zip", "dict_itemiterator", "dict_reverseitemiterator", "odict_iterator", "itertools.zip_longest", "itertools.pairwise"].contains ty = false →
      PIE X pins σ tg R (.ref s1.heap.objs.size) { s1 with heap := s1.heap.push { cls := .type ty, data := .fields #[.str z t, .int 0 0] } } := fun ty W W0 hn => by
    refine ⟨s1.heap.objs.size, [s1.heap.objs.size], _, _, H1, rfl, I1.kept (t' := s1.toks) fun b o e => Heap.get?_push_of_some _ e, turn_str z t _ W W0 hn, ⟨_, Heap.get?_push_size _ rfl, rfl, rfl⟩, fun b hb => ?_, q⟩
    have e : b = s1.heap.objs.size := by simpa using hb
    subst e
    exact I1.fpOk (Nat.le_refl _) (I1.hok.fresh (Nat.le_refl _))
  cases ha : z.cps.all (· < 128)
  · exact wpAny_pyIter_wide ha (fin _ (fun A hA => Walks.strWide hA _ z t) (fun A i s Q E st h => wpAny_pyIter_striter_wide st h) (by decide))
  · exact wpAny_pyIter_ascii ha (fin _ (fun A hA => Walks.strAscii hA _ z t) (fun A i s Q E st h => wpAny_pyIter_striter_ascii st h) (by decide))

def Itz (K : PySem.W.Frag) (a b : Addr) : It :=
  ⟨fun i H => ∃ xs ys x y, SqL K H a xs ∧ SqL K H b ys ∧ xs[i]? = some x ∧ ys[i]? = some y,
   fun i H v H' => ∃ T x y, v = .ref T ∧ H T = none ∧ H' = upd H T (.tup [x, y]) ∧ (∀ xs, SqL K H a xs → xs[i]? = some x) ∧ ∀ ys, SqL K H b ys → ys[i]? = some y,
   fun i H => ∃ xs ys, SqL K H a xs ∧ SqL K H b ys ∧ (xs.length ≤ i ∨ ys.length ≤ i)⟩
def zipSt (z TI TO i1 i2 l1 l2 : Addr) (i : Nat) (h : Heap) : Prop :=
  IsZip h z TI TO .none ∧ IsPair h TI (.ref i1) (.ref i2) ∧ (∃ a b, IsPair h TO a b) ∧ h.IsListIter i1 l1 i ∧ h.IsListIter i2 l2 i
theorem turn_zip {P : Program} {w : World} {K : PySem.W.Frag} {elts : List Expr} {k : Nat} {pos : Pos} (z TI TO i1 i2 l1 l2 : Addr) (D : ZipApart z TI TO i1 i2 l1 l2) :
    Turn P w K (.Tuple elts k pos) (Itz K l1 l2) [z, TI, TO, i1, i2] z (zipSt z TI TO i1 i2 l1 l2) where
  mem := by simp
  obj := fun i h st b hb => by
    obtain ⟨h1, h2, ⟨_, _, h3⟩, ⟨o4, h4, _, d4⟩, ⟨o5, h5, _, d5⟩⟩ := st
    have hb' : b = z ∨ b = TI ∨ b = TO ∨ b = i1 ∨ b = i2 := by simpa using hb
    rcases hb' with e | e | e | e | e <;> subst e
    · exact ⟨_, h1, fun v e => by cases e⟩
    · exact ⟨_, h2, fun v e => by cases e⟩
    · exact ⟨_, h3, fun v e => by cases e⟩
    · exact ⟨_, h4, fun v e => by rw [d4] at e; cases e⟩
    · exact ⟨_, h5, fun v e => by rw [d5] at e; cases e⟩
  keep := fun i h h' st kk => by
    obtain ⟨h1, h2, ⟨a, b, h3⟩, h4, h5⟩ := st
    exact ⟨kk z (by simp) _ h1, kk TI (by simp) _ h2, ⟨a, b, kk TO (by simp) _ h3⟩, h4.at fun o e => kk i1 (by simp) o e, h5.at fun o e => kk i2 (by simp) o e⟩
  item := by
    intro X hP hw hK hc i pins s σ H E I hf st hg
    subst hP hw hK
    obtain ⟨xs, ys, x, y, hq1, hq2, hx, hy⟩ := hg
    obtain ⟨its1, rv1, p1, hz1⟩ := I.list hq1
    obtain ⟨its2, rv2, p2, hz2⟩ := I.list hq2
    obtain ⟨u1, hu1, ru1⟩ := rv1.get hx
    obtain ⟨u2, hu2, ru2⟩ := rv2.get hy
    obtain ⟨h1, h2, ⟨a, b, h3⟩, h4, h5⟩ := st
    have D' := D
    refine wpAny_pyNext_zip_item D h1 h2 h3 h4 h5 p1.isList p2.isList (x := u1) (y := u2) (by simpa using hu1) (by simpa using hu2) fun h' a1 a2 a3 a4 a5 a6 hk => ?_
    have lt : ∀ {c : Addr} {o : Obj}, s.heap.get? c = some o → c ≠ s.heap.objs.size := fun e => Nat.ne_of_lt (Heap.lt_size e)
    refine ⟨_, rfl, wpAny_letOwnedTupleGo_zip a1 fun h'' b1 sb => ?_⟩
    have nT : s.heap.objs.size ≠ z := Ne.symm (lt h1)
    have kk : ∀ b o, b ∉ [z, TI, TO, i1, i2] → s.heap.get? b = some o → h''.get? b = some o := fun b o hb e => by
      simp only [List.mem_cons, List.not_mem_nil, or_false, not_or] at hb
      exact (sb.2 b hb.1).trans (hk b o hb.1 hb.2.2.1 hb.2.2.2.1 hb.2.2.2.2 e)
    have I1 : Inv X pins σ H { s with heap := h'', toks := s.toks } := I.turnedL kk hf
    have hn : H s.heap.objs.size = none := I.hok.fresh (Nat.le_refl _)
    have fT : FpOk X pins H s.heap.objs.size := I.fpOk (Nat.le_refl _) hn
    have I2 : Inv X pins σ (upd H s.heap.objs.size (.tup [x, y])) { s with heap := h'', toks := s.toks } := I1.lay fT I.sz
      ⟨⟨by show 2 ≤ sizeLine; decide, _, (sb.2 _ nT).trans a5, rfl⟩, [u1, u2], .cons ru1 (.cons ru2 .nil), ⟨_, (sb.2 _ nT).trans a5, rfl, _, rfl⟩⟩
    refine ⟨.ref s.heap.objs.size, _, I2, rfl, ⟨_, x, y, rfl, hn, rfl, fun xs' hx' => by rw [I.list_inj hx' hq1]; exact hx, fun ys' hy' => by rw [I.list_inj hy' hq2]; exact hy⟩, ?_, fun b hb => ?_⟩
    · exact ⟨b1, (sb.2 _ D.TIz).trans (hk _ _ D.TIz D.TITO D.TIi1 D.TIi2 h2), ⟨_, _, (sb.2 _ D.TOz).trans a2⟩, a3.at fun o e => (sb.2 _ D.i1z).trans e, a4.at fun o e => (sb.2 _ D.i2z).trans e⟩
    · have hb' : b = z ∨ b = TI ∨ b = TO ∨ b = i1 ∨ b = i2 := by simpa using hb
      have ne : b ≠ s.heap.objs.size := by
        obtain ⟨o4, e4, _⟩ := h4
        obtain ⟨o5, e5, _⟩ := h5
        rcases hb' with e | e | e | e | e <;> subst e
        · exact lt h1
        · exact lt h2
        · exact lt h3
        · exact lt e4
        · exact lt e5
      rw [upd_ne ne]
      exact (hf b hb).1
  done := by
    intro X hP hw hK hc i pins s σ H E I hf st hg
    subst hP hw hK
    obtain ⟨xs, ys, hq1, hq2, hend⟩ := hg
    obtain ⟨its1, rv1, p1, hz1⟩ := I.list hq1
    obtain ⟨its2, rv2, p2, hz2⟩ := I.list hq2
    obtain ⟨h1, h2, ⟨a, b, h3⟩, h4, h5⟩ := st
    have l1 := rv1.length
    have l2 := rv2.length
    refine wpAny_pyNext_zip_end (I.ok.hd hc) D h1 h2 h3 h4 h5 p1.isList p2.isList (by
      rcases hend with e | e
      · exact .inl (by simp; omega)
      · exact .inr (by simp; omega)) fun h' hk => ⟨rfl, I.turnedL (t' := s.toks) (fun b o hb e => ?_) hf⟩
    simp only [List.mem_cons, List.not_mem_nil, or_false, not_or] at hb
    exact hk b o hb.1 hb.2.2.1 hb.2.2.2.1 hb.2.2.2.2 e
  self := fun A i s Q E st h => wpAny_pyIter_zip st.1 h
theorem ne_nat {a b : Nat} (h : a < b ∨ b < a) : a ≠ b := by omega
theorem apart_of (n a b : Nat) (h1 : a < n) (h2 : b < n) : ZipApart (n + 4) (n + 2) (n + 3) n (n + 1) a b := by
  constructor <;> (refine ne_nat ?_; omega)
def iZip (K : PySem.W.Frag) (ta : TA) : TI := fun σ H R => ta σ H fun vs H1 => ∃ a b, vs = [.ref a, .ref b] ∧ (∃ xs, SqL K H1 a xs) ∧ (∃ ys, SqL K H1 b ys) ∧ R (Itz K a b) H1
theorem pi_zip {X : Cx} {a b : Expr} {ta : TA} {p pos : Pos} {elts : List Expr} {k : Nat} {tp : Pos} (hg : Gl X "zip") (hm : X.mg "zip" = none) (hz : bootBuiltins "zip" = some (.type "zip")) (ha : PA X [a, b] ta) (hs : starEach [a, b] X.env = [(false, eval a X.env), (false, eval b X.env)] := by rfl) (hs2 : starEach [b] X.env = [(false, eval b X.env)] := by rfl) :
    PI X (.Tuple elts k tp) (.Call (.Name "zip" p) [a, b] [] pos) (iZip X.K ta) := by
  intro pins s σ H R I h
  refine Call_ (ld_blt I hg hm hz (PyProof.Rows.callWith_type1 (thn (ha pos pins s σ H _ I h) fun us s1 ⟨vs, H1, I1, r1, q1⟩ => ?_) (by rw [hs, hs2]) (by rw [hs2]; rfl)))
  obtain ⟨a1, a2, e, ⟨xs, hx⟩, ⟨ys, hy⟩, q⟩ := q1
  subst e
  obtain ⟨u1, u2, rfl, ra, rb⟩ := vals2 r1
  cases ra
  cases rb
  obtain ⟨its1, rv1, p1, _⟩ := I1.list hx
  obtain ⟨its2, rv2, p2, _⟩ := I1.list hy
  have lt1 : a1 < s1.heap.objs.size := by obtain ⟨o, n, e, _⟩ := p1; exact Heap.lt_size e
  have lt2 : a2 < s1.heap.objs.size := by obtain ⟨o, n, e, _⟩ := p2; exact Heap.lt_size e
  refine call_zip_2 p1.isList p2.isList fun h' z1 z2 z3 z4 z5 hsz hk => ?_
  refine wpAny_pyIter_zip z1 ?_
  refine ⟨s1.heap.objs.size + 4, [s1.heap.objs.size + 4, s1.heap.objs.size + 2, s1.heap.objs.size + 3, s1.heap.objs.size, s1.heap.objs.size + 1], _, _, H1, rfl, I1.kept (t' := s1.toks) fun b o e => hk b o e,
    turn_zip _ _ _ _ _ a1 a2 ?_, ⟨z1, z2, ⟨_, _, z3⟩, z4, z5⟩, fun b hb => ?_, q⟩
  · exact apart_of _ _ _ lt1 lt2
  · have hle : s1.heap.objs.size ≤ b := by
      have hb' : b = s1.heap.objs.size + 4 ∨ b = s1.heap.objs.size + 2 ∨ b = s1.heap.objs.size + 3 ∨ b = s1.heap.objs.size ∨ b = s1.heap.objs.size + 1 := by simpa using hb
      rcases hb' with rfl | rfl | rfl | rfl | rfl <;> simp
    exact I1.fpOk hle (I1.hok.fresh hle)
end L2

namespace L2
open PySem PySem.Spec PyProof.Rows

structure LcS (esc scope : Scope) : Prop where
  kind : scope.kind = .function
  cell : ∀ y ∈ scope.names, y.2 ≠ .cell
  names : ∀ y ∈ scope.names, y.2 = .local → scope.names.lookup y.1 = some .local
  free : ∀ y ∈ scope.names, y.2 = .free → esc.names.lookup y.1 = some .cell ∨ esc.names.lookup y.1 = some .free
theorem lcOk {X : Cx} {scope : Scope} {fv : List (Nat × Str)} (esc : Scope) (he : X.env.scope = esc) (hc : X.calm = true) (h : LcS esc scope) (hf : FvOk X (relabel scope X.env) fv) : LcOk X scope fv :=
  ⟨hc, h.kind, h.cell, h.names, fun y hy hk => by subst he; exact h.free y hy hk, hf⟩

theorem call_isi {X : Cx} : CallR X (.builtin "isinstance") (fun xs H Q => ∃ (x : V) (c : String) (t : Value) (b : Bool), xs = [x, .ty c] ∧ TyOf X.K H x t ∧ PySem.W.kitOne X.K t (.type c) = some b ∧ Q (.bl b) H) := by
  intro pins s σ H xs us Q I r h
  obtain ⟨x, c, t, b, rfl, ty, e, q⟩ := h
  obtain ⟨u, w', rfl, rx, ry⟩ := vals2 r
  cases (show w' = Value.type c from ry)
  exact isinst_ok I rx ty e fun tk => ⟨.bl b, H, I.tok _, rfl, q⟩
theorem kit_same {K : PySem.W.Frag} (c : String) : PySem.W.kitOne K (.type c) (.type c) = some true := by
  unfold PySem.W.kitOne
  rw [if_pos (by simp)]

theorem Same.seqT {K : PySem.W.Frag} {H H' : Hp} {a : Addr} {xs : List V} (e : Same H H') (h : SqT K H a xs) : SqT K H' a xs := by
  rcases h with (h | ⟨o, h⟩) | h
  · exact .inl (.inl (e _ _ h))
  · exact .inl (.inr ⟨o, e _ _ h⟩)
  · exact .inr h
theorem same_new {H : Hp} {p : Addr} (h : H p = none) (o : HO) : Same H (upd H p o) := fun b u e => by
  rw [upd_ne (ne_of_none e h)]
  exact e

def LcN (n : Nat) (R : Nat → List V → Hp → Prop) (sok : St → Prop) (i : Nat) (zs : List V) (σ3 : St) (H5 : Hp) : Prop := ∃ m', m' < n - i ∧ (m' = n - (i + 1) ∧ i + 1 ≤ n ∧ sok σ3 ∧ R (i + 1) zs H5)
theorem LcN.of {n : Nat} {R : Nat → List V → Hp → Prop} {sok : St → Prop} {i : Nat} {zs : List V} {σ3 : St} {H5 : Hp} (lt : i < n) (a : sok σ3) (b : R (i + 1) zs H5) : LcN n R sok i zs σ3 H5 := ⟨n - (i + 1), by omega, rfl, lt, a, b⟩
theorem lc_by {J : It} {st : St} {g : TG} {te : TE} {Q : VK} {H1 : Hp} (n : Nat) (R : Nat → List V → Hp → Prop) (sok : St → Prop) (hn : n ≤ sizeLine) (h0 : R 0 [] H1) (hσ : sok st)
    (len : ∀ i ys H, R i ys H → ys.length ≤ i)
    (go : ∀ i ys σ' H', i < n → R i ys H' → sok σ' → J.go i H' ∧ ∀ x H2, J.yld i H' x H2 → g x σ' H2 fun σ3 H3 => te σ3 H3 fun v H5 => LcN n R sok i (ys ++ [v]) σ3 H5)
    (done : ∀ ys H', R n ys H' → J.stop n H' ∧ ∀ p, H' p = none → Q (.ref p) (upd H' p (.lst ys))) : LcGo J st g tYes te Q H1 := by
  refine ⟨fun i m ys σ' H' => m = n - i ∧ i ≤ n ∧ sok σ' ∧ R i ys H', ⟨n, by simp, Nat.zero_le _, hσ, h0⟩, ?_⟩
  rintro i m ys σ' H' ⟨rfl, hi, hs, hr⟩
  have hl := len i ys H' hr
  refine ⟨by omega, ?_⟩
  by_cases lt : i < n
  · obtain ⟨g1, g2⟩ := go i ys σ' H' lt hr hs
    exact .inr ⟨g1, fun x H2 y => g2 x H2 y⟩
  · have e : i = n := by omega
    subst e
    exact .inl (done ys H' hr)
end L2

namespace L2
open PySem PySem.Spec PyProof.Rows
section
variable {κ : Type} [DecidableEq κ]
def valV (kvs : List (κ × V)) (k : κ) : Option V := (kvs.find? fun kv => decide (kv.1 = k)).map (·.2)
def putK (kvs : List (κ × V)) (k : κ) (v : V) : List (κ × V) :=
  if (kvs.any fun kv => decide (kv.1 = k)) = true then kvs.map (fun kv => if kv.1 = k then (kv.1, v) else kv) else kvs ++ [(k, v)]
def dropK (kvs : List (κ × V)) (k : κ) : List (κ × V) := kvs.filter fun kv => decide (kv.1 ≠ k)

theorem valV_nil {k : κ} : valV ([] : List (κ × V)) k = none := rfl
theorem valV_pos {p : κ × V} {r : List (κ × V)} {k : κ} (e : p.1 = k) : valV (p :: r) k = some p.2 := by simp [valV, List.find?_cons, e]
theorem valV_neg {p : κ × V} {r : List (κ × V)} {k : κ} (e : ¬ p.1 = k) : valV (p :: r) k = valV r k := by simp [valV, List.find?_cons, e]
theorem valV_any (k : κ) : ∀ kvs : List (κ × V), (kvs.any fun kv => decide (kv.1 = k)) = (valV kvs k).isSome
  | [] => rfl
  | p :: r => by
    rw [List.any_cons]
    by_cases e : p.1 = k
    · simp only [valV_pos e, decide_eq_true e, Bool.true_or, Option.isSome_some]
    · rw [valV_neg e, decide_eq_false e, Bool.false_or]; exact valV_any k r
theorem valV_map (k j : κ) (y : V) : ∀ kvs : List (κ × V), valV (kvs.map fun kv => if kv.1 = k then (kv.1, y) else kv) j = (valV kvs j).map fun x => if j = k then y else x
  | [] => rfl
  | p :: r => by
    have ih := valV_map k j y r
    rw [List.map_cons]
    by_cases h : p.1 = k
    · rw [if_pos h]
      by_cases e : p.1 = j
      · rw [valV_pos (p := (p.1, y)) e, valV_pos e, Option.map_some, if_pos (e.symm.trans h)]
      · rw [valV_neg (p := (p.1, y)) e, valV_neg e, ih]
    · rw [if_neg h]
      by_cases e : p.1 = j
      · rw [valV_pos (p := p) e, valV_pos e, Option.map_some, if_neg (fun z => h (e.trans z))]
      · rw [valV_neg (p := p) e, valV_neg e, ih]
theorem valV_snoc (k j : κ) (y : V) : ∀ kvs : List (κ × V), valV kvs k = none → valV (kvs ++ [(k, y)]) j = if j = k then some y else valV kvs j
  | [], _ => by
    by_cases e : k = j
    · rw [if_pos e.symm]; exact valV_pos (p := (k, y)) e
    · rw [if_neg (fun z => e z.symm)]; exact valV_neg (p := (k, y)) e
  | p :: r, hn => by
    rw [List.cons_append]
    have hk : ¬ p.1 = k := fun z => by rw [valV_pos z] at hn; cases hn
    rw [valV_neg hk] at hn
    have ih := valV_snoc k j y r hn
    by_cases e : p.1 = j
    · rw [valV_pos e, valV_pos e, if_neg (fun z => hk (e.trans z))]
    · rw [valV_neg e, valV_neg e, ih]
theorem valV_put (kvs : List (κ × V)) (k j : κ) (y : V) : valV (putK kvs k y) j = if j = k then some y else valV kvs j := by
  unfold putK
  by_cases a : (kvs.any fun kv => decide (kv.1 = k)) = true
  · rw [if_pos a, valV_map]
    rw [valV_any] at a
    by_cases e : j = k
    · obtain ⟨x, hx⟩ := Option.isSome_iff_exists.mp a
      rw [if_pos e, e, hx, Option.map_some, if_pos rfl]
    · rw [if_neg e]
      cases valV kvs j with
      | none => rfl
      | some x => rw [Option.map_some, if_neg e]
  · rw [if_neg a]
    refine valV_snoc k j y kvs ?_
    rw [valV_any] at a
    cases q : valV kvs k with
    | none => rfl
    | some x => rw [q] at a; exact (a rfl).elim
theorem length_putK (kvs : List (κ × V)) (k : κ) (v : V) : (putK kvs k v).length ≤ kvs.length + 1 := by
  unfold putK
  split
  · rw [List.length_map]; omega
  · rw [List.length_append, List.length_cons, List.length_nil]; omega
theorem putK_new {kvs : List (κ × V)} {k : κ} (v : V) (h : valV kvs k = none) : putK kvs k v = kvs ++ [(k, v)] := by
  unfold putK
  rw [valV_any, h]
  exact if_neg (by decide)

theorem RelO.isSome_eq {o : Option V} {u : Option Value} (r : RelO o u) : o.isSome = u.isSome := by
  cases o with
  | none => cases u with
    | none => rfl
    | some _ => exact (show False from r).elim
  | some _ => cases u with
    | none => exact (show False from r).elim
    | some _ => rfl
theorem RelO.getD {o : Option V} {u : Option Value} {d : V} {d' : Value} (r : RelO o u) (rd : RelV d d') : RelV (o.getD d) (u.getD d') := by
  cases o with
  | none => cases u with
    | none => exact rd
    | some _ => exact (show False from r).elim
  | some _ => cases u with
    | none => exact (show False from r).elim
    | some _ => exact r

theorem KV.val {kvs : List (κ × V)} {vs : List (κ × Value)} (r : KV kvs vs) (k : κ) : RelO (valV kvs k) (valueAt vs k) := by
  unfold KV at r
  induction r with
  | nil => exact True.intro
  | @cons p q ps qs h t ih =>
    obtain ⟨h1, h2⟩ := h
    by_cases e : p.1 = k
    · have e' : q.1 = k := h1.symm.trans e
      have b : valueAt (q :: qs) k = some q.2 := by simp [valueAt, List.find?_cons, e']
      rw [valV_pos e, b]; exact h2
    · have e' : ¬ q.1 = k := fun z => e (h1.trans z)
      have b : valueAt (q :: qs) k = valueAt qs k := by simp [valueAt, List.find?_cons, e']
      rw [valV_neg e, b]; exact ih
theorem KV.any {kvs : List (κ × V)} {vs : List (κ × Value)} (r : KV kvs vs) (k : κ) : (kvs.any fun kv => decide (kv.1 = k)) = vs.any fun kv => decide (kv.1 = k) := by
  unfold KV at r
  induction r with
  | nil => rfl
  | cons h t ih => rw [List.any_cons, List.any_cons, ih, h.1]
theorem KV.repl {kvs : List (κ × V)} {vs : List (κ × Value)} (r : KV kvs vs) (k : κ) {y : V} {u : Value} (ry : RelV y u) :
    KV (kvs.map fun kv => if kv.1 = k then (kv.1, y) else kv) (vs.map fun kv => if kv.1 = k then (kv.1, u) else kv) := by
  unfold KV at r ⊢
  induction r with
  | nil => exact .nil
  | @cons p q ps qs h t ih =>
    rw [List.map_cons, List.map_cons]
    refine .cons ?_ ih
    obtain ⟨h1, h2⟩ := h
    by_cases e : p.1 = k
    · rw [if_pos e, if_pos (h1.symm.trans e)]; exact ⟨h1, ry⟩
    · rw [if_neg e, if_neg (fun z => e (h1.trans z))]; exact ⟨h1, h2⟩
theorem KV.put {kvs : List (κ × V)} {vs : List (κ × Value)} (r : KV kvs vs) (k : κ) {y : V} {u : Value} (ry : RelV y u) : KV (putK kvs k y) (stored vs k u) := by
  unfold putK stored
  rw [r.any k]
  by_cases e : (vs.any fun kv => decide (kv.1 = k)) = true
  · rw [if_pos e, if_pos e]; exact r.repl k ry
  · rw [if_neg e, if_neg e]; exact Paired.snoc r ⟨rfl, ry⟩
theorem KV.drop {kvs : List (κ × V)} {vs : List (κ × Value)} (r : KV kvs vs) (k : κ) : KV (dropK kvs k) (without vs k) := by
  unfold KV at r ⊢
  unfold dropK without
  induction r with
  | nil => exact .nil
  | @cons p q ps qs h t ih =>
    obtain ⟨h1, h2⟩ := h
    rw [List.filter_cons, List.filter_cons]
    by_cases e : p.1 = k
    · have a : ¬ decide (p.1 ≠ k) = true := by simp [e]
      have b : ¬ decide (q.1 ≠ k) = true := by simp [h1.symm.trans e]
      rw [if_neg a, if_neg b]; exact ih
    · have e' : ¬ q.1 = k := fun z => e (h1.trans z)
      have a : decide (p.1 ≠ k) = true := by simp [e]
      have b : decide (q.1 ≠ k) = true := by simp [e']
      rw [if_pos a, if_pos b]; exact .cons ⟨h1, h2⟩ ih
theorem KV.keys {kvs : List (κ × V)} {vs : List (κ × Value)} (r : KV kvs vs) : kvs.map (·.1) = vs.map (·.1) := by
  unfold KV at r
  induction r with
  | nil => rfl
  | cons h t ih => rw [List.map_cons, List.map_cons, ih, h.1]
theorem KV.length {kvs : List (κ × V)} {vs : List (κ × Value)} (r : KV kvs vs) : kvs.length = vs.length := Paired.length r
theorem dropK_le (kvs : List (κ × V)) (k : κ) : (dropK kvs k).length ≤ kvs.length := List.length_filter_le _ _
end


theorem kV_is {P : Program} {w : World} {k : Key} {u : Value} (r : RelV (kV k) u) : (mixKind P w).is k u = true := by
  cases k with
  | inl i => obtain ⟨t, e⟩ := (show ∃ t, u = Value.int i t from r); subst e; exact mixKind_int P w i t
  | inr x => obtain ⟨t, e⟩ := (show ∃ t, u = Value.str x t from r); subst e; exact mixKind_str P w x t
theorem kV_inj {a b : Key} (e : kV a = kV b) : a = b := by
  cases a with
  | inl i => cases b with
    | inl j => have e' : V.int i = V.int j := e; injection e' with e'; rw [e']
    | inr y => exact nomatch (show V.int i = V.str y from e)
  | inr x => cases b with
    | inl j => exact nomatch (show V.str x = V.int j from e)
    | inr y => have e' : V.str x = V.str y := e; injection e' with e'; rw [e']
theorem kVs_inj : ∀ {a b : List Key}, a.map kV = b.map kV → a = b
  | [], [], _ => rfl
  | [], _ :: _, e => by simp at e
  | _ :: _, [], e => by simp at e
  | x :: xs, y :: ys, e => by
    rw [List.map_cons, List.map_cons] at e
    injection e with e1 e2
    rw [kV_inj e1, kVs_inj e2]
theorem items_are {P : Program} {w : World} : ∀ {ks : List Key} {us : List Value}, Vals (ks.map kV) us → ItemsAre (mixKind P w) ks us
  | [], _, r => by rw [List.map_nil] at r; cases r; exact .nil
  | k :: ks, _, r => by
    rw [List.map_cons] at r
    cases r with
    | cons h t => exact .cons (kV_is h) (items_are t)

abbrev KT (H : Hp) : List (List Key × V) → List (List Key × Addr × Value) → Prop := Paired fun p q => p.1 = q.1 ∧ H q.2.1 = some (.tup (p.1.map kV)) ∧ RelV p.2 q.2.2
theorem KT.val {H : Hp} {kvs : List (List Key × V)} {xs : List (List Key × Addr × Value)} (r : KT H kvs xs) (k : List Key) : RelO (valV kvs k) ((atKey xs k).map (·.2)) := by
  induction r with
  | nil => exact True.intro
  | @cons p q ps qs h t ih =>
    obtain ⟨h1, _, h2⟩ := h
    by_cases e : p.1 = k
    · have e' : q.1 = k := h1.symm.trans e
      have b : atKey (q :: qs) k = some q.2 := by simp [atKey, List.find?_cons, e']
      rw [valV_pos e, b]; exact h2
    · have e' : ¬ q.1 = k := fun z => e (h1.trans z)
      have b : atKey (q :: qs) k = atKey qs k := by simp [atKey, List.find?_cons, e']
      rw [valV_neg e, b]; exact ih
theorem KT.repl {H : Hp} {kvs : List (List Key × V)} {xs : List (List Key × Addr × Value)} (r : KT H kvs xs) (k : List Key) {y : V} {u : Value} (ry : RelV y u) :
    KT H (kvs.map fun kv => if kv.1 = k then (kv.1, y) else kv) (xs.map (putAt k u)) := by
  induction r with
  | nil => exact .nil
  | @cons p q ps qs h t ih =>
    rw [List.map_cons, List.map_cons]
    refine .cons ?_ ih
    obtain ⟨h1, h2, h3⟩ := h
    unfold putAt
    by_cases e : p.1 = k
    · rw [if_pos e, if_pos (h1.symm.trans e)]; exact ⟨h1, h2, ry⟩
    · rw [if_neg e, if_neg (fun z => e (h1.trans z))]; exact ⟨h1, h2, h3⟩
theorem KT.put {H : Hp} {kvs : List (List Key × V)} {xs : List (List Key × Addr × Value)} (r : KT H kvs xs) (k : List Key) {b : Addr} {y : V} {u : Value} (hb : H b = some (.tup (k.map kV))) (ry : RelV y u) :
    KT H (putK kvs k y) (storedH xs k b u) := by
  have e : (kvs.any fun kv => decide (kv.1 = k)) = (atKey xs k).isSome := by
    rw [valV_any, (r.val k).isSome_eq, Option.isSome_map]
  unfold putK storedH
  rw [e]
  by_cases q : (atKey xs k).isSome = true
  · rw [if_pos q, if_pos q]; exact r.repl k ry
  · rw [if_neg q, if_neg q]; exact Paired.snoc r ⟨rfl, hb, ry⟩
theorem KT.keeps {H H' : Hp} {kvs : List (List Key × V)} {xs : List (List Key × Addr × Value)} (r : KT H kvs xs) (ht : ∀ b ys, H b = some (.tup ys) → H' b = some (.tup ys)) : KT H' kvs xs :=
  Paired.mapP r fun _ _ z => ⟨z.1, ht _ _ z.2.1, z.2.2⟩

section
variable {P : Program} {w : World} {H : Hp} {h : Heap} {a : Addr}
theorem rd_of {u : HO} (ok : HOk P w H h) (e : Rd H a u) : ObjOk P w H h a u := e.ok ok
theorem dk_rd {kvs : List (Key × V)} (ok : HOk P w H h) (e : Rd H a (.dK kvs)) : kvs.length ≤ sizeLine ∧ (a == sysModules) = false ∧ ∃ vs, KV kvs vs ∧ h.DictOf (mixKind P w) a vs :=
  show ObjOk P w H h a (.dK kvs) from rd_of ok e
theorem dk_of {kvs : List (Key × V)} (ok : HOk P w H h) (e : H a = some (.dK kvs)) : kvs.length ≤ sizeLine ∧ (a == sysModules) = false ∧ ∃ vs, KV kvs vs ∧ h.DictOf (mixKind P w) a vs := dk_rd ok (.inl e)
theorem key_of {ks : List Key} (ok : HOk P w H h) (e : H a = some (.tup (ks.map kV))) : (tupleKind (mixKind P w)).is h ks a := by
  obtain ⟨_, its, r, o, h1, h2, n, h3⟩ := (show ObjOk P w H h a (.tup (ks.map kV)) from ok a _ e)
  exact ⟨o, its.toArray, n, h1, h2, h3, by simpa using items_are r⟩
theorem dt_rd {kvs : List (List Key × V)} (ok : HOk P w H h) (e : Rd H a (.dT kvs)) : kvs.length ≤ sizeLine ∧ (a == sysModules) = false ∧
    ∃ xs, KT H kvs xs ∧ h.DictOfH (tupleKind (mixKind P w)) a xs := by
  obtain ⟨z, y, xs, r, o, es, ep, h1, h2, h3, h4, h5⟩ := (show ObjOk P w H h a (.dT kvs) from rd_of ok e)
  refine ⟨z, y, xs, r, o, es, ep, h1, h2, h3, h4, fun x hx => ?_, h5⟩
  have all : ∀ {l : List (List Key × V)} {m : List (List Key × Addr × Value)}, KT H l m → ∀ x ∈ m, (tupleKind (mixKind P w)).is h x.1 x.2.1 := by
    intro l m q
    induction q with
    | nil => intro x hx; exact nomatch hx
    | @cons p q ps qs hq t ih =>
      intro x hx
      rcases List.mem_cons.mp hx with e | hx
      · subst e
        exact key_of ok (by rw [← hq.1]; exact hq.2.1)
      · exact ih x hx
  exact all r x hx
theorem dt_of {kvs : List (List Key × V)} (ok : HOk P w H h) (e : H a = some (.dT kvs)) : kvs.length ≤ sizeLine ∧ (a == sysModules) = false ∧
    ∃ xs, KT H kvs xs ∧ h.DictOfH (tupleKind (mixKind P w)) a xs := dt_rd ok (.inl e)
end

def DGet (H : Hp) (a : Addr) (y : V) (r : Option V) : Prop :=
  (∃ kvs k, Rd H a (.dK kvs) ∧ y = kV k ∧ r = valV kvs k) ∨ ∃ kvs k b, Rd H a (.dT kvs) ∧ y = .ref b ∧ H b = some (.tup (k.map kV)) ∧ r = valV kvs k
def DPut (H : Hp) (a : Addr) (y v : V) (H' : Hp) : Prop :=
  (∃ kvs k, H a = some (.dK kvs) ∧ y = kV k ∧ kvs.length < sizeLine ∧ H' = upd H a (.dK (putK kvs k v))) ∨
  ∃ kvs k b, H a = some (.dT kvs) ∧ y = .ref b ∧ H b = some (.tup (k.map kV)) ∧ kvs.length < sizeLine ∧ H' = upd H a (.dT (putK kvs k v))
theorem DGet.k {H : Hp} {a : Addr} {kvs : List (Key × V)} {k : Key} (e : H a = some (.dK kvs)) : DGet H a (kV k) (valV kvs k) := .inl ⟨kvs, k, .inl e, rfl, rfl⟩
theorem DGet.t {H : Hp} {a b : Addr} {kvs : List (List Key × V)} {k : List Key} (e : H a = some (.dT kvs)) (eb : H b = some (.tup (k.map kV))) : DGet H a (.ref b) (valV kvs k) := .inr ⟨kvs, k, b, .inl e, rfl, eb, rfl⟩
theorem DPut.k {H : Hp} {a : Addr} {kvs : List (Key × V)} {k : Key} {v : V} (e : H a = some (.dK kvs)) (hl : kvs.length < sizeLine) : DPut H a (kV k) v (upd H a (.dK (putK kvs k v))) := .inl ⟨kvs, k, e, rfl, hl, rfl⟩
theorem DPut.t {H : Hp} {a b : Addr} {kvs : List (List Key × V)} {k : List Key} {v : V} (e : H a = some (.dT kvs)) (eb : H b = some (.tup (k.map kV))) (hl : kvs.length < sizeLine) :
    DPut H a (.ref b) v (upd H a (.dT (putK kvs k v))) := .inr ⟨kvs, k, b, e, rfl, eb, hl, rfl⟩


section
variable {X : Cx} {pins : List (Addr × Obj)} {σ : St} {H : Hp} {s : Shared} {a : Addr} {y v : V} {u r : Value} {o : Option V} {A : Around} {E : Value → Shared → Prop}

theorem Inv.big (I : Inv X pins σ H s) : sysModules < s.heap.objs.size := by
  have h : mainGlobals < s.heap.objs.size := (I.mod.glob.keeps I.bk).lt
  exact Nat.lt_trans (by decide) h

theorem d_getItem {Q : Value → Shared → Prop} (hu : A.units + 1 < cLine) (I : Inv X pins σ H s) (g : DGet H a y (some v)) (ry : RelV y u) (h : ∀ w' s', Inv X pins σ H s' → RelV v w' → Q w' s') :
    wpAny (model X.prog X.w) A (getItem (.ref a) u) Q E s := by
  rcases g with ⟨kvs, k, e, ey, l⟩ | ⟨kvs, k, b, e, ey, eb, l⟩
  · subst ey
    obtain ⟨z, hd, vs, rel, dd⟩ := dk_rd I.hok e
    obtain ⟨w', hw, rw'⟩ := RelO.some_of (v := v) (o := valueAt vs k) (by rw [l]; exact rel.val k)
    exact wpAny_getItem_of (kV_is ry) dd.mapOf hw (h w' _ (I.tok _) rw')
  · subst ey
    cases (show u = Value.ref b from ry)
    obtain ⟨z, hd, xs, rel, dd⟩ := dt_rd I.hok e
    obtain ⟨w', hw, rw'⟩ := RelO.some_of (v := v) (o := (atKey xs k).map (·.2)) (by rw [l]; exact rel.val k)
    obtain ⟨p, hp, hp2⟩ := Option.map_eq_some_iff.mp hw
    refine wpAny_getItem_heap (tupleKind_room_in1 hu) (key_of I.hok eb) dd hp ?_
    rw [hp2]
    exact h w' _ (I.tok _) rw'
theorem d_in {Q : Value → Shared → Prop} (hu : A.units + 1 < cLine) (I : Inv X pins σ H s) (g : DGet H a y o) (ry : RelV y u) (h : ∀ s', Inv X pins σ H s' → Q (.bool o.isSome) s') :
    wpAny (model X.prog X.w) A (compareOp .In u (.ref a)) Q E s := by
  rcases g with ⟨kvs, k, e, ey, l⟩ | ⟨kvs, k, b, e, ey, eb, l⟩
  · subst ey
    obtain ⟨z, hd, vs, rel, dd⟩ := dk_rd I.hok e
    refine wpAny_in_of (kV_is ry) hd dd.mapOf ?_
    rw [← (rel.val k).isSome_eq, ← l]
    exact h _ (I.tok _)
  · subst ey
    cases (show u = Value.ref b from ry)
    obtain ⟨z, hd, xs, rel, dd⟩ := dt_rd I.hok e
    refine wpAny_in_heap (tupleKind_room_in1 hu) (key_of I.hok eb) hd dd ?_
    have q := (rel.val k).isSome_eq
    rw [Option.isSome_map] at q
    rw [← q, ← l]
    exact h _ (I.tok _)
theorem d_notIn {Q : Value → Shared → Prop} (hu : A.units + 1 < cLine) (I : Inv X pins σ H s) (g : DGet H a y o) (ry : RelV y u) (h : ∀ s', Inv X pins σ H s' → Q (.bool (!o.isSome)) s') :
    wpAny (model X.prog X.w) A (compareOp .NotIn u (.ref a)) Q E s := by
  rcases g with ⟨kvs, k, e, ey, l⟩ | ⟨kvs, k, b, e, ey, eb, l⟩
  · subst ey
    obtain ⟨z, hd, vs, rel, dd⟩ := dk_rd I.hok e
    refine wpAny_notIn_of (kV_is ry) hd dd.mapOf ?_
    rw [← (rel.val k).isSome_eq, ← l]
    exact h _ (I.tok _)
  · subst ey
    cases (show u = Value.ref b from ry)
    obtain ⟨z, hd, xs, rel, dd⟩ := dt_rd I.hok e
    refine wpAny_notIn_heap (tupleKind_room_in1 hu) (key_of I.hok eb) hd dd ?_
    have q := (rel.val k).isSome_eq
    rw [Option.isSome_map] at q
    rw [← q, ← l]
    exact h _ (I.tok _)
theorem d_write {h' : Heap} {t' : Nat} {ob : HO} (I : Inv X pins σ H s) (mu : Mut (H a)) (hs : Heap.SameBut a s.heap h') (he : ∃ q, h'.get? a = some q) (new : ObjOk X.prog X.w (upd H a ob) h' a ob) :
    Inv X pins σ (upd H a ob) { s with heap := h', toks := t' } :=
  I.write (x := a) (e := a) mu (.inl rfl) (fun b q hb z => (hs.2 b hb).trans z) he new
theorem dk_new {P : Program} {w : World} {H' : Hp} {h' : Heap} {kvs : List (Key × V)} {vs : List (Key × Value)} (z : kvs.length ≤ sizeLine) (hd : (a == sysModules) = false) (rel : KV kvs vs) (dd : h'.DictOf (mixKind P w) a vs) :
    ObjOk P w H' h' a (.dK kvs) := ⟨z, hd, vs, rel, dd⟩
theorem d_setItem {H' : Hp} {Q : Unit → Shared → Prop} (hu : A.units + 1 < cLine) (I : Inv X pins σ H s) (g : DPut H a y v H') (ry : RelV y u) (rv : RelV v r) (h : ∀ s', Inv X pins σ H' s' → Q () s') :
    wpAny (model X.prog X.w) A (setItem (.ref a) u r) Q E s := by
  rcases g with ⟨kvs, k, e, ey, l, eH⟩ | ⟨kvs, k, b, e, ey, eb, l, eH⟩
  · subst ey eH
    obtain ⟨z, hd, vs, rel, dd⟩ := dk_of I.hok e
    have hz : vs.length ≤ sizeLine := by rw [← rel.length]; exact z
    have hl : (putK kvs k v).length ≤ sizeLine := by have := length_putK kvs k v; omega
    refine wpAny_setItem_pairs (hsz := hz) (kV_is ry) dd fun h' dd' hs => h _ ?_
    have he : ∃ q, h'.get? a = some q := let ⟨q, _, _, hq, _⟩ := dd'; ⟨q, hq⟩
    exact d_write I (by rw [e]; exact True.intro) hs he (dk_new hl hd (rel.put k rv) dd')
  · subst ey eH
    cases (show u = Value.ref b from ry)
    obtain ⟨z, hd, xs, rel, dd⟩ := dt_of I.hok e
    have hz : xs.length ≤ sizeLine := by rw [← Paired.length rel]; exact z
    have hl : (putK kvs k v).length ≤ sizeLine := by have := length_putK kvs k v; omega
    refine wpAny_setItem_heap (hsz := hz) (tupleKind_room_in1 hu) (key_of I.hok eb) dd fun h' dd' hs => h _ ?_
    obtain ⟨q, es, ep, hq, h2, h3, h4, _, h5⟩ := dd'
    refine d_write I (by rw [e]; exact True.intro) hs ⟨q, hq⟩ ⟨hl, hd, _, (rel.put k eb rv).keeps fun c ys ec => ?_, q, es, ep, hq, h2, h3, h4, h5⟩
    rw [upd_ne (ne_of ec e (fun z => nomatch z))]
    exact ec
end

section
variable {X : Cx} {pins : List (Addr × Obj)} {σ : St} {H : Hp} {s : Shared} {a : Addr} {kvs : List (Key × V)} {k : Key} {u : Value} {A : Around} {E : Value → Shared → Prop}
theorem d_len {Q : Value → Shared → Prop} (I : Inv X pins σ H s) (e : Rd H a (.dK kvs)) (h : ∀ t s', Inv X pins σ H s' → Q (.int kvs.length t) s') : wpAny (model X.prog X.w) A (call (.builtin "len") [.ref a]) Q E s := by
  obtain ⟨z, hd, vs, rel, dd⟩ := dk_rd I.hok e
  refine call_len_dict hd dd (by rw [← rel.length]; rw [sizeLine_eq] at z; omega) ?_
  rw [← rel.length]
  exact h _ _ (I.tok _)
end
theorem dk_empty {P : Program} {w : World} {H : Hp} (h : Heap) (hb : sysModules < h.objs.size) : ObjOk P w H (h.push { cls := .type "dict", data := .dict #[] }) h.objs.size (.dK []) :=
  ⟨Nat.zero_le _, beq_eq_false_iff_ne.mpr (Ne.symm (Nat.ne_of_lt hb)), [], .nil, Heap.DictOf.new h⟩
theorem dt_empty {P : Program} {w : World} {H : Hp} (h : Heap) (hb : sysModules < h.objs.size) : ObjOk P w H (h.push { cls := .type "dict", data := .dict #[] }) h.objs.size (.dT []) :=
  ⟨Nat.zero_le _, beq_eq_false_iff_ne.mpr (Ne.symm (Nat.ne_of_lt hb)), [], .nil, _, #[], 0, Heap.get?_push_size _ rfl, ⟨rfl, rfl, rfl⟩, rfl, rfl, List.nodup_nil⟩
def IsD (H : Hp) (a : Addr) : Prop := (∃ kvs, Rd H a (.dK kvs)) ∨ ∃ kvs, Rd H a (.dT kvs)
theorem isD_at {X : Cx} {pins : List (Addr × Obj)} {σ : St} {H : Hp} {s : Shared} {a : Addr} (I : Inv X pins σ H s) (d : IsD H a) :
    s.TypeIs (.ref a) "dict" ∧ (∀ b, Value.ref a = .ref b → ∃ ob, s.heap.get? b = some ob ∧ ob.dict = none) ∧ (a == sysModules) = false := by
  rcases d with ⟨kvs, e⟩ | ⟨kvs, e⟩
  · obtain ⟨_, hd, vs, _, dd⟩ := dk_rd I.hok e
    refine ⟨dd.typeIs, fun b q => ?_, hd⟩
    cases q
    obtain ⟨ob, _, _, h1, h2, _⟩ := dd
    exact ⟨ob, h1, h2.2.1⟩
  · obtain ⟨_, hd, xs, _, dd⟩ := dt_rd I.hok e
    refine ⟨dd.typeIs, fun b q => ?_, hd⟩
    cases q
    obtain ⟨ob, _, _, h1, h2, _⟩ := dd
    exact ⟨ob, h1, h2.2.1⟩

section
variable {X : Cx} {pins : List (Addr × Obj)} {σ : St} {H : Hp} {s : Shared} {a : Addr} {y d : V} {u r : Value} {o : Option V} {A : Around} {E : Value → Shared → Prop}
theorem d_get1 {Q : Value → Shared → Prop} (hu : A.units + 1 < cLine) (I : Inv X pins σ H s) (g : DGet H a y o) (ry : RelV y u) (h : ∀ w' s', Inv X pins σ H s' → RelV (o.getD .non) w' → Q w' s') :
    wpAny (model X.prog X.w) A (call (.builtin "dict.get") [.ref a, u]) Q E s := by
  rcases g with ⟨kvs, k, e, ey, l⟩ | ⟨kvs, k, b, e, ey, eb, l⟩
  · subst ey
    obtain ⟨z, hd, vs, rel, dd⟩ := dk_rd I.hok e
    refine call_meetsIn PySem.F.slot_dict_get dd.typeIs PySem.F.entry_dict_get (PySem.F.args_dict_get_2 _ _) (meets_dict_get (mixKind X.prog X.w) a (kV_is ry) hd) ⟨_, dd.mapOf, h _ _ (I.tok _) ?_⟩
    rw [l]
    exact (rel.val k).getD rfl
  · subst ey
    cases (show u = Value.ref b from ry)
    obtain ⟨z, hd, xs, rel, dd⟩ := dt_rd I.hok e
    refine call_meetsIn PySem.F.slot_dict_get dd.typeIs PySem.F.entry_dict_get (PySem.F.args_dict_get_2 _ _) (meetsH_dict_get (tupleKind (mixKind X.prog X.w)) a b hd) ⟨tupleKind_room_in1 hu, k, xs, key_of I.hok eb, dd, h _ _ (I.tok _) ?_⟩
    rw [l]
    exact (rel.val k).getD rfl
theorem d_get2 {Q : Value → Shared → Prop} (hu : A.units + 1 < cLine) (I : Inv X pins σ H s) (g : DGet H a y o) (ry : RelV y u) (rd : RelV d r) (h : ∀ w' s', Inv X pins σ H s' → RelV (o.getD d) w' → Q w' s') :
    wpAny (model X.prog X.w) A (call (.builtin "dict.get") [.ref a, u, r]) Q E s := by
  rcases g with ⟨kvs, k, e, ey, l⟩ | ⟨kvs, k, b, e, ey, eb, l⟩
  · subst ey
    obtain ⟨z, hd, vs, rel, dd⟩ := dk_rd I.hok e
    refine call_meetsIn PySem.F.slot_dict_get dd.typeIs PySem.F.entry_dict_get (PySem.F.args_dict_get_3 _ _ _) (meets_dict_get_default (mixKind X.prog X.w) a (kV_is ry) hd r) ⟨_, dd.mapOf, h _ _ (I.tok _) ?_⟩
    rw [l]
    exact (rel.val k).getD rd
  · subst ey
    cases (show u = Value.ref b from ry)
    obtain ⟨z, hd, xs, rel, dd⟩ := dt_rd I.hok e
    refine call_meetsIn PySem.F.slot_dict_get dd.typeIs PySem.F.entry_dict_get (PySem.F.args_dict_get_3 _ _ _) (meetsH_dict_get_default (tupleKind (mixKind X.prog X.w)) a b hd r) ⟨tupleKind_room_in1 hu, k, xs, key_of I.hok eb, dd, h _ _ (I.tok _) ?_⟩
    rw [l]
    exact (rel.val k).getD rd
end

end L2

namespace PV
open PySem L2 PySem.Spec PyProof.Rows

structure Zc where
  K : PySem.W.Frag
  P : Program
  w : World
abbrev _root_.L2.Cx.z (X : Cx) : Zc := ⟨X.K, X.prog, X.w⟩
inductive D where
  | non | bl (b : Bool) | int (i : Int) | str (x : Str) | tup (ds : List D) | lst (ds : List D) | dct0 | ref (k : Nat)
inductive MO where
  | lst (ds : List D) | dct (ks : List Str) (ds : List D)
abbrev Sto := List MO
abbrev Rs (α : Type) := Option (α × Sto)
abbrev Ro := List (Option D)
abbrev Ex := Ro → Sto → Rs D
abbrev Exs := Ro → Sto → Rs (List D)
abbrev Tx := Ro → Sto → Rs Bool
inductive Fl where
  | nx | bk | ct | rt (d : D)
abbrev Sx := Ro → Sto → Rs (Fl × Ro)
abbrev Fn := List D → Sto → Rs D
def bM {α β : Type} (r : Rs α) (f : α → Sto → Rs β) : Rs β := match r with
  | none => none
  | some (a, m) => f a m
theorem bM_some {α β : Type} {a : α} {m : Sto} {f : α → Sto → Rs β} : bM (some (a, m)) f = f a m := rfl
theorem bM_none {α β : Type} {f : α → Sto → Rs β} : bM (none : Rs α) f = none := rfl
theorem bM_inv {α β : Type} {r : Rs α} {f : α → Sto → Rs β} {b : β} {m' : Sto} (h : bM r f = some (b, m')) : ∃ a m, r = some (a, m) ∧ f a m = some (b, m') := by
  cases r with
  | none => cases h
  | some p => exact ⟨p.1, p.2, rfl, h⟩

def FzL (K : Zc) (th : List Addr) (H : Hp) (a : Addr) (vs : List V) : Prop := (a ∉ th ∧ Rd H a (.lst vs)) ∨
  ∃ (o : Obj) (its : Array Value) (n : Nat), K.K.lookup a = some o ∧ o.cls = .type "list" ∧ o.dict = none ∧ o.data = .seq its n ∧ its.size ≤ sizeLine ∧ Vals vs its.toList
theorem FzL.sq {K : Zc} {th : List Addr} {H : Hp} {a : Addr} {vs : List V} (h : FzL K th H a vs) : SqL K.K H a vs := h.elim (fun h => .inl h.2) .inr
mutual
def Rep (K : Zc) (th : List Addr) (H : Hp) : D → V → Prop
  | .non, v => v = .non
  | .bl b, v => v = .bl b
  | .int i, v => v = .int i
  | .str x, v => v = .str x ∧ x.length ≤ sizeLine ∧ PyData.strOk x = true
  | .tup ds, v => ∃ a vs, v = .ref a ∧ SqT K.K H a vs ∧ RepL K th H ds vs ∧ ds.length ≤ sizeLine
  | .lst ds, v => ∃ a vs, v = .ref a ∧ FzL K th H a vs ∧ RepL K th H ds vs ∧ ds.length ≤ sizeLine
  | .dct0, v => ∃ a, v = .ref a ∧ a ∉ th ∧ H a = some (.dK [])
  | .ref k, v => ∃ a, v = .ref a ∧ th[k]? = some a
def RepL (K : Zc) (th : List Addr) (H : Hp) : List D → List V → Prop
  | [], vs => vs = []
  | d :: ds, vs => ∃ v r, vs = v :: r ∧ Rep K th H d v ∧ RepL K th H ds r
end
section
variable {K : Zc} {th th' : List Addr} {H H' : Hp}
theorem RepL.nil : RepL K th H [] [] := by unfold RepL; rfl
theorem RepL.cons {d : D} {ds : List D} {v : V} {r : List V} (h : Rep K th H d v) (t : RepL K th H ds r) : RepL K th H (d :: ds) (v :: r) := by unfold RepL; exact ⟨v, r, rfl, h, t⟩
theorem RepL.inv {d : D} {ds : List D} {vs : List V} (h : RepL K th H (d :: ds) vs) : ∃ v r, vs = v :: r ∧ Rep K th H d v ∧ RepL K th H ds r := by unfold RepL at h; exact h
theorem RepL.inv0 {vs : List V} (h : RepL K th H [] vs) : vs = [] := by unfold RepL at h; exact h
theorem RepL.len : ∀ {ds : List D} {vs : List V}, RepL K th H ds vs → vs.length = ds.length
  | [], _, h => by rw [h.inv0]; rfl
  | d :: ds, _, h => by obtain ⟨v, r, rfl, _, t⟩ := h.inv; simp [RepL.len t]
theorem RepL.get : ∀ {ds : List D} {vs : List V} {i : Nat} {d : D}, RepL K th H ds vs → ds[i]? = some d → ∃ v, vs[i]? = some v ∧ Rep K th H d v
  | [], _, _, _, _, e => by simp at e
  | d :: ds, _, 0, d', h, e => by obtain ⟨v, r, rfl, h1, _⟩ := h.inv; simp at e; subst e; exact ⟨v, rfl, h1⟩
  | d :: ds, _, i + 1, d', h, e => by
    obtain ⟨v, r, rfl, _, t⟩ := h.inv
    obtain ⟨u, e1, e2⟩ := RepL.get (i := i) t (by simpa using e)
    exact ⟨u, by simpa using e1, e2⟩
theorem RepL.getV : ∀ {ds : List D} {vs : List V} {i : Nat} {v : V}, RepL K th H ds vs → vs[i]? = some v → ∃ d, ds[i]? = some d ∧ Rep K th H d v
  | [], _, _, _, h, e => by rw [h.inv0] at e; simp at e
  | d :: ds, _, 0, v', h, e => by obtain ⟨v, r, rfl, h1, _⟩ := h.inv; simp at e; subst e; exact ⟨d, rfl, h1⟩
  | d :: ds, _, i + 1, v', h, e => by
    obtain ⟨v, r, rfl, _, t⟩ := h.inv
    obtain ⟨u, e1, e2⟩ := RepL.getV (i := i) t (by simpa using e)
    exact ⟨u, by simpa using e1, e2⟩
theorem RepL.app : ∀ {ds es : List D} {vs us : List V}, RepL K th H ds vs → RepL K th H es us → RepL K th H (ds ++ es) (vs ++ us)
  | [], _, _, _, h, t => by rw [h.inv0]; exact t
  | d :: ds, _, _, _, h, t => by obtain ⟨v, r, rfl, h1, h2⟩ := h.inv; exact .cons h1 (RepL.app h2 t)
theorem RepL.take : ∀ {ds : List D} {vs : List V} (n : Nat), RepL K th H ds vs → RepL K th H (ds.take n) (vs.take n)
  | _, _, 0, _ => by simp only [List.take_zero]; exact .nil
  | [], _, n + 1, h => by rw [h.inv0]; exact .nil
  | d :: ds, _, n + 1, h => by obtain ⟨v, r, rfl, h1, h2⟩ := h.inv; exact .cons h1 (RepL.take n h2)
theorem RepL.drop : ∀ {ds : List D} {vs : List V} (n : Nat), RepL K th H ds vs → RepL K th H (ds.drop n) (vs.drop n)
  | _, _, 0, h => h
  | [], _, n + 1, h => by rw [h.inv0]; exact .nil
  | d :: ds, _, n + 1, h => by obtain ⟨v, r, rfl, h1, h2⟩ := h.inv; exact RepL.drop n h2
theorem RepL.rev : ∀ {ds : List D} {vs : List V}, RepL K th H ds vs → RepL K th H ds.reverse vs.reverse
  | [], _, h => by rw [h.inv0]; exact .nil
  | d :: ds, _, h => by
    (obtain ⟨v, r, rfl, h1, h2⟩ := h.inv); rw [List.reverse_cons, List.reverse_cons]
    exact (RepL.rev h2).app (.cons h1 .nil)
theorem RepL.setAt : ∀ {ds : List D} {vs : List V} (i : Nat) {d : D} {v : V}, RepL K th H ds vs → Rep K th H d v → RepL K th H (ds.set i d) (vs.set i v)
  | [], _, _, _, _, h, _ => by rw [h.inv0]; exact .nil
  | d :: ds, _, 0, _, _, h, g => by obtain ⟨v, r, rfl, h1, h2⟩ := h.inv; exact .cons g h2
  | d :: ds, _, i + 1, _, _, h, g => by obtain ⟨v, r, rfl, h1, h2⟩ := h.inv; exact .cons h1 (RepL.setAt i h2 g)

structure Ext (th : List Addr) (H : Hp) (th' : List Addr) (H' : Hp) : Prop where
  pre : ∃ more, th' = th ++ more
  out : ∀ a o, a ∉ th → H a = some o → a ∉ th'
  keep : ∀ a o, a ∉ th → H a = some o → H' a = some o
theorem Ext.refl (th : List Addr) (H : Hp) : Ext th H th H := ⟨⟨[], by simp⟩, fun _ _ n _ => n, fun _ _ _ h => h⟩
theorem Ext.trans {th2 : List Addr} {H2 : Hp} (a : Ext th H th' H') (b : Ext th' H' th2 H2) : Ext th H th2 H2 := by
  obtain ⟨m1, e1⟩ := a.pre
  obtain ⟨m2, e2⟩ := b.pre
  exact ⟨⟨m1 ++ m2, by rw [e2, e1, List.append_assoc]⟩, fun x o n h => b.out x o (a.out x o n h) (a.keep x o n h), fun x o n h => b.keep x o (a.out x o n h) (a.keep x o n h)⟩
theorem Ext.at (e : Ext th H th' H') {k : Nat} {a : Addr} (h : th[k]? = some a) : th'[k]? = some a := by
  obtain ⟨m, rfl⟩ := e.pre
  rw [List.getElem?_append_left (List.getElem?_eq_some_iff.mp h).1]
  exact h
theorem Ext.new {p : Addr} (h : H p = none) (o : HO) : Ext th H th (upd H p o) := ⟨⟨[], by simp⟩, fun _ _ n _ => n, fun a u _ e => by rw [upd_ne (ne_of_none e h)]; exact e⟩
theorem Ext.newM {p : Addr} (h : H p = none) (o : HO) : Ext th H (th ++ [p]) (upd H p o) := ⟨⟨[p], rfl⟩, fun a u n e z => (List.mem_append.mp z).elim n fun z => (by rw [List.mem_singleton.mp z, h] at e; cases e),
  fun a u _ e => by rw [upd_ne (ne_of_none e h)]; exact e⟩
theorem Ext.mut {p : Addr} (h : p ∈ th) (o : HO) : Ext th H th (upd H p o) := ⟨⟨[], by simp⟩, fun _ _ n _ => n, fun a u n e => by rw [upd_ne (fun z => n (by rw [z]; exact h))]; exact e⟩
theorem Ext.rd (e : Ext th H th' H') {a : Addr} {u : HO} (n : a ∉ th) (h : Rd H a u) : a ∉ th' ∧ Rd H' a u := by
  rcases h with h | ⟨o, h⟩
  · exact ⟨e.out _ _ n h, .inl (e.keep _ _ n h)⟩
  · exact ⟨e.out _ _ n h, .inr ⟨o, e.keep _ _ n h⟩⟩
theorem Ext.fz (e : Ext th H th' H') {a : Addr} {vs : List V} (h : FzL K th H a vs) : FzL K th' H' a vs := h.elim (fun h => .inl (e.rd h.1 h.2)) .inr
def TupOut (th : List Addr) (H : Hp) : Prop := ∀ a, a ∈ th → ∃ o, H a = some o ∧ ((∃ xs, o = .lst xs) ∨ ∃ kvs, o = .dK kvs)
theorem Ext.sqT (e : Ext th H th' H') (t : TupOut th H) {a : Addr} {xs : List V} (h : SqT K.K H a xs) : SqT K.K H' a xs := by
  rcases h with h | h
  · refine .inl (e.rd (fun z => ?_) h).2
    obtain ⟨o', q, q2⟩ := t a z
    rcases h with h | ⟨o, h⟩
    · rcases q2 with ⟨_, rfl⟩ | ⟨_, rfl⟩ <;> (rw [q] at h; cases h)
    · rcases q2 with ⟨_, rfl⟩ | ⟨_, rfl⟩ <;> (rw [q] at h; cases h)
  · exact .inr h
mutual
theorem Rep.ext (e : Ext th H th' H') (t : TupOut th H) : ∀ {d : D} {v : V}, Rep K th H d v → Rep K th' H' d v
  | .non, _, h => h
  | .bl _, _, h => h
  | .int _, _, h => h
  | .str _, _, h => h
  | .tup ds, _, h => by
    unfold Rep at h ⊢
    obtain ⟨a, vs, q, h1, h2, z⟩ := h
    exact ⟨a, vs, q, e.sqT t h1, RepL.ext e t h2, z⟩
  | .lst ds, _, h => by
    unfold Rep at h ⊢
    obtain ⟨a, vs, q, h1, h2, z⟩ := h
    exact ⟨a, vs, q, e.fz h1, RepL.ext e t h2, z⟩
  | .dct0, _, h => by
    unfold Rep at h ⊢
    obtain ⟨a, q, n, h1⟩ := h
    exact ⟨a, q, e.out _ _ n h1, e.keep _ _ n h1⟩
  | .ref k, _, h => by
    unfold Rep at h ⊢
    obtain ⟨a, q, h1⟩ := h
    exact ⟨a, q, e.at h1⟩
theorem RepL.ext (e : Ext th H th' H') (t : TupOut th H) : ∀ {ds : List D} {vs : List V}, RepL K th H ds vs → RepL K th' H' ds vs
  | [], _, h => by rw [h.inv0]; exact .nil
  | _ :: _, _, h => by
    obtain ⟨v, r, rfl, h1, h2⟩ := h.inv
    exact .cons (Rep.ext e t h1) (RepL.ext e t h2)
end
theorem nd_ix {N : List Addr} (hN : N.Nodup) {i j : Nat} {x : Addr} (a : N[i]? = some x) (b : N[j]? = some x) : i = j := by
  obtain ⟨hi, ei⟩ := List.getElem?_eq_some_iff.mp a
  obtain ⟨hj, ej⟩ := List.getElem?_eq_some_iff.mp b
  have := List.pairwise_iff_getElem.mp hN
  rcases Nat.lt_trichotomy i j with h | h | h
  · exact absurd (ei.trans ej.symm) (this i j hi hj h)
  · exact h
  · exact absurd (ej.trans ei.symm) (this j i hj hi h)
def MRep (K : Zc) (th : List Addr) (H : Hp) (a : Addr) : MO → Prop
  | .lst ds => ∃ vs, H a = some (.lst vs) ∧ RepL K th H ds vs ∧ ds.length ≤ sizeLine
  | .dct ks ds => ∃ kvs : List (Key × V), H a = some (.dK kvs) ∧ kvs.map (·.1) = ks.map Sum.inr ∧ RepL K th H ds (kvs.map (·.2)) ∧ ks.length ≤ sizeLine
structure StoOk (K : Zc) (th : List Addr) (mu : Sto) (H : Hp) : Prop where
  len : th.length = mu.length
  nd : th.Nodup
  at' : ∀ (k : Nat) (a : Addr) (o : MO), th[k]? = some a → mu[k]? = some o → MRep K th H a o
theorem StoOk.out {mu : Sto} (s : StoOk K th mu H) : TupOut th H := fun a ha => by
  obtain ⟨k, hk, rfl⟩ := List.mem_iff_getElem.mp ha
  have hk' : k < mu.length := by rw [← s.len]; exact hk
  have q := s.at' k th[k] mu[k] (by simp) (by simp)
  cases e : mu[k] with
  | lst ds => rw [e] at q; obtain ⟨vs, q, _⟩ := q; exact ⟨_, q, .inl ⟨_, rfl⟩⟩
  | dct ks ds => rw [e] at q; obtain ⟨vs, q, _⟩ := q; exact ⟨_, q, .inr ⟨_, rfl⟩⟩
theorem StoOk.new {mu : Sto} (s : StoOk K th mu H) {p : Addr} (h : H p = none) (o : HO) : StoOk K th mu (upd H p o) := by
  refine ⟨s.len, s.nd, fun k a o' e1 e2 => ?_⟩
  have q := s.at' k a o' e1 e2
  cases o' with
  | lst ds => obtain ⟨vs, q1, q2, z⟩ := q; exact ⟨vs, by rw [upd_ne (ne_of_none q1 h)]; exact q1, q2.ext (.new h o) s.out, z⟩
  | dct ks ds => obtain ⟨vs, q1, q0, q2, z⟩ := q; exact ⟨vs, by rw [upd_ne (ne_of_none q1 h)]; exact q1, q0, q2.ext (.new h o) s.out, z⟩
theorem StoOk.newM {mu : Sto} (s : StoOk K th mu H) {p : Addr} (h : H p = none) {ds : List D} {vs : List V} (r : RepL K th H ds vs) (hz : ds.length ≤ sizeLine) : StoOk K (th ++ [p]) (mu ++ [.lst ds]) (upd H p (.lst vs)) := by
  have ex : Ext th H (th ++ [p]) (upd H p (.lst vs)) := .newM h _
  refine ⟨by simp [s.len], ?_, fun k a o' e1 e2 => ?_⟩
  · refine List.nodup_append.mpr ⟨s.nd, by simp, fun x hx y hy => ?_⟩
    rw [List.mem_singleton.mp hy]
    obtain ⟨xs, q, _⟩ := s.out x hx
    exact ne_of_none q h
  · by_cases hk : k < th.length
    · rw [List.getElem?_append_left hk] at e1
      rw [List.getElem?_append_left (by rw [← s.len]; exact hk)] at e2
      have q := s.at' k a o' e1 e2
      cases o' with
      | lst ds => obtain ⟨vs, q1, q2, z⟩ := q; exact ⟨vs, by rw [upd_ne (ne_of_none q1 h)]; exact q1, q2.ext ex s.out, z⟩
      | dct ks ds => obtain ⟨vs, q1, q0, q2, z⟩ := q; exact ⟨vs, by rw [upd_ne (ne_of_none q1 h)]; exact q1, q0, q2.ext ex s.out, z⟩
    · have hk2 : k = th.length := by
        have := (List.getElem?_eq_some_iff.mp e1).1
        simp at this
        omega
      subst hk2
      have e1' : a = p := by simpa using e1.symm
      have e2' : o' = .lst ds := by rw [s.len] at e2; simpa using e2.symm
      subst e1' e2'
      exact ⟨vs, upd_same, r.ext ex s.out, hz⟩
theorem StoOk.put {mu : Sto} (s : StoOk K th mu H) {k : Nat} {a : Addr} (hk : th[k]? = some a) {ds : List D} {vs : List V} (r : RepL K th H ds vs) (hz : ds.length ≤ sizeLine) : StoOk K th (mu.set k (.lst ds)) (upd H a (.lst vs)) := by
  have ex : Ext th H th (upd H a (.lst vs)) := .mut (List.mem_of_getElem? hk) _
  refine ⟨by simp [s.len], s.nd, fun j b o' e1 e2 => ?_⟩
  by_cases hj : j = k
  · subst hj
    rw [hk] at e1
    cases e1
    have : j < mu.length := by rw [← s.len]; exact (List.getElem?_eq_some_iff.mp hk).1
    have e2' : o' = .lst ds := by simpa [this] using e2.symm
    subst e2'
    exact ⟨vs, upd_same, r.ext ex s.out, hz⟩
  · rw [List.getElem?_set_ne (Ne.symm hj)] at e2
    have q := s.at' j b o' e1 e2
    have nb : b ≠ a := fun z => by
      subst z
      exact hj (nd_ix s.nd e1 hk)
    cases o' with
    | lst ds => obtain ⟨vs, q1, q2, z⟩ := q; exact ⟨vs, by rw [upd_ne nb]; exact q1, q2.ext ex s.out, z⟩
    | dct ks ds => obtain ⟨vs, q1, q0, q2, z⟩ := q; exact ⟨vs, by rw [upd_ne nb]; exact q1, q0, q2.ext ex s.out, z⟩

theorem StoOk.newD {mu : Sto} (s : StoOk K th mu H) {p : Addr} (h : H p = none)  : StoOk K (th ++ [p]) (mu ++ [.dct [] []]) (upd H p (.dK [])) := by
  have ex : Ext th H (th ++ [p]) (upd H p (.dK [])) := .newM h _
  refine ⟨by simp [s.len], ?_, fun k a o' e1 e2 => ?_⟩
  · refine List.nodup_append.mpr ⟨s.nd, by simp, fun x hx y hy => ?_⟩
    rw [List.mem_singleton.mp hy]
    obtain ⟨xs, q, _⟩ := s.out x hx
    exact ne_of_none q h
  · by_cases hk : k < th.length
    · rw [List.getElem?_append_left hk] at e1
      rw [List.getElem?_append_left (by rw [← s.len]; exact hk)] at e2
      have q := s.at' k a o' e1 e2
      cases o' with
      | lst ds => obtain ⟨vs, q1, q2, z⟩ := q; exact ⟨vs, by rw [upd_ne (ne_of_none q1 h)]; exact q1, q2.ext ex s.out, z⟩
      | dct ks ds => obtain ⟨vs, q1, q0, q2, z⟩ := q; exact ⟨vs, by rw [upd_ne (ne_of_none q1 h)]; exact q1, q0, q2.ext ex s.out, z⟩
    · have hk2 : k = th.length := by
        have := (List.getElem?_eq_some_iff.mp e1).1
        simp at this
        omega
      subst hk2
      have e1' : a = p := by simpa using e1.symm
      have e2' : o' = .dct [] [] := by rw [s.len] at e2; simpa using e2.symm
      subst e1' e2'
      exact ⟨[], upd_same, rfl, .nil, Nat.zero_le _⟩
theorem StoOk.putD {mu : Sto} (s : StoOk K th mu H) {k : Nat} {a : Addr} (hk : th[k]? = some a) {ks : List Str} {ds : List D} {kvs : List (Key × V)} (hk2 : kvs.map (·.1) = ks.map Sum.inr) (r : RepL K th H ds (kvs.map (·.2))) (hz : ks.length ≤ sizeLine) : StoOk K th (mu.set k (.dct ks ds)) (upd H a (.dK kvs)) := by
  have ex : Ext th H th (upd H a (.dK kvs)) := .mut (List.mem_of_getElem? hk) _
  refine ⟨by simp [s.len], s.nd, fun j b o' e1 e2 => ?_⟩
  by_cases hj : j = k
  · subst hj
    rw [hk] at e1
    cases e1
    have : j < mu.length := by rw [← s.len]; exact (List.getElem?_eq_some_iff.mp hk).1
    have e2' : o' = .dct ks ds := by simpa [this] using e2.symm
    subst e2'
    exact ⟨kvs, upd_same, hk2, r.ext ex s.out, hz⟩
  · rw [List.getElem?_set_ne (Ne.symm hj)] at e2
    have q := s.at' j b o' e1 e2
    have nb : b ≠ a := fun z => by
      subst z
      exact hj (nd_ix s.nd e1 hk)
    cases o' with
    | lst ds => obtain ⟨vs, q1, q2, z⟩ := q; exact ⟨vs, by rw [upd_ne nb]; exact q1, q2.ext ex s.out, z⟩
    | dct ks ds => obtain ⟨vs, q1, q0, q2, z⟩ := q; exact ⟨vs, by rw [upd_ne nb]; exact q1, q0, q2.ext ex s.out, z⟩

def Tr (K : Zc) {A : Type} (th : List Addr) (H : Hp) (r : Rs A) (k : A → List Addr → Sto → Hp → Prop) : Prop :=
  ∃ a mu', r = some (a, mu') ∧ ∀ th' H', Ext th H th' H' → StoOk K th' mu' H' → k a th' mu' H'
theorem Tr.mono {A : Type} {r : Rs A} {k k' : A → List Addr → Sto → Hp → Prop} (h : Tr K th H r k) (f : ∀ a th' mu' H', Ext th H th' H' → StoOk K th' mu' H' → k a th' mu' H' → k' a th' mu' H') : Tr K th H r k' := by
  obtain ⟨a, mu', e, q⟩ := h
  exact ⟨a, mu', e, fun th' H' x s => f a th' mu' H' x s (q th' H' x s)⟩
theorem Tr.ahead {A : Type} {r : Rs A} {k : A → List Addr → Sto → Hp → Prop} (h : Tr K th H r k) (x : Ext th H th' H') : Tr K th' H' r k := by
  obtain ⟨a, mu', e, q⟩ := h
  exact ⟨a, mu', e, fun th2 H2 y s => q th2 H2 (x.trans y) s⟩
theorem Tr.bind {A B : Type} {r : Rs A} {f : A → Sto → Rs B} {k : B → List Addr → Sto → Hp → Prop} (h : Tr K th H (bM r f) k) : Tr K th H r fun a th1 mu1 H1 => Tr K th1 H1 (f a mu1) k := by
  obtain ⟨b, mu', e, q⟩ := h
  obtain ⟨a, m, e1, e2⟩ := bM_inv e
  exact ⟨a, m, e1, fun th1 H1 x1 s1 => ⟨b, mu', e2, fun th' H' x s => q th' H' (x1.trans x) s⟩⟩
theorem Tr.bindE {A B : Type} {r : Rs A} {f : A → Sto → Rs B} {k : B → List Addr → Sto → Hp → Prop} (h : Tr K th H (bM r f) k) : Tr K th H r fun a th1 mu1 H1 => r = some (a, mu1) ∧ Tr K th1 H1 (f a mu1) k := by
  obtain ⟨b, mu', e, q⟩ := h
  obtain ⟨a, m, e1, e2⟩ := bM_inv e
  exact ⟨a, m, e1, fun th1 H1 x1 s1 => ⟨e1, b, mu', e2, fun th' H' x s => q th' H' (x1.trans x) s⟩⟩
theorem Tr.ret {A : Type} {a : A} {mu : Sto} {k : A → List Addr → Sto → Hp → Prop} (h : Tr K th H (some (a, mu)) k) (s : StoOk K th mu H) : k a th mu H := by
  obtain ⟨b, mu', e, q⟩ := h
  cases e
  exact q th H (.refl _ _) s
theorem Tr.retX {A : Type} {a : A} {mu : Sto} {k : A → List Addr → Sto → Hp → Prop} (h : Tr K th H (some (a, mu)) k) (x : Ext th H th' H') (s : StoOk K th' mu H') : k a th' mu H' := by
  obtain ⟨b, mu', e, q⟩ := h
  cases e
  exact q th' H' x s
theorem Tr.no {A : Type} {k : A → List Addr → Sto → Hp → Prop} (h : Tr K th H (none : Rs A) k) : False := by
  obtain ⟨b, mu', e, q⟩ := h
  cases e
def EnvOk (K : Zc) (th : List Addr) (H : Hp) (ro : Ro) (st : L2.St) : Prop := ro.length = st.length ∧ ∀ (i : Nat) (d : D), ro[i]? = some (some d) → ∃ v, st[i]? = some (some v) ∧ Rep K th H d v
theorem EnvOk.ext {ro : Ro} {st : L2.St} (h : EnvOk K th H ro st) (e : Ext th H th' H') (t : TupOut th H) : EnvOk K th' H' ro st := ⟨h.1, fun i d q => by
  obtain ⟨v, a, b⟩ := h.2 i d q
  exact ⟨v, a, b.ext e t⟩⟩
theorem EnvOk.set {ro : Ro} {st : L2.St} (h : EnvOk K th H ro st) (i : Nat) {d : D} {v : V} (r : Rep K th H d v) : EnvOk K th H (ro.set i (some d)) (st.set i (some v)) := by
  refine ⟨by simp [h.1], fun j d' q => ?_⟩
  by_cases hj : j = i
  · subst hj
    have hl : j < ro.length := by
      have := (List.getElem?_eq_some_iff.mp q).1
      simpa using this
    have : d' = d := by simpa [hl] using q.symm
    subst this
    exact ⟨v, by simp [← h.1, hl], r⟩
  · rw [List.getElem?_set_ne (Ne.symm hj)] at q ⊢
    exact h.2 j d' q
abbrev KV' (K : Zc) (Q : VK) : D → List Addr → Sto → Hp → Prop := fun d th' _ H' => ∀ v, Rep K th' H' d v → Q v H'
def rdE (K : Zc) (m : Ex) : TE := fun st H Q => ∃ th mu ro, StoOk K th mu H ∧ EnvOk K th H ro st ∧ Tr K th H (m ro mu) (KV' K Q)
def rdA (K : Zc) (m : Exs) : TA := fun st H Q => ∃ th mu ro, StoOk K th mu H ∧ EnvOk K th H ro st ∧ Tr K th H (m ro mu) fun ds th' _ H' => ∀ vs, RepL K th' H' ds vs → Q vs H'
def rdT (K : Zc) (m : Tx) : TT := fun st H Q => ∃ th mu ro, StoOk K th mu H ∧ EnvOk K th H ro st ∧ Tr K th H (m ro mu) fun b _ _ H' => Q b H'
def endK (K : Zc) (E : Ends) (p : Fl × Ro) (th : List Addr) (_ : Sto) (H : Hp) : Prop := ∀ st', EnvOk K th H p.2 st' → match p.1 with
  | .nx => E.nx st' H
  | .bk => E.bk st' H
  | .ct => E.ct st' H
  | .rt d => ∀ v, Rep K th H d v → E.rt v H
def rdS (K : Zc) (m : Sx) : TS := fun E st H => ∃ th mu ro, StoOk K th mu H ∧ EnvOk K th H ro st ∧ Tr K th H (m ro mu) (endK K E)
def r2 (K : Zc) (op : D → D → Sto → Rs D) : R2 := fun x y H Q => ∃ th mu d e, StoOk K th mu H ∧ Rep K th H d x ∧ Rep K th H e y ∧ Tr K th H (op d e mu) (KV' K Q)
def rL (K : Zc) (f : Fn) : List V → Hp → VK → Prop := fun xs H Q => ∃ th mu ds, StoOk K th mu H ∧ RepL K th H ds xs ∧ Tr K th H (f ds mu) (KV' K Q)
end
structure SV (X : Cx) (e : Expr) (m : Ex) : Prop where
  r : PE X e (rdE X.z m)
structure SVT (X : Cx) (e : Expr) (m : Tx) : Prop where
  r : PT X e (rdT X.z m)
structure SVW (X : Cx) (e : Expr) (m : Tx) : Prop where
  r : PW X e (rdT X.z m)
def SVA (X : Cx) (es : List Expr) (m : Exs) : Prop := PA X es (rdA X.z m) ∧ ∀ ro mu ds mu', m ro mu = some (ds, mu') → ds.length = es.length
structure SVS (X : Cx) (s : Stmt) (m : Sx) : Prop where
  r : PS X s (rdS X.z m)
structure SVB (X : Cx) (b : List Stmt) (m : Sx) : Prop where
  r : PSs X b (rdS X.z m)
def OpV (X : Cx) (f : Value → Value → Sem Value) (op : D → D → Sto → Rs D) : Prop := OpR X f (r2 X.z op)
def CallV (X : Cx) (f : Value) (g : Fn) : Prop := CallR X f (rL X.z g)
theorem PE.weak {X : Cx} {e : Expr} {t t' : TE} (h : PE X e t) (f : ∀ st H Q, t' st H Q → t st H Q) : PE X e t' := fun pins s st H Q I q => h pins s st H Q I (f st H Q q)
theorem PT.weak {X : Cx} {e : Expr} {t t' : TT} (h : PT X e t) (f : ∀ st H Q, t' st H Q → t st H Q) : PT X e t' := fun pins s st H Q I q => h pins s st H Q I (f st H Q q)
theorem PW.weak {X : Cx} {e : Expr} {t t' : TT} (h : PW X e t) (f : ∀ st H Q, t' st H Q → t st H Q) : PW X e t' := fun wh pins s st H Q I q => h wh pins s st H Q I (f st H Q q)
theorem PA.weak {X : Cx} {e : List Expr} {t t' : TA} (h : PA X e t) (f : ∀ st H Q, t' st H Q → t st H Q) : PA X e t' := fun pos pins s st H Q I q => h pos pins s st H Q I (f st H Q q)
theorem PS.weak {X : Cx} {e : Stmt} {t t' : TS} (h : PS X e t) (f : ∀ E st H, t' E st H → t E st H) : PS X e t' := fun pins s st H E I q => h pins s st H E I (f E st H q)
theorem PSs.weak {X : Cx} {e : List Stmt} {t t' : TS} (h : PSs X e t) (f : ∀ E st H, t' E st H → t E st H) : PSs X e t' := fun pins s st H E I q => h pins s st H E I (f E st H q)
theorem OpR.weak {X : Cx} {f : Value → Value → Sem Value} {r r' : R2} (h : OpR X f r) (g : ∀ x y H Q, r' x y H Q → r x y H Q) : OpR X f r' := fun pins s st H x y v u Q I rx ry q => h pins s st H x y v u Q I rx ry (g x y H Q q)
theorem CallR.weak {X : Cx} {f : Value} {r r' : List V → Hp → VK → Prop} (h : CallR X f r) (g : ∀ x H Q, r' x H Q → r x H Q) : CallR X f r' := fun pins s st H xs us Q I rx q => h pins s st H xs us Q I rx (g xs H Q q)
end PV

namespace PV
open PySem L2 PySem.Spec PyProof.Rows

section
variable {X : Cx} {K : Zc} {th : List Addr} {mu : Sto} {H : Hp}
def eVar (i : Nat) : Ex := fun ro mu => match ro[i]? with
  | some (some d) => some (d, mu)
  | _ => none
def eC (d : D) : Ex := fun _ mu => some (d, mu)
theorem sv_var (i : Nat) {x : Str} {pos : Pos} (hN : X.N[i]? = some x := by rfl) (hv : Vis X.env.scope x := by first | exact Or.inl rfl | exact Or.inr (Or.inl rfl) | exact Or.inr (Or.inr rfl)) (hd : (x == ("__debug__" : Str)) = false := by decide)
    (hcd : (x == ("__classdict__" : Str)) = false := by decide) : SV X (.Name x pos) (eVar i) := ⟨PE.weak (pe_var hN hv hd hcd) fun st H Q h => by
  obtain ⟨th, mu, ro, so, en, t⟩ := h
  unfold eVar at t
  cases e : ro[i]? with
  | none => rw [e] at t; exact t.no.elim
  | some o =>
    cases o with
    | none => rw [e] at t; exact t.no.elim
    | some d =>
      rw [e] at t
      obtain ⟨v, ev, rv⟩ := en.2 i d e
      exact ⟨v, ev, t.ret so v rv⟩⟩
theorem sv_const {e : Expr} {d : D} {v : V} (h : PE X e (tC v)) (r : ∀ K th H, Rep K th H d v) : SV X e (eC d) := ⟨PE.weak h fun st H Q q => by
  obtain ⟨th, mu, ro, so, en, t⟩ := q
  exact t.ret so v (r _ _ _)⟩
theorem sv_int {i j pos} : SV X (.Constant (.int i) j pos) (eC (.int i)) := sv_const pe_int fun _ _ _ => by unfold Rep; rfl
theorem sv_bl {i j pos} : SV X (.Constant (.bool i) j pos) (eC (.bl i)) := sv_const pe_bl fun _ _ _ => by unfold Rep; rfl
theorem sv_non {j pos} : SV X (.Constant .none j pos) (eC .non) := sv_const pe_non fun _ _ _ => by unfold Rep; rfl
theorem sv_str {i j pos} (h : i.length ≤ sizeLine ∧ PyData.strOk i = true := by decide +kernel) : SV X (.Constant (.str i) j pos) (eC (.str i)) := sv_const pe_str fun _ _ _ => by unfold Rep; exact ⟨rfl, h⟩
theorem sv_gint {x : Str} {i : Int} {pos : Pos} (hm : ∃ t, X.mg x = some (.int i t)) (hg : Gl X x := by rfl) (hd : (x == ("__debug__" : Str)) = false := by decide) : SV X (.Name x pos) (eC (.int i)) := by
  obtain ⟨t, hm⟩ := hm
  exact sv_const (pe_glob (v := .int i) hg hm ⟨t, rfl⟩ hd) fun _ _ _ => by unfold Rep; rfl
theorem sv_gstr {x : Str} {i : Str} {pos : Pos} (hm : ∃ t, X.mg x = some (.str i t)) (h : i.length ≤ sizeLine ∧ PyData.strOk i = true := by decide +kernel) (hg : Gl X x := by rfl) (hd : (x == ("__debug__" : Str)) = false := by decide) : SV X (.Name x pos) (eC (.str i)) := by
  obtain ⟨t, hm⟩ := hm
  exact sv_const (pe_glob (v := .str i) hg hm ⟨t, rfl⟩ hd) fun _ _ _ => by unfold Rep; exact ⟨rfl, h⟩

def eBin (g : D → D → Sto → Rs D) (a b : Ex) : Ex := fun ro mu => bM (a ro mu) fun x m1 => bM (b ro m1) fun y m2 => g x y m2
theorem tOp_rd {a b : Ex} {g : D → D → Sto → Rs D} {st : L2.St} {Q : VK} (h : rdE K (eBin g a b) st H Q) : tOp (r2 K g) (rdE K a) (rdE K b) st H Q := by
  obtain ⟨th, mu, ro, so, en, t⟩ := h
  refine ⟨th, mu, ro, so, en, t.bind.mono fun x th1 mu1 H1 e1 s1 t1 v rv => ?_⟩
  exact ⟨th1, mu1, ro, s1, en.ext e1 so.out, t1.bind.mono fun y th2 mu2 H2 e2 s2 t2 u ru => ⟨th2, mu2, x, y, s2, rv.ext e2 s1.out, ru, t2⟩⟩
theorem sv_bin {a b : Expr} {op : Operator} {g : D → D → Sto → Rs D} {ma mb : Ex} {pos : Pos} (ho : OpV X (binaryOp op) g) (ha : SV X a ma) (hb : SV X b mb) : SV X (.BinOp a op b pos) (eBin g ma mb) :=
  ⟨PE.weak (pe_op ho ha.r hb.r) fun _ _ _ h => tOp_rd h⟩
theorem sv_cmp {a b : Expr} {op : CmpOp} {g : D → D → Sto → Rs D} {ma mb : Ex} {pos : Pos} (ho : OpV X (compareOp op) g) (ha : SV X a ma) (hb : SV X b mb) (hm : behindInMarks op b = false := by first | exact nomark _ | with_unfolding_all rfl) : SV X (.Compare a [op] [b] pos) (eBin g ma mb) :=
  ⟨PE.weak (pe_cmpR ho ha.r hb.r hm) fun _ _ _ h => tOp_rd h⟩
theorem sv_ix {a b : Expr} {g : D → D → Sto → Rs D} {ma mb : Ex} {pos : Pos} (ho : IxR X (r2 X.z g)) (ha : SV X a ma) (hb : SV X b mb) (hs : PlainIx b := by intro _ _; rfl) : SV X (.Subscript a b pos) (eBin g ma mb) :=
  ⟨PE.weak (pe_ix ho ha.r hb.r hs) fun _ _ _ h => tOp_rd h⟩
def e1 (g : D → Sto → Rs D) (a : Ex) : Ex := fun ro mu => bM (a ro mu) fun x m1 => g x m1

def asB : D → Option Bool
  | .bl b => some b
  | _ => none
def tV (a : Ex) : Tx := fun ro mu => bM (a ro mu) fun x m1 => (asB x).map fun b => (b, m1)
theorem asB_inv {d : D} {b : Bool} {v : V} (h : asB d = some b) (r : Rep K th H d v) : v = .bl b := by
  cases d with
  | bl c => cases h; exact r
  | _ => cases h
theorem tB_rd {a : Ex} {st : L2.St} {Q : Bool → Hp → Prop} (h : rdT K (tV a) st H Q) : tTest (rdE K a) st H Q := by
  obtain ⟨th, mu, ro, so, en, t⟩ := h
  refine ⟨th, mu, ro, so, en, t.bind.mono fun x th1 mu1 H1 e1 s1 t1 v rv => ?_⟩
  cases e : asB x with
  | none => rw [e] at t1; exact t1.no.elim
  | some b => rw [e] at t1; exact ⟨b, asB_inv e rv, t1.ret s1⟩
theorem svt_val {e : Expr} {m : Ex} (h : SV X e m) (he : ∀ whole, isTrue e X.env whole = (do let v ← whole; standAt e.pos; holding [v] (truthy v)) := by intro _; rfl) : SVT X e (tV m) := ⟨PT.weak (pt_val h.r he) fun _ _ _ h => tB_rd h⟩
theorem svt_cmp {a b : Expr} {op : CmpOp} {g : D → D → Sto → Rs D} {ma mb : Ex} {pos : Pos} (ho : OpV X (compareOp op) g) (ha : SV X a ma) (hb : SV X b mb) (hm : behindInMarks op b = false := by first | exact nomark _ | with_unfolding_all rfl) : SVT X (.Compare a [op] [b] pos) (tV (eBin g ma mb)) :=
  ⟨PT.weak (pt_cmpR ho ha.r hb.r hm) fun _ _ _ h => by
    obtain ⟨th, mu, ro, so, en, t⟩ := tB_rd h
    exact tOp_rd ⟨th, mu, ro, so, en, t⟩⟩
def tNt (a : Tx) : Tx := fun ro mu => bM (a ro mu) fun b m1 => some (!b, m1)
theorem svt_not {e : Expr} {m : Tx} {pos : Pos} (h : SVT X e m) : SVT X (.UnaryOp .Not e pos) (tNt m) := ⟨PT.weak (pt_not h.r) fun st H Q h => by
  obtain ⟨th, mu, ro, so, en, t⟩ := h
  exact ⟨th, mu, ro, so, en, t.bind.mono fun b th1 mu1 H1 e1 s1 t1 => t1.ret s1⟩⟩
def tAn (a b : Tx) : Tx := fun ro mu => bM (a ro mu) fun x m1 => if x = true then b ro m1 else some (false, m1)
def tO (a b : Tx) : Tx := fun ro mu => bM (a ro mu) fun x m1 => if x = true then some (true, m1) else b ro m1
theorem svw_and1 {a : Expr} {m : Tx} {pos : Pos} (ha : SVT X a m) : SVW X (.BoolOp .And [a] pos) m := ⟨pw_and1 ha.r⟩
theorem svw_or1 {a : Expr} {m : Tx} {pos : Pos} (ha : SVT X a m) : SVW X (.BoolOp .Or [a] pos) m := ⟨pw_or1 ha.r⟩
theorem svw_and {a b : Expr} {rest : List Expr} {m n : Tx} {pos : Pos} (ha : SVT X a m) (hb : SVW X (.BoolOp .And (b :: rest) pos) n) : SVW X (.BoolOp .And (a :: b :: rest) pos) (tAn m n) := ⟨PW.weak (pw_and ha.r hb.r) fun st H Q h => by
  obtain ⟨th, mu, ro, so, en, t⟩ := h
  refine ⟨th, mu, ro, so, en, t.bind.mono fun b th1 mu1 H1 e1 s1 t1 => ?_⟩
  cases b with
  | true => exact ⟨th1, mu1, ro, s1, en.ext e1 so.out, t1⟩
  | false => exact t1.ret s1⟩
theorem svw_or {a b : Expr} {rest : List Expr} {m n : Tx} {pos : Pos} (ha : SVT X a m) (hb : SVW X (.BoolOp .Or (b :: rest) pos) n) : SVW X (.BoolOp .Or (a :: b :: rest) pos) (tO m n) := ⟨PW.weak (pw_or ha.r hb.r) fun st H Q h => by
  obtain ⟨th, mu, ro, so, en, t⟩ := h
  refine ⟨th, mu, ro, so, en, t.bind.mono fun b th1 mu1 H1 e1 s1 t1 => ?_⟩
  cases b with
  | true => exact t1.ret s1
  | false => exact ⟨th1, mu1, ro, s1, en.ext e1 so.out, t1⟩⟩
theorem SVW.t {e : Expr} {m : Tx} (h : SVW X e m) : SVT X e m := ⟨PW.pt h.r⟩
def eAn (a b : Ex) : Ex := fun ro mu => bM (a ro mu) fun x m1 => match asB x with
  | none => none
  | some c => if c = true then b ro m1 else some (.bl false, m1)
def eO (a b : Ex) : Ex := fun ro mu => bM (a ro mu) fun x m1 => match asB x with
  | none => none
  | some c => if c = true then some (.bl true, m1) else b ro m1
def eNt (a : Ex) : Ex := fun ro mu => bM (a ro mu) fun x m1 => match asB x with
  | none => none
  | some c => some (.bl (!c), m1)
theorem sv_one {a : Expr} {op} {m : Ex} {pos : Pos} (h : SV X a m) : SV X (.BoolOp op [a] pos) m := ⟨pe_one h.r⟩
theorem sv_and {a b : Expr} {rest : List Expr} {m n : Ex} {pos : Pos} (ha : SV X a m) (hb : SV X (.BoolOp .And (b :: rest) pos) n) : SV X (.BoolOp .And (a :: b :: rest) pos) (eAn m n) := ⟨PE.weak (pe_and ha.r hb.r) fun st H Q h => by
  obtain ⟨th, mu, ro, so, en, t⟩ := h
  refine ⟨th, mu, ro, so, en, t.bind.mono fun x th1 mu1 H1 e1 s1 t1 v rv => ?_⟩
  cases e : asB x with
  | none => rw [e] at t1; exact t1.no.elim
  | some c =>
    rw [e] at t1
    refine ⟨c, asB_inv e rv, ?_⟩
    cases c with
    | true => exact ⟨th1, mu1, ro, s1, en.ext e1 so.out, t1⟩
    | false => exact t1.ret s1 _ (by unfold Rep; rfl)⟩
theorem sv_or {a b : Expr} {rest : List Expr} {m n : Ex} {pos : Pos} (ha : SV X a m) (hb : SV X (.BoolOp .Or (b :: rest) pos) n) : SV X (.BoolOp .Or (a :: b :: rest) pos) (eO m n) := ⟨PE.weak (pe_or ha.r hb.r) fun st H Q h => by
  obtain ⟨th, mu, ro, so, en, t⟩ := h
  refine ⟨th, mu, ro, so, en, t.bind.mono fun x th1 mu1 H1 e1 s1 t1 v rv => ?_⟩
  cases e : asB x with
  | none => rw [e] at t1; exact t1.no.elim
  | some c =>
    rw [e] at t1
    refine ⟨c, asB_inv e rv, ?_⟩
    cases c with
    | true => exact t1.ret s1 _ (by unfold Rep; rfl)
    | false => exact ⟨th1, mu1, ro, s1, en.ext e1 so.out, t1⟩⟩
theorem sv_not {a : Expr} {m : Ex} {pos : Pos} (ha : SV X a m) : SV X (.UnaryOp .Not a pos) (eNt m) := ⟨PE.weak (pe_not ha.r) fun st H Q h => by
  obtain ⟨th, mu, ro, so, en, t⟩ := h
  refine ⟨th, mu, ro, so, en, t.bind.mono fun x th1 mu1 H1 e1 s1 t1 v rv => ?_⟩
  cases e : asB x with
  | none => rw [e] at t1; exact t1.no.elim
  | some c =>
    rw [e] at t1
    exact ⟨c, asB_inv e rv, t1.ret s1 _ (by unfold Rep; rfl)⟩⟩
def eIf (c : Tx) (a b : Ex) : Ex := fun ro mu => bM (c ro mu) fun x m1 => if x = true then a ro m1 else b ro m1
theorem sv_ifExp {c a b : Expr} {mc : Tx} {ma mb : Ex} {pos : Pos} (hc : SVT X c mc) (ha : SV X a ma) (hb : SV X b mb) : SV X (.IfExp c a b pos) (eIf mc ma mb) := ⟨PE.weak (pe_ifExp hc.r ha.r hb.r) fun st H Q h => by
  obtain ⟨th, mu, ro, so, en, t⟩ := h
  refine ⟨th, mu, ro, so, en, t.bind.mono fun b th1 mu1 H1 e1 s1 t1 => ?_⟩
  cases b with
  | true => exact ⟨th1, mu1, ro, s1, en.ext e1 so.out, t1⟩
  | false => exact ⟨th1, mu1, ro, s1, en.ext e1 so.out, t1⟩⟩

def aNil : Exs := fun _ mu => some ([], mu)
def aCons (a : Ex) (r : Exs) : Exs := fun ro mu => bM (a ro mu) fun x m1 => bM (r ro m1) fun xs m2 => some (x :: xs, m2)
theorem sva_nil : SVA X [] aNil := by
  refine ⟨PA.weak pa_nil fun st H Q h => ?_, fun ro mu ds mu' h => by cases h; rfl⟩
  obtain ⟨th, mu, ro, so, en, t⟩ := h
  exact t.ret so [] .nil
theorem sva_cons {e : Expr} {es : List Expr} {m : Ex} {n : Exs} (ha : SV X e m) (hr : SVA X es n) (hs : starEach (e :: es) X.env = (false, eval e X.env) :: starEach es X.env := by rfl) : SVA X (e :: es) (aCons m n) := by
  refine ⟨PA.weak (pa_cons ha.r hr.1 hs) fun st H Q h => ?_, fun ro mu ds mu' h => ?_⟩
  · obtain ⟨th, mu, ro, so, en, t⟩ := h
    refine ⟨th, mu, ro, so, en, t.bind.mono fun x th1 mu1 H1 e1 s1 t1 v rv => ?_⟩
    exact ⟨th1, mu1, ro, s1, en.ext e1 so.out, t1.bind.mono fun xs th2 mu2 H2 e2 s2 t2 vs rvs => t2.ret s2 _ (.cons (rv.ext e2 s1.out) rvs)⟩
  · obtain ⟨x, m1, _, h⟩ := bM_inv h
    obtain ⟨xs, m2, h1, h⟩ := bM_inv h
    cases h
    rw [List.length_cons, List.length_cons, hr.2 _ _ _ _ h1]
def eTup (a : Exs) : Ex := fun ro mu => bM (a ro mu) fun xs m1 => some (.tup xs, m1)
def eLst (a : Exs) : Ex := fun ro mu => bM (a ro mu) fun xs m1 => some (.lst xs, m1)
def eLstM (a : Exs) : Ex := fun ro mu => bM (a ro mu) fun xs m1 => some (.ref m1.length, m1 ++ [.lst xs])
theorem Rep.newTup (so : StoOk K th mu H) {p : Addr} (h : H p = none) {ds : List D} {vs : List V} (r : RepL K th H ds vs) (hz : ds.length ≤ sizeLine) : Rep K th (upd H p (.tup vs)) (.tup ds) (.ref p) := by
  unfold Rep
  exact ⟨p, vs, rfl, SqT.of upd_same, r.ext (.new h _) so.out, hz⟩
theorem StoOk.notin (so : StoOk K th mu H) {p : Addr} (h : H p = none) : p ∉ th := fun z => by
  obtain ⟨xs, e, _⟩ := so.out p z
  rw [h] at e
  cases e
theorem Rep.newLst (so : StoOk K th mu H) {p : Addr} (h : H p = none) {ds : List D} {vs : List V} (r : RepL K th H ds vs) (hz : ds.length ≤ sizeLine) : Rep K th (upd H p (.lst vs)) (.lst ds) (.ref p) := by
  unfold Rep
  exact ⟨p, vs, rfl, .inl ⟨so.notin h, .inl upd_same⟩, r.ext (.new h _) so.out, hz⟩
theorem sv_tup {es : List Expr} {m : Exs} {x1} {pos : Pos} (h : SVA X es m) (hl : es.length ≤ 1000 := by decide) : SV X (.Tuple es x1 pos) (eTup m) := ⟨PE.weak (pe_tup h.1) fun st H Q q => by
  obtain ⟨th, mu, ro, so, en, t⟩ := q
  obtain ⟨d, mu', e, _⟩ := id t
  obtain ⟨xs0, m0, e0, _⟩ := bM_inv e
  have hn := h.2 _ _ _ _ e0
  have tb : Tr X.z th H (m ro mu) fun ds th' mu' H' => ds.length ≤ 1000 ∧ Tr X.z th' H' (some (D.tup ds, mu')) (KV' X.z Q) := by
    obtain ⟨a, mu1, e1, q1⟩ := t.bind
    exact ⟨a, mu1, e1, fun th' H' x s => ⟨by rw [h.2 _ _ _ _ e1]; exact hl, q1 th' H' x s⟩⟩
  refine ⟨th, mu, ro, so, en, tb.mono fun xs th1 mu1 H1 e1 s1 t1 vs rvs => ⟨?_, fun p hp => ?_⟩⟩
  · rw [rvs.len]; exact Nat.le_trans t1.1 (by decide)
  · exact t1.2.retX (.new hp _) (s1.new hp _) _ (Rep.newTup s1 hp rvs (Nat.le_trans t1.1 (by decide)))⟩
theorem lst_tb {es : List Expr} {m : Exs} {C : List D → Sto → Rs D} {st : L2.St} {ro : Ro} {k : D → List Addr → Sto → Hp → Prop} (h : SVA X es m) (hl : es.length ≤ 1000) (t : Tr K th H (bM (m ro mu) C) k) :
    Tr K th H (m ro mu) fun ds th' mu' H' => ds.length ≤ 1000 ∧ Tr K th' H' (C ds mu') k := by
  obtain ⟨a, mu1, e1, q1⟩ := t.bind
  exact ⟨a, mu1, e1, fun th' H' x s => ⟨by rw [h.2 _ _ _ _ e1]; exact hl, q1 th' H' x s⟩⟩
theorem sv_lst {es : List Expr} {m : Exs} {pos : Pos} (h : SVA X es m) (hl : es.length ≤ 1000 := by decide) : SV X (.List es pos) (eLst m) := ⟨PE.weak (pe_lst h.1) fun st H Q q => by
  obtain ⟨th, mu, ro, so, en, t⟩ := q
  refine ⟨th, mu, ro, so, en, (lst_tb (st := st) h hl t).mono fun xs th1 mu1 H1 e1 s1 t1 vs rvs => ⟨?_, fun p hp => ?_⟩⟩
  · rw [rvs.len]; exact Nat.le_trans t1.1 (by decide)
  · exact t1.2.retX (.new hp _) (s1.new hp _) _ (Rep.newLst s1 hp rvs (Nat.le_trans t1.1 (by decide)))⟩
theorem sv_lstM {es : List Expr} {m : Exs} {pos : Pos} (h : SVA X es m) (hl : es.length ≤ 1000 := by decide) : SV X (.List es pos) (eLstM m) := ⟨PE.weak (pe_lst h.1) fun st H Q q => by
  obtain ⟨th, mu, ro, so, en, t⟩ := q
  refine ⟨th, mu, ro, so, en, (lst_tb (st := st) h hl t).mono fun xs th1 mu1 H1 e1 s1 t1 vs rvs => ⟨?_, fun p hp => ?_⟩⟩
  · rw [rvs.len]; exact Nat.le_trans t1.1 (by decide)
  · refine t1.2.retX (.newM hp _) (s1.newM hp rvs (Nat.le_trans t1.1 (by decide))) _ ?_
    unfold Rep
    exact ⟨p, rfl, by rw [← s1.len]; simp⟩⟩

def eCall (f : Fn) (a : Exs) : Ex := fun ro mu => bM (a ro mu) fun xs m1 => f xs m1
theorem tCB_rd {f : Fn} {a : Exs} {st : L2.St} {Q : VK} (h : rdE K (eCall f a) st H Q) : tCB (rL K f) (rdA K a) st H Q := by
  obtain ⟨th, mu, ro, so, en, t⟩ := h
  exact ⟨th, mu, ro, so, en, t.bind.mono fun xs th1 mu1 H1 e1 s1 t1 vs rvs => ⟨th1, mu1, xs, s1, rvs, t1⟩⟩
theorem sv_callB {x : Str} {id : String} {g : Fn} {e : Expr} {es : List Expr} {m : Exs} {p pos : Pos} (hc : CallV X (.builtin id) g) (hm : X.mg x = none) (hv : bootBuiltins x = some (.builtin id)) (ha : SVA X (e :: es) m) (hg : Gl X x := by rfl)
    (hn : x ≠ "__name__" := by decide) (hdb : (x == ("__debug__" : Str)) = false := by decide) (hs1 : starEach (e :: es) X.env = (false, eval e X.env) :: starEach es X.env := by rfl) (hs2 : (backTo pos (starEach es X.env)).any (·.1) = false := by rfl) : SV X (.Call (.Name x p) (e :: es) [] pos) (eCall g m) :=
  ⟨PE.weak (pe_callB hc hg hm hv ha.1 hn hdb hs1 hs2) fun _ _ _ h => tCB_rd h⟩
theorem sv_callTy {x : Str} {T : String} {g : Fn} {e : Expr} {es : List Expr} {m : Exs} {p pos : Pos} (hc : CallV X (.type T) g) (hm : X.mg x = none) (hv : bootBuiltins x = some (.type T)) (ha : SVA X (e :: es) m) (hg : Gl X x := by rfl)
    (hn : x ≠ "__name__" := by decide) (hdb : (x == ("__debug__" : Str)) = false := by decide) (hs1 : starEach (e :: es) X.env = (false, eval e X.env) :: starEach es X.env := by rfl) (hs2 : (backTo pos (starEach es X.env)).any (·.1) = false := by rfl) : SV X (.Call (.Name x p) (e :: es) [] pos) (eCall g m) :=
  ⟨PE.weak (pe_callTy hc hg hm hv ha.1 hn hdb hs1 hs2) fun _ _ _ h => tCB_rd h⟩
def spF (K : Zc) (f : Fn) (n : Nat) : Sp := fun vs H Q _ => ∃ th mu ds, StoOk K th mu H ∧ RepL K th H ds vs ∧ ds.length = n ∧ Tr K th H (f ds mu) (KV' K Q)
structure Cal (P : Program) (w : World) (K : PySem.W.Frag) (mg : Str → Option Value) (base : Heap) (k : Nat) (x : Str) (f : Fn) (n : Nat) : Prop where
  ex : ∃ (ps : List Str) (a : Addr) (fd : FuncData), ps.length = n ∧ FnOk P w K mg base CX0 k a fd ps (spF ⟨K, P, w⟩ f n) ∧ Binds K fd ps [] ∧ PySem.W.keepIn K (.ref a) = true ∧ mg x = some (.ref a)
theorem sv_call {x : Str} {k : Nat} {f : Fn} {n : Nat} {e : Expr} {es : List Expr} {m : Exs} {p pos : Pos} (C : Cal X.prog X.w X.K X.mg X.base k x f n) (hr : Room k X.A) (ha : SVA X (e :: es) m) (hl : (e :: es).length = n := by rfl) (hg : Gl X x := by rfl)
    (hdb : (x == ("__debug__" : Str)) = false := by decide) (he : starEach (e :: es) X.env = (false, eval e X.env) :: starEach es X.env := by rfl) (hpl : (backTo pos (starEach es X.env)).any (·.1) = false := by rfl) : SV X (.Call (.Name x p) (e :: es) [] pos) (eCall f m) := ⟨by
  obtain ⟨ps, a, fd, hn, F, b, kp, mm⟩ := C.ex
  refine PE.weak (pe_call F hr hg mm kp b .nil pass0 ha.1 hdb he hpl) fun st H Q h => ?_
  obtain ⟨th, mu, ro, so, en, t⟩ := h
  have tb : Tr X.z th H (m ro mu) fun ds th' mu' H' => ds.length = n ∧ Tr X.z th' H' (f ds mu') (KV' X.z Q) := by
    obtain ⟨a, mu1, e1, q1⟩ := t.bind
    exact ⟨a, mu1, e1, fun th' H' x s => ⟨by rw [ha.2 _ _ _ _ e1]; exact hl, q1 th' H' x s⟩⟩
  exact ⟨th, mu, ro, so, en, tb.mono fun xs th1 mu1 H1 e1 s1 t1 vs rvs => ⟨th1, mu1, xs, s1, by simpa using rvs, t1.1, t1.2⟩⟩⟩
end
end PV

namespace PV
open PySem L2 PySem.Spec PyProof.Rows
section
variable {X : Cx} {K : Zc} {th : List Addr} {mu : Sto} {H : Hp}
def sNx : Sx := fun ro mu => some ((.nx, ro), mu)
def sSeq (a b : Sx) : Sx := fun ro mu => bM (a ro mu) fun p m1 => match p.1 with
  | .nx => b p.2 m1
  | _ => some (p, m1)
theorem svb_nil : SVB X [] sNx := ⟨PSs.weak pss_nil fun E st H h => by
  obtain ⟨th, mu, ro, so, en, t⟩ := h
  exact t.ret so st en⟩
theorem svb_one {s : Stmt} {m : Sx} (h : SVS X s m) : SVB X [s] m := ⟨pss_one h.r⟩
theorem svb_cons {s : Stmt} {r : List Stmt} {m n : Sx} (h1 : SVS X s m) (h2 : SVB X r n) : SVB X (s :: r) (sSeq m n) := ⟨PSs.weak (pss_cons h1.r h2.r) fun E st H h => by
  obtain ⟨th, mu, ro, so, en, t⟩ := h
  refine ⟨th, mu, ro, so, en, t.bind.mono fun p th1 mu1 H1 e1 s1 t1 st' en' => ?_⟩
  obtain ⟨fl, ro'⟩ := p
  cases fl with
  | nx => exact ⟨th1, mu1, ro', s1, en', t1⟩
  | bk => exact t1.ret s1 st' en'
  | ct => exact t1.ret s1 st' en'
  | rt d => exact t1.ret s1 st' en'⟩
theorem svs_pass {pos : Pos} : SVS X (.Pass pos) sNx := ⟨PS.weak ps_pass fun E st H h => by
  obtain ⟨th, mu, ro, so, en, t⟩ := h
  exact t.ret so st en⟩
def sBk : Sx := fun ro mu => some ((.bk, ro), mu)
def sCt : Sx := fun ro mu => some ((.ct, ro), mu)
theorem svs_break {pos : Pos} : SVS X (.Break pos) sBk := ⟨PS.weak ps_break fun E st H h => by
  obtain ⟨th, mu, ro, so, en, t⟩ := h
  exact t.ret so st en⟩
theorem svs_continue {pos : Pos} : SVS X (.Continue pos) sCt := ⟨PS.weak ps_continue fun E st H h => by
  obtain ⟨th, mu, ro, so, en, t⟩ := h
  exact t.ret so st en⟩
def sRt (a : Ex) : Sx := fun ro mu => bM (a ro mu) fun d m1 => some ((.rt d, ro), m1)
theorem svs_ret {e : Expr} {m : Ex} {pos : Pos} (h : SV X e m) : SVS X (.Return (some e) pos) (sRt m) := ⟨PS.weak (ps_ret h.r) fun E st H h => by
  obtain ⟨th, mu, ro, so, en, t⟩ := h
  exact ⟨th, mu, ro, so, en, t.bind.mono fun d th1 mu1 H1 e1 s1 t1 v rv => t1.ret s1 st (en.ext e1 so.out) v rv⟩⟩
def sEx (a : Ex) : Sx := fun ro mu => bM (a ro mu) fun _ m1 => some ((.nx, ro), m1)
theorem svs_expr {e : Expr} {m : Ex} {pos : Pos} (h : SV X e m) (hs : swapsWith e none pos.line X.env = pure false := by rfl) : SVS X (.Expr e pos) (sEx m) := ⟨PS.weak (ps_expr h.r hs) fun E st H h => by
  obtain ⟨th, mu, ro, so, en, t⟩ := h
  exact ⟨th, mu, ro, so, en, t.bind.mono fun d th1 mu1 H1 e1 s1 t1 v rv => t1.ret s1 st (en.ext e1 so.out)⟩⟩
def sIf (c : Tx) (a b : Sx) : Sx := fun ro mu => bM (c ro mu) fun x m1 => if x = true then a ro m1 else b ro m1
theorem svs_if {c : Expr} {a b : List Stmt} {mc : Tx} {ma mb : Sx} {pos : Pos} (hc : SVT X c mc) (ha : SVB X a ma) (hb : SVB X b mb) : SVS X (.If c a b pos) (sIf mc ma mb) := ⟨PS.weak (ps_if hc.r ha.r hb.r) fun E st H h => by
  obtain ⟨th, mu, ro, so, en, t⟩ := h
  refine ⟨th, mu, ro, so, en, t.bind.mono fun b th1 mu1 H1 e1 s1 t1 => ?_⟩
  cases b with
  | true => exact ⟨th1, mu1, ro, s1, en.ext e1 so.out, t1⟩
  | false => exact ⟨th1, mu1, ro, s1, en.ext e1 so.out, t1⟩⟩

abbrev Gx := D → Ro → Sto → Rs Ro
abbrev Gxs := List D → Ro → Sto → Rs Ro
def rdG (K : Zc) (g : Gx) : TG := fun v st H Q => ∃ th mu ro d, StoOk K th mu H ∧ EnvOk K th H ro st ∧ Rep K th H d v ∧ Tr K th H (g d ro mu) fun ro' th' _ H' => ∀ st', EnvOk K th' H' ro' st' → Q st' H'
def rdGs (K : Zc) (g : Gxs) : TGs := fun vs st H Q => ∃ th mu ro ds, StoOk K th mu H ∧ EnvOk K th H ro st ∧ RepL K th H ds vs ∧ Tr K th H (g ds ro mu) fun ro' th' _ H' => ∀ st', EnvOk K th' H' ro' st' → Q st' H'
structure SVG (X : Cx) (e : Expr) (g : Gx) : Prop where
  r : PG X e (rdG X.z g)
structure SVGs (X : Cx) (es : List Expr) (g : Gxs) : Prop where
  r : PGs X es (rdGs X.z g)
theorem PG.weak {e : Expr} {t t' : TG} (h : PG X e t) (f : ∀ v st H Q, t' v st H Q → t v st H Q) : PG X e t' := fun pins s st H v u Q I r q => h pins s st H v u Q I r (f v st H Q q)
theorem PGs.weak {e : List Expr} {t t' : TGs} (h : PGs X e t) (f : ∀ v st H Q, t' v st H Q → t v st H Q) : PGs X e t' := fun pins s st H v u Q I r q => h pins s st H v u Q I r (f v st H Q q)
def gNm (i : Nat) : Gx := fun d ro mu => some (ro.set i (some d), mu)
theorem svg_name (i : Nat) {x : Str} {pos : Pos} (hN : X.N.Nodup) (hi : X.N[i]? = some x := by rfl) (hx : Loc X.env.scope x := by first | exact Or.inl rfl | exact Or.inr rfl) (hf : X.fn x = true ∨ X.env.scope.names.lookup x = some .local := by first | exact .inl rfl | exact .inr rfl) : SVG X (.Name x pos) (gNm i) :=
  ⟨PG.weak (pg_name hN hi hx hf) fun v st H Q h => by
    obtain ⟨th, mu, ro, d, so, en, r, t⟩ := h
    exact t.ret so _ (en.set i r)⟩
def gsNil : Gxs := fun ds ro mu => match ds with
  | [] => some (ro, mu)
  | _ => none
def gsCons (g : Gx) (r : Gxs) : Gxs := fun ds ro mu => match ds with
  | d :: ds => bM (g d ro mu) fun ro' m1 => r ds ro' m1
  | [] => none
theorem svgs_nil : SVGs X [] gsNil := ⟨PGs.weak pgs_nil fun v st H Q h => by
  obtain ⟨th, mu, ro, ds, so, en, r, t⟩ := h
  cases ds with
  | nil => exact ⟨r.inv0, t.ret so _ en⟩
  | cons d ds => exact t.no.elim⟩
theorem svgs_cons {e : Expr} {es : List Expr} {g : Gx} {gs : Gxs} (h1 : SVG X e g) (h2 : SVGs X es gs) (hs : (assignEach (e :: es) X.env).map (·.2) = assign e X.env :: (assignEach es X.env).map (·.2) := by rfl) : SVGs X (e :: es) (gsCons g gs) := ⟨PGs.weak (pgs_cons h1.r h2.r hs) fun v st H Q h => by
  obtain ⟨th, mu, ro, ds, so, en, r, t⟩ := h
  cases ds with
  | nil => exact t.no.elim
  | cons d ds =>
    obtain ⟨v, vr, rfl, r1, r2⟩ := r.inv
    refine ⟨v, vr, rfl, th, mu, ro, d, so, en, r1, ?_⟩
    exact Tr.mono (Tr.bind t) fun ro' th1 mu1 H1 e1 s1 t1 st' en' => ⟨th1, mu1, ro', ds, s1, en', r2.ext e1 so.out, t1⟩⟩
def gTp (n : Nat) (g : Gxs) : Gx := fun d ro mu => match d with
  | .tup ds => if ds.length = n then g ds ro mu else none
  | _ => none
theorem svg_tup {es : List Expr} {k n : Nat} {g : Gxs} {pos : Pos} (hc : X.calm = true) (h : SVGs X es g) (hn : (assignEach es X.env).length = n := by rfl) (hst : (assignEach es X.env).findIdx? (·.1) = none := by rfl) : SVG X (.Tuple es k pos) (gTp n g) :=
  ⟨PG.weak (pg_tup hc h.r hn hst) fun v st H Q q => by
    obtain ⟨th, mu, ro, d, so, en, r, t⟩ := q
    cases d with
    | tup ds =>
      unfold Rep at r
      obtain ⟨a, vs, rfl, hs, rl, _⟩ := r
      unfold gTp at t; dsimp only at t
      by_cases e : ds.length = n
      · rw [if_pos e] at t
        exact ⟨a, vs, rfl, hs, by rw [rl.len]; exact e, th, mu, ro, ds, so, en, rl, t⟩
      · rw [if_neg e] at t; exact t.no.elim
    | _ => exact t.no.elim⟩
def sSet (a : Ex) (g : Gx) : Sx := fun ro mu => bM (a ro mu) fun d m1 => bM (g d ro m1) fun ro' m2 => some ((.nx, ro'), m2)
theorem tAsg_rd {a : Ex} {g : Gx} {st : L2.St} {E : Ends} (h : rdS K (sSet a g) E st H) : tAsg (rdE K a) (rdG K g) E st H := by
  obtain ⟨th, mu, ro, so, en, t⟩ := h
  refine ⟨th, mu, ro, so, en, t.bind.mono fun d th1 mu1 H1 e1 s1 t1 v rv => ?_⟩
  refine ⟨th1, mu1, ro, d, s1, en.ext e1 so.out, rv, t1.bind.mono fun ro' th2 mu2 H2 e2 s2 t2 st' en' => ?_⟩
  exact t2.ret s2 st' en'
theorem svs_asg {tg e : Expr} {m : Ex} {g : Gx} {pos : Pos} (he : SV X e m) (hg : SVG X tg g) (hs : swapsWithSole [tg] e pos.line X.env = pure false := by rfl) (hw : swappedStores [tg] e X.env = pure none := by rfl)
    (h1 : (assignEach [tg] X.env).map (·.2) = [assign tg X.env] := by rfl) : SVS X (.Assign [tg] e pos) (sSet m g) := ⟨PS.weak (ps_asg he.r hg.r hs hw h1) fun _ _ _ h => tAsg_rd h⟩
theorem svs_set (i : Nat) {x : Str} {e : Expr} {m : Ex} {pos pos' : Pos} (hN : X.N.Nodup) (he : SV X e m) (hi : X.N[i]? = some x := by rfl) (hx : Loc X.env.scope x := by first | exact Or.inl rfl | exact Or.inr rfl) (hs : swapsWith e (some (.Name x pos')) pos.line X.env = pure false := by rfl)
    (hf : X.fn x = true ∨ X.env.scope.names.lookup x = some .local := by first | exact .inl rfl | exact .inr rfl) : SVS X (.Assign [.Name x pos'] e pos) (sSet m (gNm i)) := ⟨PS.weak (ps_set hN hi hx he.r hs hf) fun E st H h => by
  obtain ⟨th, mu, ro, so, en, t⟩ := h
  refine ⟨th, mu, ro, so, en, t.bind.mono fun d th1 mu1 H1 e1 s1 t1 v rv => ?_⟩
  exact t1.ret s1 _ ((en.ext e1 so.out).set i rv)⟩
def sPar (i j : Nat) (a : Exs) : Sx := fun ro mu => bM (a ro mu) fun ds m1 => match ds with
  | [x, y] => some ((.nx, (ro.set i (some x)).set j (some y)), m1)
  | _ => none
theorem svs_par (i j : Nat) {x y : Str} {a b : Expr} {m : Exs} {px py pt : Pos} {kt k2 pt2} {pos : Pos} (hc : X.calm = true) (hN : X.N.Nodup) (ha : SVA X [a, b] m)
    (hw : swappedStores [.Tuple [.Name x px, .Name y py] kt pt] (.Tuple [a, b] k2 pt2) X.env = pure (some [x, y]))
    (hi : X.N[i]? = some x := by rfl) (hj : X.N[j]? = some y := by rfl) (hij : i ≠ j := by decide)
    (hx : X.env.scope.names.lookup x = some .local := by rfl) (hy : X.env.scope.names.lookup y = some .local := by rfl)
    (hs : swapsWithSole [.Tuple [.Name x px, .Name y py] kt pt] (.Tuple [a, b] k2 pt2) pos.line X.env = pure false := by rfl) :
    SVS X (.Assign [.Tuple [.Name x px, .Name y py] kt pt] (.Tuple [a, b] k2 pt2) pos) (sPar i j m) := ⟨PS.weak (ps_par hc hN hi hj hij hx hy ha.1 hw hs) fun E st H h => by
  obtain ⟨th, mu, ro, so, en, t⟩ := h
  refine ⟨th, mu, ro, so, en, t.bind.mono fun ds th1 mu1 H1 e1 s1 t1 vs rvs => ?_⟩
  match ds, t1, rvs with
  | [d, d'], t1, rvs =>
    obtain ⟨v, r, rfl, r1, r2⟩ := rvs.inv
    obtain ⟨u, r', rfl, r3, r4⟩ := r2.inv
    cases r4.inv0
    exact ⟨v, u, rfl, t1.ret s1 _ (((en.ext e1 so.out).set i r1).set j r3)⟩
  | [], t1, _ => exact t1.no.elim
  | [_], t1, _ => exact t1.no.elim
  | _ :: _ :: _ :: _, t1, _ => exact t1.no.elim⟩

def fnB (n : Nat) (m : Sx) : Fn := fun ds mu => bM (m (ds.map some ++ List.replicate (n - ds.length) none) mu) fun p m1 => match p.1 with
  | .rt d => some (d, m1)
  | .nx => some (.non, m1)
  | _ => none
theorem envOk_start {N : List Str} {ds : List D} {vs : List V} (r : RepL K th H ds vs) : EnvOk K th H (ds.map some ++ List.replicate (N.length - ds.length) none) (L2.start N vs) := by
  unfold L2.start
  refine ⟨by simp [r.len], fun i d e => ?_⟩
  by_cases hi : i < ds.length
  · rw [List.getElem?_append_left (by simpa using hi), List.getElem?_map] at e
    cases q : ds[i]? with
    | none => rw [q] at e; cases e
    | some d' =>
      rw [q] at e
      have : d' = d := by simpa using e
      subst this
      obtain ⟨v, ev, rv⟩ := r.get q
      exact ⟨v, by rw [List.getElem?_append_left (by simpa [r.len] using hi), List.getElem?_map, ev]; rfl, rv⟩
  · rw [List.getElem?_append_right (by simpa using hi), List.getElem?_replicate] at e
    split at e <;> cases e
theorem fn_sv {P : Program} {w : World} {K : PySem.W.Frag} {mg : Str → Option Value} {base : Heap} {x qual : Str} {st : Stmt} {f : Addr} {fd : FuncData} {N ps : List Str} {k : Nat} {m : Sx} (F : Fun K x qual st f fd) (S : FnScope N ps (defScope st))
    (hbody : ∀ (cdv : Value) (A : Around) (outer : List Env) (s : Shared) (H : Hp) (E : XK), Room k (A.deeper (envOfC qual (defScope st) s.heap.objs.size f cdv)) →
      SVB (cxOf CX0 P w K mg base N qual (defScope st) f cdv A outer s H E).nox (defBody st) m) : FnOk P w K mg base CX0 (k + 1) f fd ps (spF ⟨K, P, w⟩ (fnB N.length m) ps.length) := by
  refine F.ok S (fun vs H Q E h => ?_) (fun cdv A outer s H vs Q E hr h => ?_)
  · obtain ⟨th, mu, ds, _, r, hl, _⟩ := h
    rw [r.len]
    exact hl
  · obtain ⟨th, mu, ds, so, r, hl, t⟩ := h
    refine ⟨_, (hbody cdv A outer s H E hr).r, ?_⟩
    refine ⟨th, mu, _, so, envOk_start r, t.bind.mono fun p th1 mu1 H1 e1 s1 t1 st' en' => ?_⟩
    obtain ⟨fl, ro'⟩ := p
    cases fl with
    | nx => exact t1.ret s1 _ (by unfold Rep; rfl)
    | bk => exact t1.no.elim
    | ct => exact t1.no.elim
    | rt d => exact fun v rv => t1.ret s1 v rv
theorem fn_svn (n np : Nat) {P : Program} {w : World} {K : PySem.W.Frag} {mg : Str → Option Value} {base : Heap} {x qual : Str} {st : Stmt} {f : Addr} {fd : FuncData} {N ps : List Str} {k : Nat} {m : Sx} (F : Fun K x qual st f fd) (S : FnScope N ps (defScope st)) (hn : N.length = n) (hp : ps.length = np)
    (hbody : ∀ (cdv : Value) (A : Around) (outer : List Env) (s : Shared) (H : Hp) (E : XK), Room k (A.deeper (envOfC qual (defScope st) s.heap.objs.size f cdv)) →
      SVB (cxOf CX0 P w K mg base N qual (defScope st) f cdv A outer s H E).nox (defBody st) m) : FnOk P w K mg base CX0 (k + 1) f fd ps (spF ⟨K, P, w⟩ (fnB n m) np) := by
  subst hn hp
  exact fn_sv F S hbody
theorem cal_mk {P : Program} {w : World} {K : PySem.W.Frag} {mg : Str → Option Value} {base : Heap} {x : Str} {st : Stmt} {f : Addr} {fd : FuncData} {ps : List Str} {k n : Nat} {g : Fn} (F : Fun K x x st f fd) (hm : mg x = some (.ref f)) (h : FnOk P w K mg base CX0 k f fd ps (spF ⟨K, P, w⟩ g n)) (hb : Binds K fd ps []) (hn : ps.length = n := by rfl) : Cal P w K mg base k x g n :=
  ⟨ps, f, fd, hn, h, hb, F.kp, hm⟩

abbrev Ix := Ro → Sto → Rs (List D × Option Nat)
def gOk (g : Option Nat) (m0 m : Sto) : Prop := match g with
  | none => True
  | some k => m0[k]? = m[k]?
structure ItOk (K : Zc) (J : It) (th : List Addr) (mu : Sto) (H : Hp) (ds : List D) (g : Option Nat) : Prop where
  sz : ds.length ≤ sizeLine
  go : ∀ th' mu' H', Ext th H th' H' → StoOk K th' mu' H' → gOk g mu mu' → ∀ (i : Nat) (d : D), ds[i]? = some d → J.go i H' ∧ ∀ x H2, J.yld i H' x H2 → Ext th' H' th' H2 ∧ StoOk K th' mu' H2 ∧ Rep K th' H2 d x
  stop : ∀ th' mu' H', Ext th H th' H' → StoOk K th' mu' H' → gOk g mu mu' → J.stop ds.length H'
def rdI (K : Zc) (m : Ix) : TI := fun st H R => ∃ th mu ro, StoOk K th mu H ∧ EnvOk K th H ro st ∧ Tr K th H (m ro mu) fun p th' mu' H' => ∀ J, ItOk K J th' mu' H' p.1 p.2 → R J H'
structure SVI (X : Cx) (tg iter : Expr) (m : Ix) : Prop where
  r : PI X tg iter (rdI X.z m)
theorem PI.weak {tg e : Expr} {t t' : TI} (h : PI X tg e t) (f : ∀ st H R, t' st H R → t st H R) : PI X tg e t' := fun pins s st H R I q => h pins s st H R I (f st H R q)
open Classical in
noncomputable def guard' {A : Type} (g : Option Nat) (m0 m : Sto) (r : Rs A) : Rs A := if gOk g m0 m then r else none
theorem guard_none {A : Type} {m0 m : Sto} {r : Rs A} : guard' none m0 m r = r := by unfold guard'; rw [if_pos (show gOk none m0 m from True.intro)]
theorem guard_inv {A : Type} {g : Option Nat} {m0 m : Sto} {r : Rs A} {p : A × Sto} (h : guard' g m0 m r = some p) : gOk g m0 m ∧ r = some p := by
  unfold guard' at h
  by_cases e : gOk g m0 m
  · rw [if_pos e] at h; exact ⟨e, h⟩
  · rw [if_neg e] at h; cases h
noncomputable def forGo (g : Option Nat) (m0 : Sto) (tg : Gx) (body : Sx) : List D → Ro → Sto → Rs (Fl × Ro)
  | [], ro, mu => some ((.nx, ro), mu)
  | d :: ds, ro, mu => bM (tg d ro mu) fun ro1 m1 => bM (body ro1 m1) fun p m2 => match p.1 with
    | .nx => guard' g m0 m2 (forGo g m0 tg body ds p.2 m2)
    | .ct => guard' g m0 m2 (forGo g m0 tg body ds p.2 m2)
    | .bk => some ((.nx, p.2), m2)
    | .rt d => some ((.rt d, p.2), m2)
noncomputable def sFor (i : Ix) (tg : Gx) (body : Sx) : Sx := fun ro mu => bM (i ro mu) fun p m1 => forGo p.2 m1 tg body p.1 ro m1
theorem svs_for {tg iter : Expr} {body : List Stmt} {i : Ix} {g : Gx} {m : Sx} {pos : Pos} (hp : PassesOwn (model X.prog X.w) X.A X.env X.xe) (hc : X.calm = true) (hi : SVI X tg iter i) (hg : SVG X tg g) (hb : SVB X body m)
    (hs : ∀ x, foldedSetIterable iter X.env x = pure x := by intro _; rfl) : SVS X (.For tg iter body [] pos) (sFor i g m) := ⟨PS.weak (ps_for hp hc hi.r hg.r hb.r hs) fun E st H h => by
  obtain ⟨th, mu, ro, so, en, t⟩ := h
  refine ⟨th, mu, ro, so, en, t.bind.mono fun p th1 mu1 H1 e1 s1 t1 J ok => ?_⟩
  obtain ⟨ds, gd⟩ := p
  have en1 := en.ext e1 so.out
  refine ⟨fun k n st' H' => n = ds.length - k ∧ k ≤ ds.length ∧ ∃ th' mu' ro', StoOk X.z th' mu' H' ∧ EnvOk X.z th' H' ro' st' ∧ Ext th1 H1 th' H' ∧ gOk gd mu1 mu' ∧ Tr X.z th' H' (forGo gd mu1 g m (ds.drop k) ro' mu') (endK X.z E), ⟨_, rfl, Nat.zero_le _, th1, mu1, ro, s1, en1, .refl _ _, ?_, t1⟩, ?_⟩
  · cases gd with
    | none => exact True.intro
    | some k => exact rfl
  rintro k n st2 H2 ⟨rfl, hk, th2, mu2, ro2, s2, en2, e2, g2, t2⟩
  by_cases lt : k < ds.length
  · refine .inr ?_
    have ek : ds[k]? = some ds[k] := by simp
    obtain ⟨a1, a2⟩ := ok.go th2 mu2 H2 e2 s2 g2 k ds[k] ek
    refine ⟨a1, fun st' H' => k + 1 ≤ ds.length ∧ ∃ th' mu' ro', StoOk X.z th' mu' H' ∧ EnvOk X.z th' H' ro' st' ∧ Ext th1 H1 th' H' ∧ gOk gd mu1 mu' ∧ Tr X.z th' H' (forGo gd mu1 g m (ds.drop (k + 1)) ro' mu') (endK X.z E), fun st' H' q => ⟨ds.length - (k + 1), by omega, rfl, q⟩, fun x H3 y => ?_⟩
    obtain ⟨e3, s3, r3⟩ := a2 x H3 y
    rw [List.drop_eq_getElem_cons lt] at t2
    unfold forGo at t2
    refine ⟨th2, mu2, ro2, ds[k], s3, en2.ext e3 s2.out, r3, ?_⟩
    refine (t2.ahead e3).bind.mono fun ro4 th4 mu4 H4 e4 s4 t4 st4 en4 => ?_
    refine ⟨th4, mu4, ro4, s4, en4, t4.bind.mono fun p th5 mu5 H5 e5 s5 t5 st5 en5 => ?_⟩
    obtain ⟨fl, ro5⟩ := p
    have e15 : Ext th1 H1 th5 H5 := ((e2.trans e3).trans e4).trans e5
    cases fl with
    | nx =>
      obtain ⟨a, mu', q1, q2⟩ := t5
      obtain ⟨go5, q1⟩ := guard_inv q1
      exact ⟨lt, th5, mu5, ro5, s5, en5, e15, go5, a, mu', q1, q2⟩
    | ct =>
      obtain ⟨a, mu', q1, q2⟩ := t5
      obtain ⟨go5, q1⟩ := guard_inv q1
      exact ⟨lt, th5, mu5, ro5, s5, en5, e15, go5, a, mu', q1, q2⟩
    | bk => exact t5.ret s5 st5 en5
    | rt d => exact t5.ret s5 st5 en5
  · have e : k = ds.length := by omega
    subst e
    rw [List.drop_length] at t2
    unfold forGo at t2
    exact .inl ⟨ok.stop th2 mu2 H2 e2 s2 g2, t2.ret s2 st2 en2⟩⟩
end
end PV

namespace L2
open PySem PySem.Spec PyProof.Rows
section
variable {X : Cx} {tg iter elt : Expr} {ifs : List Expr} {scope : Scope} {pos : Pos} {wi : TI} {own : List Str} {fv : List (Nat × Str)} {g : TG} {tt : TT} {te : TE}
theorem lc_any {pos2 : Pos} {pins : List (Addr × Obj)} {s : Shared} {σ : L2.St} {H : Hp} {Q : VK} {use : Option (Value → Sem Unit)} {Qc : Value → Shared → Prop} (L : LcOk X scope fv) (hi : PI X tg iter wi)
    (hg : ∀ cl C s₁ H₁ fp, PG (compCx X scope (own ++ fv.map (·.2)) cl C s₁ H₁ fp) tg g)
    (ht : ∀ cl C s₁ H₁ fp, PF (compCx X scope (own ++ fv.map (·.2)) cl C s₁ H₁ fp) ifs tt)
    (he : ∀ cl C s₁ H₁ fp, PE (compCx X scope (own ++ fv.map (·.2)) cl C s₁ H₁ fp) elt te)
    (hs : ∀ x, foldedSetIterable iter X.env x = pure x) (I : Inv X pins σ H s) (h : tLC wi own.length fv g tt te σ H Q)
    (fin : ∀ (s6 : Shared) (H' : Hp) (D C : Addr) (m : Str → Option Value), Inv X pins σ H' s6 → FpOk X pins H' C → s6.heap.Ns C m → Q (.ref D) H' → compPost (model X.prog X.w) X.A X.xe use Qc (.ref D) C (.ok .next) s6) :
    wpAny (model X.prog X.w) X.A (comprehension (.ListComp elt [⟨tg, iter, ifs, 0⟩] scope pos) scope X.env pos2 (newList []) false (eval iter X.env) use) Qc X.xe s := by
  obtain ⟨cl, hclos, hsub, hhas⟩ := closure_of (scope := scope) (env := X.env) fun y hy hf => I.ok.has y.1 (L.free y hy hf)
  refine wpAny_comprehension_free (use := use) rfl hs hclos L.kind L.names (thn (hi pins s σ H _ I h) fun v s1 h1 => thn h1 fun itv s2 h2 => ?_)
  obtain ⟨it, fp, tn, J, H2, e, I2, T, st2, f2, W, ⟨m0, w0⟩, turn⟩ := h2
  subst e
  have hfo : ∀ b ∈ fp, ∃ o, s2.heap.get? b = some o := fun b hb => let ⟨o, e, _⟩ := T.obj _ _ st2 b hb; ⟨o, e⟩
  refine wpAny_newObj_type (wpAny_newFunctionEnv L.cell (by intro y hy; simp at hy) (fun h₁ hns₁ hsb₁ => ?_) L.kind)
  dsimp only at hns₁ hsb₁ ⊢
  have hCe : (s2.heap.push { cls := .type "list", dict := none, data := .seq ([] : List Value).toArray }).objs.size = s2.heap.objs.size + 1 := Heap.size_push _ _
  rw [hCe] at hns₁ hsb₁ ⊢
  have old : ∀ b o, s2.heap.get? b = some o → h₁.get? b = some o := fun b o e => hsb₁.extBut b o (Nat.ne_of_lt (Nat.lt_succ_of_lt (Heap.lt_size e))) (Heap.get?_push_of_some _ (Heap.get?_push_of_some _ e))
  have hD₁ : h₁.get? s2.heap.objs.size = some { cls := .type "list", data := .seq #[] 0 } := hsb₁.extBut _ _ (Nat.ne_of_lt (Nat.lt_succ_self _)) (Heap.get?_push_of_some _ (Heap.get?_push_size _ rfl))
  have I4 := comp_start (own := own) (tk := s2.toks + ([] : List (Str × Value)).length) I2 L f2 hfo hsub hhas hns₁ old hD₁
  generalize hXc : compCx X scope (own ++ fv.map (·.2)) cl (s2.heap.objs.size + 1) s2 H2 fp = Xc at I4
  have hg' := hg cl (s2.heap.objs.size + 1) s2 H2 fp
  have ht' := ht cl (s2.heap.objs.size + 1) s2 H2 fp
  have he' := he cl (s2.heap.objs.size + 1) s2 H2 fp
  have st4 : tn 0 h₁ := T.keep _ _ _ st2 fun b _ o e => old b o e
  have celllt : ∀ x c, cl.lookup x = some c → c < s2.heap.objs.size := fun x c e => by
    obtain ⟨v, z⟩ := I2.cell x c (hsub x c e)
    exact z.lt
  have nst : s2.heap.objs.size ∉ frs X.stack := fun hm => by
    rcases List.mem_cons.mp (I2.stkSub _ hm) with e | e
    · exact absurd I2.lt (by rw [← e]; exact Nat.lt_irrefl _)
    · exact I2.nofs (Nat.le_refl _) e
  rw [hXc] at hg' ht' he'
  have loop : ∀ s4 : Shared, s4 = { s2 with heap := h₁, toks := s2.toks + ([] : List (Str × Value)).length } →
      codeAny (model X.prog X.w) X.A (.compLoop (.ListComp elt [⟨tg, iter, ifs, 0⟩] scope pos) 0 (.ref it) (.ref s2.heap.objs.size) (compEnvC scope cl (s2.heap.objs.size + 1) X.env))
        (compPost (model X.prog X.w) X.A X.xe use Qc (.ref s2.heap.objs.size) (s2.heap.objs.size + 1)) s4 := by
    rintro s4 rfl
    have fpok : ∀ {pl : List (Addr × Obj)} {H' : Hp}, (∀ p ∈ pl, p.1 = s2.heap.objs.size) → (∀ b ∈ fp, H' b = none) → ∀ b ∈ fp, FpOk Xc pl H' b := fun {pl H'} hpl hn b hb => by
      obtain ⟨o, eo⟩ := hfo b hb
      have blt := Heap.lt_size eo
      subst hXc
      refine ⟨hn b hb, Nat.ne_of_lt (Nat.lt_succ_of_lt blt), fun hm => ?_, .inl hb, fun x c e => (f2 b hb).2.2.2.2.1 x c (hsub x c e), fun p hp => ?_⟩
      · obtain ⟨_, f1, f3, _⟩ := f2 b hb
        rcases List.mem_cons.mp (I2.stkSub b hm) with e | e
        · exact f1 e
        · exact f3 e
      · have hp' : p ∈ pl := by simpa [compCx] using hp
        rw [hpl p hp']
        exact Nat.ne_of_gt blt
    have xP : Xc.prog = X.prog := by subst hXc; rfl
    have xw : Xc.w = X.w := by subst hXc; rfl
    have xK : Xc.K = X.K := by subst hXc; rfl
    have xA : Xc.A = X.A := by subst hXc; rfl
    have xc : Xc.calm = true := by subst hXc; exact L.calm
    have xx : Xc.xe = fun _ _ => False := by subst hXc; rfl
    have xe : Xc.env = compEnvC scope cl (s2.heap.objs.size + 1) X.env := by subst hXc; rfl
    have xs : Xc.s₀ = s2 := by subst hXc; rfl
    have xH : Xc.H₀ = H2 := by subst hXc; rfl
    have xf : Xc.fs = frs X.stack := by subst hXc; rfl
    have xex : Xc.ex = fp := by subst hXc; rfl
    have xpn : Xc.pn = [] := by subst hXc; rfl
    refine compLoop_go (fun n s' => ∃ i ys its k σ' H', Inv Xc [(s2.heap.objs.size, { cls := .type "list", data := .seq its k })] σ' H' s' ∧ Vals ys its.toList ∧ tn i s'.heap ∧ (∀ b ∈ fp, H' b = none) ∧ W i n ys σ' H') ?_ m0
      ⟨0, [], #[], 0, _, H2, I4, .nil, st4, fun b hb => (f2 b hb).1, w0⟩
    rintro n s5 ⟨i, ys, its, k, σ5, H5, I5, r5, st5, fr5, w5⟩
    obtain ⟨hlen, hst⟩ := turn i n ys σ5 H5 w5
    have hf5 := fpok (pl := [(s2.heap.objs.size, { cls := .type "list", data := .seq its k })]) (fun p hp => by simp at hp; rw [hp]) fr5
    rcases hst with ⟨stop, qn⟩ | ⟨go, step⟩
    · -- the end
      have d := T.done Xc xP xw xK xc i _ s5 σ5 H5 (fun _ _ => False) I5 hf5 st5 stop
      rw [xA] at d
      refine thn d fun r s6 ⟨hr, I6⟩ => ?_
      subst hr
      obtain ⟨m, hn, _⟩ := I6.loc
      rw [xe] at hn
      obtain ⟨eD, nD, _⟩ := I6.pin (s2.heap.objs.size, _) (List.mem_append_right _ (List.mem_singleton.mpr rfl))
      have nC : H5 (s2.heap.objs.size + 1) = none := by have := I6.free; rw [xe] at this; exact this
      have U : Un (frs X.stack) fp H2 H5 s2.heap s6.heap := by have := I6.base; rw [xf, xex, xs, xH] at this; exact this
      have ok6 : HOk X.prog X.w H5 s6.heap := by have := I6.hok; rw [xP, xw] at this; exact this
      have J6 : Inv X pins σ (upd H5 s2.heap.objs.size (.lst ys)) s6 := I2.call' (s' := s6) (by have := I6.os; rw [xs] at this; exact this) (U.lay (Nat.le_refl _) nD) (ok6.lay nD ⟨hlen, its.toList, k, r5, by simpa using eD⟩) I6.bare fun b hb => by
        obtain ⟨_, f1, _, f3, f4, f5⟩ := f2 b hb
        exact ⟨f3, f1, f4, f5⟩
      exact fin s6 _ _ _ m J6 (I2.fpOk (Nat.le_succ _) (by rw [upd_ne (Nat.ne_of_gt (Nat.lt_succ_self _))]; exact nC)) hn (qn _ nD)
    · have d := T.item Xc xP xw xK xc i _ s5 σ5 H5 (fun _ _ => False) I5 hf5 st5 go
      rw [xA] at d
      refine thn d fun r s6 ⟨u, hr, h6⟩ => ?_
      subst hr
      refine thn h6 fun _ s7 ⟨x, H7, I7, r7, y7, st7, fr7⟩ => ?_
      have I7' := I7.pinned (fpok (pl := [(s2.heap.objs.size, { cls := .type "list", data := .seq its k })]) (fun p hp => by simp at hp; rw [hp]) fr7) (T.obj _ _ st7)
      have a := hg' _ s7 σ5 H7 x u _ I7' r7 (step x H7 y7)
      rw [xP, xw, xA, xx, xe] at a
      refine thn a fun _ s8 ⟨σ8, H8, I8, q8⟩ => ?_
      have b := ht' _ s8 σ8 H8 _ I8 q8
      rw [xP, xw, xA, xx, xe] at b
      refine thn b fun ok s9 ⟨H9, I9, q9⟩ => ?_
      -- what holds behind the block's own steps
      have back : ∀ {s' : Shared} {σ' : St} {H' : Hp}, Inv Xc ([(s2.heap.objs.size, { cls := .type "list", data := .seq its k })] ++ pinsAt fp s7.heap) σ' H' s' →
          tn (i + 1) s'.heap ∧ (∀ b ∈ fp, H' b = none) ∧ s'.heap.get? s2.heap.objs.size = some { cls := .type "list", data := .seq its k } ∧ H' s2.heap.objs.size = none := fun {s' σ' H'} J' => by
        refine ⟨T.keep _ _ _ st7 fun b hb o e => (J'.pin (b, o) (List.mem_append_right _ (List.mem_append_right _ (mem_pinsAt hb e)))).1, fun b hb => ?_, ?_, ?_⟩
        · obtain ⟨o, e, _⟩ := T.obj _ _ st7 b hb
          exact (J'.pin (b, o) (List.mem_append_right _ (List.mem_append_right _ (mem_pinsAt hb e)))).2.1
        · exact (J'.pin (s2.heap.objs.size, _) (List.mem_append_right _ (List.mem_append_left _ (List.mem_singleton.mpr rfl)))).1
        · exact (J'.pin (s2.heap.objs.size, _) (List.mem_append_right _ (List.mem_append_left _ (List.mem_singleton.mpr rfl)))).2.1
      cases ok with
      | false =>
        rw [if_neg Bool.false_ne_true] at q9 ⊢
        obtain ⟨m', hm, w9⟩ := q9
        obtain ⟨b1, b2, _, _⟩ := back I9
        exact ⟨m', hm, i + 1, ys, its, k, σ8, H9, I9.unpinned, r5, b1, b2, w9⟩
      | true =>
        rw [if_pos rfl] at q9 ⊢
        have c := he' _ s9 σ8 H9 _ I9 q9
        rw [xP, xw, xA, xx, xe] at c
        refine thn c fun u' s10 ⟨y, H10, I10, r10, m', hm, w10⟩ => ?_
        obtain ⟨b1, b2, b3, b4⟩ := back I10
        have hz : its.size ≤ sizeLine := by
          have e := r5.length
          simp only [Array.length_toList] at e
          omega
        refine wpAny_list_append_plain (hsz := hz) ⟨k, b3⟩ fun h' hl' sb => ?_
        obtain ⟨k', hk'⟩ := hl'
        have I11 : Inv Xc [] σ8 H10 s10 := I10.pins_of fun p hp => nomatch hp
        have nDL : s2.heap.objs.size ≠ Xc.env.locals := by rw [xe]; exact Nat.ne_of_lt (Nat.lt_succ_self _)
        have I12 : Inv Xc [] σ8 H10 { s10 with heap := h' } := I11.turned (t' := s10.toks) (it := s2.heap.objs.size) (fun b o hb e => (sb.2 b hb).trans e) b4 nDL
          (.inr (by rw [xs]; exact Nat.le_refl _)) (fun x c e => by rw [xe] at e; exact Nat.ne_of_lt (celllt x c e)) (fun p hp => by rw [xpn] at hp; exact nomatch hp)
        have I13 : Inv Xc [(s2.heap.objs.size, { cls := .type "list", data := .seq (its.push u') k' })] σ8 H10 { s10 with heap := h' } := I12.pins_of fun p hp => by
          have e : p = (s2.heap.objs.size, { cls := .type "list", data := .seq (its.push u') k' }) := by simpa using hp
          subst e
          exact ⟨hk', b4, nDL, by rw [xf]; exact nst, fun v z => by cases z⟩
        refine ⟨m', hm, i + 1, ys ++ [y], its.push u', k', σ8, H10, I13, ?_, T.keep _ _ _ b1 fun b hb o e => (sb.2 b ?_).trans e, b2, w10⟩
        · rw [Array.toList_push]
          exact r5.append (.cons r10 .nil)
        · obtain ⟨o', eo⟩ := hfo b hb
          exact Nat.ne_of_lt (Heap.lt_size eo)
  exact codeAny_compStart_list (loop _ rfl) (T.self _ 0 _ _ _ st4 (loop _ rfl))
theorem same_keep {C : Addr} {h h' : Heap} (sb : Heap.SameBut C h h') : ∀ b o, b ∉ [C] → h.get? b = some o → h'.get? b = some o := fun b o hb e => (sb.2 b (by simpa using hb)).trans e
theorem ps_lcSet {i : Nat} {x : Str} {px spos : Pos} (L : LcOk X scope fv) (hi : PI X tg iter wi)
    (hg : ∀ cl C s₁ H₁ fp, PG (compCx X scope (own ++ fv.map (·.2)) cl C s₁ H₁ fp) tg g)
    (ht : ∀ cl C s₁ H₁ fp, PF (compCx X scope (own ++ fv.map (·.2)) cl C s₁ H₁ fp) ifs tt)
    (he : ∀ cl C s₁ H₁ fp, PE (compCx X scope (own ++ fv.map (·.2)) cl C s₁ H₁ fp) elt te)
    (hN : X.N.Nodup) (hix : X.N[i]? = some x) (hx : Loc X.env.scope x) (hf : X.fn x = true ∨ X.env.scope.names.lookup x = some .local)
    (hsw : swapsWith (.ListComp elt [⟨tg, iter, ifs, 0⟩] scope pos) (some (.Name x px)) spos.line X.env = pure true) (hs : ∀ x, foldedSetIterable iter X.env x = pure x) :
    PS X (.Assign [.Name x px] (.ListComp elt [⟨tg, iter, ifs, 0⟩] scope pos) spos) (tAsg (tLC wi own.length fv g tt te) (gName i)) := by
  (intro pins s σ H E I h); rw [exec_Assign_Name_used _ _ _ _ hsw]; refine wpAny_bind (wpAny_standAt (wpAny_bind ?_))
  show wpAny _ X.A (do let _ ← comprehension (.ListComp elt [⟨tg, iter, ifs, 0⟩] scope pos) scope X.env _ (newList []) false (eval iter X.env) (some (assign (.Name x px) X.env))) _ _ s
  refine wpAny_bind (wpAny_mono (lc_any (use := some (assign (.Name x px) X.env)) (Qc := fun _ s' => SP X pins E .next s') (pos := pos) L hi hg ht he hs I h fun s6 H' D C m J6 fC nsC q => ?_) (fun _ s' hq => wpAny_pure (wpAny_pure hq)) fun _ _ e => e)
  obtain ⟨oC, es, ep, hoC, hdC, rC⟩ := id nsC
  have J7 : Inv X (pins ++ [(C, oC)]) σ H' s6 := J6.pins_of fun p hp => (List.mem_append.mp hp).elim (fun z => J6.pin p (List.mem_append_right _ z)) fun z => by
    have e : p = (C, oC) := by simpa using z
    subst e
    obtain ⟨f0, f1, f2, _⟩ := fC
    exact ⟨hoC, f0, f1, f2, fun v z => by rw [hdC] at z; cases z⟩
  show wpAny _ X.A (assign (.Name x px) X.env (.ref D)) _ _ _
  refine wpAny_assign_Name (store_ok J7 hN hix hx (show RelV (.ref D) (.ref D) from rfl) (fun s8 I8 => ?_) hf)
  have eC := (I8.pin (C, oC) (List.mem_append_right _ (List.mem_append_right _ (List.mem_singleton.mpr rfl)))).1
  refine ⟨m, ⟨oC, es, ep, eC, hdC, rC⟩, fun h' sb => ?_⟩
  exact ⟨_, H', (I8.unpinned).turnedL (ch := [C]) (t' := s8.toks) (same_keep sb) (fun b hb => by rw [List.mem_singleton.mp hb]; exact fC), q⟩
end
end L2

namespace PV
open PySem L2 PySem.Spec PyProof.Rows
section
variable {X : Cx} {K : Zc} {th : List Addr} {mu : Sto} {H : Hp}
noncomputable def lcGo (g : Option Nat) (m0 : Sto) (tg : Gx) (tt : Tx) (el : Ex) (ro : Ro) : List D → Sto → Rs (List D)
  | [], mu => some ([], mu)
  | d :: ds, mu => bM (tg d ro mu) fun ro1 m1 => bM (tt ro1 m1) fun b m2 =>
    if b = true then bM (el ro1 m2) fun y m3 => guard' g m0 m3 (bM (lcGo g m0 tg tt el ro ds m3) fun ys m4 => some (y :: ys, m4)) else guard' g m0 m2 (lcGo g m0 tg tt el ro ds m2)
def r0 (nc : Nat) (fvs : List Nat) (ro : Ro) : Ro := List.replicate nc none ++ fvs.map fun k => ro.getD k none
noncomputable def eLC (i : Ix) (nc : Nat) (fvs : List Nat) (tg : Gx) (tt : Tx) (el : Ex) : Ex := fun ro mu => bM (i ro mu) fun p m1 => bM (lcGo p.2 m1 tg tt el (r0 nc fvs ro) p.1 m1) fun ys m2 => some (.lst ys, m2)
def GOwn (nc : Nat) (tg : Gx) : Prop := ∀ d ro mu ro' mu', tg d ro mu = some (ro', mu') → ro'.length = ro.length ∧ ∀ i, nc ≤ i → ro'[i]? = ro[i]?
def GsOwn (nc : Nat) (tg : Gxs) : Prop := ∀ d ro mu ro' mu', tg d ro mu = some (ro', mu') → ro'.length = ro.length ∧ ∀ i, nc ≤ i → ro'[i]? = ro[i]?
theorem gown_name {nc i : Nat} (h : i < nc := by decide) : GOwn nc (gNm i) := fun d ro mu ro' mu' e => by
  cases e
  exact ⟨by simp, fun j hj => List.getElem?_set_ne (by omega)⟩
theorem gsown_nil {nc : Nat} : GsOwn nc gsNil := fun ds ro mu ro' mu' e => by
  cases ds with
  | nil => cases e; exact ⟨rfl, fun _ _ => rfl⟩
  | cons d ds => cases e
theorem gsown_cons {nc : Nat} {g : Gx} {gs : Gxs} (h1 : GOwn nc g) (h2 : GsOwn nc gs) : GsOwn nc (gsCons g gs) := fun ds ro mu ro' mu' e => by
  cases ds with
  | nil => cases e
  | cons d ds =>
    obtain ⟨ro1, m1, e1, e2⟩ := bM_inv e
    obtain ⟨a1, a2⟩ := h1 _ _ _ _ _ e1
    obtain ⟨b1, b2⟩ := h2 _ _ _ _ _ e2
    exact ⟨b1.trans a1, fun i hi => (b2 i hi).trans (a2 i hi)⟩
theorem gown_tup {nc n : Nat} {g : Gxs} (h : GsOwn nc g) : GOwn nc (gTp n g) := fun d ro mu ro' mu' e => by
  cases d with
  | tup ds =>
    unfold gTp at e
    dsimp only at e
    by_cases q : ds.length = n
    · rw [if_pos q] at e; exact h _ _ _ _ _ e
    · rw [if_neg q] at e; cases e
  | _ => cases e
theorem envOk_r0 {nc : Nat} {fv : List (Nat × Str)} {ro : Ro} {st : L2.St} (en : EnvOk K th H ro st) : EnvOk K th H (r0 nc (fv.map (·.1)) ro) (st0 nc fv st) := by
  unfold r0 st0
  refine ⟨by simp, fun i d e => ?_⟩
  by_cases hi : i < nc
  · rw [List.getElem?_append_left (by simpa using hi), List.getElem?_replicate] at e
    split at e <;> cases e
  · rw [List.getElem?_append_right (by simpa using hi)] at e ⊢
    simp only [List.length_replicate, List.map_map, List.getElem?_map] at e ⊢
    cases q : fv[i - nc]? with
    | none => rw [q] at e; cases e
    | some p =>
      rw [q] at e
      have e' : ro.getD p.1 none = some d := by simpa using e
      rw [List.getD_eq_getElem?_getD] at e'
      have e2 : ro[p.1]? = some (some d) := by
        cases w : ro[p.1]? with
        | none => rw [w] at e'; cases e'
        | some o => rw [w] at e'; exact congrArg some e'
      obtain ⟨v, ev, rv⟩ := en.2 _ _ e2
      exact ⟨v, by simp [List.getD_eq_getElem?_getD, ev], rv⟩
theorem own_none {nc : Nat} {fvs : List Nat} {ro : Ro} {i : Nat} {d : D} (e : (r0 nc fvs ro)[i]? = some (some d)) : nc ≤ i := by
  rcases Nat.lt_or_ge i nc with h | h
  · unfold r0 at e
    rw [List.getElem?_append_left (by simpa using h), List.getElem?_replicate] at e
    split at e <;> cases e
  · exact h
theorem tLC_rd {i : Ix} {nc : Nat} {fv : List (Nat × Str)} {tg : Gx} {tt : Tx} {el : Ex} {st : L2.St} {Q : VK} (ow : GOwn nc tg) (h : rdE K (eLC i nc (fv.map (·.1)) tg tt el) st H Q) : tLC (rdI K i) nc fv (rdG K tg) (rdT K tt) (rdE K el) st H Q := by
  obtain ⟨th, mu, ro, so, en, t⟩ := h
  refine ⟨th, mu, ro, so, en, t.bind.mono fun p th1 mu1 H1 e1 s1 t1 J ok => ?_⟩
  obtain ⟨ds, gd⟩ := p
  have en1 := envOk_r0 (nc := nc) (fv := fv) (en.ext e1 so.out)
  generalize hro : r0 nc (fv.map (·.1)) ro = ro0 at t1 en1
  have own : ∀ i d, ro0[i]? = some (some d) → nc ≤ i := fun i d e => by subst hro; exact own_none e
  refine ⟨fun k n ys st' H' => n = ds.length - k ∧ k ≤ ds.length ∧ ∃ th' mu' zs, StoOk K th' mu' H' ∧ EnvOk K th' H' ro0 st' ∧ Ext th1 H1 th' H' ∧ gOk gd mu1 mu' ∧ RepL K th' H' zs ys ∧ zs.length ≤ k ∧
    Tr K th' H' (lcGo gd mu1 tg tt el ro0 (ds.drop k) mu') fun rest th'' mu'' H'' => ∀ th3 H3 v, Ext th'' H'' th3 H3 → StoOk K th3 mu'' H3 → Rep K th3 H3 (.lst (zs ++ rest)) v → Q v H3, ⟨_, rfl, Nat.zero_le _, th1, mu1, [], s1, en1, .refl _ _, ?_, .nil, Nat.zero_le _, ?_⟩, ?_⟩
  · cases gd with
    | none => exact True.intro
    | some k => exact rfl
  · exact t1.bind.mono fun rest th2 mu2 H2 e2 s2 t2 th3 H3 v e3 s3 rv => t2.retX e3 s3 v rv
  rintro k n ys st2 H2 ⟨rfl, hk, th2, mu2, zs, s2, en2, e2, g2, rz, hz, t2⟩
  have hsz := ok.sz
  dsimp only at hsz
  refine ⟨by rw [rz.len]; omega, ?_⟩
  by_cases lt : k < ds.length
  · refine .inr ?_
    have ek : ds[k]? = some ds[k] := by simp
    obtain ⟨a1, a2⟩ := ok.go th2 mu2 H2 e2 s2 g2 k ds[k] ek
    refine ⟨a1, fun x H3 y => ?_⟩
    obtain ⟨e3, s3, r3⟩ := a2 x H3 y
    rw [List.drop_eq_getElem_cons lt] at t2
    unfold lcGo at t2
    refine ⟨th2, mu2, ro0, ds[k], s3, en2.ext e3 s2.out, r3, ?_⟩
    refine (t2.ahead e3).bindE.mono fun ro1 th4 mu4 H4 e4 s4 t4 st4 en4 => ?_
    obtain ⟨eq4, t4⟩ := t4
    obtain ⟨ol, ow'⟩ := ow _ _ _ _ _ eq4
    have back : ∀ {th' H'}, Ext th4 H4 th' H' → EnvOk K th' H' ro0 st4 := fun {th' H'} ex => by
      have en' := en4.ext ex s4.out
      refine ⟨by rw [← ol]; exact en'.1, fun i d e => ?_⟩
      exact en'.2 i d (by rw [ow' i (own i d e)]; exact e)
    refine ⟨th4, mu4, ro1, s4, en4, t4.bind.mono fun b th5 mu5 H5 e5 s5 t5 => ?_⟩
    have e14 : Ext th1 H1 th5 H5 := ((e2.trans e3).trans e4).trans e5
    cases b with
    | false =>
      obtain ⟨a, mu', q1, q2⟩ := t5
      obtain ⟨go5, q1⟩ := guard_inv q1
      refine ⟨ds.length - (k + 1), by omega, rfl, lt, th5, mu5, zs, s5, back e5, e14, go5, rz.ext ((e3.trans e4).trans e5) s2.out, by omega, a, mu', q1, q2⟩
    | true =>
      refine ⟨th5, mu5, ro1, s5, en4.ext e5 s4.out, Tr.mono (Tr.bind t5) fun y th6 mu6 H6 e6 s6 t6 v rv => ?_⟩
      obtain ⟨a, mu', q1, q2⟩ := t6
      obtain ⟨go6, q1⟩ := guard_inv q1
      obtain ⟨rest, m7, q3, q4⟩ := bM_inv q1
      cases q4
      refine ⟨ds.length - (k + 1), by omega, rfl, lt, th6, mu6, zs ++ [y], s6, back (e5.trans e6), e14.trans e6, go6, (rz.ext (((e3.trans e4).trans e5).trans e6) s2.out).app (.cons rv .nil), by rw [List.length_append]; exact Nat.add_le_add_right hz 1, rest, mu', q3, fun th7 H7 e7 s7 th8 H8 v' e8 s8 rv' => ?_⟩
      rw [List.append_assoc] at rv'
      exact q2 th7 H7 e7 s7 th8 H8 v' e8 s8 rv'
  · have e : k = ds.length := by omega
    subst e
    rw [List.drop_length] at t2
    unfold lcGo at t2
    refine .inl ⟨ok.stop th2 mu2 H2 e2 s2 g2, fun p hp => ?_⟩
    refine t2.ret s2 th2 _ _ (.new hp _) (s2.new hp _) ?_
    rw [List.append_nil]
    exact Rep.newLst s2 hp rz (by omega)
def tY : Tx := fun _ mu => some (true, mu)
structure SVF (X : Cx) (ifs : List Expr) (m : Tx) : Prop where
  r : PF X ifs (rdT X.z m)
theorem svf_nil : SVF X [] tY := ⟨fun pins s st H Q I h => pf_nil pins s st H Q I (by
  obtain ⟨th, mu, ro, so, en, t⟩ := h
  exact t.ret so)⟩
theorem svf_one {c : Expr} {m : Tx} (h : SVT X c m) : SVF X [c] m := ⟨pf_one h.r⟩
section
variable {tg iter elt : Expr} {ifs : List Expr} {scope : Scope} {pos : Pos} {i : Ix} {g : Gx} {tt : Tx} {el : Ex}
theorem sv_lc (own : List Str) (fv : List (Nat × Str)) (L : LcOk X scope fv) (hi : SVI X tg iter i) (ow : GOwn own.length g)
    (hg : ∀ cl C s₁ H₁ fp, SVG (compCx X scope (own ++ fv.map (·.2)) cl C s₁ H₁ fp) tg g)
    (ht : ∀ cl C s₁ H₁ fp, SVF (compCx X scope (own ++ fv.map (·.2)) cl C s₁ H₁ fp) ifs tt)
    (he : ∀ cl C s₁ H₁ fp, SV (compCx X scope (own ++ fv.map (·.2)) cl C s₁ H₁ fp) elt el)
    (hs : ∀ x, foldedSetIterable iter X.env x = pure x := by intro _; rfl) : SV X (.ListComp elt [⟨tg, iter, ifs, 0⟩] scope pos) (eLC i own.length (fv.map (·.1)) g tt el) :=
  ⟨PE.weak (pe_lc (own := own) (g := rdG X.z g) (tt := rdT X.z tt) (te := rdE X.z el) L hi.r (fun cl C s₁ H₁ fp => (hg cl C s₁ H₁ fp).r) (fun cl C s₁ H₁ fp => (ht cl C s₁ H₁ fp).r) (fun cl C s₁ H₁ fp => (he cl C s₁ H₁ fp).r) hs) fun _ _ _ h => tLC_rd ow h⟩
theorem svs_lcSet (j : Nat) {x : Str} {px spos : Pos} (own : List Str) (fv : List (Nat × Str)) (L : LcOk X scope fv) (hi : SVI X tg iter i) (ow : GOwn own.length g)
    (hg : ∀ cl C s₁ H₁ fp, SVG (compCx X scope (own ++ fv.map (·.2)) cl C s₁ H₁ fp) tg g)
    (ht : ∀ cl C s₁ H₁ fp, SVF (compCx X scope (own ++ fv.map (·.2)) cl C s₁ H₁ fp) ifs tt)
    (he : ∀ cl C s₁ H₁ fp, SV (compCx X scope (own ++ fv.map (·.2)) cl C s₁ H₁ fp) elt el)
    (hN : X.N.Nodup) (hix : X.N[j]? = some x := by rfl) (hx : Loc X.env.scope x := by first | exact Or.inl rfl | exact Or.inr rfl) (hf : X.fn x = true ∨ X.env.scope.names.lookup x = some .local := by first | exact .inl rfl | exact .inr rfl)
    (hsw : swapsWith (.ListComp elt [⟨tg, iter, ifs, 0⟩] scope pos) (some (.Name x px)) spos.line X.env = pure true := by rfl) (hs : ∀ x, foldedSetIterable iter X.env x = pure x := by intro _; rfl) :
    SVS X (.Assign [.Name x px] (.ListComp elt [⟨tg, iter, ifs, 0⟩] scope pos) spos) (sSet (eLC i own.length (fv.map (·.1)) g tt el) (gNm j)) :=
  ⟨PS.weak (ps_lcSet (own := own) (g := rdG X.z g) (tt := rdT X.z tt) (te := rdE X.z el) L hi.r (fun cl C s₁ H₁ fp => (hg cl C s₁ H₁ fp).r) (fun cl C s₁ H₁ fp => (ht cl C s₁ H₁ fp).r) (fun cl C s₁ H₁ fp => (he cl C s₁ H₁ fp).r) hN hix hx hf hsw hs) fun E st H h => by
    obtain ⟨th, mu, ro, so, en, t⟩ := h
    refine tLC_rd ow ⟨th, mu, ro, so, en, t.bind.mono fun d th1 mu1 H1 e1 s1 t1 v rv => ?_⟩
    exact t1.ret s1 _ ((en.ext e1 so.out).set j rv)⟩
end

def chars (x : Str) : List D := x.cps.toList.map fun c => .str ⟨#[c]⟩
def iVal (a : Ex) : Ix := fun ro mu => bM (a ro mu) fun d m1 => match d with
  | .tup ds => some ((ds, none), m1)
  | .lst ds => some ((ds, none), m1)
  | .str x => some ((chars x, none), m1)
  | .ref k => match m1[k]? with
    | some (.lst ds) => some ((ds, some k), m1)
    | _ => none
  | _ => none
theorem RepL.at {ds : List D} {vs : List V} (r : RepL K th H ds vs) {i : Nat} {d : D} (e : ds[i]? = some d) {v : V} (ev : vs[i]? = some v) : Rep K th H d v := by
  obtain ⟨u, eu, ru⟩ := r.get e
  rw [ev] at eu
  cases eu
  exact ru
theorem itok_list {a : Addr} {ds : List D} {g : Option Nat} (hz : ds.length ≤ sizeLine) (h : ∀ th' mu' H', Ext th H th' H' → StoOk K th' mu' H' → gOk g mu mu' → ∃ vs, SqL K.K H' a vs ∧ RepL K th' H' ds vs) : ItOk K (Itl K.K a) th mu H ds g where
  sz := hz
  go := fun th' mu' H' e s go i d ed => by
    obtain ⟨vs, h1, h2⟩ := h th' mu' H' e s go
    obtain ⟨v, ev, rv⟩ := h2.get ed
    refine ⟨⟨vs, v, h1, ev⟩, fun x H2 y => ?_⟩
    obtain ⟨rfl, y⟩ := y
    have ex := y vs h1
    rw [ev] at ex
    cases ex
    exact ⟨.refl _ _, s, rv⟩
  stop := fun th' mu' H' e s go => by
    obtain ⟨vs, h1, h2⟩ := h th' mu' H' e s go
    exact ⟨vs, h1, by rw [h2.len]; exact Nat.le_refl _⟩
theorem itok_tup {a : Addr} {ds : List D} {vs : List V} (so : StoOk K th mu H) (hz : ds.length ≤ sizeLine) (h : SqT K.K H a vs) (r : RepL K th H ds vs) : ItOk K (Itt K.K a) th mu H ds none where
  sz := hz
  go := fun th' mu' H' e s go i d ed => by
    have h1 := e.sqT so.out h
    obtain ⟨v, ev, rv⟩ := (r.ext e so.out).get ed
    refine ⟨⟨vs, v, h1, ev⟩, fun x H2 y => ?_⟩
    obtain ⟨rfl, y⟩ := y
    have ex := y vs h1
    rw [ev] at ex
    cases ex
    exact ⟨.refl _ _, s, rv⟩
  stop := fun th' mu' H' e s go => ⟨vs, e.sqT so.out h, by rw [r.len]; exact Nat.le_refl _⟩
theorem rep_char {x : Str} {c : Nat} (ok : PyData.strOk x = true) (h : c ∈ x.cps.toList) : Rep K th H (.str ⟨#[c]⟩) (.str ⟨#[c]⟩) := by
  unfold Rep
  refine ⟨rfl, by show 1 ≤ sizeLine; decide, ?_⟩
  unfold PyData.strOk at ok ⊢
  rw [← Array.all_toList] at ok ⊢
  simpa using List.all_eq_true.mp ok c h
theorem itok_str {x : Str} (hz : x.length ≤ sizeLine) (ok : PyData.strOk x = true) : ItOk K (Its x) th mu H (chars x) none where
  sz := by unfold chars; rw [List.length_map, Array.length_toList]; exact hz
  go := fun th' mu' H' e s go i d ed => by
    unfold chars at ed
    rw [List.getElem?_map] at ed
    cases q : x.cps.toList[i]? with
    | none => rw [q] at ed; cases ed
    | some c =>
      rw [q] at ed
      have hd : D.str ⟨#[c]⟩ = d := by simpa using ed
      subst hd
      have hlt := (List.getElem?_eq_some_iff.mp q).1
      refine ⟨by show i < x.cps.size; simpa using hlt, fun v H2 y => ?_⟩
      obtain ⟨rfl, c', hc', rfl⟩ := y
      have : c' = c := by
        rw [← Array.getElem?_toList, q] at hc'
        exact (Option.some.inj hc').symm
      subst this
      exact ⟨.refl _ _, s, rep_char ok (List.mem_of_getElem? q)⟩
  stop := fun th' mu' H' e s go => by show (chars x).length = x.cps.size; unfold chars; simp
theorem svi_val {tg e : Expr} {m : Ex} (h : SV X e m) : SVI X tg e (iVal m) := ⟨by
  intro pins s st H R I q
  obtain ⟨th, mu, ro, so, en, t⟩ := q
  obtain ⟨p, mu', e1, q1⟩ := id t
  obtain ⟨d, m1, e2, e3⟩ := bM_inv e1
  have t' := t.bindE
  cases d with
  | tup ds =>
    refine pi_tup h.r pins s st H R I ⟨th, mu, ro, so, en, t'.mono fun d th1 mu1 H1 x1 s1 t1 v rv => ?_⟩
    obtain ⟨eq, t1⟩ := t1
    rw [e2] at eq
    cases eq
    unfold Rep at rv
    obtain ⟨a, vs, rfl, hs, rl, hz⟩ := rv
    exact ⟨a, rfl, ⟨vs, hs⟩, t1.ret s1 _ (itok_tup s1 hz hs rl)⟩
  | lst ds =>
    refine pi_list h.r pins s st H R I ⟨th, mu, ro, so, en, t'.mono fun d th1 mu1 H1 x1 s1 t1 v rv => ?_⟩
    obtain ⟨eq, t1⟩ := t1
    rw [e2] at eq
    cases eq
    unfold Rep at rv
    obtain ⟨a, vs, rfl, hs, rl, hz⟩ := rv
    exact ⟨a, rfl, ⟨vs, hs.sq⟩, t1.ret s1 _ (itok_list hz fun th' mu' H' e s' _ => ⟨vs, (e.fz hs).sq, rl.ext e s1.out⟩)⟩
  | str x =>
    refine pi_str h.r pins s st H R I ⟨th, mu, ro, so, en, t'.mono fun d th1 mu1 H1 x1 s1 t1 v rv => ?_⟩
    obtain ⟨eq, t1⟩ := t1
    rw [e2] at eq
    cases eq
    unfold Rep at rv
    obtain ⟨rfl, hz, ok⟩ := rv
    exact ⟨x, rfl, t1.ret s1 _ (itok_str hz ok)⟩
  | ref k =>
    refine pi_list h.r pins s st H R I ⟨th, mu, ro, so, en, t'.mono fun d th1 mu1 H1 x1 s1 t1 v rv => ?_⟩
    obtain ⟨eq, t1⟩ := t1
    rw [e2] at eq
    cases eq
    unfold Rep at rv
    obtain ⟨a, rfl, ha⟩ := rv
    dsimp only at t1
    cases em : m1[k]? with
    | none => rw [em] at t1; exact t1.no.elim
    | some o =>
      cases o with
      | dct _ _ => rw [em] at t1; exact t1.no.elim
      | lst ds =>
        rw [em] at t1
        obtain ⟨vs, h1, h2, hz⟩ := s1.at' k a _ ha em
        refine ⟨a, rfl, ⟨vs, .inl (.inl h1)⟩, t1.ret s1 _ (itok_list hz fun th' mu' H' e s' go => ?_)⟩
        have em' : mu'[k]? = some (.lst ds) := by rw [← em]; exact (show m1[k]? = mu'[k]? from go).symm
        obtain ⟨vs', h1', h2', _⟩ := s'.at' k a _ (e.at ha) em'
        exact ⟨vs', .inl (.inl h1'), h2'⟩
  | non => cases e3
  | bl b => cases e3
  | int b => cases e3
  | dct0 => cases e3⟩
end
end PV

namespace PV
open PySem L2 PySem.Spec PyProof.Rows
mutual
def toPy : D → PyData
  | .non => .none
  | .bl b => .bool b
  | .int i => .int i
  | .str x => .str x
  | .tup ds => .tuple (toPys ds)
  | .lst ds => .list (toPys ds)
  | .dct0 => .none
  | .ref _ => .none
def toPys : List D → List PyData
  | [] => []
  | d :: ds => toPy d :: toPys ds
end
mutual
def pureD : D → Bool
  | .tup ds => pureL ds
  | .lst ds => pureL ds
  | .dct0 => false
  | .ref _ => false
  | _ => true
def pureL : List D → Bool
  | [] => true
  | d :: ds => pureD d && pureL ds
end
def seen (mu : Sto) : D → D
  | .ref k => match mu[k]? with
    | some (.lst ds) => .lst ds
    | _ => .ref k
  | d => d
def eqB (mu : Sto) (d e : D) : Option Bool := if pureD (seen mu d) && pureD (seen mu e) && decide (min (toPy (seen mu d)).depth (toPy (seen mu e)).depth ≤ 60) then some (PyData.eqv (toPy (seen mu d)) (toPy (seen mu e))) else none
def eqD (d e : D) (mu : Sto) : Rs D := (eqB mu d e).map fun b => (.bl b, mu)
def neD (d e : D) (mu : Sto) : Rs D := (eqB mu d e).map fun b => (.bl (!b), mu)
theorem toPys_map (ds : List D) : toPys ds = ds.map toPy := by induction ds with
  | nil => rfl
  | cons d ds ih => rw [toPys, ih]; rfl
section
variable {X : Cx} {K : Zc} {th : List Addr} {mu : Sto} {H : Hp}
mutual
theorem reads_of {pins : List (Addr × Obj)} {st : L2.St} {s : Shared} (I : L2.Inv X pins st H s) : ∀ (d : D) (v : V) (u : Value), pureD d = true → Rep X.z th H d v → RelV v u → ∃ as, Reads s.heap u (toPy d) as ∧ (toPy d).canLay0 = true
  | .non, _, _, _, r, q => by cases (show _ = _ from r); cases q; exact ⟨_, .none, rfl⟩
  | .bl b, _, _, _, r, q => by cases (show _ = _ from r); cases q; exact ⟨_, .bool b, rfl⟩
  | .int i, _, _, _, r, q => by cases (show _ = _ from r); obtain ⟨t, rfl⟩ := q; exact ⟨_, .int i t, rfl⟩
  | .str x, _, _, _, r, q => by obtain ⟨rfl, hz, ok⟩ := (show _ ∧ _ ∧ _ from r); obtain ⟨t, rfl⟩ := q; exact ⟨_, .str x t, ok⟩
  | .tup ds, _, _, p, r, q => by
    unfold Rep at r
    obtain ⟨a, vs, rfl, hs, rl, _⟩ := r
    cases q
    obtain ⟨its, rv, ⟨o, h1, h2, n, h3⟩, _⟩ := I.tuple hs
    unfold pureD at p
    obtain ⟨as, h4, h5⟩ := readsAll_of I ds vs its p rl rv
    exact ⟨as, by unfold toPy; exact .tuple h1 h2 h3 (by simpa using h4), by unfold toPy PyData.canLay0; exact h5⟩
  | .lst ds, _, _, p, r, q => by
    unfold Rep at r
    obtain ⟨a, vs, rfl, hs, rl, _⟩ := r
    cases q
    obtain ⟨its, rv, ⟨o, n, h1, h2, _, h3⟩, _⟩ := I.list hs.sq
    unfold pureD at p
    obtain ⟨as, h4, h5⟩ := readsAll_of I ds vs its p rl rv
    exact ⟨_, by unfold toPy; exact .list h1 h2 h3 (by simpa using h4), by unfold toPy PyData.canLay0; exact h5⟩
  | .dct0, _, _, p, _, _ => by cases p
  | .ref k, _, _, p, _, _ => by cases p
theorem readsAll_of {pins : List (Addr × Obj)} {st : L2.St} {s : Shared} (I : L2.Inv X pins st H s) : ∀ (ds : List D) (vs : List V) (us : List Value), pureL ds = true → RepL X.z th H ds vs → Vals vs us → ∃ as, ReadsAll s.heap us (toPys ds) as ∧ PyData.canLayAll0 (toPys ds) = true
  | [], _, _, _, r, q => by cases r.inv0; cases q; exact ⟨_, .nil, rfl⟩
  | d :: ds, _, _, p, r, q => by
    obtain ⟨v, r', rfl, r1, r2⟩ := r.inv
    unfold pureL at p
    rw [Bool.and_eq_true] at p
    cases q with
    | cons q1 q2 =>
      obtain ⟨as, a1, a2⟩ := reads_of I d v _ p.1 r1 q1
      obtain ⟨bs, b1, b2⟩ := readsAll_of I ds r' _ p.2 r2 q2
      exact ⟨_, .cons a1 b1, by unfold toPys PyData.canLayAll0; rw [a2, b2]; rfl⟩
end
theorem reads_seen {pins : List (Addr × Obj)} {st : L2.St} {s : Shared} (I : L2.Inv X pins st H s) (so : StoOk X.z th mu H) {d : D} {v : V} {u : Value} (p : pureD (seen mu d) = true) (r : Rep X.z th H d v) (q : RelV v u) : ∃ as, Reads s.heap u (toPy (seen mu d)) as ∧ (toPy (seen mu d)).canLay0 = true := by
  cases d with
  | ref k =>
    unfold seen at p ⊢
    dsimp only at p ⊢
    cases e : mu[k]? with
    | none => rw [e] at p; cases p
    | some o =>
      cases o with
      | dct _ _ => rw [e] at p; cases p
      | lst ds =>
        rw [e] at p
        dsimp only at p ⊢
        unfold Rep at r
        obtain ⟨a, rfl, ha⟩ := r
        obtain ⟨vs, h1, rl, hz⟩ := so.at' k a _ ha e
        cases q
        obtain ⟨its, rv, ⟨o, n, h2, h3, _, h4⟩, _⟩ := I.list (.inl (.inl h1))
        unfold pureD at p
        obtain ⟨as, h5, h6⟩ := readsAll_of I ds vs its p rl rv
        exact ⟨_, by unfold toPy; exact .list h2 h3 h4 (by simpa using h5), by unfold toPy PyData.canLay0; exact h6⟩
  | _ => exact reads_of I _ v u p r q
theorem op_eqD (hu : X.A.units + 64 < cLine) : OpV X (compareOp .Eq) eqD := by
  intro pins s st H x y v u Q I rx ry h
  obtain ⟨th, mu, d, e, so, r1, r2, t⟩ := h
  unfold eqD eqB at t
  by_cases hc : (pureD (seen mu d) && pureD (seen mu e) && decide (min (toPy (seen mu d)).depth (toPy (seen mu e)).depth ≤ 60)) = true
  · rw [if_pos hc] at t
    rw [Bool.and_eq_true, Bool.and_eq_true, decide_eq_true_eq] at hc
    obtain ⟨as, a1, a2⟩ := reads_seen I so hc.1.1 r1 rx
    obtain ⟨bs, b1, b2⟩ := reads_seen I so hc.1.2 r2 ry
    exact SeqAt.rcAt_reads a1 b1 a2 b2 (by omega) _ _ _ _ ⟨.bl _, H, I, rfl, t.ret so _ rfl⟩
  · rw [if_neg hc] at t
    exact t.no.elim
theorem op_neD (hu : X.A.units + 64 < cLine) : OpV X (compareOp .NotEq) neD := by
  intro pins s st H x y v u Q I rx ry h
  obtain ⟨th, mu, d, e, so, r1, r2, t⟩ := h
  unfold neD eqB at t
  by_cases hc : (pureD (seen mu d) && pureD (seen mu e) && decide (min (toPy (seen mu d)).depth (toPy (seen mu e)).depth ≤ 60)) = true
  · rw [if_pos hc] at t
    rw [Bool.and_eq_true, Bool.and_eq_true, decide_eq_true_eq] at hc
    obtain ⟨as, a1, a2⟩ := reads_seen I so hc.1.1 r1 rx
    obtain ⟨bs, b1, b2⟩ := reads_seen I so hc.1.2 r2 ry
    exact SeqAt.rcNeAt_reads a1 b1 a2 b2 (by omega) _ _ _ _ ⟨.bl _, H, I, rfl, t.ret so _ rfl⟩
  · rw [if_neg hc] at t
    exact t.no.elim
def itemsB (mu : Sto) (d : D) : Option (List D) := match seen mu d with
  | .tup ds => some ds
  | .lst ds => some ds
  | _ => none
def inB (mu : Sto) (d c : D) : Option Bool := match d, seen mu c with
  | .str x, .str y => some (!(Builtin.Str.occurrences y x 0 y.length 1).isEmpty)
  | d, .tup ds => if pureD d && pureL ds && decide (min (PyData.depthAll (toPys ds)) (toPy d).depth ≤ 60) then some ((toPys ds).any fun y => PyData.eqv y (toPy d)) else none
  | d, .lst ds => if pureD d && pureL ds && decide (min (PyData.depthAll (toPys ds)) (toPy d).depth ≤ 60) then some ((toPys ds).any fun y => PyData.eqv y (toPy d)) else none
  | _, _ => none
def inD (d c : D) (mu : Sto) : Rs D := (inB mu d c).map fun b => (.bl b, mu)
def ninD (d c : D) (mu : Sto) : Rs D := (inB mu d c).map fun b => (.bl (!b), mu)
theorem in_cases {d c : D} {b : Bool} (h : inB mu d c = some b) : (∃ x y, d = .str x ∧ c = .str y ∧ b = !(Builtin.Str.occurrences y x 0 y.length 1).isEmpty) ∨
    ∃ ds, (seen mu c = .tup ds ∨ seen mu c = .lst ds) ∧ pureD d = true ∧ pureL ds = true ∧ min (PyData.depthAll (toPys ds)) (toPy d).depth ≤ 60 ∧ b = (toPys ds).any fun y => PyData.eqv y (toPy d) := by
  have fin : ∀ ds, (if pureD d && pureL ds && decide (min (PyData.depthAll (toPys ds)) (toPy d).depth ≤ 60) then some ((toPys ds).any fun y => PyData.eqv y (toPy d)) else none) = some b → pureD d = true ∧ pureL ds = true ∧ min (PyData.depthAll (toPys ds)) (toPy d).depth ≤ 60 ∧ b = (toPys ds).any fun y => PyData.eqv y (toPy d) := fun ds e => by
    by_cases hc : (pureD d && pureL ds && decide (min (PyData.depthAll (toPys ds)) (toPy d).depth ≤ 60)) = true
    · rw [if_pos hc] at e
      rw [Bool.and_eq_true, Bool.and_eq_true, decide_eq_true_eq] at hc
      exact ⟨hc.1.1, hc.1.2, hc.2, (Option.some.inj e).symm⟩
    · rw [if_neg hc] at e; cases e
  unfold inB at h
  cases hs : seen mu c with
  | tup ds => rw [hs] at h; cases d <;> exact .inr ⟨ds, .inl rfl, fin ds h⟩
  | lst ds => rw [hs] at h; cases d <;> exact .inr ⟨ds, .inr rfl, fin ds h⟩
  | str y =>
    rw [hs] at h
    cases d with
    | str x =>
      have : c = .str y := by
        cases c with
        | ref k =>
          unfold seen at hs
          dsimp only at hs
          cases e : mu[k]? with
          | none => rw [e] at hs; cases hs
          | some o => cases o <;> (rw [e] at hs; cases hs)
        | _ => exact hs
      exact .inl ⟨x, y, rfl, this, (Option.some.inj h).symm⟩
    | _ => cases h
  | non => rw [hs] at h; cases d <;> cases h
  | bl _ => rw [hs] at h; cases d <;> cases h
  | int _ => rw [hs] at h; cases d <;> cases h
  | dct0 => rw [hs] at h; cases d <;> cases h
  | ref _ => rw [hs] at h; cases d <;> cases h
theorem op_inD (hu : X.A.units + 64 < cLine) : OpV X (compareOp .In) inD := by
  intro pins s st H x y v u Q I rx ry h
  obtain ⟨th, mu, d, c, so, r1, r2, t⟩ := h
  unfold inD at t
  cases e : inB mu d c with
  | none => rw [e] at t; exact t.no.elim
  | some b =>
    rw [e] at t
    have q : Q (.bl b) H := t.ret so _ rfl
    rcases in_cases e with ⟨x', y', rfl, rfl, hb⟩ | ⟨ds, hs, p1, p2, p3, hb⟩
    · obtain ⟨rfl, _⟩ := (show _ ∧ _ from r1)
      obtain ⟨rfl, _⟩ := (show _ ∧ _ from r2)
      exact op_in_str pins s st H _ _ v u Q I rx ry ⟨x', y', rfl, rfl, by rw [← hb]; exact q⟩
    · obtain ⟨as, a1, a2⟩ := reads_of I d x v p1 r1 rx
      have pc : pureD (seen mu c) = true := by rcases hs with e | e <;> (rw [e]; unfold pureD; exact p2)
      obtain ⟨bs, b1, b2⟩ := reads_seen I so pc r2 ry
      rw [hb] at q
      rcases hs with e | e
      · rw [e] at b1 b2
        unfold toPy at b1 b2
        exact SeqAt.in_tuple_reads b1 a1 b2 a2 (by omega) ⟨.bl _, H, I, rfl, q⟩
      · rw [e] at b1 b2
        unfold toPy at b1 b2
        exact SeqAt.in_list_reads b1 a1 b2 a2 (by omega) ⟨.bl _, H, I, rfl, q⟩
theorem op_ninD (hu : X.A.units + 64 < cLine) : OpV X (compareOp .NotIn) ninD := by
  intro pins s st H x y v u Q I rx ry h
  obtain ⟨th, mu, d, c, so, r1, r2, t⟩ := h
  unfold ninD at t
  cases e : inB mu d c with
  | none => rw [e] at t; exact t.no.elim
  | some b =>
    rw [e] at t
    have q : Q (.bl (!b)) H := t.ret so _ rfl
    rcases in_cases e with ⟨x', y', rfl, rfl, hb⟩ | ⟨ds, hs, p1, p2, p3, hb⟩
    · obtain ⟨rfl, _⟩ := (show _ ∧ _ from r1)
      obtain ⟨rfl, _⟩ := (show _ ∧ _ from r2)
      exact op_notin_str pins s st H _ _ v u Q I rx ry ⟨x', y', rfl, rfl, by rw [← hb]; exact q⟩
    · obtain ⟨as, a1, a2⟩ := reads_of I d x v p1 r1 rx
      have pc : pureD (seen mu c) = true := by rcases hs with e | e <;> (rw [e]; unfold pureD; exact p2)
      obtain ⟨bs, b1, b2⟩ := reads_seen I so pc r2 ry
      rw [hb] at q
      rcases hs with e | e
      · rw [e] at b1 b2
        unfold toPy at b1 b2
        exact SeqAt.notIn_tuple_reads b1 a1 b2 a2 (by omega) ⟨.bl _, H, I, rfl, q⟩
      · rw [e] at b1 b2
        unfold toPy at b1 b2
        exact SeqAt.notIn_list_reads b1 a1 b2 a2 (by omega) ⟨.bl _, H, I, rfl, q⟩
end
end PV

namespace PV
open PySem L2 PySem.Spec PyProof.Rows
section
variable {X : Cx} {K : Zc} {th : List Addr} {mu : Sto} {H : Hp}
def subD (d e : D) (mu : Sto) : Rs D := match d, e with
  | .int i, .int j => some (.int (i - j), mu)
  | _, _ => none
theorem op_subD : OpV X (binaryOp .Sub) subD := by
  intro pins s st H x y v u Q I rx ry h
  obtain ⟨th, mu, d, e, so, r1, r2, t⟩ := h
  cases d with
  | int i =>
    cases e with
    | int j => exact op_sub pins s st H x y v u Q I rx ry ⟨i, j, r1, r2, t.ret so _ rfl⟩
    | _ => exact t.no.elim
  | _ => exact t.no.elim
instance (i j : Int) : Decidable (CMul i j) := by unfold CMul; infer_instance
instance (i j : Int) : Decidable (CDiv i j) := by unfold CDiv; infer_instance
instance (i j : Int) : Decidable (CPow i j) := by unfold CPow; infer_instance
theorem strOk_app {x y : Str} (hx : PyData.strOk x = true) (hy : PyData.strOk y = true) : PyData.strOk (x ++ y) = true := by
  unfold PyData.strOk at *
  show (Array.all (x.cps ++ y.cps) _) = true
  rw [← Array.all_toList] at *
  rw [Array.toList_append, List.all_append, hx, hy]
  rfl
theorem len_app (x y : Str) : (x ++ y).length = x.length + y.length := by
  show (x.cps ++ y.cps).size = _
  rw [Array.size_append]
  rfl
def modD (d e : D) (mu : Sto) : Rs D := match d, e with
  | .int i, .int j => if 0 < j then some (.int (i % j), mu) else none
  | _, _ => none
theorem op_modD : OpV X (binaryOp .Mod) modD := by
  intro pins s st H x y v u Q I rx ry h
  obtain ⟨th, mu, d, e, so, r1, r2, t⟩ := h
  cases d with
  | int i =>
    cases e with
    | int j =>
      unfold modD at t; dsimp only at t
      by_cases c : 0 < j
      · rw [if_pos c] at t; exact op_mod pins s st H x y v u Q I rx ry ⟨i, j, r1, r2, c, t.ret so _ rfl⟩
      · rw [if_neg c] at t; exact t.no.elim
    | _ => exact t.no.elim
  | _ => exact t.no.elim
def fdivD (d e : D) (mu : Sto) : Rs D := match d, e with
  | .int i, .int j => if CDiv i j then some (.int (i / j), mu) else none
  | _, _ => none
theorem op_fdivD : OpV X (binaryOp .FloorDiv) fdivD := by
  intro pins s st H x y v u Q I rx ry h
  obtain ⟨th, mu, d, e, so, r1, r2, t⟩ := h
  cases d with
  | int i =>
    cases e with
    | int j =>
      unfold fdivD at t; dsimp only at t
      by_cases c : CDiv i j
      · rw [if_pos c] at t; exact op_fdiv pins s st H x y v u Q I rx ry ⟨i, j, r1, r2, c, t.ret so _ rfl⟩
      · rw [if_neg c] at t; exact t.no.elim
    | _ => exact t.no.elim
  | _ => exact t.no.elim
def powD (d e : D) (mu : Sto) : Rs D := match d, e with
  | .int i, .int j => if CPow i j then some (.int (i ^ j.toNat), mu) else none
  | _, _ => none
theorem op_powD : OpV X (binaryOp .Pow) powD := by
  intro pins s st H x y v u Q I rx ry h
  obtain ⟨th, mu, d, e, so, r1, r2, t⟩ := h
  cases d with
  | int i =>
    cases e with
    | int j =>
      unfold powD at t; dsimp only at t
      by_cases c : CPow i j
      · rw [if_pos c] at t; exact op_pow pins s st H x y v u Q I rx ry ⟨i, j, r1, r2, c, t.ret so _ rfl⟩
      · rw [if_neg c] at t; exact t.no.elim
    | _ => exact t.no.elim
  | _ => exact t.no.elim
instance (z : Str) (n : Int) : Decidable (MulOk z n) := by unfold MulOk; infer_instance
def mulD (d e : D) (mu : Sto) : Rs D := match d, e with
  | .int i, .int j => if CMul i j then some (.int (i * j), mu) else none
  | .str z, .int n => if MulOk z n ∧ (Txt.mul z n).length ≤ sizeLine ∧ PyData.strOk (Txt.mul z n) = true then some (.str (Txt.mul z n), mu) else none
  | _, _ => none
theorem op_mulD : OpV X (binaryOp .Mult) mulD := by
  intro pins s st H x y v u Q I rx ry h
  obtain ⟨th, mu, d, e, so, r1, r2, t⟩ := h
  cases d with
  | int i =>
    cases e with
    | int j =>
      unfold mulD at t; dsimp only at t
      by_cases c : CMul i j
      · rw [if_pos c] at t; exact op_mul pins s st H x y v u Q I rx ry ⟨i, j, r1, r2, c, t.ret so _ rfl⟩
      · rw [if_neg c] at t; exact t.no.elim
    | _ => exact t.no.elim
  | str z =>
    cases e with
    | int j =>
      unfold mulD at t; dsimp only at t
      by_cases c : MulOk z j ∧ (Txt.mul z j).length ≤ sizeLine ∧ PyData.strOk (Txt.mul z j) = true
      · rw [if_pos c] at t; exact op_mul_str pins s st H x y v u Q I rx ry ⟨z, j, r1.1, r2, c.1, t.ret so _ ⟨rfl, c.2⟩⟩
      · rw [if_neg c] at t; exact t.no.elim
    | _ => exact t.no.elim
  | _ => exact t.no.elim
theorem op_catT0 {a b : Addr} {ys : List V} {pins : List (Addr × Obj)} {st : L2.St} {s : Shared} {Q : VK} (I : L2.Inv X pins st H s) (ha : SqT X.K H a []) (hb : SqT X.K H b ys) (q : Q (.ref b) H) : wpAny (model X.prog X.w) X.A (binaryOp .Add (.ref a) (.ref b)) (EP X pins st Q) X.xe s := by
  obtain ⟨its, r1, p1, _⟩ := I.tuple ha
  obtain ⟨its2, r2, p2, _⟩ := I.tuple hb
  have e : its = [] := by cases r1; rfl
  subst e
  obtain ⟨⟨cls, dd, data, sl⟩, ho, hc, n, hd⟩ := id p1
  obtain ⟨⟨cls2, dd2, data2, sl2⟩, ho2, hc2, n2, hd2⟩ := id p2
  simp only at hc hd hc2 hd2
  subst hc hd hc2 hd2
  exact concat_meets ⟨_, ho, rfl⟩ ⟨_, ho2, rfl⟩ noFill_tuple_add seq_tuple_add PySem.F.slot_tuple_add PySem.F.entry_tuple_add (PySem.F.args_tuple_add_2 _ _)
      (tuple_addW0 a b _ its2.toArray n n2 dd dd2 sl sl2 (by simp)) ⟨ho, ho2, ⟨.ref b, H, I, rfl, q⟩⟩
theorem op_catL {a b : Addr} {xs ys : List V} {pins : List (Addr × Obj)} {st : L2.St} {s : Shared} {Q : VK} (I : L2.Inv X pins st H s) (ha : SqL X.K H a xs) (hb : SqL X.K H b ys) (hz : xs.length + ys.length ≤ sizeLine) (q : ∀ p, H p = none → Q (.ref p) (upd H p (.lst (xs ++ ys)))) : wpAny (model X.prog X.w) X.A (binaryOp .Add (.ref a) (.ref b)) (EP X pins st Q) X.xe s := by
  obtain ⟨its, r1, ⟨o1, n1, p1, c1, d1, e1⟩, _⟩ := I.list ha
  obtain ⟨its2, r2, ⟨o2, n2, p2, c2, d2, e2⟩, _⟩ := I.list hb
  obtain ⟨cls, dd, data, sl⟩ := o1
  obtain ⟨cls2, dd2, data2, sl2⟩ := o2
  simp only at c1 d1 e1 c2 d2 e2
  subst c1 d1 e1 c2 d2 e2
  refine concat_meets ⟨_, p1, rfl⟩ ⟨_, p2, rfl⟩ noFill_list_add seq_list_add PySem.F.slot_list_add PySem.F.entry_list_add (PySem.F.args_list_add_2 _ _)
      (list_addW a b _ its2.toArray n1 n2 _ _ sl sl2 (by rw [List.size_toArray, List.size_toArray, ← r1.length, ← r2.length]; exact hz)) ⟨p1, p2, ?_⟩
  refine ⟨.ref s.heap.objs.size, _, I.laid (t' := s.toks) (o := .lst (xs ++ ys)) (fun b ob q => Heap.get?_push_of_some _ q) (Nat.le_refl _) ?_, rfl, q _ (I.hok.fresh (Nat.le_refl _))⟩
  exact ⟨by rw [List.length_append]; exact hz, its ++ its2, 0, r1.append r2, by simpa using Heap.get?_push_size _ rfl⟩
def lstOf (mu : Sto) : D → Option (List D)
  | .lst ds => some ds
  | .ref k => match mu[k]? with
    | some (.lst ds) => some ds
    | _ => none
  | _ => none
theorem lstOf_rep (so : StoOk K th mu H) {d : D} {ds : List D} {v : V} (h : lstOf mu d = some ds) (r : Rep K th H d v) : ∃ a vs, v = .ref a ∧ SqL K.K H a vs ∧ RepL K th H ds vs ∧ ds.length ≤ sizeLine := by
  cases d with
  | lst es => cases h; unfold Rep at r; obtain ⟨a, vs, rfl, h1, h2, h3⟩ := r; exact ⟨a, vs, rfl, h1.sq, h2, h3⟩
  | ref k =>
    unfold lstOf at h
    dsimp only at h
    cases e : mu[k]? with
    | none => rw [e] at h; cases h
    | some o =>
      cases o with
      | dct _ _ => rw [e] at h; cases h
      | lst es =>
        rw [e] at h
        cases h
        unfold Rep at r
        obtain ⟨a, rfl, ha⟩ := r
        obtain ⟨vs, h1, h2, h3⟩ := so.at' k a _ ha e
        exact ⟨a, vs, rfl, .inl (.inl h1), h2, h3⟩
  | _ => cases h
def addD (d e : D) (mu : Sto) : Rs D := match d, e with
  | .int i, .int j => some (.int (i + j), mu)
  | .str x, .str y => if x.length + y.length ≤ sizeLine then some (.str (x ++ y), mu) else none
  | .tup xs, .tup ys => if xs.length + ys.length ≤ sizeLine then some (.tup (xs ++ ys), mu) else none
  | d, e => match lstOf mu d, lstOf mu e with
    | some xs, some ys => if xs.length + ys.length ≤ sizeLine then some (.lst (xs ++ ys), mu) else none
    | _, _ => none
theorem op_addD : OpV X (binaryOp .Add) addD := by
  intro pins s st H x y v u Q I rx ry h
  obtain ⟨th, mu, d, e, so, r1, r2, t⟩ := h
  have lists : ∀ (t : Tr X.z th H (match lstOf mu d, lstOf mu e with
    | some xs, some ys => if xs.length + ys.length ≤ sizeLine then some (D.lst (xs ++ ys), mu) else none
    | _, _ => none) (KV' X.z Q)), wpAny (model X.prog X.w) X.A (binaryOp .Add v u) (EP X pins st Q) X.xe s := fun t => by
    cases e1 : lstOf mu d with
    | none => rw [e1] at t; exact t.no.elim
    | some xs =>
      cases e2 : lstOf mu e with
      | none => rw [e1, e2] at t; exact t.no.elim
      | some ys =>
        rw [e1, e2] at t
        dsimp only at t
        by_cases c : xs.length + ys.length ≤ sizeLine
        · rw [if_pos c] at t
          obtain ⟨a, vs, rfl, h1, h2, h3⟩ := lstOf_rep so e1 r1
          obtain ⟨b, us, rfl, k1, k2, k3⟩ := lstOf_rep so e2 r2
          cases rx
          cases ry
          refine op_catL I h1 k1 (by rw [h2.len, k2.len]; exact c) fun p hp => t.retX (.new hp _) (so.new hp _) _ (Rep.newLst so hp (h2.app k2) (by rw [List.length_append]; exact c))
        · rw [if_neg c] at t; exact t.no.elim
  cases d with
  | int i =>
    cases e with
    | int j => exact op_add pins s st H x y v u Q I rx ry ⟨i, j, r1, r2, t.ret so _ rfl⟩
    | _ => exact lists t
  | str i =>
    cases e with
    | str j =>
      unfold addD at t; dsimp only at t
      by_cases c : i.length + j.length ≤ sizeLine
      · rw [if_pos c] at t
        exact op_add_str pins s st H x y v u Q I rx ry ⟨i, j, r1.1, r2.1, c, t.ret so _ ⟨rfl, by rw [len_app]; exact c, strOk_app r1.2.2 r2.2.2⟩⟩
      · rw [if_neg c] at t; exact t.no.elim
    | _ => exact lists t
  | tup xs =>
    cases e with
    | tup ys =>
      unfold addD at t; dsimp only at t
      by_cases c : xs.length + ys.length ≤ sizeLine
      · rw [if_pos c] at t
        unfold Rep at r1 r2
        obtain ⟨a, vs, rfl, h1, h2, h3⟩ := r1
        obtain ⟨b, us, rfl, k1, k2, k3⟩ := r2
        cases rx
        cases ry
        cases xs with
        | nil =>
          cases h2.inv0
          exact op_catT0 I h1 k1 (t.ret so _ (by unfold Rep; exact ⟨b, us, rfl, k1, k2, k3⟩))
        | cons x0 xs0 =>
          obtain ⟨v0, vr, rfl, _, _⟩ := h2.inv
          refine op_catT pins s st H (.ref a) (.ref b) _ _ Q I rfl rfl ⟨a, b, v0 :: vr, us, rfl, rfl, h1, k1, by simp, by rw [h2.len, k2.len]; exact c, fun hu => ?_, fun _ p hp => t.retX (.new hp _) (so.new hp _) _ (Rep.newTup so hp (h2.app k2) (by rw [List.length_append]; exact c))⟩
          subst hu
          have : ys = [] := List.length_eq_zero_iff.mp (by rw [← k2.len]; rfl)
          subst this
          rw [List.append_nil] at t
          exact t.ret so _ (by unfold Rep; exact ⟨a, _, rfl, h1, h2, h3⟩)
      · rw [if_neg c] at t; exact t.no.elim
    | _ => exact lists t
  | _ => exact lists t
def ordD (f : Int → Int → Bool) (g : Str → Str → Bool) (d e : D) (mu : Sto) : Rs D := match d, e with
  | .int i, .int j => some (.bl (f i j), mu)
  | .str i, .str j => some (.bl (g i j), mu)
  | _, _ => none
def ltD := ordD (fun i j => decide (i < j)) fun i j => decide (i.cps.toList < j.cps.toList)
def leD := ordD (fun i j => decide (i ≤ j)) fun i j => !decide (j.cps.toList < i.cps.toList)
def gtD := ordD (fun i j => decide (j < i)) fun i j => decide (j.cps.toList < i.cps.toList)
def geD := ordD (fun i j => decide (j ≤ i)) fun i j => !decide (i.cps.toList < j.cps.toList)
theorem op_ordD {op : CmpOp} {f : Int → Int → Bool} {g : Str → Str → Bool} (h1 : OpR X (compareOp op) (rI0 fun i j => .bl (f i j)))
    (h2 : ∀ (i j : Str) (t t' : Tok) (s : Shared) (Q : Value → Shared → Prop), Q (.bool (g i j)) s → wpAny (model X.prog X.w) X.A (compareOp op (.str i t) (.str j t')) Q X.xe s) : OpV X (compareOp op) (ordD f g) := by
  intro pins s st H x y v u Q I rx ry h
  obtain ⟨th, mu, d, e, so, r1, r2, t⟩ := h
  cases d with
  | int i =>
    cases e with
    | int j => exact h1 pins s st H x y v u Q I rx ry ⟨i, j, r1, r2, t.ret so _ rfl⟩
    | _ => exact t.no.elim
  | str i =>
    cases e with
    | str j =>
      obtain ⟨rfl, _⟩ := (show _ ∧ _ from r1)
      obtain ⟨rfl, _⟩ := (show _ ∧ _ from r2)
      obtain ⟨t1, rfl⟩ := rx
      obtain ⟨t2, rfl⟩ := ry
      exact h2 i j t1 t2 s _ ⟨.bl _, H, I, rfl, t.ret so _ rfl⟩
    | _ => exact t.no.elim
  | _ => exact t.no.elim
theorem op_ltD : OpV X (compareOp .Lt) ltD := op_ordD op_lt fun i j t t' s Q h => PyProof.Rows.lt_str h
theorem op_leD : OpV X (compareOp .LtE) leD := op_ordD op_le fun i j t t' s Q h => PySem.P.le_str h
theorem op_gtD : OpV X (compareOp .Gt) gtD := op_ordD op_gt fun i j t t' s Q h => PySem.P.gt_str h
theorem op_geD : OpV X (compareOp .GtE) geD := op_ordD op_ge fun i j t t' s Q h => PySem.P.ge_str h
def isB : D → D → Option Bool
  | .non, .non => some true
  | .bl a, .bl b => some (a == b)
  | .non, .bl _ => none
  | .ref _, .non => some false
  | .tup _, .non => some false
  | .lst _, .non => some false
  | .str _, .non => some false
  | .int _, .non => some false
  | .bl _, .non => some false
  | .dct0, .non => some false
  | _, _ => none
def isD (d e : D) (mu : Sto) : Rs D := (isB d e).map fun b => (.bl b, mu)
def isnD (d e : D) (mu : Sto) : Rs D := (isB d e).map fun b => (.bl (!b), mu)
theorem op_isD : OpV X (compareOp .Is) isD := by
  intro pins s st H x y v u Q I rx ry h
  obtain ⟨th, mu, d, e, so, r1, r2, t⟩ := h
  cases e with
  | non =>
    have go : ∀ b, isB d .non = some b → (b = decide (x = .non)) → wpAny (model X.prog X.w) X.A (compareOp .Is v u) (EP X pins st Q) X.xe s := fun b eb ex => by
      unfold isD at t
      rw [eb] at t
      have q : Q (.bl b) H := t.ret so _ rfl
      exact op_isN pins s st H x y v u Q I rx ry ⟨r2, by rw [← ex]; exact q⟩
    cases d with
    | non => exact go _ rfl (by rw [show x = _ from r1]; rfl)
    | bl b => exact go _ rfl (by rw [show x = _ from r1]; rfl)
    | int b => exact go _ rfl (by rw [show x = _ from r1]; rfl)
    | str b => exact go _ rfl (by rw [r1.1]; rfl)
    | tup b => exact go _ rfl (by unfold Rep at r1; obtain ⟨a, vs, rfl, _⟩ := r1; rfl)
    | lst b => exact go _ rfl (by unfold Rep at r1; obtain ⟨a, vs, rfl, _⟩ := r1; rfl)
    | dct0 => exact go _ rfl (by unfold Rep at r1; obtain ⟨a, rfl, _⟩ := r1; rfl)
    | ref b => exact go _ rfl (by unfold Rep at r1; obtain ⟨a, rfl, _⟩ := r1; rfl)
  | bl b =>
    cases d with
    | bl a => exact op_is_bl pins s st H x y v u Q I rx ry ⟨a, b, r1, r2, t.ret so _ rfl⟩
    | _ => exact t.no.elim
  | _ => cases d <;> exact t.no.elim
theorem op_isnD : OpV X (compareOp .IsNot) isnD := by
  intro pins s st H x y v u Q I rx ry h
  obtain ⟨th, mu, d, e, so, r1, r2, t⟩ := h
  cases e with
  | non =>
    have go : ∀ b, isB d .non = some b → (b = decide (x = .non)) → wpAny (model X.prog X.w) X.A (compareOp .IsNot v u) (EP X pins st Q) X.xe s := fun b eb ex => by
      unfold isnD at t
      rw [eb] at t
      have q : Q (.bl (!b)) H := t.ret so _ rfl
      exact op_notN pins s st H x y v u Q I rx ry ⟨r2, by rw [← ex]; exact q⟩
    cases d with
    | non => exact go _ rfl (by rw [show x = _ from r1]; rfl)
    | bl b => exact go _ rfl (by rw [show x = _ from r1]; rfl)
    | int b => exact go _ rfl (by rw [show x = _ from r1]; rfl)
    | str b => exact go _ rfl (by rw [r1.1]; rfl)
    | tup b => exact go _ rfl (by unfold Rep at r1; obtain ⟨a, vs, rfl, _⟩ := r1; rfl)
    | lst b => exact go _ rfl (by unfold Rep at r1; obtain ⟨a, vs, rfl, _⟩ := r1; rfl)
    | dct0 => exact go _ rfl (by unfold Rep at r1; obtain ⟨a, rfl, _⟩ := r1; rfl)
    | ref b => exact go _ rfl (by unfold Rep at r1; obtain ⟨a, rfl, _⟩ := r1; rfl)
  | bl b =>
    cases d with
    | bl a => exact op_isnot_bl pins s st H x y v u Q I rx ry ⟨a, b, r1, r2, t.ret so _ rfl⟩
    | _ => exact t.no.elim
  | _ => cases d <;> exact t.no.elim
def eChain (g g' : D → D → Sto → Rs D) (a b c : Ex) : Ex := fun ro mu => bM (a ro mu) fun x m1 => bM (b ro m1) fun y m2 => bM (g x y m2) fun z m3 => match asB z with
  | none => none
  | some k => if k = true then bM (c ro m3) fun w' m4 => g' y w' m4 else some (.bl false, m3)
theorem tChain_rd {g g' : D → D → Sto → Rs D} {a b c : Ex} {st : L2.St} {Q : VK} (h : rdE K (eChain g g' a b c) st H Q) : tChain (r2 K g) (r2 K g') (rdE K a) (rdE K b) (rdE K c) st H Q := by
  obtain ⟨th, mu, ro, so, en, t⟩ := h
  refine ⟨th, mu, ro, so, en, t.bind.mono fun x th1 mu1 H1 e1 s1 t1 v rv => ?_⟩
  refine ⟨th1, mu1, ro, s1, en.ext e1 so.out, t1.bind.mono fun y th2 mu2 H2 e2 s2 t2 u ru => ?_⟩
  refine ⟨th2, mu2, x, y, s2, rv.ext e2 s1.out, ru, t2.bind.mono fun z th3 mu3 H3 e3 s3 t3 w rw' => ?_⟩
  cases e : asB z with
  | none => rw [e] at t3; exact t3.no.elim
  | some k =>
    rw [e] at t3
    refine ⟨k, asB_inv e rw', ?_⟩
    cases k with
    | false => exact t3.ret s3 _ rfl
    | true =>
      exact ⟨th3, mu3, ro, s3, (en.ext e1 so.out).ext (e2.trans e3) s1.out, Tr.mono (Tr.bind t3) fun w' th4 mu4 H4 e4 s4 t4 z' rz => ⟨th4, mu4, y, w', s4, (ru.ext e3 s2.out).ext e4 s3.out, rz, t4⟩⟩
theorem sv_chain {a b c : Expr} {op op' : CmpOp} {g g' : D → D → Sto → Rs D} {ma mb mc : Ex} {pos : Pos} (ho : OpV X (compareOp op) g) (ho' : OpV X (compareOp op') g') (ha : SV X a ma) (hb : SV X b mb) (hc : SV X c mc)
    (hm : lastMarks [op, op'] [b, c] = false := by with_unfolding_all rfl) : SV X (.Compare a [op, op'] [b, c] pos) (eChain g g' ma mb mc) := ⟨PE.weak (pe_chain ho ho' ha.r hb.r hc.r hm) fun _ _ _ h => tChain_rd h⟩
theorem svt_chain {a b c : Expr} {op op' : CmpOp} {g g' : D → D → Sto → Rs D} {ma mb mc : Ex} {pos : Pos} (ho : OpV X (compareOp op) g) (ho' : OpV X (compareOp op') g') (ha : SV X a ma) (hb : SV X b mb) (hc : SV X c mc)
    (hm : lastMarks [op, op'] [b, c] = false := by with_unfolding_all rfl) : SVT X (.Compare a [op, op'] [b, c] pos) (tV (eChain g g' ma mb mc)) := ⟨PT.weak (pt_chain ho ho' ha.r hb.r hc.r hm) fun st H Q h => tChain_rd (tB_rd h)⟩
def ixD (d e : D) (mu : Sto) : Rs D := match e with
  | .int i => match d with
    | .tup ds => (atI ds i).map fun x => (x, mu)
    | .str z => (atI z.cps.toList i).map fun c => (.str ⟨#[c]⟩, mu)
    | d => match lstOf mu d with
      | some ds => (atI ds i).map fun x => (x, mu)
      | none => none
  | _ => none
theorem atI_rep {ds : List D} {vs : List V} {i : Int} {d : D} (r : RepL K th H ds vs) (h : atI ds i = some d) : ∃ v, atI vs i = some v ∧ Rep K th H d v := by
  unfold atI at h ⊢
  rw [r.len]
  cases e : ixN ds.length i with
  | none => rw [e] at h; cases h
  | some j =>
    rw [e] at h
    obtain ⟨v, e1, e2⟩ := r.get (show ds[j]? = some d from h)
    exact ⟨v, e1, e2⟩
theorem atI_mem {α : Type} {xs : List α} {i : Int} {v : α} (h : atI xs i = some v) : v ∈ xs := by
  obtain ⟨j, _, e, _⟩ := atI_get h
  exact List.mem_of_getElem? e
theorem ix_D : IxR X (r2 X.z ixD) := by
  intro value slice pins s st H x y v u Q I rx ry h hsub
  obtain ⟨th, mu, d, e, so, r1, r2, t⟩ := h
  cases e with
  | int i =>
    have lists : ∀ (t : Tr X.z th H (match lstOf mu d with
      | some ds => (atI ds i).map fun x => (x, mu)
      | none => none) (KV' X.z Q)), rIxL X.K x y H Q := fun t => by
      cases e1 : lstOf mu d with
      | none => rw [e1] at t; exact t.no.elim
      | some ds =>
        rw [e1] at t
        dsimp only at t
        cases e2 : atI ds i with
        | none => rw [e2] at t; exact t.no.elim
        | some x' =>
          rw [e2] at t
          obtain ⟨a, vs, rfl, h1, h2, h3⟩ := lstOf_rep so e1 r1
          obtain ⟨v', w1, w2⟩ := atI_rep h2 e2
          exact ⟨a, vs, i, v', rfl, r2, h1, w1, t.ret so _ w2⟩
    refine ix_seq value slice pins s st H x y v u Q I rx ry ?_ hsub
    cases d with
    | tup ds =>
      unfold ixD at t; dsimp only at t
      cases e2 : atI ds i with
      | none => rw [e2] at t; exact t.no.elim
      | some x' =>
        rw [e2] at t
        unfold Rep at r1
        obtain ⟨a, vs, rfl, h1, h2, h3⟩ := r1
        obtain ⟨v', w1, w2⟩ := atI_rep h2 e2
        exact .inr (.inl ⟨a, vs, i, v', rfl, r2, h1, w1, t.ret so _ w2⟩)
    | str z =>
      unfold ixD at t; dsimp only at t
      cases e2 : atI z.cps.toList i with
      | none => rw [e2] at t; exact t.no.elim
      | some c =>
        rw [e2] at t
        exact .inr (.inr ⟨z, i, c, r1.1, r2, r1.2.1, e2, t.ret so _ (rep_char r1.2.2 (atI_mem e2))⟩)
    | _ => exact .inl (lists t)
  | _ => exact t.no.elim
abbrev Px := Ro → Sto → Rs (Option Int)
def pNo : Px := fun _ mu => some (none, mu)
def pSome (a : Ex) : Px := fun ro mu => bM (a ro mu) fun d m1 => match d with
  | .int i => some (some i, m1)
  | _ => none
def rdP (K : Zc) (m : Px) : TO := fun st H Q => ∃ th mu ro, StoOk K th mu H ∧ EnvOk K th H ro st ∧ Tr K th H (m ro mu) fun o _ _ H' => Q o H'
structure SVP (X : Cx) (e : Option Expr) (m : Px) : Prop where
  r : PO X e (rdP X.z m)
theorem PO.weak {e : Option Expr} {t t' : TO} (h : PO X e t) (f : ∀ st H Q, t' st H Q → t st H Q) : PO X e t' := fun pins s st H Q I q => h pins s st H Q I (f st H Q q)
theorem svp_none : SVP X none pNo := ⟨PO.weak po_none fun st H Q h => by
  obtain ⟨th, mu, ro, so, en, t⟩ := h
  exact t.ret so⟩
theorem svp_some {e : Expr} {m : Ex} (h : SV X e m) : SVP X (some e) (pSome m) := ⟨PO.weak (po_some h.r) fun st H Q h => by
  obtain ⟨th, mu, ro, so, en, t⟩ := h
  refine ⟨th, mu, ro, so, en, t.bind.mono fun d th1 mu1 H1 e1 s1 t1 v rv => ?_⟩
  cases d with
  | int i => exact ⟨i, rv, t1.ret s1⟩
  | _ => exact t1.no.elim⟩
def cutD {α : Type} (xs : List α) (lo hi : Option Int) : List α := (xs.drop (HT.sIx xs.length 0 lo)).take (HT.sIx xs.length xs.length hi - HT.sIx xs.length 0 lo)
theorem cut_rep {ds : List D} {vs : List V} (r : RepL K th H ds vs) (lo hi : Option Int) : RepL K th H (cutD ds lo hi) (cutV vs lo hi) := by
  unfold cutD cutV
  rw [r.len]
  exact (r.drop _).take _
theorem cutD_len {α : Type} (xs : List α) (lo hi : Option Int) : (cutD xs lo hi).length ≤ xs.length := by
  unfold cutD
  rw [List.length_take, List.length_drop]
  omega
def slD (d : D) (lo hi : Option Int) (mu : Sto) : Rs D := match d with
  | .tup ds => some (.tup (cutD ds lo hi), mu)
  | .str z => if PyData.strOk (Txt.slice z lo hi) = true then some (.str (Txt.slice z lo hi), mu) else none
  | d => match lstOf mu d with
    | some ds => some (.lst (cutD ds lo hi), mu)
    | none => none
def r3 (K : Zc) (op : D → Option Int → Option Int → Sto → Rs D) : V → Option Int → Option Int → Hp → VK → Prop := fun x lo hi H Q => ∃ th mu d, StoOk K th mu H ∧ Rep K th H d x ∧ Tr K th H (op d lo hi mu) (KV' K Q)
def eSl (a : Ex) (p q : Px) : Ex := fun ro mu => bM (a ro mu) fun d m1 => bM (p ro m1) fun lo m2 => bM (q ro m2) fun hi m3 => slD d lo hi m3
theorem getItem_tuple_whole {prog : Program} {w : World} {A : Around} {E : Value → Shared → Prop} {s : Shared} {t sl : Addr} {items : Array Value} {vl vu : Value} {lo hi : Option Int} {Q : Value → Shared → Prop} (ht : IsTup s.heap t items) (hs : s.heap.IsSliceOf sl vl vu .none) (pl : IsPart vl lo) (pu : IsPart vu hi)
    (h1 : HT.sIx items.size 0 lo = 0) (h2 : HT.sIx items.size items.size hi = items.size) (h : Q (.ref t) s) : wpAny (model prog w) A (getItem (.ref t) (.ref sl)) Q E s := by
  obtain ⟨os, hos, hcs, hds⟩ := id hs
  have hTs : s.TypeIs (.ref sl) "slice" := ⟨os, hos, hcs⟩
  unfold getItem
  try with_reducible refine wpAny_holding ?_
  first | refine wpAny_bind (wpAny_pure ?_) | skip
  refine wpAny_bind (wpAny_sequenceKey ht.typeIs (by decide) ?_)
  refine wpAny_bind (wpAny_callSpecial?_slot (name := Str.ofString "__getitem__") ht.typeIs PyProof.Rows.slot_tuple_getitem
    (wpAny_call_entry PyProof.Rows.slot_tuple_getitem ht.typeIs entry_tuple_getitem ?_ (args_tuple_getitem _ _)))
  show wpAny _ _ (Builtin.Tuple.tupleItemsOf (.ref t) >>= _) _ _ s
  refine wpAny_bind (tupleItemsOf_ ht ?_)
  refine wpAny_bind (wpAny_typeOf hTs ?_)
  rw [if_pos (by decide)]
  refine wpAny_bind (HT.sliceApplied_gen hs pl pu ?_)
  rw [h1, h2]
  dsimp only
  rw [if_pos (by simp)]
  unfold Builtin.Tuple.tupleIsExact
  refine wpAny_bind (wpAny_bind (wpAny_typeOf ht.typeIs (wpAny_pure ?_)))
  rw [if_pos (by decide)]
  exact wpAny_bind (wpAny_rule (wpAny_pure ⟨_, rfl, wpAny_pure h⟩))
theorem sl_D : SlR X (r3 X.z slD) := by
  intro pins s st H x v vl vu lo hi sl Q I rx hs pl pu h
  obtain ⟨th, mu, d, so, r, t⟩ := h
  have lists : ∀ (t : Tr X.z th H (match lstOf mu d with
      | some ds => some (D.lst (cutD ds lo hi), mu)
      | none => none) (KV' X.z Q)), rSlL X.K x lo hi H Q := fun t => by
      cases e1 : lstOf mu d with
      | none => rw [e1] at t; exact t.no.elim
      | some ds =>
        rw [e1] at t
        obtain ⟨a, vs, rfl, h1, h2, h3⟩ := lstOf_rep so e1 r
        exact ⟨a, vs, rfl, h1, fun p hp => t.retX (.new hp _) (so.new hp _) _ (Rep.newLst so hp (cut_rep h2 lo hi) (Nat.le_trans (cutD_len ds lo hi) h3))⟩
  cases d with
  | tup ds =>
    unfold Rep at r
    obtain ⟨a, vs, rfl, h1, h2, h3⟩ := r
    by_cases c : HT.sIx vs.length 0 lo = 0 ∧ HT.sIx vs.length vs.length hi = vs.length
    · cases rx
      obtain ⟨its, rv, ht, hz⟩ := I.tuple h1
      have hlen : its.toArray.size = vs.length := by rw [List.size_toArray]; exact rv.length.symm
      refine ⟨"tuple", _, PyProof.Rows.slot_tuple_getitem.lookup, ht.typeIs, ?_⟩
      refine getItem_tuple_whole ht hs pl pu (by rw [hlen]; exact c.1) (by rw [hlen]; exact c.2) ⟨.ref a, H, I, rfl, t.ret so _ ?_⟩
      have e : cutD ds lo hi = ds := by
        unfold cutD
        rw [← h2.len, c.1, c.2, h2.len]
        simp
      rw [e]
      unfold Rep
      exact ⟨a, vs, rfl, h1, h2, h3⟩
    · exact sl_tup pins s st H _ v vl vu lo hi sl Q I rx hs pl pu ⟨a, vs, rfl, h1, c, fun p hp => t.retX (.new hp _) (so.new hp _) _ (Rep.newTup so hp (cut_rep h2 lo hi) (Nat.le_trans (cutD_len ds lo hi) h3))⟩
  | str z =>
    unfold slD at t; dsimp only at t
    by_cases c : PyData.strOk (Txt.slice z lo hi) = true
    · rw [if_pos c] at t
      exact sl_str pins s st H _ v vl vu lo hi sl Q I rx hs pl pu ⟨z, r.1, r.2.1, t.ret so _ ⟨rfl, Nat.le_trans (Txt.slice_le z _ _) r.2.1, c⟩⟩
    · rw [if_neg c] at t; exact t.no.elim
  | _ => exact sl_list pins s st H _ v vl vu lo hi sl Q I rx hs pl pu (lists t)
theorem sv_slice {e : Expr} {lo hi : Option Expr} {m : Ex} {p q : Px} {p2 pos : Pos} (he : SV X e m) (hl : SVP X lo p) (hh : SVP X hi q) : SV X (.Subscript e (.Slice lo hi none p2) pos) (eSl m p q) := ⟨PE.weak (pe_slice sl_D he.r hl.r hh.r) fun st H Q h => by
  obtain ⟨th, mu, ro, so, en, t⟩ := h
  refine ⟨th, mu, ro, so, en, t.bind.mono fun d th1 mu1 H1 e1 s1 t1 v rv => ?_⟩
  refine ⟨th1, mu1, ro, s1, en.ext e1 so.out, t1.bind.mono fun lo' th2 mu2 H2 e2 s2 t2 => ?_⟩
  refine ⟨th2, mu2, ro, s2, (en.ext e1 so.out).ext e2 s1.out, t2.bind.mono fun hi' th3 mu3 H3 e3 s3 t3 => ?_⟩
  exact ⟨th3, mu3, d, s3, (rv.ext e2 s1.out).ext e3 s2.out, t3⟩⟩
end
end PV

namespace PV
open PySem L2 PySem.Spec PyProof.Rows
section
variable {X : Cx} {K : Zc} {th : List Addr} {mu : Sto} {H : Hp}
def tyN : D → String
  | .non => "NoneType" | .bl _ => "bool" | .int _ => "int" | .str _ => "str" | .tup _ => "tuple" | .lst _ => "list" | .dct0 => "dict" | .ref _ => "list"
def isi (T : String) (d : D) : Bool := tyN d == T || (T == "int" && tyN d == "bool")
theorem kit_D {K : PySem.W.Frag} (T : String) (hT : T = "str" ∨ T = "tuple" ∨ T = "int" ∨ T = "bool" ∨ T = "list" ∨ T = "dict") (d : D) : PySem.W.kitOne K (.type (tyN d)) (.type T) = some (isi T d) := by
  rcases hT with rfl | rfl | rfl | rfl | rfl | rfl <;> cases d <;> rfl
def okRef (mu : Sto) : D → Bool
  | .ref k => match mu[k]? with
    | some (.lst _) => true
    | _ => false
  | _ => true
theorem okRef_inv {mu : Sto} {k : Nat} (h : okRef mu (.ref k) = true) : ∃ ds, mu[k]? = some (.lst ds) := by
  unfold okRef at h
  dsimp only at h
  split at h
  · rename_i ds e; exact ⟨ds, e⟩
  · cases h
def eIsi (T : String) (a : Ex) : Ex := fun ro mu => bM (a ro mu) fun d m1 => if okRef m1 d = true then some (.bl (isi T d), m1) else none
theorem isi_run {pins : List (Addr × Obj)} {st : L2.St} {s : Shared} {T : String} {d : D} {x : V} {u : Value} {Q : Value → Shared → Prop} {E : Value → Shared → Prop} (hT : T = "str" ∨ T = "tuple" ∨ T = "int" ∨ T = "bool" ∨ T = "list" ∨ T = "dict") (I : L2.Inv X pins st H s) (so : StoOk X.z th mu H) (hr : okRef mu d = true) (r : Rep X.z th H d x) (rx : RelV x u)
    (h : ∀ tk, Q (.bool (isi T d)) { s with toks := tk }) : wpAny (model X.prog X.w) X.A (call (.builtin "isinstance") [u, .type T]) Q E s := by
  have e := kit_D (K := X.K) T hT d
  have ls : ∀ {a : Addr} {vs : List V}, Rd H a (.lst vs) → TyOf X.K H (.ref a) (.type "list") := fun {a vs} h => by
    rcases h with h | ⟨o, h⟩
    · exact .lst h
    · exact .frz h
  cases d with
  | non => cases (show x = _ from r); exact isinst_ok I rx .non e h
  | bl b => cases (show x = _ from r); exact isinst_ok I rx (.bl b) e h
  | int b => cases (show x = _ from r); exact isinst_ok I rx (.int b) e h
  | str b => cases r.1; exact isinst_ok I rx (.str b) e h
  | tup ds =>
    unfold Rep at r
    obtain ⟨a, vs, rfl, h1, _⟩ := r
    cases rx
    obtain ⟨its, _, ⟨o, g1, g2, _⟩, _⟩ := I.tuple h1
    exact PySem.W.kia_one PySem.W.kitx_tuple I.kIn ⟨o, g1, g2⟩ e (fun z => nomatch z) h
  | lst ds =>
    unfold Rep at r
    obtain ⟨a, vs, rfl, h1, _⟩ := r
    cases rx
    obtain ⟨its, _, ⟨o, n, g1, g2, _⟩, _⟩ := I.list h1.sq
    exact PySem.W.kia_one PySem.W.kitx_list I.kIn ⟨o, g1, g2⟩ e (fun z => nomatch z) h
  | dct0 =>
    unfold Rep at r
    obtain ⟨a, rfl, _, h1⟩ := r
    exact isinst_ok I rx (.dK h1) e h
  | ref k =>
    unfold Rep at r
    obtain ⟨a, rfl, h1⟩ := r
    obtain ⟨ds, em⟩ := okRef_inv hr
    obtain ⟨vs, h2, _⟩ := so.at' k a _ h1 em
    exact isinst_ok I rx (.lst h2) e h
theorem sv_isi (T : String) {x : Str} {a : Expr} {m : Ex} {p p2 pos : Pos} (ha : SV X a m) (h1 : X.mg "isinstance" = none) (h2 : X.mg x = none) (hb : bootBuiltins x = some (.type T)) (hT : T = "str" ∨ T = "tuple" ∨ T = "int" ∨ T = "bool" ∨ T = "list" ∨ T = "dict" := by decide)
    (hn : x ≠ "__name__" := by decide) (hd : (x == ("__debug__" : Str)) = false := by decide) (hg : Gl X "isinstance" := by rfl) (hg2 : Gl X x := by rfl)
    (hs1 : starEach [a, .Name x p2] X.env = (false, eval a X.env) :: starEach [.Name x p2] X.env := by rfl) (hs2 : (backTo pos (starEach [.Name x p2] X.env)).any (·.1) = false := by rfl) (hs3 : starEach [.Name x p2] X.env = (false, eval (.Name x p2) X.env) :: starEach [] X.env := by rfl) :
    SV X (.Call (.Name "isinstance" p) [a, .Name x p2] [] pos) (eIsi T m) := ⟨by
  have hc : CallR X (.builtin "isinstance") (fun xs H Q => ∃ th mu d y, StoOk X.z th mu H ∧ okRef mu d = true ∧ xs = [y, .ty T] ∧ Rep X.z th H d y ∧ Q (.bl (isi T d)) H) := by
    intro pins s st H xs us Q I r h
    obtain ⟨th, mu, d, y, so, hr, rfl, rd, q⟩ := h
    obtain ⟨u, w', rfl, rx, ry⟩ := vals2 r
    cases (show w' = Value.type T from ry)
    exact isi_run hT I so hr rd rx fun tk => ⟨.bl _, H, I.tok _, rfl, q⟩
  have pe := pe_callB hc hg h1 boot_isinstance (pa_cons ha.r (pa_cons (pe_bltn (v := .ty T) hg2 h2 hb rfl hn hd) pa_nil hs3) hs1) (by decide) (by decide) hs1 hs2 (pos := pos) (p := p)
  refine PE.weak pe fun st H Q h => ?_
  obtain ⟨th, mu, ro, so, en, t⟩ := h
  refine ⟨th, mu, ro, so, en, t.bind.mono fun d th1 mu1 H1 e1 s1 t1 v rv => ?_⟩
  by_cases c : okRef mu1 d = true
  · rw [if_pos c] at t1
    exact ⟨th1, mu1, d, v, s1, c, rfl, rv, t1.ret s1 _ rfl⟩
  · rw [if_neg c] at t1; exact t1.no.elim⟩
def lenN (mu : Sto) : D → Option Nat
  | .str x => some x.length
  | .tup ds => some ds.length
  | .lst ds => some ds.length
  | .ref k => (lstOf mu (.ref k)).map (·.length)
  | _ => none
def lenF : Fn := fun ds mu => match ds with
  | [d] => (lenN mu d).map fun n => (.int n, mu)
  | _ => none
theorem one_arg {xs : List V} {d : D} (r : RepL K th H [d] xs) : ∃ x, xs = [x] ∧ Rep K th H d x := by
  obtain ⟨v, r', rfl, h1, h2⟩ := r.inv
  cases h2.inv0
  exact ⟨v, rfl, h1⟩
theorem two_arg {xs : List V} {d e : D} (r : RepL K th H [d, e] xs) : ∃ x y, xs = [x, y] ∧ Rep K th H d x ∧ Rep K th H e y := by
  obtain ⟨v, r', rfl, h1, h2⟩ := r.inv
  obtain ⟨u, rfl, h3⟩ := one_arg h2
  exact ⟨v, u, rfl, h1, h3⟩
theorem call_lenD : CallV X (.builtin "len") lenF := by
  intro pins s st H xs us Q I r h
  obtain ⟨th, mu, ds, so, rd, t⟩ := h
  match ds, t, rd with
  | [d], t, rd =>
    obtain ⟨x, rfl, rx⟩ := one_arg rd
    cases d with
    | str z => exact call_len_str pins s st H _ us Q I r ⟨z, by rw [rx.1], rx.2.1, t.ret so _ rfl⟩
    | tup es =>
      unfold Rep at rx
      obtain ⟨a, vs, rfl, h1, h2, _⟩ := rx
      exact call_len_seq pins s st H _ us Q I r ⟨a, vs, rfl, .inr h1, by rw [h2.len]; exact t.ret so _ rfl⟩
    | lst es =>
      unfold Rep at rx
      obtain ⟨a, vs, rfl, h1, h2, _⟩ := rx
      exact call_len_seq pins s st H _ us Q I r ⟨a, vs, rfl, .inl h1.sq, by rw [h2.len]; exact t.ret so _ rfl⟩
    | ref k =>
      unfold lenF lenN at t
      dsimp only at t
      cases e1 : lstOf mu (.ref k) with
      | none => rw [e1] at t; exact t.no.elim
      | some es =>
        rw [e1] at t
        obtain ⟨a, vs, rfl, h1, h2, h3⟩ := lstOf_rep so e1 rx
        exact call_len_seq pins s st H _ us Q I r ⟨a, vs, rfl, .inl h1, by rw [h2.len]; exact t.ret so _ rfl⟩
    | _ => exact t.no.elim
  | [], t, _ => exact t.no.elim
  | _ :: _ :: _, t, _ => exact t.no.elim
def blsOf : List D → Option (List Bool)
  | [] => some []
  | .bl b :: ds => (blsOf ds).map (b :: ·)
  | _ => none
theorem blsOf_rep : ∀ {ds : List D} {bs : List Bool} {vs : List V}, blsOf ds = some bs → RepL K th H ds vs → vs = bs.map V.bl
  | [], _, _, h, r => by cases h; exact r.inv0
  | d :: ds, bs, _, h, r => by
    obtain ⟨v, r', rfl, h1, h2⟩ := r.inv
    cases d with
    | bl b =>
      unfold blsOf at h
      cases e : blsOf ds with
      | none => rw [e] at h; cases h
      | some cs =>
        rw [e] at h
        cases h
        rw [blsOf_rep e h2, show v = V.bl b from h1]
        rfl
    | _ => cases h
def quF (f : List Bool → Bool) : Fn := fun ds mu => match ds with
  | [d] => match lstOf mu d with
    | some es => (blsOf es).map fun bs => (.bl (f bs), mu)
    | none => none
  | _ => none
def allF := quF fun bs => bs.all id
def anyF := quF fun bs => bs.any id
theorem call_quD {id : String} {f : List Bool → Bool} (hq : CallR X (.builtin id) (fun xs H Q => ∃ (p : Addr) (bs : List Bool), xs = [.ref p] ∧ SqL X.K H p (bs.map V.bl) ∧ Q (.bl (f bs)) H)) : CallV X (.builtin id) (quF f) := by
  intro pins s st H xs us Q I r h
  obtain ⟨th, mu, ds, so, rd, t⟩ := h
  match ds, t, rd with
  | [d], t, rd =>
    obtain ⟨x, rfl, rx⟩ := one_arg rd
    unfold quF at t
    dsimp only at t
    cases e1 : lstOf mu d with
    | none => rw [e1] at t; exact t.no.elim
    | some es =>
      rw [e1] at t
      dsimp only at t
      cases e2 : blsOf es with
      | none => rw [e2] at t; exact t.no.elim
      | some bs =>
        rw [e2] at t
        obtain ⟨a, vs, rfl, h1, h2, h3⟩ := lstOf_rep so e1 rx
        cases blsOf_rep e2 h2
        exact hq pins s st H _ us Q I r ⟨a, bs, rfl, h1, t.ret so _ rfl⟩
  | [], t, _ => exact t.no.elim
  | _ :: _ :: _, t, _ => exact t.no.elim
theorem call_allD (hc : X.calm = true) : CallV X (.builtin "all") allF := call_quD (call_all hc)
def ints2 (ds : List D) : Option (Int × Int) := match ds with
  | [.int i, .int j] => some (i, j)
  | _ => none
theorem ints2_inv {ds : List D} {p : Int × Int} (h : ints2 ds = some p) : ds = [.int p.1, .int p.2] := by
  unfold ints2 at h
  split at h
  · cases h; rfl
  · cases h
def minF : Fn := fun ds mu => (ints2 ds).map fun p => (.int (if p.2 < p.1 then p.2 else p.1), mu)
def maxF : Fn := fun ds mu => (ints2 ds).map fun p => (.int (if p.2 > p.1 then p.2 else p.1), mu)
def intOf (ds : List D) : Option Int := match ds with
  | [.int i] => some i
  | [.bl b] => some (if b then 1 else 0)
  | _ => none
theorem intOf_inv {ds : List D} {i : Int} (h : intOf ds = some i) : ds = [.int i] ∨ ∃ b, ds = [.bl b] ∧ i = if b then 1 else 0 := by
  unfold intOf at h
  split at h
  · cases h; exact .inl rfl
  · cases h; exact .inr ⟨_, rfl, rfl⟩
  · cases h
def intF : Fn := fun ds mu => (intOf ds).map fun i => (.int i, mu)
def int1 (ds : List D) : Option Int := match ds with
  | [.int i] => some i
  | _ => none
theorem int1_inv {ds : List D} {i : Int} (h : int1 ds = some i) : ds = [.int i] := by
  unfold int1 at h
  split at h
  · cases h; rfl
  · cases h
def strF : Fn := fun ds mu => match int1 ds with
  | some i => if i.natAbs.log2 < 1920 ∧ (Str.ofString (toString i)).length ≤ sizeLine ∧ PyData.strOk (Str.ofString (toString i)) = true then some (.str (Str.ofString (toString i)), mu) else none
  | none => none
theorem call_minD (hc : X.calm = true) : CallV X (.builtin "min") minF := by
  intro pins s st H xs us Q I r h
  obtain ⟨th, mu, ds, so, rd, t⟩ := h
  unfold minF at t
  cases e : ints2 ds with
  | none => rw [e] at t; exact t.no.elim
  | some p =>
    rw [e] at t
    rw [ints2_inv e] at rd
    obtain ⟨x, y, rfl, rx, ry⟩ := two_arg rd
    exact call_min2 hc pins s st H _ us Q I r ⟨p.1, p.2, by rw [show x = _ from rx, show y = _ from ry], t.ret so _ rfl⟩
theorem call_maxD (hc : X.calm = true) : CallV X (.builtin "max") maxF := by
  intro pins s st H xs us Q I r h
  obtain ⟨th, mu, ds, so, rd, t⟩ := h
  unfold maxF at t
  cases e : ints2 ds with
  | none => rw [e] at t; exact t.no.elim
  | some p =>
    rw [e] at t
    rw [ints2_inv e] at rd
    obtain ⟨x, y, rfl, rx, ry⟩ := two_arg rd
    exact call_max2 hc pins s st H _ us Q I r ⟨p.1, p.2, by rw [show x = _ from rx, show y = _ from ry], t.ret so _ rfl⟩
theorem call_intD : CallV X (.type "int") intF := by
  intro pins s st H xs us Q I r h
  obtain ⟨th, mu, ds, so, rd, t⟩ := h
  unfold intF at t
  cases e : intOf ds with
  | none => rw [e] at t; exact t.no.elim
  | some i =>
    rw [e] at t
    rcases intOf_inv e with h | ⟨b, h, hb⟩
    · rw [h] at rd
      obtain ⟨x, rfl, rx⟩ := one_arg rd
      exact call_int1 pins s st H _ us Q I r (.inl ⟨i, by rw [show x = _ from rx], t.ret so _ rfl⟩)
    · rw [h] at rd
      obtain ⟨x, rfl, rx⟩ := one_arg rd
      exact call_int1 pins s st H _ us Q I r (.inr ⟨b, by rw [show x = _ from rx], by rw [← hb]; exact t.ret so _ rfl⟩)
theorem call_strD : CallV X (.type "str") strF := by
  intro pins s st H xs us Q I r h
  obtain ⟨th, mu, ds, so, rd, t⟩ := h
  unfold strF at t
  cases e : int1 ds with
  | none => rw [e] at t; exact t.no.elim
  | some i =>
    rw [e] at t
    dsimp only at t
    rw [int1_inv e] at rd
    obtain ⟨x, rfl, rx⟩ := one_arg rd
    by_cases c : i.natAbs.log2 < 1920 ∧ (Str.ofString (toString i)).length ≤ sizeLine ∧ PyData.strOk (Str.ofString (toString i)) = true
    · rw [if_pos c] at t
      exact call_str_int pins s st H _ us Q I r ⟨i, by rw [show x = _ from rx], c.1, t.ret so _ ⟨rfl, c.2⟩⟩
    · rw [if_neg c] at t; exact t.no.elim
def seqOf (mu : Sto) : D → Option (List D)
  | .tup ds => some ds
  | d => lstOf mu d
theorem seqOf_rep (so : StoOk K th mu H) {d : D} {ds : List D} {v : V} (h : seqOf mu d = some ds) (r : Rep K th H d v) : ∃ a vs, v = .ref a ∧ (SqL K.K H a vs ∨ SqT K.K H a vs ∧ d = .tup ds) ∧ RepL K th H ds vs ∧ ds.length ≤ sizeLine := by
  cases d with
  | tup es => cases h; unfold Rep at r; obtain ⟨a, vs, rfl, h1, h2, h3⟩ := r; exact ⟨a, vs, rfl, .inr ⟨h1, rfl⟩, h2, h3⟩
  | lst es => obtain ⟨a, vs, rfl, h1, h2, h3⟩ := lstOf_rep so (d := .lst es) h r; exact ⟨a, vs, rfl, .inl h1, h2, h3⟩
  | ref k => obtain ⟨a, vs, rfl, h1, h2, h3⟩ := lstOf_rep so (d := .ref k) h r; exact ⟨a, vs, rfl, .inl h1, h2, h3⟩
  | _ => cases h
def arg1 (ds : List D) : Option D := match ds with
  | [d] => some d
  | _ => none
theorem arg1_inv {ds : List D} {d : D} (h : arg1 ds = some d) : ds = [d] := by
  unfold arg1 at h
  split at h
  · cases h; rfl
  · cases h
def sq1 (ds : List D) (mu : Sto) : Option (List D) := match arg1 ds with
  | some d => seqOf mu d
  | none => none
def tupF : Fn := fun ds mu => (sq1 ds mu).map fun es => (.tup es, mu)
def lstF : Fn := fun ds mu => (sq1 ds mu).map fun es => (.lst es, mu)
theorem sq1_inv {ds es : List D} (h : sq1 ds mu = some es) : ∃ d, ds = [d] ∧ seqOf mu d = some es := by
  unfold sq1 at h
  cases e : arg1 ds with
  | none => rw [e] at h; cases h
  | some d => rw [e] at h; exact ⟨d, arg1_inv e, h⟩
theorem call_tupD : CallV X (.type "tuple") tupF := by
  intro pins s st H xs us Q I r h
  obtain ⟨th, mu, ds, so, rd, t⟩ := h
  unfold tupF at t
  cases e : sq1 ds mu with
  | none => rw [e] at t; exact t.no.elim
  | some es =>
    rw [e] at t
    obtain ⟨d, rfl, e2⟩ := sq1_inv e
    obtain ⟨x, rfl, rx⟩ := one_arg rd
    obtain ⟨a, vs, rfl, h1, h2, h3⟩ := seqOf_rep so e2 rx
    refine call_tuple_of pins s st H _ us Q I r ⟨a, vs, rfl, ?_⟩
    rcases h1 with h1 | ⟨h1, rfl⟩
    · exact .inl ⟨h1, fun p hp => t.retX (.new hp _) (so.new hp _) _ (Rep.newTup so hp h2 h3)⟩
    · exact .inr ⟨h1, t.ret so _ rx⟩
theorem call_lstD : CallV X (.type "list") lstF := by
  intro pins s st H xs us Q I r h
  obtain ⟨th, mu, ds, so, rd, t⟩ := h
  unfold lstF at t
  cases e : sq1 ds mu with
  | none => rw [e] at t; exact t.no.elim
  | some es =>
    rw [e] at t
    obtain ⟨d, rfl, e2⟩ := sq1_inv e
    obtain ⟨x, rfl, rx⟩ := one_arg rd
    obtain ⟨a, vs, rfl, h1, h2, h3⟩ := seqOf_rep so e2 rx
    refine call_list_of pins s st H _ us Q I r ⟨a, vs, rfl, ?_, fun p hp => t.retX (.new hp _) (so.new hp _) _ (Rep.newLst so hp h2 h3)⟩
    rcases h1 with h1 | ⟨h1, _⟩
    · exact .inl h1
    · exact .inr h1
def eApp (o : Ex) (a : Exs) : Ex := fun ro mu => bM (o ro mu) fun d m1 => match d with
  | .ref k => if okRef m1 (.ref k) = true then bM (a ro m1) fun xs m2 => match arg1 xs, m2[k]? with
    | some y, some (.lst ds) => if ds.length < sizeLine then some (.non, m2.set k (.lst (ds ++ [y]))) else none
    | _, _ => none
    else none
  | _ => none
theorem sv_append {o e : Expr} {m : Ex} {n : Exs} {apos cpos : Pos} (ho : SV X o m) (ha : SVA X [e] n) (hbase : attributeBase o "append" X.env (eval o X.env) = eval o X.env := by rfl)
    (hfew : ((backTo cpos (starEach [e] X.env)).all (fun x => !x.1) && (backToKw cpos (keywordEach [] X.env)).all (fun x => x.1.isSome)
      && decide ([e].length + ([] : List Keyword).length + (if ([] : List Keyword).isEmpty then 0 else 1) < 30)) = true := by rfl)
    (hline : (apos.endLine == cpos.line) = true := by rfl) (hs : starEach [e] X.env = (false, eval e X.env) :: starEach [] X.env := by rfl) (hplain : (backTo cpos (starEach [] X.env)).any (·.1) = false := by rfl) :
    SV X (.Call (.Attribute o "append" apos) [e] [] cpos) (eApp m n) :=
  ⟨PE.weak (pe_bm PySem.F.plainAttrs_list PySem.F.slot_list_append PySem.F.type_list_append mt_append ho.r ha.1 hbase hfew hline hs hplain) fun st H Q h => by
    obtain ⟨th, mu, ro, so, en, t⟩ := h
    refine ⟨th, mu, ro, so, en, t.bind.mono fun d th1 mu1 H1 e1 s1 t1 v rv => ?_⟩
    cases d with
    | ref k =>
      unfold Rep at rv
      obtain ⟨a, rfl, ha'⟩ := rv
      by_cases cr : okRef mu1 (.ref k) = true
      case neg => dsimp only at t1; rw [if_neg cr] at t1; exact t1.no.elim
      dsimp only at t1
      rw [if_pos cr] at t1
      obtain ⟨ds0, em⟩ := okRef_inv cr
      obtain ⟨vs, h2, _⟩ := s1.at' k a _ ha' em
      refine ⟨.inl ⟨rfl, vs, SqL.of h2⟩, th1, mu1, ro, s1, en.ext e1 so.out, ?_⟩
      refine Tr.mono (Tr.bind t1) fun xs th2 mu2 H2 e2 s2 t2 ws rws => ?_
      cases q1 : arg1 xs with
      | none => rw [q1] at t2; exact t2.no.elim
      | some y =>
        cases q2 : mu2[k]? with
        | none => rw [q1, q2] at t2; exact t2.no.elim
        | some o =>
          cases o with
          | dct _ _ => rw [q1, q2] at t2; exact t2.no.elim
          | lst ds =>
            rw [q1, q2] at t2
            dsimp only at t2
            by_cases c : ds.length < sizeLine
            · rw [if_pos c] at t2
              rw [arg1_inv q1] at rws
              obtain ⟨y', rfl, ry⟩ := one_arg rws
              have hk := e2.at ha'
              obtain ⟨us, g1, g2, g3⟩ := s2.at' k a _ hk q2
              exact ⟨a, us, y', rfl, rfl, g1, by rw [g2.len]; exact c, t2.retX (.mut (List.mem_of_getElem? hk) _) (s2.put hk (g2.app (.cons ry .nil)) (by rw [List.length_append]; exact c)) _ rfl⟩
            · rw [if_neg c] at t2; exact t2.no.elim
    | _ => exact t1.no.elim⟩
end
end PV

namespace PV
open PySem L2 PySem.Spec PyProof.Rows
section
variable {X : Cx} {K : Zc} {th : List Addr} {mu : Sto} {H : Hp}
def dGet (x : Str) : List Str → List D → Option D
  | k :: ks, d :: ds => if k = x then some d else dGet x ks ds
  | _, _ => none
def dRepl (x : Str) (v : D) : List Str → List D → List D
  | k :: ks, d :: ds => (if k = x then v else d) :: dRepl x v ks ds
  | _, _ => []
def dPut (ks : List Str) (ds : List D) (x : Str) (v : D) : MO := if (ks.any fun k => decide (k = x)) = true then .dct ks (dRepl x v ks ds) else .dct (ks ++ [x]) (ds ++ [v])
theorem inr_iff {a b : Str} : ((Sum.inr a : Key) = Sum.inr b) ↔ a = b := ⟨fun e => by cases e; rfl, fun e => by rw [e]⟩
theorem dGet_rep (x : Str) : ∀ {ks : List Str} {ds : List D} {kvs : List (Key × V)}, kvs.map (·.1) = ks.map Sum.inr → RepL K th H ds (kvs.map (·.2)) → (∀ d, dGet x ks ds = some d → ∃ v, valV kvs (Sum.inr x) = some v ∧ Rep K th H d v) ∧ (dGet x ks ds = none → valV kvs (Sum.inr x) = none)
  | [], ds, [], _, _ => ⟨(fun d e => by unfold dGet at e; cases e), fun _ => rfl⟩
  | [], _, _ :: _, e, _ => by simp at e
  | _ :: _, _, [], e, _ => by simp at e
  | k :: ks, ds, p :: kvs, e, r => by
    rw [List.map_cons, List.map_cons] at e
    injection e with e1 e2
    cases ds with
    | nil => exact absurd r.inv0 (by simp)
    | cons d ds =>
      rw [List.map_cons] at r
      obtain ⟨v, r', er, h1, h2⟩ := r.inv
      injection er with er1 er2
      subst er1
      rw [← er2] at h2
      have ih := dGet_rep x e2 h2
      unfold dGet
      by_cases c : k = x
      · have ek : p.1 = Sum.inr x := by rw [e1, c]
        rw [if_pos c, valV_pos ek]
        exact ⟨fun d' q => by cases q; exact ⟨_, rfl, h1⟩, fun q => by cases q⟩
      · have ek : ¬ p.1 = Sum.inr x := fun z => c (inr_iff.mp (e1.symm.trans z))
        rw [if_neg c, valV_neg ek]
        exact ih
theorem dAny (x : Str) : ∀ {ks : List Str} {kvs : List (Key × V)}, kvs.map (·.1) = ks.map Sum.inr → (kvs.any fun kv => decide (kv.1 = Sum.inr x)) = ks.any fun k => decide (k = x)
  | [], [], _ => rfl
  | [], _ :: _, e => by simp at e
  | _ :: _, [], e => by simp at e
  | k :: ks, p :: kvs, e => by
    rw [List.map_cons, List.map_cons] at e
    injection e with e1 e2
    rw [List.any_cons, List.any_cons, dAny x e2, e1]
    congr 1
    exact decide_eq_decide.mpr inr_iff
theorem dRepl_rep (x : Str) {v : D} {u : V} (rv : Rep K th H v u) : ∀ {ks : List Str} {ds : List D} {kvs : List (Key × V)}, kvs.map (·.1) = ks.map Sum.inr → RepL K th H ds (kvs.map (·.2)) →
    (kvs.map fun kv => if kv.1 = Sum.inr x then (kv.1, u) else kv).map (·.1) = ks.map Sum.inr ∧ RepL K th H (dRepl x v ks ds) ((kvs.map fun kv => if kv.1 = Sum.inr x then (kv.1, u) else kv).map (·.2))
  | [], ds, [], _, _ => ⟨rfl, .nil⟩
  | [], _, _ :: _, e, _ => by simp at e
  | _ :: _, _, [], e, _ => by simp at e
  | k :: ks, ds, p :: kvs, e, r => by
    rw [List.map_cons, List.map_cons] at e
    injection e with e1 e2
    cases ds with
    | nil => exact absurd r.inv0 (by simp)
    | cons d ds =>
      rw [List.map_cons] at r
      obtain ⟨w, r', er, h1, h2⟩ := r.inv
      injection er with er1 er2
      subst er1
      rw [← er2] at h2
      obtain ⟨i1, i2⟩ := dRepl_rep x rv e2 h2
      unfold dRepl
      by_cases c : k = x
      · have ek : p.1 = Sum.inr x := by rw [e1, c]
        rw [if_pos c, List.map_cons, List.map_cons, List.map_cons, i1, if_pos ek]
        exact ⟨by rw [← e1], .cons rv i2⟩
      · have ek : ¬ p.1 = Sum.inr x := fun z => c (inr_iff.mp (e1.symm.trans z))
        rw [if_neg c, List.map_cons, List.map_cons, List.map_cons, i1, if_neg ek]
        exact ⟨by rw [← e1], .cons h1 i2⟩
theorem dPut_rep (so : StoOk K th mu H) {k : Nat} {a : Addr} (hk : th[k]? = some a) {ks : List Str} {ds : List D} {kvs : List (Key × V)} {x : Str} {v : D} {u : V} (e : kvs.map (·.1) = ks.map Sum.inr) (r : RepL K th H ds (kvs.map (·.2))) (rv : Rep K th H v u) (hl : ks.length < sizeLine) :
    StoOk K th (mu.set k (dPut ks ds x v)) (upd H a (.dK (putK kvs (Sum.inr x) u))) := by
  unfold dPut putK
  rw [dAny x e]
  by_cases c : (ks.any fun k => decide (k = x)) = true
  · rw [if_pos c, if_pos c]
    obtain ⟨i1, i2⟩ := dRepl_rep x rv e r
    exact so.putD hk i1 i2 (Nat.le_of_lt hl)
  · rw [if_neg c, if_neg c]
    refine so.putD hk (by rw [List.map_append, List.map_append, e]; rfl) (by rw [List.map_append]; exact r.app (.cons rv .nil)) (by rw [List.length_append]; exact hl)
end
theorem dk_put {X : Cx} {pins : List (Addr × Obj)} {st : L2.St} {H : Hp} {s : Shared} {a : Addr} {kvs : List (Key × V)} {k : Key} {v : V} {u r : Value} {A : Around} {E : Value → Shared → Prop} {Q : Unit → Shared → Prop} (I : L2.Inv X pins st H s) (e : H a = some (.dK kvs)) (ry : RelV (kV k) u) (rv : RelV v r) (l : kvs.length < sizeLine)
    (h : ∀ s', L2.Inv X pins st (upd H a (.dK (putK kvs k v))) s' → Q () s') : wpAny (model X.prog X.w) A (setItem (.ref a) u r) Q E s := by
  obtain ⟨z, hd, vs, rel, dd⟩ := dk_of I.hok e
  have hl : (putK kvs k v).length ≤ sizeLine := by have := length_putK kvs k v; omega
  exact wpAny_setItem_pairs (hsz := by rw [← rel.length]; exact z) (kV_is ry) dd fun h' dd' hs => h _ (d_write I (by rw [e]; exact True.intro) hs (let ⟨q, _, _, hq, _⟩ := dd'; ⟨q, hq⟩) (dk_new hl hd (rel.put k rv) dd'))
end PV

namespace L2
open PySem PySem.Spec PyProof.Rows
theorem vals3' {x y z : V} {us : List Value} (r : Vals [x, y, z] us) : ∃ u v w', us = [u, v, w'] ∧ RelV x u ∧ RelV y v ∧ RelV z w' := by
  cases r with
  | cons r1 r2 =>
    obtain ⟨v, w', rfl, a, b⟩ := vals2 r2
    exact ⟨_, v, w', rfl, r1, a, b⟩
def tPar3 (i j k : Nat) (ta : TA) : TS := fun D σ H => ta σ H fun vs H1 => ∃ u v w, vs = [u, v, w] ∧ D.nx (((σ.set i (some u)).set j (some v)).set k (some w)) H1
theorem ps_par3 {X : Cx} {pos : Pos} {i j k : Nat} {x y z : Str} {a b c : Expr} {ta : TA} {px py pz pt : Pos} {kt k2 pt2} (hc : X.calm = true) (hN : X.N.Nodup) (hi : X.N[i]? = some x) (hj : X.N[j]? = some y) (hk : X.N[k]? = some z) (hij : i ≠ j) (hik : i ≠ k) (hjk : j ≠ k)
    (hx : X.env.scope.names.lookup x = some .local) (hy : X.env.scope.names.lookup y = some .local) (hz : X.env.scope.names.lookup z = some .local) (ha : PA X [a, b, c] ta)
    (hw : swappedStores [.Tuple [.Name x px, .Name y py, .Name z pz] kt pt] (.Tuple [a, b, c] k2 pt2) X.env = pure (some [x, y, z]))
    (hs : swapsWithSole [.Tuple [.Name x px, .Name y py, .Name z pz] kt pt] (.Tuple [a, b, c] k2 pt2) pos.line X.env = pure false := by rfl) :
    PS X (.Assign [.Tuple [.Name x px, .Name y py, .Name z pz] kt pt] (.Tuple [a, b, c] k2 pt2) pos) (tPar3 i j k ta) := by
  intro pins s σ H D I h
  rw [exec_Assign_arm]
  refine wpAny_bind (wpAny_standAt ?_)
  rw [hs]
  refine wpAny_bind (wpAny_pure ?_)
  rw [if_neg (by decide)]
  refine wpAny_bind (Tuple_ (thn (ha _ pins s σ H _ I h) fun us s1 ⟨vs, H1, I1, r1, q1⟩ => ?_))
  obtain ⟨v1, v2, v3, e1, q1⟩ := q1
  subst e1
  obtain ⟨u1, u2, u3, rfl, ra, rb, rc⟩ := vals3' r1
  refine wpAny_newObj_type ?_ (by show 3 ≤ sizeLine; decide)
  have I2 : Inv X pins σ H1 { s1 with heap := s1.heap.push { cls := .type "tuple", data := .seq [u1, u2, u3].toArray } } := I1.kept (t' := s1.toks) fun b o e => Heap.get?_push_of_some _ e
  rw [hw]
  refine wpAny_bind (wpAny_pure ?_)
  show wpAny (model X.prog X.w) X.A (do rule "assign.swapped-stores"; let items ← unpackItems (.ref s1.heap.objs.size) 3 none; assignInOrder [fun v => bindName X.env z v, fun v => bindName X.env y v, fun v => bindName X.env x v] items.reverse; pure Flow.next) _ _ _
  refine wpAny_bind (wpAny_rule (wpAny_bind (unpackItems_tuple (items := #[u1, u2, u3]) (I.ok.hd hc) (IsTup.new s1.heap _) fun h' hx' => ?_)))
  have I3 := I2.kept (h' := h') (t' := s1.toks) fun b o e => hx' b o (Nat.ne_of_lt (Heap.lt_size e)) e
  show wpAny _ _ (assignInOrder [fun v => bindName X.env z v, fun v => bindName X.env y v, fun v => bindName X.env x v] [u3, u2, u1] >>= fun _ => pure Flow.next) _ _ _
  refine wpAny_bind (assignInOrder_cons (wpAny_bindName (store_ok I3 hN hk (.inl hz) rc (fun s2 I4 => ?_) (.inr hz))))
  refine assignInOrder_cons (wpAny_bindName (store_ok I4 hN hj (.inl hy) rb (fun s3 I5 => ?_) (.inr hy)))
  refine assignInOrder_cons (wpAny_bindName (store_ok I5 hN hi (.inl hx) ra (fun s4 I6 => assignInOrder_nil (wpAny_pure ?_)) (.inr hx)))
  rw [List.set_comm _ _ (Ne.symm hjk), List.set_comm _ _ (Ne.symm hik), List.set_comm (i := j) (j := i) _ _ (Ne.symm hij)] at I6
  exact ⟨_, H1, I6, q1⟩
end L2
namespace PV
open PySem L2 PySem.Spec PyProof.Rows
section
variable {X : Cx} {K : Zc} {th : List Addr} {mu : Sto} {H : Hp}
def sPar3 (i j k : Nat) (a : Exs) : Sx := fun ro mu => bM (a ro mu) fun ds m1 => match ds with
  | [x, y, z] => some ((.nx, ((ro.set i (some x)).set j (some y)).set k (some z)), m1)
  | _ => none
theorem svs_par3 (i j k : Nat) {x y z : Str} {a b c : Expr} {m : Exs} {px py pz pt : Pos} {kt k2 pt2} {pos : Pos} (hc : X.calm = true) (hN : X.N.Nodup) (ha : SVA X [a, b, c] m)
    (hw : swappedStores [.Tuple [.Name x px, .Name y py, .Name z pz] kt pt] (.Tuple [a, b, c] k2 pt2) X.env = pure (some [x, y, z]))
    (hi : X.N[i]? = some x := by rfl) (hj : X.N[j]? = some y := by rfl) (hk : X.N[k]? = some z := by rfl) (hij : i ≠ j := by decide) (hik : i ≠ k := by decide) (hjk : j ≠ k := by decide)
    (hx : X.env.scope.names.lookup x = some .local := by rfl) (hy : X.env.scope.names.lookup y = some .local := by rfl) (hz : X.env.scope.names.lookup z = some .local := by rfl)
    (hs : swapsWithSole [.Tuple [.Name x px, .Name y py, .Name z pz] kt pt] (.Tuple [a, b, c] k2 pt2) pos.line X.env = pure false := by rfl) :
    SVS X (.Assign [.Tuple [.Name x px, .Name y py, .Name z pz] kt pt] (.Tuple [a, b, c] k2 pt2) pos) (sPar3 i j k m) := ⟨PS.weak (ps_par3 hc hN hi hj hk hij hik hjk hx hy hz ha.1 hw hs) fun E st H h => by
  obtain ⟨th, mu, ro, so, en, t⟩ := h
  refine ⟨th, mu, ro, so, en, t.bind.mono fun ds th1 mu1 H1 e1 s1 t1 vs rvs => ?_⟩
  match ds, t1, rvs with
  | [d, d', d''], t1, rvs =>
    obtain ⟨v, r, rfl, r1, r2⟩ := rvs.inv
    obtain ⟨u, w, rfl, r3, r4⟩ := two_arg r2
    exact ⟨v, u, w, rfl, t1.ret s1 _ ((((en.ext e1 so.out).set i r1).set j r3).set k r4)⟩
  | [], t1, _ => exact t1.no.elim
  | [_], t1, _ => exact t1.no.elim
  | [_, _], t1, _ => exact t1.no.elim
  | _ :: _ :: _ :: _ :: _, t1, _ => exact t1.no.elim⟩
def putM (d e v : D) (mu : Sto) : Rs Unit := match d, e with
  | .ref k, .int i => match mu[k]? with
    | some (.lst ds) => match ixN ds.length i with
      | some j => some ((), mu.set k (.lst (ds.set j v)))
      | none => none
    | _ => none
  | .ref k, .str x => match mu[k]? with
    | some (.dct ks ds) => if ks.length < sizeLine then some ((), mu.set k (dPut ks ds x v)) else none
    | _ => none
  | _, _ => none
def gIx (o i : Ex) : Gx := fun v ro mu => bM (o ro mu) fun d m1 => bM (i ro m1) fun e m2 => bM (putM d e v m2) fun _ m3 => some (ro, m3)
def rPut (K : Zc) : TSet := fun o i v H Q => ∃ th mu d e w, StoOk K th mu H ∧ Rep K th H d o ∧ Rep K th H e i ∧ Rep K th H w v ∧ Tr K th H (putM d e w mu) fun _ _ _ H' => Q H'
theorem set_D : PSet X (rPut X.z) := by
  intro pins s st H o i v ov iv u Q I ro ri rv h
  obtain ⟨th, mu, d, e, w, so, r1, r2, r3, t⟩ := h
  cases d with
  | ref k =>
    cases e with
    | int j =>
      unfold putM at t
      dsimp only at t
      cases q : mu[k]? with
      | none => rw [q] at t; exact t.no.elim
      | some o' =>
        cases o' with
        | dct _ _ => rw [q] at t; exact t.no.elim
        | lst ds =>
          rw [q] at t
          dsimp only at t
          cases q2 : ixN ds.length j with
          | none => rw [q2] at t; exact t.no.elim
          | some n =>
            rw [q2] at t
            unfold Rep at r1
            obtain ⟨a, rfl, ha⟩ := r1
            obtain ⟨vs, h1, h2, h3⟩ := so.at' k a _ ha q
            exact set_list pins s st H _ i v ov iv u Q I ro ri rv ⟨a, vs, j, n, rfl, r2, h1, by rw [h2.len]; exact q2, t.retX (.mut (List.mem_of_getElem? ha) _) (so.put ha (h2.setAt n r3) (by rw [List.length_set]; exact h3))⟩
    | str x =>
      unfold putM at t
      dsimp only at t
      cases q : mu[k]? with
      | none => rw [q] at t; exact t.no.elim
      | some o' =>
        cases o' with
        | lst _ => rw [q] at t; exact t.no.elim
        | dct ks ds =>
          rw [q] at t
          dsimp only at t
          by_cases c : ks.length < sizeLine
          case neg => rw [if_neg c] at t; exact t.no.elim
          rw [if_pos c] at t
          unfold Rep at r1 r2
          obtain ⟨a, rfl, ha⟩ := r1
          obtain ⟨rfl, _⟩ := r2
          obtain ⟨kvs, h1, h2, h3, h4⟩ := so.at' k a _ ha q
          have ln : kvs.length = ks.length := by simpa using congrArg List.length h2
          cases ro
          exact dk_put I h1 (k := Sum.inr x) ri rv (by rw [ln]; exact c) fun s' I' => ⟨_, I', t.retX (.mut (List.mem_of_getElem? ha) _) (dPut_rep so ha h2 h3 r3 c)⟩
    | _ => exact t.no.elim
  | _ => exact t.no.elim
theorem svg_ix {o i : Expr} {mo mi : Ex} {pos : Pos} (ho : SV X o mo) (hi : SV X i mi)
    (ha : ∀ v, assign (.Subscript o i pos) X.env v = (do
      let ov ← holding [v] (eval o X.env)
      let iv ← holding [v, ov] (eval i X.env)
      standAt pos
      holding [v, ov, iv] (setItem ov iv v)
      release [v, ov, iv] []) := by intro _; rfl) : SVG X (.Subscript o i pos) (gIx mo mi) := ⟨PG.weak (pg_sub ho.r hi.r set_D ha) fun v st H Q h => by
  obtain ⟨th, mu, ro, d, so, en, r, t⟩ := h
  refine ⟨th, mu, ro, so, en, t.bind.mono fun x th1 mu1 H1 e1 s1 t1 xv rx => ?_⟩
  refine ⟨th1, mu1, ro, s1, en.ext e1 so.out, t1.bind.mono fun y th2 mu2 H2 e2 s2 t2 yv ry => ?_⟩
  refine ⟨th2, mu2, x, y, d, s2, rx.ext e2 s1.out, ry, (r.ext e1 so.out).ext e2 s1.out, t2.bind.mono fun _ th3 mu3 H3 e3 s3 t3 => ?_⟩
  exact t3.ret s3 _ (((en.ext e1 so.out).ext e2 s1.out).ext e3 s2.out)⟩
def rngD (lo : Int) (n : Nat) : List D := (List.range n).map fun k : Nat => .int (lo + k)
theorem itok_rng {lo : Int} {n : Nat} (hn : n ≤ sizeLine) : ItOk K (Itr lo n) th mu H (rngD lo n) none where
  sz := by unfold rngD; simpa using hn
  go := fun th' mu' H' e s go i d ed => by
    unfold rngD at ed
    rw [List.getElem?_map] at ed
    cases q : (List.range n)[i]? with
    | none => rw [q] at ed; cases ed
    | some k =>
      rw [q] at ed
      have hd : D.int (lo + k) = d := by simpa using ed
      obtain ⟨hi, hk⟩ := List.getElem?_eq_some_iff.mp q
      rw [List.length_range] at hi
      rw [List.getElem_range] at hk
      subst hk hd
      refine ⟨hi, fun v H2 y => ?_⟩
      obtain ⟨rfl, rfl⟩ := y
      exact ⟨.refl _ _, s, by unfold Rep; rfl⟩
  stop := fun th' mu' H' e s go => by show n ≤ (rngD lo n).length; unfold rngD; simp
def iRg (a : Exs) : Ix := fun ro mu => bM (a ro mu) fun ds m1 => match int1 ds with
  | some j => if -(2 ^ 62) ≤ j ∧ j ≤ (sizeLine : Int) then some ((rngD 0 j.toNat, none), m1) else none
  | none => none
theorem svi_range {tg a : Expr} {m : Exs} {p pos : Pos} (hm : X.mg "range" = none) (ha : SVA X [a] m) (hg : Gl X "range" := by rfl) (hs : starEach [a] X.env = [(false, eval a X.env)] := by rfl) : SVI X tg (.Call (.Name "range" p) [a] [] pos) (iRg m) :=
  ⟨PI.weak (pi_range1 hg hm ha.1 hs) fun st H R h => by
    obtain ⟨th, mu, ro, so, en, t⟩ := h
    refine ⟨th, mu, ro, so, en, t.bind.mono fun ds th1 mu1 H1 e1 s1 t1 vs rvs => ?_⟩
    cases q : int1 ds with
    | none => rw [q] at t1; exact t1.no.elim
    | some j =>
      rw [q] at t1
      dsimp only at t1
      by_cases c : -(2 ^ 62) ≤ j ∧ j ≤ (sizeLine : Int)
      · rw [if_pos c] at t1
        rw [int1_inv q] at rvs
        obtain ⟨x, rfl, rx⟩ := one_arg rvs
        refine ⟨j, by rw [show x = _ from rx], c.1, ?_, t1.ret s1 _ (itok_rng (by omega))⟩
        have := c.2
        rw [sizeLine_eq] at this
        omega
      · rw [if_neg c] at t1; exact t1.no.elim⟩
def lst2 (ds : List D) : Option (List D × List D) := match ds with
  | [.lst xs, .lst ys] => some (xs, ys)
  | _ => none
theorem lst2_inv {ds : List D} {p : List D × List D} (h : lst2 ds = some p) : ds = [.lst p.1, .lst p.2] := by
  unfold lst2 at h
  split at h
  · cases h; rfl
  · cases h
def zipD (xs ys : List D) : List D := (xs.zip ys).map fun p => .tup [p.1, p.2]
def iZp (a : Exs) : Ix := fun ro mu => bM (a ro mu) fun ds m1 => (lst2 ds).map fun p => ((zipD p.1 p.2, none), m1)
theorem svi_zip {a b : Expr} {m : Exs} {p pos : Pos} {elts : List Expr} {k : Nat} {tp : Pos} (hm : X.mg "zip" = none) (ha : SVA X [a, b] m) (hg : Gl X "zip" := by rfl) (hs : starEach [a, b] X.env = [(false, eval a X.env), (false, eval b X.env)] := by rfl) (hs2 : starEach [b] X.env = [(false, eval b X.env)] := by rfl) :
    SVI X (.Tuple elts k tp) (.Call (.Name "zip" p) [a, b] [] pos) (iZp m) := ⟨PI.weak (pi_zip hg hm PyProof.Rows.boot_zip ha.1 hs hs2) fun st H R h => by
  obtain ⟨th, mu, ro, so, en, t⟩ := h
  refine ⟨th, mu, ro, so, en, t.bind.mono fun ds th1 mu1 H1 e1 s1 t1 vs rvs => ?_⟩
  cases q : lst2 ds with
  | none => rw [q] at t1; exact t1.no.elim
  | some pr =>
    rw [q] at t1
    rw [lst2_inv q] at rvs
    obtain ⟨xs, ys⟩ := pr
    obtain ⟨x, y, rfl, rx, ry⟩ := two_arg rvs
    unfold Rep at rx ry
    obtain ⟨a1, us, rfl, h1, l1, z1⟩ := rx
    obtain ⟨a2, ws, rfl, h2, l2, z2⟩ := ry
    refine ⟨a1, a2, rfl, ⟨us, h1.sq⟩, ⟨ws, h2.sq⟩, t1.ret s1 _ ⟨?_, fun th' mu' H' e s' go i d ed => ?_, fun th' mu' H' e s' go => ?_⟩⟩
    · show (zipD xs ys).length ≤ sizeLine
      unfold zipD
      rw [List.length_map, List.length_zip]
      exact Nat.le_trans (Nat.min_le_left _ _) z1
    · have g1 := (e.fz h1).sq
      have g2 := (e.fz h2).sq
      have ed' : (zipD xs ys)[i]? = some d := ed
      unfold zipD at ed'
      rw [List.getElem?_map] at ed'
      cases q3 : (xs.zip ys)[i]? with
      | none => rw [q3] at ed'; cases ed'
      | some pq =>
        rw [q3] at ed'
        have hd : D.tup [pq.1, pq.2] = d := by simpa using ed'
        subst hd
        obtain ⟨hx, hy⟩ := List.getElem?_zip_eq_some.mp q3
        obtain ⟨v1, ev1, rv1⟩ := (l1.ext e s1.out).get hx
        obtain ⟨v2, ev2, rv2⟩ := (l2.ext e s1.out).get hy
        refine ⟨⟨us, ws, v1, v2, g1, g2, ev1, ev2⟩, fun v H2 y => ?_⟩
        obtain ⟨T, x', y', rfl, hT, rfl, f1, f2⟩ := y
        have ex := f1 us g1
        have ey := f2 ws g2
        rw [ev1] at ex
        rw [ev2] at ey
        cases ex
        cases ey
        exact ⟨.new hT _, s'.new hT _, Rep.newTup s' hT (.cons rv1 (.cons rv2 .nil)) (by show 2 ≤ sizeLine; decide)⟩
    · have g1 := (e.fz h1).sq
      have g2 := (e.fz h2).sq
      refine ⟨us, ws, g1, g2, ?_⟩
      show us.length ≤ (zipD xs ys).length ∨ ws.length ≤ (zipD xs ys).length
      unfold zipD
      rw [List.length_map, List.length_zip, l1.len, l2.len]
      dsimp only
      omega⟩
def sle (a b : Str) : Bool := !decide (b.cps.toList < a.cps.toList)
def sortS (ss : List Str) : List Str := ss.mergeSort sle
theorem cps_inj {a b : Str} (h : a.cps.toList = b.cps.toList) : a = b := by
  obtain ⟨x⟩ := a
  obtain ⟨y⟩ := b
  have : x = y := Array.toList_inj.mp h
  rw [this]
theorem sle_iff {a b : Str} : sle a b = true ↔ a.cps.toList ≤ b.cps.toList := by
  unfold sle
  rw [Bool.not_eq_true', decide_eq_false_iff_not]
  exact Iff.rfl
theorem sle_trans (a b c : Str) (h1 : sle a b = true) (h2 : sle b c = true) : sle a c = true := sle_iff.mpr (List.le_trans (sle_iff.mp h1) (sle_iff.mp h2))
theorem sle_total (a b : Str) : (sle a b || sle b a) = true := by
  rw [Bool.or_eq_true, sle_iff, sle_iff]
  exact List.le_total _ _
theorem sle_anti {a b : Str} (h1 : sle a b = true) (h2 : sle b a = true) : a = b := cps_inj (List.le_antisymm (sle_iff.mp h1) (sle_iff.mp h2))
theorem sortS_perm (ss : List Str) : (sortS ss).Perm ss := List.mergeSort_perm ss sle
theorem sortS_up (ss : List Str) : (sortS ss).Pairwise fun a b => sle a b = true := List.pairwise_mergeSort sle_trans sle_total ss
theorem eq_sortS {ss ss' : List Str} (hp : ss'.Perm ss) (hs : ss'.Pairwise fun a b => sle a b = true) : ss' = sortS ss :=
  List.Perm.eq_of_pairwise (fun _ _ _ _ a b => sle_anti a b) hs (sortS_up ss) (hp.trans (sortS_perm ss).symm)
theorem risingS_up : ∀ (l : List Str) (p : Str), risingS p l = true → (p :: l).Pairwise fun a b => sle a b = true
  | [], p, _ => by simp
  | x :: r, p, h => by
    unfold risingS at h
    rw [Bool.and_eq_true] at h
    have ih := risingS_up r x h.2
    have hpx : sle p x = true := by
      have := h.1
      rw [ltCps_eq] at this
      exact this
    (refine List.pairwise_cons.mpr ⟨fun y hy => ?_, ih⟩); rcases List.mem_cons.mp hy with rfl | hy
    · exact hpx
    · exact sle_trans p x y hpx ((List.pairwise_cons.mp ih).1 y hy)
theorem sortedS_up {l : List Str} (h : sortedS l = true) : l.Pairwise fun a b => sle a b = true := by
  cases l with
  | nil => exact .nil
  | cons x r => exact risingS_up r x h
def strsOf : List D → Option (List Str)
  | [] => some []
  | .str b :: ds => (strsOf ds).map (b :: ·)
  | _ => none
theorem strsOf_inv : ∀ {ds : List D} {ss : List Str}, strsOf ds = some ss → ds = ss.map D.str
  | [], _, h => by cases h; rfl
  | d :: ds, ss, h => by
    cases d with
    | str b =>
      unfold strsOf at h
      cases e : strsOf ds with
      | none => rw [e] at h; cases h
      | some cs => rw [e] at h; cases h; rw [strsOf_inv e]; rfl
    | _ => cases h
theorem strsOf_map (ss : List Str) : strsOf (ss.map D.str) = some ss := by
  induction ss with
  | nil => rfl
  | cons s ss ih => rw [List.map_cons, strsOf, ih]; rfl
theorem repL_strs : ∀ {ss : List Str} {vs : List V}, RepL K th H (ss.map D.str) vs → vs = ss.map V.str ∧ ∀ x ∈ ss, x.length ≤ sizeLine ∧ PyData.strOk x = true
  | [], _, r => ⟨r.inv0, fun _ h => nomatch h⟩
  | s :: ss, _, r => by
    obtain ⟨v, r', rfl, h1, h2⟩ := RepL.inv (d := .str s) (ds := ss.map D.str) r
    obtain ⟨e, hs⟩ := repL_strs h2
    rw [e, h1.1]
    (refine ⟨rfl, fun x hx => ?_⟩); rcases List.mem_cons.mp hx with rfl | hx
    · exact h1.2
    · exact hs x hx
theorem strs_repL : ∀ {ss : List Str}, (∀ x ∈ ss, x.length ≤ sizeLine ∧ PyData.strOk x = true) → RepL K th H (ss.map D.str) (ss.map V.str)
  | [], _ => .nil
  | s :: ss, h => .cons (d := .str s) ⟨rfl, h s (.head _)⟩ (strs_repL fun x hx => h x (.tail _ hx))
def srtF : Fn := fun ds mu => match arg1 ds with
  | some d => match lstOf mu d with
    | some es => match strsOf es with
      | some ss => if ss.length < 64 then some (.lst ((sortS ss).map D.str), mu) else none
      | none => none
    | none => none
  | none => none
theorem call_srtD : CallV X (.builtin "sorted") srtF := by
  intro pins s st H xs us Q I r h
  obtain ⟨th, mu, ds, so, rd, t⟩ := h
  unfold srtF at t
  cases e : arg1 ds with
  | none => rw [e] at t; exact t.no.elim
  | some d =>
    rw [e] at t
    dsimp only at t
    cases e1 : lstOf mu d with
    | none => rw [e1] at t; exact t.no.elim
    | some es =>
      rw [e1] at t
      dsimp only at t
      cases e2 : strsOf es with
      | none => rw [e2] at t; exact t.no.elim
      | some ss =>
        rw [e2] at t
        dsimp only at t
        by_cases c : ss.length < 64
        · rw [if_pos c] at t
          rw [arg1_inv e] at rd
          obtain ⟨x, rfl, rx⟩ := one_arg rd
          obtain ⟨a, vs, rfl, h1, h2, h3⟩ := lstOf_rep so e1 rx
          rw [strsOf_inv e2] at h2 h3
          obtain ⟨rfl, hs⟩ := repL_strs h2
          refine call_sorted_strs pins s st H _ us Q I r ⟨a, ss, rfl, h1, c, fun p ss' hp pm up => ?_⟩
          have es' := eq_sortS pm (sortedS_up up)
          subst es'
          exact t.retX (.new hp _) (so.new hp _) _ (Rep.newLst so hp (strs_repL fun x hx => hs x (pm.mem_iff.mp hx)) (by rw [List.length_map, pm.length_eq]; rw [List.length_map] at h3; exact h3))
        · rw [if_neg c] at t; exact t.no.elim
end
end PV

namespace PV
open PySem L2 PySem.Spec PyProof.Rows
def LtAt (A : Around) (s : Shared) (y x : Value) (b : Bool) : Prop :=
  ∀ (prog : Program) (w : World) (E : Value → Shared → Prop) (Q : Value → Shared → Prop), Q (.bool b) s → wpAny (model prog w) A (richCompare .Lt y x) Q E s
def LexAt (A : Around) (s : Shared) : List Value → List Value → Bool → Prop
  | [], [], b => b = false
  | [], _ :: _, b => b = true
  | _ :: _, [], b => b = false
  | y :: vs, x :: ws, b => ∃ e, SeqAt.EqAt A s y x e ∧ if e = true then LexAt A s vs ws b else LtAt A s y x b
section
open PySem.SeqAt
open PySem.AutoSeq1 (wpAny_loadPart')
open PySem.MeetsSeq PySem.MeetsSeq2 PySem.MeetsSeq3
theorem tuple_lt_lex (l b : Addr) (items items2 : Array Value) (n n2 : Nat) (dd dd2 : Option Addr) (sl sl2 : Array (Option Value)) (r : Bool) :
    Meets (Builtin.«tuple.__lt__» ⟨[.ref l, .ref b], []⟩) (fun A R s => s.heap.get? l = some { cls := .type "tuple", dict := dd, data := .seq items n, slots := sl } ∧ s.heap.get? b = some { cls := .type "tuple", dict := dd2, data := .seq items2 n2, slots := sl2 } ∧
        LexAt A.in1 s items.toList items2.toList r ∧ R (.ok (.ret (.bool r))) s) :=
  .of_wp fun prog w A R s h => by
    obtain ⟨hp, g, d, tk, os⟩ := s; obtain ⟨hl, hb, hx, h⟩ := h
    have f2 := AutoSeq1.sub_tuple_tuple
    wp_walk using wpAny_loadPart' hl, wpAny_loadPart' hb, wpAny_forIn_list _ (fun rest b s' => b.1 = none ∧ s' = ⟨hp, g, d, tk, os⟩ ∧ ∃ (vs ws : List Value), rest = vs.zip ws ∧
      LexAt A.in1 ⟨hp, g, d, tk, os⟩ vs ws r ∧ vs.length + items2.size = ws.length + items.size) _
    case turn =>
      rintro ⟨y, x⟩ rest b s' ⟨hb', rfl, vs, ws, hz, hlx, hlen⟩
      cases vs with
      | nil => rw [List.zip_nil_left] at hz; cases hz
      | cons a vs' =>
        cases ws with
        | nil => rw [List.zip_nil_right] at hz; cases hz
        | cons c ws' =>
          rw [List.zip_cons_cons] at hz
          injection hz with hyx hrest
          injection hyx with hy hx
          subst hy hx
          simp only [List.length_cons] at hlen
          obtain ⟨e, he, hiff⟩ := hlx
          refine wpAny_bind (he prog w _ _ ?_)
          cases e with
          | true =>
            rw [if_pos rfl] at hiff
            wp_walk
            exact ⟨rfl, rfl, _, _, hrest, hiff, by omega⟩
          | false =>
            rw [if_neg Bool.false_ne_true] at hiff
            have hri := hiff prog w
            wp_walk using hri
            refine ⟨_, rfl, ?_⟩; simpa using h
    case fin =>
      rintro ⟨b1, b2⟩ s' ⟨hb', rfl, vs, ws, hz, hlx, hlen⟩
      simp only at hb'
      subst hb'
      have hv : r = decide (items.size < items2.size) := by
        cases vs with
        | nil =>
          cases ws with
          | nil =>
            simp only [List.length_nil] at hlen
            rw [show r = false from hlx]
            exact (decide_eq_false (by omega)).symm
          | cons c ws' =>
            simp only [List.length_nil, List.length_cons] at hlen
            rw [show r = true from hlx]
            exact (decide_eq_true (by omega)).symm
        | cons a vs' =>
          cases ws with
          | nil =>
            simp only [List.length_nil, List.length_cons] at hlen
            rw [show r = false from hlx]
            exact (decide_eq_false (by omega)).symm
          | cons c ws' =>
            rw [List.zip_cons_cons] at hz
            cases hz
      rw [hv] at h
      wp_walk
      exact ⟨_, rfl, by simpa [Builtin.Tuple.tupleCompareSizes] using h⟩
    case h =>
      exact ⟨rfl, rfl, items.toList, items2.toList, rfl, hx, by simp; omega⟩
end
theorem LtAt.tuples {A : Around} {s : Shared} {l b : Addr} {items items2 : Array Value} {r : Bool} (hl : IsTup s.heap l items) (hb : IsTup s.heap b items2) (hu : A.units < cLine) (hx : LexAt A.in1 s items.toList items2.toList r) : LtAt A s (.ref l) (.ref b) r := fun prog w E Q h => by
  obtain ⟨⟨cls, dd, data, sl⟩, ho, hc, n, hd⟩ := id hl
  obtain ⟨⟨cls2, dd2, data2, sl2⟩, ho2, hc2, n2, hd2⟩ := id hb
  simp only at hc hd hc2 hd2
  subst hc hd hc2 hd2
  exact richCompare_meets_room (op := .Lt) ⟨_, ho, rfl⟩ ⟨_, ho2, rfl⟩ PySem.F.slot_tuple_lt PySem.F.entry_tuple_lt (PySem.F.args_tuple_lt_2 _ _) (tuple_lt_lex l b items items2 n n2 dd dd2 sl sl2 r)
    ⟨ho, ho2, hx, show Value.bool r ≠ Value.notImplemented ∧ Q (.bool r) s from ⟨(fun x => nomatch x), h⟩⟩ hu
mutual
def ltB : D → D → Option Bool
  | .int i, .int j => some (decide (i < j))
  | .str i, .str j => some (decide (i.cps.toList < j.cps.toList))
  | .tup xs, .tup ys => lexB xs ys
  | _, _ => none
def lexB : List D → List D → Option Bool
  | [], [] => some false
  | [], _ :: _ => some true
  | _ :: _, [] => some false
  | x :: xs, y :: ys => if pureD x && pureD y then (if PyData.eqv (toPy x) (toPy y) then lexB xs ys else ltB x y) else none
end
section
variable {X : Cx} {K : Zc} {th : List Addr} {mu : Sto} {H : Hp}
mutual
theorem ltB_at {pins : List (Addr × Obj)} {st : L2.St} {s : Shared} (I : L2.Inv X pins st H s) : ∀ (d e : D) (b : Bool) (v u : V) (vv uu : Value) (A : Around), ltB d e = some b → Rep X.z th H d v → Rep X.z th H e u → RelV v vv → RelV u uu → A.units + (toPy d).depth + 1 < cLine → LtAt A s vv uu b
  | .int i, e, b, v, u, vv, uu, A, h, r1, r2, q1, q2, hu => by
    cases e with
    | int j =>
      unfold ltB at h
      cases h
      cases (show _ = _ from r1)
      cases (show _ = _ from r2)
      obtain ⟨t1, rfl⟩ := q1
      obtain ⟨t2, rfl⟩ := q2
      exact fun prog w E Q hq => (PyProof.Rows.lt_int hq : wpAny (model prog w) A (compareOp .Lt (.int i t1) (.int j t2)) Q E s)
    | _ => unfold ltB at h; cases h
  | .str i, e, b, v, u, vv, uu, A, h, r1, r2, q1, q2, hu => by
    cases e with
    | str j =>
      unfold ltB at h
      cases h
      obtain ⟨rfl, _⟩ := (show _ ∧ _ from r1)
      obtain ⟨rfl, _⟩ := (show _ ∧ _ from r2)
      obtain ⟨t1, rfl⟩ := q1
      obtain ⟨t2, rfl⟩ := q2
      exact fun prog w E Q hq => (PyProof.Rows.lt_str hq : wpAny (model prog w) A (compareOp .Lt (.str i t1) (.str j t2)) Q E s)
    | _ => unfold ltB at h; cases h
  | .tup xs, e, b, v, u, vv, uu, A, h, r1, r2, q1, q2, hu => by
    cases e with
    | tup ys =>
      unfold ltB at h
      unfold Rep at r1 r2
      obtain ⟨a, vs, rfl, h1, l1, _⟩ := r1
      obtain ⟨c, us, rfl, h2, l2, _⟩ := r2
      cases q1
      cases q2
      obtain ⟨its, rv, p1, _⟩ := I.tuple h1
      obtain ⟨its2, rv2, p2, _⟩ := I.tuple h2
      have hd : (toPy (.tup xs)).depth = PyData.depthAll (toPys xs) + 1 := by unfold toPy PyData.depth; rfl
      rw [hd] at hu
      refine LtAt.tuples p1 p2 (by omega) ?_
      have := lexB_at I xs ys b vs us its its2 A.in1 h l1 l2 rv rv2 (by show A.units + 1 + PyData.depthAll (toPys xs) + 1 < cLine; omega)
      simpa using this
    | _ => unfold ltB at h; cases h
  | .non, e, b, _, _, _, _, _, h, _, _, _, _, _ => by cases e <;> (unfold ltB at h; cases h)
  | .bl _, e, b, _, _, _, _, _, h, _, _, _, _, _ => by cases e <;> (unfold ltB at h; cases h)
  | .lst _, e, b, _, _, _, _, _, h, _, _, _, _, _ => by cases e <;> (unfold ltB at h; cases h)
  | .dct0, e, b, _, _, _, _, _, h, _, _, _, _, _ => by cases e <;> (unfold ltB at h; cases h)
  | .ref _, e, b, _, _, _, _, _, h, _, _, _, _, _ => by cases e <;> (unfold ltB at h; cases h)
theorem lexB_at {pins : List (Addr × Obj)} {st : L2.St} {s : Shared} (I : L2.Inv X pins st H s) : ∀ (xs ys : List D) (b : Bool) (vs us : List V) (vvs uus : List Value) (A : Around), lexB xs ys = some b → RepL X.z th H xs vs → RepL X.z th H ys us → Vals vs vvs → Vals us uus → A.units + PyData.depthAll (toPys xs) + 1 < cLine → LexAt A s vvs uus b
  | [], [], b, _, _, _, _, A, h, r1, r2, q1, q2, hu => by
    cases r1.inv0; cases r2.inv0; cases q1; cases q2
    unfold lexB at h
    cases h
    rfl
  | [], y :: ys, b, _, _, _, _, A, h, r1, r2, q1, q2, hu => by
    cases r1.inv0
    obtain ⟨v, r, rfl, _, _⟩ := r2.inv
    cases q1
    cases q2
    unfold lexB at h
    cases h
    rfl
  | x :: xs, [], b, _, _, _, _, A, h, r1, r2, q1, q2, hu => by
    cases r2.inv0
    obtain ⟨v, r, rfl, _, _⟩ := r1.inv
    cases q1
    cases q2
    unfold lexB at h
    cases h
    rfl
  | x :: xs, y :: ys, b, _, _, _, _, A, h, r1, r2, q1, q2, hu => by
    obtain ⟨v, r, rfl, a1, a2⟩ := r1.inv
    obtain ⟨u, r', rfl, b1, b2⟩ := r2.inv
    cases q1 with
    | cons g1 g2 =>
      cases q2 with
      | cons k1 k2 =>
        unfold lexB at h
        have hd : PyData.depthAll (toPys (x :: xs)) = max (toPy x).depth (PyData.depthAll (toPys xs)) := by rw [toPys, PyData.depthAll]
        rw [hd] at hu
        by_cases c : (pureD x && pureD y) = true
        · rw [if_pos c] at h
          rw [Bool.and_eq_true] at c
          obtain ⟨as, w1, w2⟩ := reads_of I x v _ c.1 a1 g1
          obtain ⟨bs, w3, w4⟩ := reads_of I y u _ c.2 b1 k1
          refine ⟨_, SeqAt.eqAt_reads _ _ A s _ _ as bs w1 w3 w2 w4 (by omega), ?_⟩
          cases e : PyData.eqv (toPy x) (toPy y) with
          | true => rw [e] at h; rw [if_pos rfl] at h ⊢; exact lexB_at I xs ys b _ _ _ _ A h a2 b2 g2 k2 (by omega)
          | false => rw [e] at h; rw [if_neg Bool.false_ne_true] at h ⊢; exact ltB_at I x y b _ _ _ _ A h a1 b1 g1 k1 (by omega)
        · rw [if_neg c] at h; cases h
end
def ltG (d e : D) (mu : Sto) : Rs D := if (toPy d).depth ≤ 60 then (ltB d e).map fun b => (.bl b, mu) else none
theorem op_ltG (hu : X.A.units + 64 < cLine) : OpV X (compareOp .Lt) ltG := by
  intro pins s st H x y v u Q I rx ry h
  obtain ⟨th, mu, d, e, so, r1, r2, t⟩ := h
  unfold ltG at t
  by_cases c : (toPy d).depth ≤ 60
  · rw [if_pos c] at t
    cases e1 : ltB d e with
    | none => rw [e1] at t; exact t.no.elim
    | some b =>
      rw [e1] at t
      exact ltB_at I d e b x y v u X.A e1 r1 r2 rx ry (by omega) _ _ _ _ ⟨.bl b, H, I, rfl, t.ret so _ rfl⟩
  · rw [if_neg c] at t; exact t.no.elim
end
end PV

namespace PV
open PySem L2 PySem.Spec PyProof.Rows
section
variable {X : Cx} {K : Zc} {th : List Addr} {mu : Sto} {H : Hp}
def negD (d : D) (mu : Sto) : Rs D := match d with
  | .int i => some (.int (-i), mu)
  | _ => none
theorem sv_neg {a : Expr} {m : Ex} {pos : Pos} (ha : SV X a m) : SV X (.UnaryOp .USub a pos) (e1 negD m) := ⟨PE.weak (pe_un un_neg ha.r) fun st H Q h => by
  obtain ⟨th, mu, ro, so, en, t⟩ := h
  refine ⟨th, mu, ro, so, en, t.bind.mono fun d th1 mu1 H1 e1 s1 t1 v rv => ?_⟩
  cases d with
  | int i => exact ⟨i, rv, t1.ret s1 _ rfl⟩
  | _ => exact t1.no.elim⟩
def eDct0 : Ex := fun _ mu => some (.dct0, mu)
theorem big_of {pins : List (Addr × Obj)} {st : L2.St} {s : Shared} (I : L2.Inv X pins st H s) : sysModules < s.heap.objs.size := by
  obtain ⟨o, _, _, ho, _⟩ := I.mod.glob
  exact Nat.lt_of_lt_of_le (show sysModules < mainGlobals + 1 by decide) (Heap.lt_size (I.bk _ _ ho))
theorem sv_dct0 {pos : Pos} : SV X (.Dict [] [] pos) eDct0 := ⟨fun pins s st H Q I h => by
  obtain ⟨th, mu, ro, so, en, t⟩ := h
  have hp : H s.heap.objs.size = none := I.hok.fresh (Nat.le_refl _)
  refine wpAny_Dict_empty ⟨.ref s.heap.objs.size, _, I.laid (a := s.heap.objs.size) (o := .dK []) (t' := s.toks) (fun _ _ q => Heap.get?_push_of_some _ q) (Nat.le_refl _) ?_, rfl, t.retX (.new hp (.dK [])) (so.new hp _) _ ?_⟩
  · exact ⟨Nat.zero_le _, beq_eq_false_iff_ne.mpr (Ne.symm (Nat.ne_of_lt (big_of I))), [], .nil, Heap.DictOf.new s.heap⟩
  · unfold Rep
    exact ⟨_, rfl, so.notin hp, upd_same⟩⟩
def cntD (d : D) (xs : List D) (mu : Sto) : Rs D := match d, arg1 xs with
  | .tup ds, some x => if pureD x && pureL ds && decide (min (PyData.depthAll (toPys ds)) (toPy x).depth ≤ 60) then some (.int ((toPys ds).countP fun y => PyData.eqv y (toPy x) : Nat), mu) else none
  | _, _ => none
def eCnt (o : Ex) (a : Exs) : Ex := fun ro mu => bM (o ro mu) fun d m1 => match d with
  | .tup ds => bM (a ro m1) fun xs m2 => cntD (.tup ds) xs m2
  | _ => none
theorem countP_data {s : Shared} {vs : Array Value} {xs : List PyData} {as : List Addr} {d : PyData} (rs : ReadsAll s.heap vs.toList xs as) (hxs : PyData.canLayAll0 xs = true) :
    vs.toList.countP (fun y => PyData.eqv (SeqAt.readOf s.heap y) d) = xs.countP (fun y => PyData.eqv y d) := by
  rw [← SeqAt.readsAll_map xs _ _ hxs rs, List.countP_map]
  rfl
theorem mt_count (hu : X.A.units + 64 < cLine) : MtR X "tuple.count" (fun x vs H Q => ∃ th mu d ds, StoOk X.z th mu H ∧ Rep X.z th H d x ∧ RepL X.z th H ds vs ∧ Tr X.z th H (cntD d ds mu) (KV' X.z Q)) := by
  intro pins s st H x xs v us Q I rx rxs h
  obtain ⟨th, mu, d, ds, so, r1, r2, t⟩ := h
  cases d with
  | tup es =>
    unfold cntD at t
    cases e : arg1 ds with
    | none => rw [e] at t; exact t.no.elim
    | some y =>
      rw [e] at t
      dsimp only at t
      by_cases c : (pureD y && pureL es && decide (min (PyData.depthAll (toPys es)) (toPy y).depth ≤ 60)) = true
      · rw [if_pos c] at t
        rw [Bool.and_eq_true, Bool.and_eq_true, decide_eq_true_eq] at c
        rw [arg1_inv e] at r2
        obtain ⟨yv, rfl, ry⟩ := one_arg r2
        obtain ⟨u, rfl, ru⟩ := vals1 rxs
        unfold Rep at r1
        obtain ⟨a, vs, rfl, h1, h2, h3⟩ := r1
        cases rx
        obtain ⟨its, rv, ⟨o, g1, g2, n, g3⟩, _⟩ := I.tuple h1
        obtain ⟨as, w1, w2⟩ := readsAll_of I es vs its c.1.2 h2 rv
        obtain ⟨bs, w3, w4⟩ := reads_of I y yv u c.1.1 ry ru
        obtain ⟨cls, dd, data, sl⟩ := o
        simp only at g2 g3
        subst g2 g3
        have he : ∀ z, z ∈ its.toArray → SeqAt.EqAt X.A.in1 s z u (PyData.eqv (SeqAt.readOf s.heap z) (toPy y)) := SeqAt.items_eqAt (A := X.A) (by simpa using w1) w3 w2 w4 (by omega)
        have hc := countP_data (s := s) (vs := its.toArray) (d := toPy y) (by simpa using w1) w2
        refine call_meets PySem.F.slot_tuple_count (show s.TypeIs (.ref a) "tuple" from ⟨_, g1, rfl⟩) PySem.F.entry_tuple_count (PySem.F.args_tuple_count_2 _ _) (SeqAt.tuple_countAt a its.toArray n dd sl u _) ⟨g1, he, ?_⟩
        rw [hc]
        exact ⟨.int _, H, I.tok _, ⟨_, rfl⟩, t.ret so _ rfl⟩
      · rw [if_neg c] at t; exact t.no.elim
  | _ => exact t.no.elim
def tBMT (K : PySem.W.Frag) (r : V → List V → Hp → VK → Prop) (to : TE) (t : TA) : TE := fun st H Q => to st H fun x H1 => (∃ a xs, x = .ref a ∧ SqT K H1 a xs) ∧ t st H1 fun xs H2 => r x xs H2 Q
theorem pe_bmT {o e : Expr} {es : List Expr} {to : TE} {t : TA} {name : Str} {apos cpos : Pos} {id : String} {r : V → List V → Hp → VK → Prop} (pa : PlainAttrs "tuple") (slot : Slot "tuple" name id) (hty : typeOf (.builtin id) = pure (.type "method_descriptor")) (hm : MtR X id r) (ho : PE X o to) (ha : PA X (e :: es) t)
    (hbase : attributeBase o name X.env (eval o X.env) = eval o X.env)
    (hfew : ((backTo cpos (starEach (e :: es) X.env)).all (fun x => !x.1) && (backToKw cpos (keywordEach [] X.env)).all (fun x => x.1.isSome)
      && decide ((e :: es).length + ([] : List Keyword).length + (if ([] : List Keyword).isEmpty then 0 else 1) < 30)) = true)
    (hline : (apos.endLine == cpos.line) = true) (hs : starEach (e :: es) X.env = (false, eval e X.env) :: starEach es X.env) (hplain : (backTo cpos (starEach es X.env)).any (·.1) = false) :
    PE X (.Call (.Attribute o name apos) (e :: es) [] cpos) (tBMT X.K r to t) := by
  intro pins s st H Q I h
  refine wpAny_Call_method_late hbase hfew hline rfl (thn (ho pins s st H _ I h) fun v s1 ⟨x, H1, I1, r1, ty, q1⟩ => ?_)
  obtain ⟨a, xs, rfl, hq⟩ := ty
  cases r1
  obtain ⟨ob, g1, g2, g3⟩ := I1.tupleD hq
  refine ⟨"tuple", id, pa, slot, hty, ⟨ob, g1, g3⟩, fun b e => by cases e; exact ⟨ob, g1, g2⟩, ?_⟩
  have hA := ha cpos pins s1 st H1 _ I1 q1
  rw [hs] at hA ⊢
  refine Calls.callWith_builtin (by show (false || (backTo cpos (starEach es X.env)).any (·.1)) = false; rw [hplain] <;> rfl) (Calls.evalArgs_plain ?_)
  exact thn hA fun us s2 ⟨vs, H2, I2, r2, q2⟩ => hm pins s2 st H2 (.ref a) vs (.ref a) us Q I2 rfl r2 q2
theorem sv_count {o e : Expr} {m : Ex} {n : Exs} {apos cpos : Pos} (hu : X.A.units + 64 < cLine) (ho : SV X o m) (ha : SVA X [e] n) (hbase : attributeBase o "count" X.env (eval o X.env) = eval o X.env := by rfl)
    (hfew : ((backTo cpos (starEach [e] X.env)).all (fun x => !x.1) && (backToKw cpos (keywordEach [] X.env)).all (fun x => x.1.isSome)
      && decide ([e].length + ([] : List Keyword).length + (if ([] : List Keyword).isEmpty then 0 else 1) < 30)) = true := by rfl)
    (hline : (apos.endLine == cpos.line) = true := by rfl) (hs : starEach [e] X.env = (false, eval e X.env) :: starEach [] X.env := by rfl) (hplain : (backTo cpos (starEach [] X.env)).any (·.1) = false := by rfl) :
    SV X (.Call (.Attribute o "count" apos) [e] [] cpos) (eCnt m n) :=
  ⟨PE.weak (pe_bmT PySem.F.plainAttrs_tuple PySem.F.slot_tuple_count PySem.F.type_tuple_count (mt_count hu) ho.r ha.1 hbase hfew hline hs hplain) fun st H Q h => by
    obtain ⟨th, mu, ro, so, en, t⟩ := h
    refine ⟨th, mu, ro, so, en, t.bind.mono fun d th1 mu1 H1 e1 s1 t1 v rv => ?_⟩
    cases d with
    | tup ds =>
      have rv' := rv
      unfold Rep at rv'
      obtain ⟨a, vs, rfl, h1, _⟩ := rv'
      refine ⟨⟨a, vs, rfl, h1⟩, th1, mu1, ro, s1, en.ext e1 so.out, ?_⟩
      exact Tr.mono (Tr.bind t1) fun xs th2 mu2 H2 e2 s2 t2 ws rws => ⟨th2, mu2, .tup ds, xs, s2, rv.ext e2 s1.out, rws, t2⟩
    | _ => exact t1.no.elim⟩
theorem krev (xs : Array Value) : ((List.range xs.size).filterMap fun (m : Nat) => xs[(((xs.size : Int) - 1) + (m : Int) * (-1)).toNat]?) = xs.toList.reverse := by
  have gen : ∀ n, n ≤ xs.size → ((List.range n).filterMap fun (m : Nat) => xs[(((xs.size : Int) - 1) + (m : Int) * (-1)).toNat]?) = xs.toList.reverse.take n := by
    intro n
    induction n with
    | zero => intro _; simp
    | succ n ih =>
      intro hn
      have e : (((xs.size : Int) - 1) + (n : Int) * (-1)).toNat = xs.size - 1 - n := by omega
      rw [List.range_succ, List.filterMap_append, ih (by omega), List.take_add_one]
      congr 1
      rw [List.filterMap_cons, List.filterMap_nil, e, List.getElem?_reverse (by simp; omega)]
      simp [show xs.size - 1 - n < xs.size by omega]
  rw [gen xs.size (Nat.le_refl _), List.take_of_length_le (by simp)]
theorem sliceApplied_rev {prog : Program} {w : World} {A : Around} {E : Value → Shared → Prop} {s : Shared} {sl : Addr} {t : Tok} {n : Nat} {Q : Int × Int × Nat → Shared → Prop} (hs : s.heap.IsSliceOf sl .none .none (.int (-1) t))
    (h : Q (((n : Int) - 1), -1, n) s) : wpAny (model prog w) A (Builtin.Slice.sliceApplied (.ref sl) (pure (n : Int))) Q E s := by
  obtain ⟨os, hos, hcs, hds⟩ := id hs
  unfold Builtin.Slice.sliceApplied Builtin.Slice.sliceFields
  refine wpAny_bind (wpAny_bind (wpAny_field hos hds (x := .none) rfl (wpAny_bind (wpAny_field hos hds (x := .none) rfl (wpAny_bind (wpAny_field hos hds (x := .int (-1) t) rfl (wpAny_pure ?_)))))))
  refine wpAny_bind (HT.slicePart_ (.int (-1) t) ?_)
  show wpAny _ _ (if ((-1 : Int) == 0) = true then _ else _) _ _ s
  rw [if_neg (by decide)]
  refine wpAny_bind (HT.slicePart_ .none (wpAny_bind (HT.slicePart_ .none (wpAny_bind (wpAny_pure ?_)))))
  show wpAny _ _ (pure (((n : Int) - 1), (-1 : Int), Builtin.Slice.slicePlaces ((n : Int) - 1) (-1) (-1))) _ _ s
  have e : Builtin.Slice.slicePlaces ((n : Int) - 1) (-1) (-1) = n := by
    unfold Builtin.Slice.slicePlaces
    (rw [if_neg (by decide)]); by_cases h : (n : Int) - 1 > -1
    · rw [if_pos h]
      have : ((n : Int) - 1 - -1 - 1) / (- -1) + 1 = n := by rw [show (- -1 : Int) = 1 from rfl, Int.ediv_one]; omega
      rw [this]
      simp
    · rw [if_neg h]
      simp
      omega
  rw [e]
  exact wpAny_pure h
theorem getItem_tuple_rev {prog : Program} {w : World} {A : Around} {E : Value → Shared → Prop} {s : Shared} {t sl : Addr} {items : Array Value} {tk : Tok} {Q : Value → Shared → Prop} (ht : IsTup s.heap t items) (hs : s.heap.IsSliceOf sl .none .none (.int (-1) tk))
    (h : Q (.ref s.heap.objs.size) { s with heap := s.heap.push { cls := .type "tuple", data := .seq items.toList.reverse.toArray } }) (hsz : items.size ≤ sizeLine) : wpAny (model prog w) A (getItem (.ref t) (.ref sl)) Q E s := by
  obtain ⟨os, hos, hcs, hds⟩ := id hs
  have hTs : s.TypeIs (.ref sl) "slice" := ⟨os, hos, hcs⟩
  have htake : sizeOk (.seq items.toList.reverse.toArray) := by
    show items.toList.reverse.toArray.size ≤ sizeLine
    simpa using hsz
  unfold getItem
  try with_reducible refine wpAny_holding ?_
  first | refine wpAny_bind (wpAny_pure ?_) | skip
  refine wpAny_bind (wpAny_sequenceKey ht.typeIs (by decide) ?_)
  refine wpAny_bind (wpAny_callSpecial?_slot (name := Str.ofString "__getitem__") ht.typeIs PyProof.Rows.slot_tuple_getitem
    (wpAny_call_entry PyProof.Rows.slot_tuple_getitem ht.typeIs entry_tuple_getitem ?_ (args_tuple_getitem _ _)))
  show wpAny _ _ (Builtin.Tuple.tupleItemsOf (.ref t) >>= _) _ _ s
  refine wpAny_bind (tupleItemsOf_ ht ?_)
  refine wpAny_bind (wpAny_typeOf hTs ?_)
  rw [if_pos (by decide)]
  refine wpAny_bind (sliceApplied_rev hs ?_)
  dsimp only
  rw [if_neg (by simp), krev]
  exact wpAny_bind (m := Builtin.Tuple.tupleExact _) (wpAny_newObj_type (wpAny_pure ⟨_, rfl, wpAny_pure h⟩) htake)
def revD (d : D) (mu : Sto) : Rs D := match d with
  | .tup ds => some (.tup ds.reverse, mu)
  | _ => none
theorem Vals.rev {xs : List V} {us : List Value} (r : Vals xs us) : Vals xs.reverse us.reverse := Vals.reverse r
theorem sv_rev {e : Expr} {m : Ex} {j : Nat} {p1 p2 p3 pos : Pos} (he : SV X e m) : SV X (.Subscript e (.Slice none none (some (.UnaryOp .USub (.Constant (.int 1) j p1) p2)) p3) pos) (e1 revD m) := ⟨by
  intro pins s st H Q I h
  obtain ⟨th, mu, ro, so, en, t⟩ := h
  refine Subscript_ (thn (he.r pins s st H (fun x H1 => ∃ th1 mu1 d, StoOk X.z th1 mu1 H1 ∧ Rep X.z th1 H1 d x ∧ Tr X.z th1 H1 (revD d mu1) (KV' X.z Q)) I ⟨th, mu, ro, so, en, t.bind.mono fun d th1 mu1 H1 e1 s1 t1 v rv => ⟨th1, mu1, d, s1, rv, t1⟩⟩) fun v s1 ⟨x, H1, I1, r1, th1, mu1, d, so1, rd, t1⟩ => ?_)
  refine wpAny_Slice ?_
  (rw [evalPart_none]); refine wpAny_pure (wpAny_pure ?_)
  rw [evalPart_some]
  refine thn ((pe_un (X := X) un_neg (pe_int (i := 1) (j := j) (pos := p1))) pins s1 st H1 (fun y H' => y = .int (-1) ∧ H' = H1) I1 ⟨1, rfl, rfl, rfl⟩) fun u s2 ⟨y, H2, I2, r2, ey, eH⟩ => ?_
  subst ey eH
  obtain ⟨tk, rfl⟩ := r2
  have I4 : L2.Inv X pins st H2 { s2 with heap := s2.heap.push { cls := .type "slice", data := .fields #[.none, .none, .int (-1) tk] } } := I2.kept (t' := s2.toks) fun b ob q => Heap.get?_push_of_some _ q
  cases d with
  | tup ds =>
    unfold Rep at rd
    obtain ⟨a, vs, rfl, h1, h2, h3⟩ := rd
    cases r1
    obtain ⟨its, rv, ht, hz⟩ := I4.tuple h1
    show wpAny (model X.prog X.w) X.A (subscriptTail e (.Slice none none (some (.UnaryOp .USub (.Constant (.int 1) j p1) p2)) p3) (.ref a) (.ref s2.heap.objs.size)) (EP X pins st Q) X.xe { s2 with heap := s2.heap.push { cls := .type "slice", data := .fields #[.none, .none, .int (-1) tk] } }
    refine tail_any (ops := [.ref a, .ref s2.heap.objs.size]) ht.typeIs PyProof.Rows.slot_tuple_getitem.lookup (getItem_tuple_rev ht (Heap.IsSliceOf.new ..) ?_ (by rw [List.size_toArray, ← rv.length]; exact hz)) (by with_unfolding_all rfl)
    have hp := I4.hok.fresh (Nat.le_refl _)
    refine ⟨.ref _, _, I4.laid (t' := s2.toks) (o := .tup vs.reverse) (fun b ob q => Heap.get?_push_of_some _ q) (Nat.le_refl _) ⟨⟨by rw [List.length_reverse]; exact hz, _, Heap.get?_push_size _ rfl, rfl⟩, its.reverse, Vals.rev rv, IsTup.new _ _⟩, rfl, ?_⟩
    exact t1.retX (.new hp _) (so1.new hp _) _ (Rep.newTup so1 hp h2.rev (by rw [List.length_reverse]; exact h3))
  | _ => exact t1.no.elim⟩
end
end PV

namespace PV
open PySem L2 PySem.Spec PyProof.Rows
def kasRun {α : Type} (ask : Nat → Nat → Option Bool) : PySem.W.KasT α → Option α
  | .ret a => some a
  | .ask i j k => match ask i j with
    | none => none
    | some b => kasRun ask (k b)
theorem kasRun_wp {α : Type} {ask : Nat → Nat → Option Bool} {cmp : Nat → Nat → (Bool → Shared → Prop) → Shared → Prop} {s : Shared} (hc : ∀ i j b C, ask i j = some b → C b s → cmp i j C s) : ∀ (t : PySem.W.KasT α) (a : α) (Q : α → Shared → Prop), kasRun ask t = some a → Q a s → t.kasWp cmp Q s
  | .ret a, _, Q, e, q => by cases e; exact q
  | .ask i j k, a, Q, e, q => by
    unfold kasRun at e
    cases e1 : ask i j with
    | none => rw [e1] at e; cases e
    | some b =>
      rw [e1] at e
      exact hc i j b _ e1 (kasRun_wp hc (k b) a Q e q)
section
variable {X : Cx} {K : Zc} {th : List Addr} {mu : Sto} {H : Hp}
def tupS : D → Bool
  | .tup (.str x :: r) => pureL r && decide (PyData.depthAll (toPys r) ≤ 50)
  | _ => false
theorem tupS_inv {d : D} (h : tupS d = true) : ∃ x r, d = .tup (.str x :: r) ∧ pureL r = true ∧ PyData.depthAll (toPys r) ≤ 50 := by
  unfold tupS at h
  split at h
  · rename_i x r
    rw [Bool.and_eq_true, decide_eq_true_eq] at h
    exact ⟨x, r, rfl, h.1, h.2⟩
  · cases h
theorem katlex_of {pins : List (Addr × Obj)} {st : L2.St} {s : Shared} (I : L2.Inv X pins st H s) {A : Around} {fin : Bool} {Q : Bool → Shared → Prop} :
    ∀ (xs ys : List D) (b : Bool) (vs us : List V) (vvs uus : List Value) (i : Nat), lexB xs ys = some b → RepL X.z th H xs vs → RepL X.z th H ys us → Vals vs vvs → Vals us uus → A.units + PyData.depthAll (toPys xs) + 1 < cLine →
      (i = 0 → ∃ x r y r', xs = .str x :: r ∧ ys = .str y :: r') → (fin = decide (xs.length < ys.length)) → Q b s → PySem.W.KatLex X.prog X.w A true fin Q (vvs.zip uus) i s
  | [], [], b, _, _, _, _, i, h, r1, r2, q1, q2, hu, h0, hf, q => by
    cases r1.inv0; cases r2.inv0; cases q1; cases q2
    unfold lexB at h
    cases h
    exact PySem.W.kat_nil (by rw [hf]; exact q)
  | [], y :: ys, b, _, _, _, _, i, h, r1, r2, q1, q2, hu, h0, hf, q => by
    cases r1.inv0
    obtain ⟨v, r, rfl, _, _⟩ := r2.inv
    cases q1
    cases q2
    unfold lexB at h
    cases h
    exact PySem.W.kat_nil (by rw [hf, decide_eq_true (by simp)]; exact q)
  | x :: xs, [], b, _, _, _, _, i, h, r1, r2, q1, q2, hu, h0, hf, q => by
    cases r2.inv0
    obtain ⟨v, r, rfl, _, _⟩ := r1.inv
    cases q1
    cases q2
    unfold lexB at h
    cases h
    exact PySem.W.kat_nil (by rw [hf, decide_eq_false (by simp)]; exact q)
  | x :: xs, y :: ys, b, _, _, _, _, i, h, r1, r2, q1, q2, hu, h0, hf, q => by
    obtain ⟨v, r, rfl, a1, a2⟩ := r1.inv
    obtain ⟨u, r', rfl, b1, b2⟩ := r2.inv
    cases q1 with
    | cons g1 g2 =>
      cases q2 with
      | cons k1 k2 =>
        unfold lexB at h
        have hd : PyData.depthAll (toPys (x :: xs)) = max (toPy x).depth (PyData.depthAll (toPys xs)) := by rw [toPys, PyData.depthAll]
        rw [hd] at hu
        by_cases c : (pureD x && pureD y) = true
        · rw [if_pos c] at h
          rw [Bool.and_eq_true] at c
          obtain ⟨as, w1, w2⟩ := reads_of I x v _ c.1 a1 g1
          obtain ⟨bs, w3, w4⟩ := reads_of I y u _ c.2 b1 k1
          refine PySem.W.kat_cons (SeqAt.eqAt_reads _ _ A s _ _ as bs w1 w3 w2 w4 (by omega) _ _ _ _ ?_)
          cases e : PyData.eqv (toPy x) (toPy y) with
          | true =>
            rw [e, if_pos rfl] at h
            refine PySem.W.kat_yes (katlex_of I xs ys b _ _ _ _ (i + 1) h a2 b2 g2 k2 (by omega) (fun z => by omega) (by rw [hf]; simp) q)
          | false =>
            rw [e, if_neg Bool.false_ne_true] at h
            refine PySem.W.kat_no ?_
            by_cases hi : i = 0
            · subst hi
              obtain ⟨x', _, y', _, e1, e2⟩ := h0 rfl
              cases e1
              cases e2
              obtain ⟨rfl, _⟩ := (show _ ∧ _ from a1)
              obtain ⟨rfl, _⟩ := (show _ ∧ _ from b1)
              obtain ⟨t1, rfl⟩ := g1
              obtain ⟨t2, rfl⟩ := k1
              unfold ltB at h
              cases h
              exact oneLt_str q
            · rw [show (true && i == 0) = false by simp [hi]]
              exact PySem.W.kat_one _ _ (ltB_at I x y b _ _ _ _ A h a1 b1 g1 k1 (by omega) _ _ _ _ q)
        · rw [if_neg c] at h; cases h
def askD (ds : List D) (i j : Nat) : Option Bool := match ds[i]?, ds[j]? with
  | some d, some e => ltB d e
  | _, _ => none
def sortT (ds : List D) : Option (List D) :=
  if ds.length < 2 then some ds else (kasRun (askD ds) (PySem.W.kas_sort ds.length)).map fun p => p.toList.map fun i => ds.getD i .non
theorem katTups_of {pins : List (Addr × Obj)} {st : L2.St} {s : Shared} (I : L2.Inv X pins st H s) : ∀ {ds : List D} {vs : List V} {us : List Value}, ds.all tupS = true → RepL X.z th H ds vs → Vals vs us → ∃ fs, PySem.W.KatTups s.heap us fs ∧ fs.length = ds.length ∧ ∀ v ∈ fs, ∃ x t, v = .str x t
  | [], _, _, _, r, q => by cases r.inv0; cases q; exact ⟨[], .nil, rfl, fun _ h => nomatch h⟩
  | d :: ds, _, _, h, r, q => by
    (obtain ⟨v, r', rfl, a1, a2⟩ := r.inv); rw [List.all_cons, Bool.and_eq_true] at h
    cases q with
    | cons q1 q2 =>
      obtain ⟨x, es, rfl, _, _⟩ := tupS_inv h.1
      obtain ⟨fs, f1, f2, f3⟩ := katTups_of I h.2 a2 q2
      unfold Rep at a1
      obtain ⟨a, ws, rfl, h1, l1, _⟩ := a1
      obtain ⟨w0, wr, rfl, l2, _⟩ := RepL.inv l1
      obtain ⟨rfl, _⟩ := (show _ ∧ _ from l2)
      cases q1
      obtain ⟨its, rv, ⟨o, g1, g2, n, g3⟩, _⟩ := I.tuple h1
      cases rv with
      | cons k1 k2 =>
        obtain ⟨t, rfl⟩ := k1
        exact ⟨_ :: fs, .cons g1 g2 g3 rfl f1, by simp [f2], fun z hz => (List.mem_cons.mp hz).elim (fun e => ⟨x, t, e⟩) (f3 z)⟩
theorem ask_at {pins : List (Addr × Obj)} {st : L2.St} {s : Shared} (I : L2.Inv X pins st H s) {ds : List D} {vs : List V} {us : List Value} (hd : ds.all tupS = true) (r : RepL X.z th H ds vs) (q : Vals vs us) {A : Around} (hu : A.units + 60 < cLine) :
    ∀ i j b C, askD ds i j = some b → C b s → PySem.W.kas_ask X.prog X.w A (tuples' true) us i j C s := fun i j b C e hC => by
  unfold askD at e
  cases e1 : ds[i]? with
  | none => rw [e1] at e; cases e
  | some d =>
    cases e2 : ds[j]? with
    | none => rw [e1, e2] at e; cases e
    | some d' =>
      rw [e1, e2] at e
      have m1 := List.all_eq_true.mp hd d (List.mem_of_getElem? e1)
      have m2 := List.all_eq_true.mp hd d' (List.mem_of_getElem? e2)
      obtain ⟨x, xs, rfl, _, dx⟩ := tupS_inv m1
      obtain ⟨y, ys, rfl, _, dy⟩ := tupS_inv m2
      obtain ⟨v, ev, rv⟩ := r.get e1
      obtain ⟨v', ev', rv'⟩ := r.get e2
      obtain ⟨u, eu, ru⟩ := q.get ev
      obtain ⟨u', eu', ru'⟩ := q.get ev'
      unfold PySem.W.kas_ask
      rw [show us.getD i Value.none = u by rw [List.getD_eq_getElem?_getD, eu]; rfl, show us.getD j Value.none = u' by rw [List.getD_eq_getElem?_getD, eu']; rfl]
      unfold Rep at rv rv'
      obtain ⟨a, ws, rfl, h1, l1, _⟩ := rv
      obtain ⟨a', ws', rfl, h1', l1', _⟩ := rv'
      cases ru
      cases ru'
      obtain ⟨its, rw1, ⟨o, g1, g2, n, g3⟩, _⟩ := I.tuple h1
      obtain ⟨its', rw2, ⟨o', g1', g2', n', g3'⟩, _⟩ := I.tuple h1'
      unfold ltB at e
      refine PySem.W.kat_lt g1 g3 g1' g3' ?_
      have hx : PyData.depthAll (toPys (.str x :: xs)) ≤ 50 := by
        rw [toPys, PyData.depthAll]
        show max 0 _ ≤ 50
        omega
      have := katlex_of I (A := A) (fin := decide (its.toArray.size < its'.toArray.size)) (Q := C) (.str x :: xs) (.str y :: ys) b ws ws' its its' 0 e l1 l1' rw1 rw2 (by omega) (fun _ => ⟨x, xs, y, ys, rfl, rfl⟩) (by rw [List.size_toArray, List.size_toArray, ← rw1.length, ← rw2.length, l1.len, l1'.len]) hC
      simpa using this
end
end PV

namespace PV
open PySem L2 PySem.Spec PyProof.Rows
section
variable {prog : Program} {w : World} {A : Around} {E : Value → Shared → Prop} {s : Shared}
theorem gather_seq {T : String} (hT : T = "list" ∨ T = "tuple") {l : Addr} {ob : Obj} {zs : List Value} {n : Nat} {Q : List Value → Shared → Prop} (ho : s.heap.get? l = some ob) (hc : ob.cls = .type T) (hd : ob.data = .seq zs.toArray n)
    (h : Q zs { s with heap := (s.heap.push (seqObj "list" #[] 0)).update s.heap.objs.size (Obj.mapSeq (· ++ zs.toArray)) }) (hz : zs.length ≤ sizeLine) : wpAny (model prog w) A (collect (.ref l)) Q E s := by
  (unfold collect); refine wpAny_bind (wpAny_runValue (codeAny_builtin entry_proto_collect' ?_)); show wpAny _ _ (do again (.builtin "list.__iadd__" ⟨[← newList [], .ref l], []⟩)) _ _ s
  (refine wpAny_bind (wpAny_newList (wpAny_pure (And.intro (Code.quiet_builtin _ (by decide +kernel)) (codeAny_builtin entry_list_iadd' ?_))))); show wpAny _ _ (Builtin.List.listExtendWith (.ref s.heap.objs.size) (.ref l) (.ref s.heap.objs.size)) _ _ { s with heap := s.heap.push (seqObj "list" #[] 0) }
  (have g : (s.heap.push (seqObj "list" #[] 0)).get? l = some ob := Heap.get?_push_of_some _ ho); unfold Builtin.List.listExtendWith
  refine wpAny_bind (wpAny_typeOf (T := T) ⟨ob, g, hc⟩ ?_)
  rw [if_pos (by rcases hT with rfl | rfl <;> simp)]
  refine wpAny_bind (listItems_at g hd (wpAny_bind (listItems_at (xs := #[]) (n := 0) (Heap.get?_push_size _ rfl) rfl ?_)))
  rw [if_neg (by simp)]
  refine wpAny_bind (listUpdate_at (xs := #[]) (n := 0) (Heap.get?_push_size _ rfl) rfl (wpAny_pure ?_) (Nat.zero_le _) (by
    show ((#[] : Array Value) ++ zs.toArray).size ≤ sizeLine + 1
    simp only [Array.size_append, List.size_toArray, List.length_nil]
    omega))
  show wpAny (model prog w) A (load s.heap.objs.size >>= fun o => match o.data with
      | .seq xs _ => pure xs.toList
      | _ => unsupported "internal:collect") Q E { s with heap := (s.heap.push (seqObj "list" #[] 0)).update s.heap.objs.size (Obj.mapSeq (· ++ zs.toArray)) }
  (refine wpAny_bind (wpAny_load (get?_update_seq (Heap.get?_push_size _ rfl) _) ?_)); show wpAny _ _ (pure ((#[] : Array Value) ++ zs.toArray).toList) Q E _
  have e0 : ((#[] : Array Value) ++ zs.toArray).toList = zs := by simp
  rw [e0]
  exact wpAny_pure h
theorem sort_by {a : Addr} {zs : List Value} {n : Nat} {P : PySem.Fin → Shared → Prop} {kd : SortKind} (p : Array Nat) (hp : p.size = zs.length) (ho : s.heap.get? a = some (seqObj "list" zs.toArray n)) (h2 : 2 ≤ zs.length) (h64 : zs.length < 64)
    (hk : ∀ (Q : SortKind → Shared → Prop) (E' : Value → Shared → Prop), Q kd { s with heap := ((s.heap.update a (Obj.mapSeq fun _ => #[])).push (seqObj "tuple" zs.toArray 0)).push (seqObj "list" #[] 0) } → wpAny (model prog w) A (keyKind' zs.toArray) Q E' { s with heap := ((s.heap.update a (Obj.mapSeq fun _ => #[])).push (seqObj "tuple" zs.toArray 0)).push (seqObj "list" #[] 0) })
    (hr : ∀ G : Array Nat → Shared → Prop, G p { s with heap := ((s.heap.update a (Obj.mapSeq fun _ => #[])).push (seqObj "tuple" zs.toArray 0)).push (seqObj "list" #[] 0) } → (PySem.W.kas_sort zs.length).kasWp (PySem.W.kas_ask prog w A kd zs) G { s with heap := ((s.heap.update a (Obj.mapSeq fun _ => #[])).push (seqObj "tuple" zs.toArray 0)).push (seqObj "list" #[] 0) })
    (h : P (.done (.ret .none)) { s with heap := sortedHeap s.heap a zs (p.toList.map fun i => zs.getD i Value.none).toArray }) : wpAny (model prog w) A (Builtin.«list.sort» ⟨[.ref a], []⟩) P E s := by
  have la : a < s.heap.objs.size := Heap.lt_size ho
  rw [list_sort_plain]
  refine wpAny_bind (listItems_at ho rfl (wpAny_bind (listUpdate_at ho rfl ?_ (by rw [List.size_toArray, sizeLine_eq]; omega) (Nat.zero_le _))))
  obtain ⟨n1, ho1⟩ : ∃ n1, (s.heap.update a (Obj.mapSeq fun _ => #[])).get? a = some (seqObj "list" #[] n1) := ⟨_, get?_update_seq ho fun _ => #[]⟩
  refine wpAny_bind (seqEpoch_at ho1 rfl (wpAny_bind (wpAny_newTuple (wpAny_bind (wpAny_newList (wpAny_holding ?_) (Nat.zero_le _))) (by show zs.length ≤ _; rw [sizeLine_eq]; omega))))
  have ho2 : (((s.heap.update a (Obj.mapSeq fun _ => #[])).push (seqObj "tuple" zs.toArray 0)).push (seqObj "list" #[] 0)).get? a = some (seqObj "list" #[] n1) := Heap.get?_push_of_some _ (Heap.get?_push_of_some _ ho1)
  show wpAny (model prog w) A _ P E { s with heap := ((s.heap.update a (Obj.mapSeq fun _ => #[])).push (seqObj "tuple" zs.toArray 0)).push (seqObj "list" #[] 0) }
  dsimp only
  have n2 : ¬ zs.toArray.size < 2 := by rw [List.size_toArray]; omega
  rw [if_neg n2, if_neg n2]
  refine wpAny_bind (hk _ _ ?_)
  refine wpAny_bind (wpAny_mono (PySem.W.kat_run (E := E) (Q := fun st' s' => arrOf st' = p.map (PySem.W.kas_item (zs.toArray.zip zs.toArray)) ∧ failedOf st' = none ∧ s' = { s with heap := ((s.heap.update a (Obj.mapSeq fun _ => #[])).push (seqObj "tuple" zs.toArray 0)).push (seqObj "list" #[] 0) }) rfl h2 h64
    (G := fun p' s' => p' = p ∧ s' = { s with heap := ((s.heap.update a (Obj.mapSeq fun _ => #[])).push (seqObj "tuple" zs.toArray 0)).push (seqObj "list" #[] 0) }) (fun p' st' s' _ a2 a3 a4 => ⟨by rw [← a4.1]; exact a2, a3, a4.2⟩) (hr _ ⟨rfl, rfl⟩)) ?_ fun _ _ e => e)
  rintro ⟨⟨⟩, st'⟩ s' ⟨ha, hf, rfl⟩
  dsimp only
  rw [PySem.W.kat_snds rfl ha]
  refine wpAny_bind (seqEpoch_at ho2 rfl (wpAny_bind (listUpdate_at ho2 rfl ?_ (Nat.zero_le _) (by
    show (List.toArray (p.toList.map fun i => zs.getD i Value.none)).size ≤ sizeLine + 1
    rw [List.size_toArray, List.length_map, Array.length_toList, hp, sizeLine_eq]
    omega))))
  (rw [hf]); simp only [bne_self_eq_false, Bool.false_eq_true, if_false]
  exact wpAny_pure h
theorem sort_few {a : Addr} {zs : List Value} {n : Nat} {P : PySem.Fin → Shared → Prop} (ho : s.heap.get? a = some (seqObj "list" zs.toArray n)) (h2 : zs.length < 2)
    (h : P (.done (.ret .none)) { s with heap := sortedHeap s.heap a zs zs.toArray }) : wpAny (model prog w) A (Builtin.«list.sort» ⟨[.ref a], []⟩) P E s := by
  rw [list_sort_plain]
  refine wpAny_bind (listItems_at ho rfl (wpAny_bind (listUpdate_at ho rfl ?_ (by rw [List.size_toArray, sizeLine_eq]; omega) (Nat.zero_le _))))
  obtain ⟨n1, ho1⟩ : ∃ n1, (s.heap.update a (Obj.mapSeq fun _ => #[])).get? a = some (seqObj "list" #[] n1) := ⟨_, get?_update_seq ho fun _ => #[]⟩
  refine wpAny_bind (seqEpoch_at ho1 rfl (wpAny_bind (wpAny_newTuple (wpAny_bind (wpAny_newList (wpAny_holding ?_) (Nat.zero_le _))) (by show zs.length ≤ _; rw [sizeLine_eq]; omega))))
  have ho2 : (((s.heap.update a (Obj.mapSeq fun _ => #[])).push (seqObj "tuple" zs.toArray 0)).push (seqObj "list" #[] 0)).get? a = some (seqObj "list" #[] n1) := Heap.get?_push_of_some _ (Heap.get?_push_of_some _ ho1)
  show wpAny (model prog w) A _ P E { s with heap := ((s.heap.update a (Obj.mapSeq fun _ => #[])).push (seqObj "tuple" zs.toArray 0)).push (seqObj "list" #[] 0) }
  dsimp only
  have n2 : zs.toArray.size < 2 := by rw [List.size_toArray]; exact h2
  rw [if_pos n2, if_pos n2]
  refine wpAny_bind (wpAny_pure ?_)
  rw [StateT.run_pure]
  refine wpAny_bind (wpAny_pure ?_)
  dsimp only
  have e0 : (arrOf (SortSt.mk' general' (zs.toArray.zip zs.toArray) #[] 7 none)).map (·.2) = zs.toArray := by
    show (zs.toArray.zip zs.toArray).map (·.2) = zs.toArray
    rw [show zs.toArray.zip zs.toArray = (zs.zip zs).toArray by simp, List.map_toArray, List.map_snd_zip (Nat.le_refl _)]
  rw [e0]
  refine wpAny_bind (seqEpoch_at ho2 rfl (wpAny_bind (listUpdate_at ho2 rfl ?_ (Nat.zero_le _) (by
    show zs.toArray.size ≤ sizeLine + 1
    rw [List.size_toArray, sizeLine_eq]
    omega))))
  (simp only [bne_self_eq_false, Bool.false_eq_true, if_false]); exact wpAny_pure h
theorem sorted_by {T : String} (hT : T = "list" ∨ T = "tuple") {l : Addr} {ob : Obj} {zs : List Value} {n : Nat} {out : List Value} {Q : Value → Shared → Prop} (ho : s.heap.get? l = some ob) (hc : ob.cls = .type T) (hd : ob.data = .seq zs.toArray n) (hz : zs.length ≤ sizeLine)
    (hs : ∀ (h1 : Heap) (P : PySem.Fin → Shared → Prop) (E' : Value → Shared → Prop), (∀ b o, s.heap.get? b = some o → h1.get? b = some o) → h1.objs.size = s.heap.objs.size + 2 → h1.get? (s.heap.objs.size + 1) = some (seqObj "list" zs.toArray 0) →
      P (.done (.ret .none)) { s with heap := sortedHeap h1 (s.heap.objs.size + 1) zs out.toArray } → wpAny (model prog w) A.in1.in1 (Builtin.«list.sort» ⟨[.ref (s.heap.objs.size + 1)], []⟩) P E' { s with heap := h1 })
    (h : ∀ h' e, (∀ b o, s.heap.get? b = some o → h'.get? b = some o) → h'.get? (s.heap.objs.size + 1) = some (seqObj "list" out.toArray e) → Q (.ref (s.heap.objs.size + 1)) { s with heap := h' }) : wpAny (model prog w) A (call (.builtin "sorted") [.ref l]) Q E s := by
  (refine Calls.call_function_entry kind_sorted plain_sorted entry_sorted (args_sorted1 _) ?_); unfold Builtin.«sorted»
  refine wpAny_bind (m := checkCount "sorted" 1 1 _) (wpAny_pure (wpAny_bind (gather_seq hT ho hc hd (wpAny_bind (wpAny_newList ?_ hz)) hz)))
  have e1 : ((s.heap.push (seqObj "list" #[] 0)).update s.heap.objs.size (Obj.mapSeq (· ++ zs.toArray))).objs.size = s.heap.objs.size + 1 := by rw [Heap.size_update, size_push']
  generalize hh : (s.heap.push (seqObj "list" #[] 0)).update s.heap.objs.size (Obj.mapSeq (· ++ zs.toArray)) = h0 at e1 ⊢
  have old : ∀ b o, s.heap.get? b = some o → h0.get? b = some o := fun b o q => by
    have lt := Heap.lt_size q
    rw [← hh, Heap.get?_update_ne _ _ _ _ (Nat.ne_of_lt lt), Heap.get?_push_ne _ _ _ (Nat.ne_of_lt lt)]
    exact q
  have g1 : (h0.push (seqObj "list" zs.toArray 0)).get? (s.heap.objs.size + 1) = some (seqObj "list" zs.toArray 0) := by rw [← e1]; exact Heap.get?_push_size _ rfl
  show wpAny _ _ _ _ _ { s with heap := h0.push (seqObj "list" zs.toArray 0) }
  rw [e1]
  refine wpAny_bind (wpAny_holding (wpAny_call_entry slot_list_sort ⟨_, g1, rfl⟩ entry_list_sort (hs (h0.push (seqObj "list" zs.toArray 0)) _ _ (fun b o q => Heap.get?_push_of_some _ (old b o q)) (by rw [size_push', e1]) g1 ⟨_, rfl, wpAny_pure ⟨_, rfl, ?_⟩⟩) (args_list_sort _)))
  have lt2 : s.heap.objs.size + 1 < (h0.push (seqObj "list" zs.toArray 0)).objs.size := by rw [size_push', e1]; omega
  obtain ⟨e, he⟩ := sortedHeap_at (out := out.toArray) g1
  refine h _ e (fun b o q => ?_) he
  have lb := Heap.lt_size q
  have lb2 : b < (h0.push (seqObj "list" zs.toArray 0)).objs.size := Nat.lt_trans (Nat.lt_succ_of_lt lb) lt2
  rw [sortedHeap_old (Nat.ne_of_lt (Nat.lt_succ_of_lt lb)) lb2]
  exact Heap.get?_push_of_some _ (old b o q)
end
end PV

namespace PV
open PySem PyProof.Rows
theorem kasRun_bind {α β : Type} (ask : Nat → Nat → Option Bool) : ∀ (t : PySem.W.KasT α) (f : α → PySem.W.KasT β), kasRun ask (t.bind f) = (kasRun ask t).bind fun a => kasRun ask (f a)
  | .ret a, f => rfl
  | .ask i j k, f => by
    have ih := fun b => kasRun_bind ask (k b) f
    simp only [PySem.W.KasT.bind, kasRun]
    cases ask i j with
    | none => rfl
    | some b => exact ih b
structure Pre (n : Nat) (ask : Nat → Nat → Option Bool) (lt : Nat → Nat → Bool) : Prop where
  tot : ∀ i j, i < n → j < n → ask i j = some (lt i j)
  asym : ∀ i j, i < n → j < n → lt i j = true → lt j i = false
  trans : ∀ i j k, i < n → j < n → k < n → lt j i = false → lt k j = false → lt k i = false
def gi (p : Array Nat) (k : Nat) : Nat := p.getD k 0
structure Ix' (n : Nat) (p : Array Nat) : Prop where
  pm : p.toList.Perm (List.range n)
theorem Ix'.size {n : Nat} {p : Array Nat} (h : Ix' n p) : p.size = n := by rw [← Array.length_toList, h.pm.length_eq, List.length_range]
theorem gi_at {p : Array Nat} {k : Nat} (h : k < p.size) : gi p k = p[k] := by unfold gi; simp [Array.getD, h]
theorem Ix'.lt {n : Nat} {p : Array Nat} (h : Ix' n p) {k : Nat} (hk : k < n) : gi p k < n := by
  have hs : k < p.size := by rw [h.size]; exact hk
  rw [gi_at hs]
  exact List.mem_range.mp (h.pm.mem_iff.mp (by simpa using Array.getElem_mem hs))
theorem gi_of {p q : Array Nat} {k j : Nat} (h : p[k]? = q[j]?) : gi p k = gi q j := by
  unfold gi
  rw [Array.getD_eq_getD_getElem?, Array.getD_eq_getD_getElem?, h]
theorem Ix'.rev {n : Nat} {p : Array Nat} (h : Ix' n p) (i j : Nat) : Ix' n (PySem.W.kas_rev p i j) := ⟨(Array.perm_iff_toList_perm.mp (mirror_perm p i j _)).trans h.pm⟩
theorem Ix'.bub {n : Nat} {p : Array Nat} (h : Ix' n p) (i j : Nat) : Ix' n (bubble p i j) := ⟨(Array.perm_iff_toList_perm.mp (bubble_perm p i j)).trans h.pm⟩
theorem gi_rev {p : Array Nat} {i j : Nat} (hj : j ≤ p.size) (k : Nat) : gi (PySem.W.kas_rev p i j) k = if i ≤ k ∧ k < j then gi p (i + j - 1 - k) else gi p k := by
  unfold PySem.W.kas_rev
  have e := getElem?_mirror (xs := p) (i := i) hj ((j - i) / 2) (by omega) k
  by_cases c : (i ≤ k ∧ k < i + (j - i) / 2) ∨ (j - (j - i) / 2 ≤ k ∧ k < j)
  · rw [if_pos c] at e
    rw [if_pos (by omega)]
    exact gi_of e
  · rw [if_neg c] at e
    by_cases c2 : i ≤ k ∧ k < j
    · rw [if_pos c2, show i + j - 1 - k = k by omega]
      exact gi_of e
    · rw [if_neg c2]
      exact gi_of e
theorem gi_bub {p : Array Nat} {src d : Nat} (hs : src < p.size) (hd : d ≤ src) (k : Nat) : gi (bubble p src d) k = if k = src - d then gi p src else if src - d < k ∧ k ≤ src then gi p (k - 1) else gi p k := by
  (have e := getElem?_bubble hs d hd k); by_cases c : k = src - d
  · rw [if_pos c] at e ⊢; exact gi_of e
  · rw [if_neg c] at e ⊢
    by_cases c2 : src - d < k ∧ k ≤ src
    · rw [if_pos c2] at e ⊢; exact gi_of e
    · rw [if_neg c2] at e ⊢; exact gi_of e
section
variable {n : Nat} {ask : Nat → Nat → Option Bool} {lt : Nat → Nat → Bool}
def Up' (lt : Nat → Nat → Bool) (p : Array Nat) (m : Nat) : Prop := ∀ a b, a ≤ b → b < m → lt (gi p b) (gi p a) = false
def Dn' (lt : Nat → Nat → Bool) (p : Array Nat) (m : Nat) : Prop := ∀ a b, a ≤ b → b < m → lt (gi p a) (gi p b) = false
theorem Pre.irr (O : Pre n ask lt) {i : Nat} (h : i < n) : lt i i = false := by
  cases e : lt i i with
  | false => rfl
  | true => rw [← e]; exact O.asym i i h h e
theorem Up'.more (O : Pre n ask lt) {p : Array Nat} {m : Nat} (I : Ix' n p) (h : Up' lt p m) (hm : m < n) (h1 : m = 0 ∨ lt (gi p m) (gi p (m - 1)) = false) : Up' lt p (m + 1) := fun a b hab hb => by
  by_cases e : b < m
  · exact h a b hab e
  · have : b = m := by omega
    subst this
    by_cases ea : a = b
    · subst ea; exact O.irr (I.lt hm)
    · rcases h1 with h1 | h1
      · omega
      · exact O.trans (gi p a) (gi p (b - 1)) (gi p b) (I.lt (by omega)) (I.lt (by omega)) (I.lt hm) (h a (b - 1) (by omega) (by omega)) h1
theorem asc_ok (O : Pre n ask lt) {p : Array Nat} (I : Ix' n p) : ∀ (f m : Nat), 1 ≤ m → m + f ≤ n → Up' lt p m → ∃ k, kasRun ask (PySem.W.kas_asc p f m) = some k ∧ m ≤ k ∧ k ≤ m + f ∧ Up' lt p k ∧ (k < m + f → lt (gi p k) (gi p (k - 1)) = true)
  | 0, m, _, _, h => ⟨m, rfl, Nat.le_refl _, Nat.le_refl _, h, fun z => by omega⟩
  | f + 1, m, h1, hm, h => by
    have e : ask (p.getD m 0) (p.getD (m - 1) 0) = some (lt (gi p m) (gi p (m - 1))) := O.tot _ _ (I.lt (by omega)) (I.lt (by omega))
    unfold PySem.W.kas_asc kasRun
    rw [e]
    dsimp only
    cases c : lt (gi p m) (gi p (m - 1)) with
    | true =>
      rw [if_pos rfl]
      exact ⟨m, rfl, Nat.le_refl _, by omega, h, fun _ => c⟩
    | false =>
      rw [if_neg Bool.false_ne_true]
      obtain ⟨k, a1, a2, a3, a4, a5⟩ := asc_ok O I f (m + 1) (by omega) (by omega) (h.more O I (by omega) (.inr c))
      exact ⟨k, a1, by omega, by omega, a4, fun z => a5 (by omega)⟩
def Like (lt : Nat → Nat → Bool) (n : Nat) (p q : Array Nat) : Prop := ∀ k, k < n → lt (gi p k) (gi q k) = false ∧ lt (gi q k) (gi p k) = false
theorem Dn'.more (O : Pre n ask lt) {p : Array Nat} {m : Nat} (I : Ix' n p) (h : Dn' lt p m) (hm : m < n) (h0 : 0 < m) (h1 : lt (gi p (m - 1)) (gi p m) = false) : Dn' lt p (m + 1) := fun a b hab hb => by
  by_cases e : b < m
  · exact h a b hab e
  · have : b = m := by omega
    subst this
    by_cases ea : a = b
    · subst ea; exact O.irr (I.lt hm)
    · exact O.trans (gi p b) (gi p (b - 1)) (gi p a) (I.lt hm) (I.lt (by omega)) (I.lt (by omega)) h1 (h a (b - 1) (by omega) (by omega))
theorem Dn'.like (O : Pre n ask lt) {p q : Array Nat} {m : Nat} (I : Ix' n p) (J : Ix' n q) (hm : m ≤ n) (h : Dn' lt p m) (l : Like lt n p q) : Dn' lt q m := fun a b hab hb =>
  O.trans (gi q b) (gi p a) (gi q a) (J.lt (by omega)) (I.lt (by omega)) (J.lt (by omega)) (O.trans (gi q b) (gi p b) (gi p a) (J.lt (by omega)) (I.lt (by omega)) (I.lt (by omega)) (l b (by omega)).1 (h a b hab hb)) (l a (by omega)).2
theorem like_rev (O : Pre n ask lt) {p : Array Nat} (I : Ix' n p) {i j : Nat} (hj : j ≤ n) (eq : ∀ a b, i ≤ a → a < j → i ≤ b → b < j → lt (gi p a) (gi p b) = false) : Like lt n p (PySem.W.kas_rev p i j) := fun k hk => by
  rw [gi_rev (by rw [I.size]; exact hj)]
  by_cases c : i ≤ k ∧ k < j
  · rw [if_pos c]
    exact ⟨eq _ _ (by omega) (by omega) (by omega) (by omega), eq _ _ (by omega) (by omega) (by omega) (by omega)⟩
  · rw [if_neg c]
    exact ⟨O.irr (I.lt hk), O.irr (I.lt hk)⟩
theorem desc_ok (O : Pre n ask lt) : ∀ (f : Nat) (p : Array Nat) (m q : Nat), Ix' n p → 1 ≤ m → m + f ≤ n → q + 1 ≤ m → Dn' lt p m → (∀ a b, m - (q + 1) ≤ a → a < m → m - (q + 1) ≤ b → b < m → lt (gi p a) (gi p b) = false) →
    ∃ r, kasRun ask (PySem.W.kas_desc f p m q) = some r ∧ Ix' n r.1 ∧ m ≤ r.2.1 ∧ r.2.1 ≤ m + f ∧ r.2.2 + 1 ≤ r.2.1 ∧ Dn' lt r.1 r.2.1 ∧ ∀ a b, r.2.1 - (r.2.2 + 1) ≤ a → a < r.2.1 → r.2.1 - (r.2.2 + 1) ≤ b → b < r.2.1 → lt (gi r.1 a) (gi r.1 b) = false
  | 0, p, m, q, I, h1, hm, hq, hd, he => ⟨(p, m, q), rfl, I, Nat.le_refl _, Nat.le_refl _, hq, hd, he⟩
  | f + 1, p, m, q, I, h1, hm, hq, hd, he => by
    have e : ask (p.getD m 0) (p.getD (m - 1) 0) = some (lt (gi p m) (gi p (m - 1))) := O.tot _ _ (I.lt (by omega)) (I.lt (by omega))
    have e' : ask (p.getD (m - 1) 0) (p.getD m 0) = some (lt (gi p (m - 1)) (gi p m)) := O.tot _ _ (I.lt (by omega)) (I.lt (by omega))
    unfold PySem.W.kas_desc kasRun
    rw [e]
    dsimp only
    have one : ∀ p' : Array Nat, Ix' n p' → ∀ a b, m + 1 - (0 + 1) ≤ a → a < m + 1 → m + 1 - (0 + 1) ≤ b → b < m + 1 → lt (gi p' a) (gi p' b) = false := fun p' J a b a1 a2 b1 b2 => by
      have : a = b := by omega
      subst this
      exact O.irr (J.lt (by omega))
    cases c : lt (gi p m) (gi p (m - 1)) with
    | true =>
      rw [if_pos rfl]
      have hd1 := hd.more O I (by omega) (by omega) (O.asym _ _ (I.lt (by omega)) (I.lt (by omega)) c)
      by_cases hq0 : q > 0
      · rw [if_pos hq0]
        have J := I.rev (m - (q + 1)) m
        have lk := like_rev O I (i := m - (q + 1)) (j := m) (by omega) he
        obtain ⟨r, a1, a2, a3, a4, a5⟩ := desc_ok O f (PySem.W.kas_rev p (m - (q + 1)) m) (m + 1) 0 J (by omega) (by omega) (by omega) (hd1.like O I J (by omega) lk) (one _ J)
        exact ⟨r, a1, a2, by omega, by omega, a5⟩
      · rw [if_neg hq0]
        obtain ⟨r, a1, a2, a3, a4, a5⟩ := desc_ok O f p (m + 1) 0 I (by omega) (by omega) (by omega) hd1 (one _ I)
        exact ⟨r, a1, a2, by omega, by omega, a5⟩
    | false =>
      rw [if_neg Bool.false_ne_true]
      unfold kasRun
      rw [e']
      dsimp only
      cases c2 : lt (gi p (m - 1)) (gi p m) with
      | true =>
        rw [if_pos rfl]
        exact ⟨(p, m, q), rfl, I, Nat.le_refl _, by show m ≤ _; omega, hq, hd, he⟩
      | false =>
        rw [if_neg Bool.false_ne_true]
        have hd1 := hd.more O I (by omega) (by omega) c2
        obtain ⟨r, a1, a2, a3, a4, a5⟩ := desc_ok O f p (m + 1) (q + 1) I (by omega) (by omega) (by omega) hd1 fun a b z1 z2 z3 z4 => by
          have key : ∀ x, m + 1 - (q + 1 + 1) ≤ x → x < m + 1 → lt (gi p x) (gi p (m - 1)) = false ∧ lt (gi p (m - 1)) (gi p x) = false := fun x x1 x2 => by
            by_cases hx : x = m
            · subst hx; exact ⟨c, c2⟩
            · exact ⟨he _ _ (by omega) (by omega) (by omega) (by omega), he _ _ (by omega) (by omega) (by omega) (by omega)⟩
          exact O.trans (gi p b) (gi p (m - 1)) (gi p a) (I.lt (by omega)) (I.lt (by omega)) (I.lt (by omega)) (key b z3 z4).2 (key a z1 z2).1
        exact ⟨r, a1, a2, by omega, by omega, a5⟩
theorem tail_ok (O : Pre n ask lt) {p : Array Nat} (I : Ix' n p) {m : Nat} (h1 : 1 ≤ m) (hm : m ≤ n) (hd : Dn' lt p m) : ∃ r, kasRun ask (PySem.W.kas_tail3 m n p) = some r ∧ Ix' n r.2 ∧ 1 ≤ r.1 ∧ r.1 ≤ n ∧ Up' lt r.2 r.1 := by
  have J := I.rev 0 m
  have up : Up' lt (PySem.W.kas_rev p 0 m) m := fun a b hab hb => by
    rw [gi_rev (by rw [I.size]; exact hm), gi_rev (by rw [I.size]; exact hm), if_pos (by omega), if_pos (by omega)]
    exact hd _ _ (by omega) (by omega)
  obtain ⟨k, a1, a2, a3, a4, _⟩ := asc_ok O J (n - m) m h1 (by omega) up
  refine ⟨(k, PySem.W.kas_rev p 0 m), ?_, J, by show 1 ≤ k; omega, by show k ≤ n; omega, a4⟩
  unfold PySem.W.kas_tail3
  rw [kasRun_bind, a1]
  rfl
theorem descPart_ok (O : Pre n ask lt) {p : Array Nat} (I : Ix' n p) {m : Nat} (h1 : 1 ≤ m) (hm : m < n) (eq : ∀ a b, a < m → b < m → lt (gi p a) (gi p b) = false) (hl : lt (gi p m) (gi p (m - 1)) = true) :
    ∃ r, kasRun ask (PySem.W.kas_descPart m n p) = some r ∧ Ix' n r.2 ∧ 1 ≤ r.1 ∧ r.1 ≤ n ∧ Up' lt r.2 r.1 := by
  have hd : Dn' lt p m := fun a b _ hb => eq a b (by omega) hb
  have hd1 := hd.more O I hm (by omega) (O.asym _ _ (I.lt hm) (I.lt (by omega)) hl)
  obtain ⟨r, a1, a2, a3, a4, a5, a6, a7⟩ := desc_ok O (n - (m + 1)) p (m + 1) 0 I (by omega) (by omega) (by omega) hd1 fun a b z1 z2 z3 z4 => by
    have : a = b := by omega
    subst this
    exact O.irr (I.lt (by omega))
  unfold PySem.W.kas_descPart
  rw [kasRun_bind, a1]
  show ∃ r', kasRun ask (if r.2.2 > 0 then _ else _) = some r' ∧ _
  by_cases hq : r.2.2 > 0
  · rw [if_pos hq]
    have J := a2.rev (r.2.1 - (r.2.2 + 1)) r.2.1
    exact tail_ok O J (by omega) (by omega) (a6.like O a2 J (by omega) (like_rev O a2 (by omega) a7))
  · rw [if_neg hq]
    exact tail_ok O a2 (by omega) (by omega) a6
theorem count_ok (O : Pre n ask lt) {p : Array Nat} (I : Ix' n p) (hn : 1 ≤ n) : ∃ r, kasRun ask (PySem.W.kas_count n p) = some r ∧ Ix' n r.2 ∧ 1 ≤ r.1 ∧ r.1 ≤ n ∧ Up' lt r.2 r.1 := by
  obtain ⟨k, a1, a2, a3, a4, a5⟩ := asc_ok O I (n - 1) 1 (Nat.le_refl _) (by omega) (fun a b _ hb => by
    have : a = 0 := by omega
    have : b = 0 := by omega
    subst a b
    exact O.irr (I.lt (by omega)))
  unfold PySem.W.kas_count
  rw [kasRun_bind, a1]
  show ∃ r', kasRun ask (if (k == n) = true then _ else _) = some r' ∧ _
  by_cases hk : k = n
  · rw [if_pos (by simpa using hk)]
    exact ⟨(k, p), rfl, I, a2, by show k ≤ n; omega, a4⟩
  · rw [if_neg (by simpa using hk)]
    have lk := a5 (by omega)
    by_cases h1 : k > 1
    · rw [if_pos h1]
      have e : ask (p.getD 0 0) (p.getD (k - 1) 0) = some (lt (gi p 0) (gi p (k - 1))) := O.tot _ _ (I.lt (by omega)) (I.lt (by omega))
      unfold kasRun
      rw [e]
      dsimp only
      cases c : lt (gi p 0) (gi p (k - 1)) with
      | true =>
        rw [if_pos rfl]
        exact ⟨(k, p), rfl, I, a2, by show k ≤ n; omega, a4⟩
      | false =>
        rw [if_neg Bool.false_ne_true]
        have J := I.rev 0 k
        have eqp : ∀ a b, a < k → b < k → lt (gi p a) (gi p b) = false := fun a b ha hb => by
          -- p b ≤ p (k-1) ≤ p 0 ≤ p a
          exact O.trans (gi p b) (gi p 0) (gi p a) (I.lt (by omega)) (I.lt (by omega)) (I.lt (by omega)) (O.trans (gi p b) (gi p (k - 1)) (gi p 0) (I.lt (by omega)) (I.lt (by omega)) (I.lt (by omega)) (a4 b (k - 1) (by omega) (by omega)) c) (a4 0 a (by omega) ha)
        refine descPart_ok O J (by omega) (by omega) (fun a b ha hb => ?_) ?_
        · rw [gi_rev (by rw [I.size]; omega), gi_rev (by rw [I.size]; omega), if_pos (by omega), if_pos (by omega)]
          exact eqp _ _ (by omega) (by omega)
        · rw [gi_rev (by rw [I.size]; omega), gi_rev (by rw [I.size]; omega), if_neg (by omega), if_pos (by omega)]
          cases z : lt (gi p k) (gi p (0 + k - 1 - (k - 1))) with
          | true => rfl
          | false =>
            have := O.trans (gi p (k - 1)) (gi p (0 + k - 1 - (k - 1))) (gi p k) (I.lt (by omega)) (I.lt (by omega)) (I.lt (by omega)) (eqp _ _ (by omega) (by omega)) z
            rw [lk] at this
            cases this
    · rw [if_neg h1]
      exact descPart_ok O I a2 (by omega) (fun a b ha hb => by
        have : a = 0 := by omega
        have : b = 0 := by omega
        subst a b
        exact O.irr (I.lt (by omega))) lk
theorem place_ok (O : Pre n ask lt) {p : Array Nat} (I : Ix' n p) {k : Nat} (hk : k < n) (up : Up' lt p k) : ∀ (f l r : Nat), l ≤ r → r ≤ k → r - l ≤ f → (∀ j, j < l → lt (gi p k) (gi p j) = false) → (∀ j, r ≤ j → j < k → lt (gi p k) (gi p j) = true) →
    ∃ m, kasRun ask (PySem.W.kas_place p k f l r) = some m ∧ m ≤ k ∧ (∀ j, j < m → lt (gi p k) (gi p j) = false) ∧ ∀ j, m ≤ j → j < k → lt (gi p k) (gi p j) = true
  | 0, l, r, h1, h2, h3, hl, hr => ⟨l, rfl, by omega, hl, fun j a b => hr j (by omega) b⟩
  | f + 1, l, r, h1, h2, h3, hl, hr => by
    unfold PySem.W.kas_place
    by_cases c : l ≥ r
    · rw [if_pos c]
      exact ⟨l, rfl, by omega, hl, fun j a b => hr j (by omega) b⟩
    · rw [if_neg c]
      have e : ask (p.getD k 0) (p.getD ((l + r) / 2) 0) = some (lt (gi p k) (gi p ((l + r) / 2))) := O.tot _ _ (I.lt hk) (I.lt (by omega))
      unfold kasRun
      rw [e]
      dsimp only
      cases c2 : lt (gi p k) (gi p ((l + r) / 2)) with
      | true =>
        rw [if_pos rfl]
        refine place_ok O I hk up f l ((l + r) / 2) (by omega) (by omega) (by omega) hl fun j a b => ?_
        cases z : lt (gi p k) (gi p j) with
        | true => rfl
        | false =>
          have := O.trans (gi p ((l + r) / 2)) (gi p j) (gi p k) (I.lt (by omega)) (I.lt (by omega)) (I.lt hk) (up _ _ a b) z
          rw [c2] at this
          cases this
      | false =>
        rw [if_neg Bool.false_ne_true]
        refine place_ok O I hk up f ((l + r) / 2 + 1) r (by omega) (by omega) (by omega) (fun j a => ?_) hr
        exact O.trans (gi p j) (gi p ((l + r) / 2)) (gi p k) (I.lt (by omega)) (I.lt (by omega)) (I.lt hk) (up _ _ (by omega) (by omega)) c2
theorem bin_ok (O : Pre n ask lt) : ∀ (f : Nat) (p : Array Nat) (k : Nat), Ix' n p → 1 ≤ k → k + f = n → Up' lt p k → ∃ r, kasRun ask (PySem.W.kas_bin f p k) = some r ∧ Ix' n r ∧ Up' lt r n
  | 0, p, k, I, _, h, up => ⟨p, rfl, I, by have : k = n := by omega
                                           subst this; exact up⟩
  | f + 1, p, k, I, h1, h, up => by
    obtain ⟨m, a1, a2, a3, a4⟩ := place_ok O I (k := k) (by omega) up k 0 k (by omega) (by omega) (by omega) (fun j hj => by omega) (fun j a b => by omega)
    unfold PySem.W.kas_bin
    rw [kasRun_bind, a1]
    show ∃ r, kasRun ask (PySem.W.kas_bin f (bubble p k (k - m)) (k + 1)) = some r ∧ _
    have hs : k < p.size := by rw [I.size]; omega
    have J := I.bub k (k - m)
    have g : ∀ j, gi (bubble p k (k - m)) j = if j = m then gi p k else if m < j ∧ j ≤ k then gi p (j - 1) else gi p j := fun j => by
      have := gi_bub hs (d := k - m) (by omega) j
      rw [show k - (k - m) = m by omega] at this
      exact this
    refine bin_ok O f _ (k + 1) J (by omega) (by omega) fun a b hab hb => ?_
    rw [g a, g b]
    by_cases ea : a = m
    · rw [if_pos ea]
      by_cases eb : b = m
      · rw [if_pos eb]; exact O.irr (I.lt (by omega))
      · rw [if_neg eb, if_pos (by omega)]
        exact O.asym _ _ (I.lt (by omega)) (I.lt (by omega)) (a4 (b - 1) (by omega) (by omega))
    · rw [if_neg ea]
      by_cases eb : b = m
      · rw [if_pos eb, if_neg (by omega)]
        exact a3 a (by omega)
      · rw [if_neg eb]
        by_cases ca : m < a ∧ a ≤ k
        · rw [if_pos ca, if_pos (by omega)]; exact up _ _ (by omega) (by omega)
        · rw [if_neg ca]
          by_cases cb : m < b ∧ b ≤ k
          · rw [if_pos cb]; exact up _ _ (by omega) (by omega)
          · rw [if_neg cb]; exact up _ _ (by omega) (by omega)
theorem sort_ok (O : Pre n ask lt) (hn : 1 ≤ n) : ∃ p, kasRun ask (PySem.W.kas_sort n) = some p ∧ p.toList.Perm (List.range n) ∧ Up' lt p n := by
  have I : Ix' n (List.toArray (List.range n)) := ⟨by simp⟩
  obtain ⟨r, a1, a2, a3, a4, a5⟩ := count_ok O I hn
  unfold PySem.W.kas_sort
  rw [kasRun_bind, a1]
  show ∃ p, kasRun ask (if r.1 < n then _ else _) = some p ∧ _
  by_cases c : r.1 < n
  · rw [if_pos c]
    obtain ⟨q, b1, b2, b3⟩ := bin_ok O (n - max r.1 1) r.2 (max r.1 1) a2 (by omega) (by omega) (by rw [show max r.1 1 = r.1 by omega]; exact a5)
    exact ⟨q, b1, b2.pm, b3⟩
  · rw [if_neg c]
    exact ⟨r.2, rfl, a2.pm, by rw [show n = r.1 by omega]; exact a5⟩
end
end PV

namespace PV
open PySem L2 PySem.Spec PyProof.Rows
section
variable {X : Cx} {K : Zc} {th : List Addr} {mu : Sto} {H : Hp}
def sortP (es : List D) : Option (List D) := if es.length < 2 then some es else match kasRun (askD es) (PySem.W.kas_sort es.length) with
  | some p => if p.toList.isPerm (List.range es.length) = true then some (p.toList.map fun i => es.getD i .non) else none
  | none => none
def srtAny (es : List D) : Option (List D) := if es.length < 64 then (if es.all tupS then sortP es else none) else none
def srtH : Fn := fun ds mu => match sq1 ds mu with
  | some es => (srtAny es).map fun rs => (.lst rs, mu)
  | none => none
theorem Vals.pick {zs : List V} {us : List Value} (q : Vals zs us) (f : Nat → V) (g : Nat → Value) : ∀ (p : List Nat), (∀ i ∈ p, RelV (f i) (g i)) → Vals (p.map f) (p.map g)
  | [], _ => .nil
  | i :: p, h => .cons (h i (.head _)) (Vals.pick q f g p fun j hj => h j (.tail _ hj))
theorem RepL.pick {ds : List D} {vs : List V} (f : Nat → D) (g : Nat → V) : ∀ (p : List Nat), (∀ i ∈ p, Rep K th H (f i) (g i)) → RepL K th H (p.map f) (p.map g)
  | [], _ => .nil
  | i :: p, h => .cons (h i (.head _)) (RepL.pick (ds := ds) (vs := vs) f g p fun j hj => h j (.tail _ hj))
theorem call_srtH (hu : X.A.units + 64 < cLine) : CallV X (.builtin "sorted") srtH := by
  intro pins s st H xs us Q I r h
  obtain ⟨th, mu, ds, so, rd, t⟩ := h
  unfold srtH at t
  cases e : sq1 ds mu with
  | none => rw [e] at t; exact t.no.elim
  | some es =>
    rw [e] at t
    dsimp only at t
    obtain ⟨d, rfl, e2⟩ := sq1_inv e
    obtain ⟨x, rfl, rx⟩ := one_arg rd
    obtain ⟨a, vs, rfl, h1, h2, h3⟩ := seqOf_rep so e2 rx
    obtain ⟨u, rfl, ru⟩ := vals1 r
    cases ru
    -- the object
    have obj : ∃ (T : String) (ob : Obj) (zs : List Value) (n : Nat), (T = "list" ∨ T = "tuple") ∧ s.heap.get? a = some ob ∧ ob.cls = .type T ∧ ob.data = .seq zs.toArray n ∧ Vals vs zs := by
      rcases h1 with h1 | ⟨h1, _⟩
      · obtain ⟨its, rv, ⟨o, n, g1, g2, _, g3⟩, _⟩ := I.list h1
        exact ⟨"list", o, its, n, .inl rfl, g1, g2, g3, rv⟩
      · obtain ⟨its, rv, ⟨o, g1, g2, n, g3⟩, _⟩ := I.tuple h1
        exact ⟨"tuple", o, its, n, .inr rfl, g1, g2, g3, rv⟩
    obtain ⟨T, ob, zs, n, hT, g1, g2, g3, rv⟩ := obj
    have lz : zs.length = es.length := by rw [← rv.length, h2.len]
    have fin : ∀ (out : List Value) (rs : List D) (ws : List V), srtAny es = some rs → RepL X.z th H rs ws → Vals ws out → rs.length = es.length → ∀ h' e, (∀ b o, s.heap.get? b = some o → h'.get? b = some o) → h'.get? (s.heap.objs.size + 1) = some (seqObj "list" out.toArray e) → EP X pins st Q (.ref (s.heap.objs.size + 1)) { s with heap := h' } := fun out rs ws er rr rw' lr h' e hk he => by
      rw [er] at t
      have hp : H (s.heap.objs.size + 1) = none := I.hok.fresh (Nat.le_succ _)
      refine ⟨.ref (s.heap.objs.size + 1), _, I.laid (t' := s.toks) (o := .lst ws) hk (Nat.le_succ _) ⟨by rw [rr.len, lr]; exact h3, out, e, rw', he⟩, rfl, ?_⟩
      exact t.retX (.new hp _) (so.new hp _) _ (Rep.newLst so hp rr (by rw [lr]; exact h3))
    cases er : srtAny es with
    | none => rw [er] at t; exact t.no.elim
    | some rs =>
      have er' := er
      unfold srtAny at er
      by_cases c64 : es.length < 64
      · rw [if_pos c64] at er
        by_cases ct : es.all tupS = true
        · rw [if_pos ct] at er
          unfold sortP at er
          by_cases c2 : es.length < 2
          · rw [if_pos c2] at er
            cases er
            refine sorted_by hT g1 g2 g3 (by rw [lz]; exact h3) (out := zs) (fun h1 P E' hk hsz hl hP => sort_few hl (by rw [lz]; exact c2) hP) (fin zs es vs er' h2 rv rfl)
          · rw [if_neg c2] at er
            cases ek : kasRun (askD es) (PySem.W.kas_sort es.length) with
            | none => rw [ek] at er; cases er
            | some p =>
              rw [ek] at er
              dsimp only at er
              by_cases cp : p.toList.isPerm (List.range es.length) = true
              case neg => rw [if_neg cp] at er; cases er
              rw [if_pos cp] at er
              cases er
              have pm : p.toList.Perm (List.range es.length) := List.isPerm_iff.mp cp
              have pl : p.size = es.length := by rw [← Array.length_toList, pm.length_eq, List.length_range]
              have inn : ∀ i ∈ p.toList, i < es.length := fun i hi => List.mem_range.mp (pm.mem_iff.mp hi)
              refine sorted_by hT g1 g2 g3 (by rw [lz]; exact h3) (out := p.toList.map fun i => zs.getD i Value.none) (fun h1 P E' hk hsz hl hP => ?_) (fin _ _ (p.toList.map fun i => vs.getD i .non) er' ?_ ?_ ?_)
              · have I6 : L2.Inv X pins st H { s with heap := ((h1.update (s.heap.objs.size + 1) (Obj.mapSeq fun _ => #[])).push (seqObj "tuple" zs.toArray 0)).push (seqObj "list" #[] 0) } := I.kept (t' := s.toks) fun b o q => by
                  have lb := Heap.lt_size q
                  refine Heap.get?_push_of_some _ (Heap.get?_push_of_some _ ?_)
                  rw [Heap.get?_update_ne _ _ _ _ (Nat.ne_of_lt (Nat.lt_succ_of_lt lb))]
                  exact hk b o q
                obtain ⟨fs, f1, f2, f3⟩ := katTups_of I6 ct h2 rv
                refine sort_by (kd := tuples' true) p (by rw [lz]; exact pl) hl (by rw [lz]; omega) (by rw [lz]; exact c64) (fun Q' E2 hq => PySem.W.kat_kind f1 (by rw [f2]; omega) (T := .type "str") (fun v hv => ?_) rfl hq) (fun G hG => ?_) hP
                · obtain ⟨x, tk, rfl⟩ := f3 v hv
                  exact fun A Q E s _ hq => wpAny_typeOf (typeIs_str s x tk) hq
                · rw [lz]
                  exact kasRun_wp (fun i j b C ea hC => ask_at I6 ct h2 rv (A := X.A.in1.in1) (by show X.A.units + 1 + 1 + 60 < cLine; omega) i j b C ea hC) _ p G ek hG
              · exact RepL.pick (ds := es) (vs := vs) _ _ _ fun i hi => by
                  have hi' := inn i hi
                  obtain ⟨v, ev, rv'⟩ := h2.get (show es[i]? = some es[i] by simp [hi'])
                  rw [List.getD_eq_getElem?_getD, List.getD_eq_getElem?_getD, ev, show es[i]? = some es[i] by simp [hi']]
                  exact rv'
              · exact Vals.pick rv _ _ _ fun i hi => by
                  have hi' := inn i hi
                  obtain ⟨v, ev, _⟩ := h2.get (show es[i]? = some es[i] by simp [hi'])
                  obtain ⟨u, eu, ru⟩ := rv.get ev
                  rw [List.getD_eq_getElem?_getD, List.getD_eq_getElem?_getD, ev, eu]
                  exact ru
              · rw [List.length_map, Array.length_toList, pl]
        · rw [if_neg ct] at er; cases er
      · rw [if_neg c64] at er; cases er
theorem CallV.or {f : Value} {g g' : Fn} (h : CallV X f g) (h' : CallV X f g') : CallV X f fun ds mu => match g ds mu with | some r => some r | none => g' ds mu := by
  intro pins s st H xs us Q I r q
  obtain ⟨th, mu, ds, so, rd, t⟩ := q
  cases e : g ds mu with
  | some p =>
    refine h pins s st H xs us Q I r ⟨th, mu, ds, so, rd, ?_⟩
    rw [e]; simpa only [e] using t
  | none =>
    refine h' pins s st H xs us Q I r ⟨th, mu, ds, so, rd, ?_⟩
    simpa only [e] using t
def srtG : Fn := fun ds mu => match srtF ds mu with | some r => some r | none => srtH ds mu
theorem call_srtG (hu : X.A.units + 64 < cLine) : CallV X (.builtin "sorted") srtG := CallV.or call_srtD (call_srtH hu)
end
end PV

namespace PV
open PySem L2 PySem.Spec PyProof.Rows
section
variable {prog : Program} {w : World} {A : Around} {E : Value → Shared → Prop} {s : Shared}
theorem tuNext {i t : Addr} {k : Nat} {its : Array Value} {x : Value} {Q : Value → Shared → Prop} (g : s.heap.IsTupleIter i t k) (p : s.heap.IsTuple t its) (e : its[k]? = some x)
    (q : ∀ h', h'.IsTupleIter i t (k + 1) → Heap.SameBut i s.heap h' → Q x { s with heap := h' }) : wpAny (model prog w) A (Builtin.SmallTypes.nextOf (.ref i)) Q E s := by
  obtain ⟨ob, g1, g2, g3⟩ := id g
  (obtain ⟨tb, p1, p2, n, p3⟩ := p); unfold Builtin.SmallTypes.nextOf
  refine wpAny_bind (wpAny_callSpecial?_slot (name := Str.ofString "__next__") g.typeIs F.slot_tuple_iterator_next (wpAny_call_entry F.slot_tuple_iterator_next g.typeIs F.entry_tuple_iterator_next (?_ : wpAny _ _ (field (.ref i) 0 >>= _) _ _ _) (F.args_tuple_iterator_next_1 _)))
  refine wpAny_bind (wpAny_field g1 g3 (x := .ref t) rfl (?_ : wpAny _ _ (if (Value.ref t == Value.none) = true then _ else _) _ _ _))
  have nn : ¬ ((Value.ref t == Value.none) = true) := Bool.false_ne_true
  rw [if_neg nn]
  refine wpAny_bind (m := field (.ref i) 1) (wpAny_field g1 g3 (x := .int k 0) rfl (?_ : wpAny _ _ (seqItems? (.ref t) >>= _) _ _ _))
  refine wpAny_bind (wpAny_seqItems p1 p3 ?_)
  simp only [Int.toNat_natCast, e]
  refine wpAny_bind (wpAny_setField g1 g3 (by simp) (wpAny_pure ⟨x, rfl, wpAny_pure (q _ ⟨_, Heap.get?_update_self _ g1 (Obj.isFreed_of_fields (Obj.data_mapFields g3 _)), (Obj.cls_mapFields ..).trans g2, ?_⟩ (Heap.SameBut.update ..))⟩))
  rw [Obj.data_mapFields g3]
  simp [rawInt]
theorem tuStop {i t : Addr} {k : Nat} {its : Array Value} {Q : Value → Shared → Prop} (hh : A.handled = none) (g : s.heap.IsTupleIter i t k) (p : s.heap.IsTuple t its) (e : its[k]? = none)
    (q : ∀ h' b, Heap.ExtBut i s.heap h' → (∃ o, h'.get? b = some o ∧ o.cls = .type "StopIteration") → E (.ref b) { s with heap := h' }) : wpAny (model prog w) A (Builtin.SmallTypes.nextOf (.ref i)) Q E s := by
  obtain ⟨ob, g1, g2, g3⟩ := id g
  (obtain ⟨tb, p1, p2, n, p3⟩ := p); unfold Builtin.SmallTypes.nextOf
  refine wpAny_bind (wpAny_callSpecial?_slot (name := Str.ofString "__next__") g.typeIs F.slot_tuple_iterator_next (wpAny_call_entry F.slot_tuple_iterator_next g.typeIs F.entry_tuple_iterator_next (?_ : wpAny _ _ (field (.ref i) 0 >>= _) _ _ _) (F.args_tuple_iterator_next_1 _)))
  refine wpAny_bind (wpAny_field g1 g3 (x := .ref t) rfl (?_ : wpAny _ _ (if (Value.ref t == Value.none) = true then _ else _) _ _ _))
  have nn : ¬ ((Value.ref t == Value.none) = true) := Bool.false_ne_true
  rw [if_neg nn]
  refine wpAny_bind (m := field (.ref i) 1) (wpAny_field g1 g3 (x := .int k 0) rfl (?_ : wpAny _ _ (seqItems? (.ref t) >>= _) _ _ _))
  refine wpAny_bind (wpAny_seqItems p1 p3 ?_)
  simp only [Int.toNat_natCast, e]
  refine wpAny_bind (wpAny_rule (wpAny_bind (wpAny_setField g1 g3 (by simp) (?_ : wpAny _ _ (newExc (.type "StopIteration") [] >>= _) _ _ _))))
  refine wpAny_bind ?_
  simp only [newExc, newTuple]
  refine wpAny_bind (wpAny_newObj_type (wpAny_bind (m := firstArgMember _ _) (wpAny_of_eq (a := Value.none) (by first | rfl | (simp only [firstArgMember]; rfl)) (wpAny_newObj_type ?_ (by size_fits)))) (by size_fits))
  (simp only [raiseNew]); refine wpAny_bind (wpAny_handled ?_); first | rw [show A.in1.handled = none from hh] | rw [hh]
  exact wpAny_bind (wpAny_pure (wpAny_throw (q _ _ (((Heap.SameBut.update ..).extBut.push _).push _) ⟨_, Heap.get?_push_size _ rfl, rfl⟩)))
def zTu (z TI TO i1 i2 l1 l2 : Addr) (k : Nat) (h : Heap) : Prop :=
  IsZip h z TI TO .none ∧ IsPair h TI (.ref i1) (.ref i2) ∧ (∃ a b, IsPair h TO a b) ∧ h.IsTupleIter i1 l1 k ∧ h.IsTupleIter i2 l2 k
theorem zTu_next {z TI TO i1 i2 l1 l2 : Addr} {k : Nat} {xs ys : Array Value} {x y : Value} {Q : Value → Shared → Prop} (D : ZipApart z TI TO i1 i2 l1 l2) (g : zTu z TI TO i1 i2 l1 l2 k s.heap)
    (p1 : s.heap.IsTuple l1 xs) (p2 : s.heap.IsTuple l2 ys) (ex : xs[k]? = some x) (ey : ys[k]? = some y)
    (q : ∀ h', IsZip h' z TI TO (rawInt s.heap.objs.size) → IsPair h' TO x y → h'.IsTupleIter i1 l1 (k + 1) → h'.IsTupleIter i2 l2 (k + 1) → IsPair h' s.heap.objs.size x y → (∀ c o, c ≠ z → c ≠ TO → c ≠ i1 → c ≠ i2 → s.heap.get? c = some o → h'.get? c = some o) → Q (.ref s.heap.objs.size) { s with heap := h' }) : wpAny (model prog w) A (Builtin.«zip.__next__» ⟨[.ref z], []⟩) (fun fin s' => ∃ v, fin = .done (.ret v) ∧ Q v s') E s := by
  obtain ⟨g1, g2, ⟨a, b, g3⟩, g4, g5⟩ := g
  refine (?_ : wpAny _ _ (field (.ref z) 2 >>= _) _ _ _)
  refine wpAny_bind (wpAny_field g1 rfl (x := .bool false) rfl (?_ : wpAny _ _ (field (.ref z) 3 >>= _) _ _ _))
  refine wpAny_bind (wpAny_field g1 rfl (x := .ref TI) rfl (wpAny_bind (wpAny_seqItems g2 rfl (?_ : wpAny _ _ (Builtin.SmallTypes.ownedTupleIsFree (.ref z) >>= _) _ _ _))))
  (refine wpAny_bind ?_); unfold Builtin.SmallTypes.ownedTupleIsFree
  refine wpAny_bind (wpAny_field g1 rfl (x := .none) rfl (wpAny_pure ?_))
  simp only [if_true]
  refine wpAny_bind (wpAny_rule (wpAny_bind (wpAny_field g1 rfl (x := .ref TO) rfl (wpAny_bind (wpAny_setField_rec g1 (by simp) fun q1 z1 b1 => ?_)))))
  replace z1 : IsZip q1 z TI TO .ellipsis := z1
  (refine wpAny_bind ?_); simp only [List.zipIdx_cons, List.zipIdx_nil, List.forIn_cons, List.forIn_nil]
  refine wpAny_bind (wpAny_bind (wpAny_onRaise (?_ : wpAny _ _ (Builtin.SmallTypes.nextOf (.ref i1) >>= _) _ _ _)))
  refine wpAny_bind (tuNext (g4.extBut b1.extBut D.i1z) (p1.extBut b1.extBut D.l1z) ex fun q2 n1 b2 => wpAny_pure ?_)
  have o2 : IsPair q2 TO a b := b2.extBut _ _ D.TOi1 (b1.extBut _ _ D.TOz g3)
  refine wpAny_bind (wpAny_seqItems o2 rfl (wpAny_bind (wpAny_updateSeq_pair o2 fun q3 o3 b3 => wpAny_bind (wpAny_letGo (wpAny_pure ?_)))))
  replace o3 : IsPair q3 TO x b := o3
  refine wpAny_bind (wpAny_bind (wpAny_onRaise (?_ : wpAny _ _ (Builtin.SmallTypes.nextOf (.ref i2) >>= _) _ _ _)))
  refine wpAny_bind (tuNext (((g5.extBut b1.extBut D.i2z).extBut b2.extBut D.i12.symm).extBut b3.extBut D.TOi2.symm) (((p2.extBut b1.extBut D.l2z).extBut b2.extBut D.l2i1).extBut b3.extBut D.l2TO) ey fun q4 n2 b4 => wpAny_pure ?_)
  have o4 : IsPair q4 TO x b := b4.extBut _ _ D.TOi2 o3
  refine wpAny_bind (wpAny_seqItems o4 rfl (wpAny_bind (wpAny_updateSeq_pair o4 fun q5 o5 b5 => wpAny_bind (wpAny_letGo (wpAny_pure (wpAny_pure ?_))))))
  replace o5 : IsPair q5 TO x y := o5
  refine wpAny_bind (wpAny_seqItems o5 rfl (wpAny_bind (wpAny_newTuple ?_)))
  have sz : q5.objs.size = s.heap.objs.size := by rw [b5.1, b4.1, b3.1, b2.1, b1.1]
  have z5 : IsZip q5 z TI TO .ellipsis := b5.extBut _ _ D.TOz.symm (b4.extBut _ _ D.i2z.symm (b3.extBut _ _ D.TOz.symm (b2.extBut _ _ D.i1z.symm z1)))
  have k5 : ∀ c o, c ≠ z → c ≠ TO → c ≠ i1 → c ≠ i2 → s.heap.get? c = some o → q5.get? c = some o := fun c o d1 d2 d3 d4 e => b5.extBut _ _ d2 (b4.extBut _ _ d4 (b3.extBut _ _ d2 (b2.extBut _ _ d3 (b1.extBut _ _ d1 e))))
  have m1 : q5.IsTupleIter i1 l1 (k + 1) := ((n1.extBut b3.extBut D.TOi1.symm).extBut b4.extBut D.i12).extBut b5.extBut D.TOi1.symm
  have m2 : q5.IsTupleIter i2 l2 (k + 1) := n2.extBut b5.extBut D.TOi2.symm
  have zl : q5.objs.size ≠ z := Nat.ne_of_gt (Heap.lt_size z5)
  refine (?_ : wpAny _ _ (Builtin.SmallTypes.ownedTupleHandOut (.ref z) (.ref q5.objs.size) >>= _) _ _ _)
  (refine wpAny_bind ?_); unfold Builtin.SmallTypes.ownedTupleHandOut
  have z6 : IsZip (q5.push { cls := .type "tuple", data := .seq #[x, y] }) z TI TO .ellipsis := Heap.get?_push_of_some _ z5
  refine wpAny_bind (wpAny_setField_rec z6 (by simp) fun q7 z7 b7 => ?_)
  replace z7 : IsZip q7 z TI TO (rawInt q5.objs.size) := z7
  refine wpAny_setField_rec z7 (by simp) fun q8 z8 b8 => ?_
  replace z8 : IsZip q8 z TI TO (rawInt q5.objs.size) := z8
  have up : ∀ c o, c ≠ z → q5.get? c = some o → q8.get? c = some o := fun c o d e => b8.extBut _ _ d (b7.extBut _ _ d (Heap.get?_push_of_some _ e))
  have nw : IsPair q8 q5.objs.size x y := b8.extBut _ _ zl (b7.extBut _ _ zl (Heap.get?_push_size _ rfl))
  (rw [sz] at z8 nw); refine wpAny_pure ⟨_, rfl, ?_⟩
  rw [sz]
  exact q q8 z8 (up _ _ D.TOz o5) (m1.at fun o e => up _ o D.i1z e) (m2.at fun o e => up _ o D.i2z e) nw fun c o d1 d2 d3 d4 e => up c o d1 (k5 c o d1 d2 d3 d4 e)
theorem zTu_stop {z TI TO i1 i2 l1 l2 : Addr} {k : Nat} {xs ys : Array Value} {Q : PySem.Fin → Shared → Prop} (hh : A.handled = none) (D : ZipApart z TI TO i1 i2 l1 l2) (g : zTu z TI TO i1 i2 l1 l2 k s.heap)
    (p1 : s.heap.IsTuple l1 xs) (p2 : s.heap.IsTuple l2 ys) (en : xs[k]? = none ∨ ys[k]? = none)
    (q : ∀ h' e, (∀ c o, c ≠ z → c ≠ TO → c ≠ i1 → c ≠ i2 → s.heap.get? c = some o → h'.get? c = some o) → (∃ o, h'.get? e = some o ∧ o.cls = .type "StopIteration") → E (.ref e) { s with heap := h' }) : wpAny (model prog w) A (Builtin.«zip.__next__» ⟨[.ref z], []⟩) Q E s := by
  obtain ⟨g1, g2, ⟨a, b, g3⟩, g4, g5⟩ := g
  refine (?_ : wpAny _ _ (field (.ref z) 2 >>= _) _ _ _)
  refine wpAny_bind (wpAny_field g1 rfl (x := .bool false) rfl (?_ : wpAny _ _ (field (.ref z) 3 >>= _) _ _ _))
  refine wpAny_bind (wpAny_field g1 rfl (x := .ref TI) rfl (wpAny_bind (wpAny_seqItems g2 rfl (?_ : wpAny _ _ (Builtin.SmallTypes.ownedTupleIsFree (.ref z) >>= _) _ _ _))))
  (refine wpAny_bind ?_); unfold Builtin.SmallTypes.ownedTupleIsFree
  refine wpAny_bind (wpAny_field g1 rfl (x := .none) rfl (wpAny_pure ?_))
  simp only [if_true]
  refine wpAny_bind (wpAny_rule (wpAny_bind (wpAny_field g1 rfl (x := .ref TO) rfl (wpAny_bind (wpAny_setField_rec g1 (by simp) fun q1 z1 b1 => ?_)))))
  replace z1 : IsZip q1 z TI TO .ellipsis := z1
  (refine wpAny_bind ?_); simp only [List.zipIdx_cons, List.zipIdx_nil, List.forIn_cons, List.forIn_nil]
  refine wpAny_bind (wpAny_bind (wpAny_onRaise (?_ : wpAny _ _ (Builtin.SmallTypes.nextOf (.ref i1) >>= _) _ _ _)))
  cases ex : xs[k]? with
  | none =>
    refine wpAny_bind (tuStop hh (g4.extBut b1.extBut D.i1z) (p1.extBut b1.extBut D.l1z) ex fun q2 e b2 he => ?_)
    obtain ⟨oe, he1, he2⟩ := he
    have z2 : IsZip q2 z TI TO .ellipsis := b2 _ _ D.i1z.symm z1
    have ne : e ≠ z := fun u => by subst u; rw [z2] at he1; cases he1; simp at he2
    exact wpAny_setField_rec z2 (by simp) fun q3 _ b3 => q q3 e (fun c o d1 _ d3 _ u => b3.extBut _ _ d1 (b2 _ _ d3 (b1.extBut _ _ d1 u))) ⟨oe, b3.extBut _ _ ne he1, he2⟩
  | some x =>
    have ey : ys[k]? = none := en.resolve_left fun u => by rw [ex] at u; cases u
    refine wpAny_bind (tuNext (g4.extBut b1.extBut D.i1z) (p1.extBut b1.extBut D.l1z) ex fun q2 n1 b2 => wpAny_pure ?_)
    have o2 : IsPair q2 TO a b := b2.extBut _ _ D.TOi1 (b1.extBut _ _ D.TOz g3)
    refine wpAny_bind (wpAny_seqItems o2 rfl (wpAny_bind (wpAny_updateSeq_pair o2 fun q3 o3 b3 => wpAny_bind (wpAny_letGo (wpAny_pure ?_)))))
    refine wpAny_bind (wpAny_bind (wpAny_onRaise (?_ : wpAny _ _ (Builtin.SmallTypes.nextOf (.ref i2) >>= _) _ _ _)))
    refine wpAny_bind (tuStop hh (((g5.extBut b1.extBut D.i2z).extBut b2.extBut D.i12.symm).extBut b3.extBut D.TOi2.symm) (((p2.extBut b1.extBut D.l2z).extBut b2.extBut D.l2i1).extBut b3.extBut D.l2TO) ey fun q4 e b4 he => ?_)
    obtain ⟨oe, he1, he2⟩ := he
    have z4 : IsZip q4 z TI TO .ellipsis := b4 _ _ D.i2z.symm (b3.extBut _ _ D.TOz.symm (b2.extBut _ _ D.i1z.symm z1))
    have ne : e ≠ z := fun u => by subst u; rw [z4] at he1; cases he1; simp at he2
    exact wpAny_setField_rec z4 (by simp) fun q5 _ b5 => q q5 e (fun c o d1 d2 d3 d4 u => b5.extBut _ _ d1 (b4 _ _ d4 (b3.extBut _ _ d2 (b2.extBut _ _ d3 (b1.extBut _ _ d1 u))))) ⟨oe, b5.extBut _ _ ne he1, he2⟩
theorem zTu_pyNext {z TI TO i1 i2 l1 l2 : Addr} {k : Nat} {xs ys : Array Value} {x y : Value} {Q : Option Value → Shared → Prop} (D : ZipApart z TI TO i1 i2 l1 l2) (g : zTu z TI TO i1 i2 l1 l2 k s.heap)
    (p1 : s.heap.IsTuple l1 xs) (p2 : s.heap.IsTuple l2 ys) (ex : xs[k]? = some x) (ey : ys[k]? = some y)
    (q : ∀ h', IsZip h' z TI TO (rawInt s.heap.objs.size) → IsPair h' TO x y → h'.IsTupleIter i1 l1 (k + 1) → h'.IsTupleIter i2 l2 (k + 1) → IsPair h' s.heap.objs.size x y → (∀ c o, c ≠ z → c ≠ TO → c ≠ i1 → c ≠ i2 → s.heap.get? c = some o → h'.get? c = some o) → Q (some (.ref s.heap.objs.size)) { s with heap := h' }) : wpAny (model prog w) A (pyNext (.ref z)) Q E s := by
  have ty : s.TypeIs (.ref z) "zip" := ⟨_, g.1, rfl⟩
  unfold pyNext
  exact wpAny_bind (wpAny_attempt (wpAny_callSpecial?_slot (name := Str.ofString "__next__") ty F.slot_zip_next (wpAny_call_entry F.slot_zip_next ty F.entry_zip_next (zTu_next D g p1 p2 ex ey fun h' a1 a2 a3 a4 a5 a6 => wpAny_pure (q h' a1 a2 a3 a4 a5 a6)) (F.args_zip_next_1 _))))
theorem zTu_pyStop {z TI TO i1 i2 l1 l2 : Addr} {k : Nat} {xs ys : Array Value} {Q : Option Value → Shared → Prop} (hh : A.handled = none) (D : ZipApart z TI TO i1 i2 l1 l2) (g : zTu z TI TO i1 i2 l1 l2 k s.heap)
    (p1 : s.heap.IsTuple l1 xs) (p2 : s.heap.IsTuple l2 ys) (en : xs[k]? = none ∨ ys[k]? = none)
    (q : ∀ h', (∀ c o, c ≠ z → c ≠ TO → c ≠ i1 → c ≠ i2 → s.heap.get? c = some o → h'.get? c = some o) → Q none { s with heap := h' }) : wpAny (model prog w) A (pyNext (.ref z)) Q E s := by
  have ty : s.TypeIs (.ref z) "zip" := ⟨_, g.1, rfl⟩
  unfold pyNext
  refine wpAny_bind (wpAny_attempt (wpAny_callSpecial?_slot (name := Str.ofString "__next__") ty F.slot_zip_next (wpAny_call_entry F.slot_zip_next ty F.entry_zip_next (zTu_stop hh D g p1 p2 en fun h' e hk he => ?_) (F.args_zip_next_1 _))))
  obtain ⟨o, ho, hc⟩ := he
  exact wpAny_bind (wpAny_isInstance (T := "StopIteration") (b := true) ⟨o, ho, hc⟩ isSubtype_stop (wpAny_pure (q _ hk)))
end
abbrev zu1 (h : Heap) (l1 : Addr) : Heap := h.push { cls := .type "tuple_iterator", data := .fields #[.ref l1, .int 0 0] }
abbrev zu2 (h : Heap) (l1 l2 : Addr) : Heap := (zu1 h l1).push { cls := .type "tuple_iterator", data := .fields #[.ref l2, .int 0 0] }
abbrev zu3 (h : Heap) (l1 l2 : Addr) : Heap := (zu2 h l1 l2).push { cls := .type "tuple", data := .seq #[.ref h.objs.size, .ref (zu1 h l1).objs.size] }
abbrev zu4 (h : Heap) (l1 l2 : Addr) : Heap := (zu3 h l1 l2).push { cls := .type "tuple", data := .seq #[.none, .none] }
abbrev zu5 (h : Heap) (l1 l2 : Addr) : Heap := (zu4 h l1 l2).push { cls := .type "zip", data := .fields #[.none, .bool false, .bool false, .ref (zu2 h l1 l2).objs.size, .ref (zu3 h l1 l2).objs.size] }
theorem zu_new (l1 l2 : Addr) (xs ys : Array Value) : Meets (Builtin.«zip.__new__» ⟨[.type "zip", .ref l1, .ref l2], []⟩) (fun _ R s => s.heap.IsTuple l1 xs ∧ s.heap.IsTuple l2 ys ∧ R (.ok (.ret (.ref (zu4 s.heap l1 l2).objs.size))) { s with heap := zu5 s.heap l1 l2 }) :=
  .of_wp fun prog w A R s h => by
    obtain ⟨hp, gn, dr, tk, os⟩ := s
    obtain ⟨t1, t2, h⟩ := h
    have hsub := sub_zip
    have u1 : Heap.IsTuple (Shared.heap ⟨hp, gn, dr, tk, os⟩) l1 xs := t1
    have u2 : Heap.IsTuple (Shared.heap ⟨hp.push { cls := .type "tuple_iterator", data := .fields #[.ref l1, .int 0 0] }, gn, dr, tk, os⟩) l2 ys := Heap.IsTuple.push t2 _
    wp_walk using wpAny_pyIter_tuple u1, wpAny_pyIter_tuple u2
    exact ⟨_, rfl, h⟩
theorem zu_call {prog : Program} {w : World} {A : Around} {E : Value → Shared → Prop} {s : Shared} {l1 l2 : Addr} {xs ys : Array Value} {Q : Value → Shared → Prop} (p1 : s.heap.IsTuple l1 xs) (p2 : s.heap.IsTuple l2 ys)
    (q : ∀ h', zTu (s.heap.objs.size + 4) (s.heap.objs.size + 2) (s.heap.objs.size + 3) s.heap.objs.size (s.heap.objs.size + 1) l1 l2 0 h' → (∀ c o, s.heap.get? c = some o → h'.get? c = some o) → Q (.ref (s.heap.objs.size + 4)) { s with heap := h' }) : wpAny (model prog w) A (call (.type "zip") [.ref l1, .ref l2]) Q E s := by
  refine callType_new F.called_zip (by decide) (F.typeCall_zip_2 _ _) (F.newCall_zip_2 _ _) (fun obj => F.args_object_init_3 obj _ _) F.entry_zip_new (zu_new l1 l2 xs ys) ⟨p1, p2, ?_⟩
  have n1 : (zu1 s.heap l1).objs.size = s.heap.objs.size + 1 := Heap.size_push ..
  have n2 : (zu2 s.heap l1 l2).objs.size = s.heap.objs.size + 2 := by rw [Heap.size_push, n1]
  have n3 : (zu3 s.heap l1 l2).objs.size = s.heap.objs.size + 3 := by rw [Heap.size_push, n2]
  have n4 : (zu4 s.heap l1 l2).objs.size = s.heap.objs.size + 4 := by rw [Heap.size_push, n3]
  have e5 : (zu5 s.heap l1 l2).get? (zu4 s.heap l1 l2).objs.size = some _ := Heap.get?_push_size _ rfl
  have e4 : (zu4 s.heap l1 l2).get? (zu3 s.heap l1 l2).objs.size = some _ := Heap.get?_push_size _ rfl
  have e3 : (zu3 s.heap l1 l2).get? (zu2 s.heap l1 l2).objs.size = some _ := Heap.get?_push_size _ rfl
  have e2 : (zu2 s.heap l1 l2).get? (zu1 s.heap l1).objs.size = some _ := Heap.get?_push_size _ rfl
  have e1 : (zu1 s.heap l1).get? s.heap.objs.size = some _ := Heap.get?_push_size _ rfl
  have w5 : ∀ c o, (zu4 s.heap l1 l2).get? c = some o → (zu5 s.heap l1 l2).get? c = some o := fun c o e => Heap.get?_push_of_some _ e
  have w4 : ∀ c o, (zu3 s.heap l1 l2).get? c = some o → (zu5 s.heap l1 l2).get? c = some o := fun c o e => w5 c o (Heap.get?_push_of_some _ e)
  have w3 : ∀ c o, (zu2 s.heap l1 l2).get? c = some o → (zu5 s.heap l1 l2).get? c = some o := fun c o e => w4 c o (Heap.get?_push_of_some _ e)
  have w2 : ∀ c o, (zu1 s.heap l1).get? c = some o → (zu5 s.heap l1 l2).get? c = some o := fun c o e => w3 c o (Heap.get?_push_of_some _ e)
  have w1 : ∀ c o, s.heap.get? c = some o → (zu5 s.heap l1 l2).get? c = some o := fun c o e => w2 c o (Heap.get?_push_of_some _ e)
  have f4 := w5 _ _ e4
  have f3 := w4 _ _ e3
  have f2 := w3 _ _ e2
  have f1 := w2 _ _ e1
  refine (?_ : _ ∧ _)
  rw [n2, n3, n4] at e5
  rw [n1, n2] at f3
  rw [n3] at f4
  rw [n1] at f2
  rw [n4]
  exact ⟨⟨_, e5, rfl⟩, q _ ⟨e5, f3, ⟨_, _, f4⟩, ⟨_, f1, rfl, rfl⟩, ⟨_, f2, rfl, rfl⟩⟩ w1⟩
end PV

namespace PV
open PySem L2 PySem.Spec PyProof.Rows
def ItzT (K : PySem.W.Frag) (a b : Addr) : It :=
  ⟨fun i H => ∃ xs ys x y, SqT K H a xs ∧ SqT K H b ys ∧ xs[i]? = some x ∧ ys[i]? = some y,
   fun i H v H' => ∃ T x y, v = .ref T ∧ H T = none ∧ H' = upd H T (.tup [x, y]) ∧ (∀ xs, SqT K H a xs → xs[i]? = some x) ∧ ∀ ys, SqT K H b ys → ys[i]? = some y,
   fun i H => ∃ xs ys, SqT K H a xs ∧ SqT K H b ys ∧ (xs.length ≤ i ∨ ys.length ≤ i)⟩
theorem turn_zipT {P : Program} {w : World} {K : PySem.W.Frag} {elts : List Expr} {k : Nat} {pos : Pos} (z TI TO i1 i2 l1 l2 : Addr) (D : ZipApart z TI TO i1 i2 l1 l2) :
    Turn P w K (.Tuple elts k pos) (ItzT K l1 l2) [z, TI, TO, i1, i2] z (zTu z TI TO i1 i2 l1 l2) where
  mem := by simp
  obj := fun i h st b hb => by
    obtain ⟨h1, h2, ⟨_, _, h3⟩, ⟨o4, h4, _, d4⟩, ⟨o5, h5, _, d5⟩⟩ := st
    have hb' : b = z ∨ b = TI ∨ b = TO ∨ b = i1 ∨ b = i2 := by simpa using hb
    rcases hb' with e | e | e | e | e <;> subst e
    · exact ⟨_, h1, fun v e => by cases e⟩
    · exact ⟨_, h2, fun v e => by cases e⟩
    · exact ⟨_, h3, fun v e => by cases e⟩
    · exact ⟨_, h4, fun v e => by rw [d4] at e; cases e⟩
    · exact ⟨_, h5, fun v e => by rw [d5] at e; cases e⟩
  keep := fun i h h' st kk => by
    obtain ⟨h1, h2, ⟨a, b, h3⟩, h4, h5⟩ := st
    exact ⟨kk z (by simp) _ h1, kk TI (by simp) _ h2, ⟨a, b, kk TO (by simp) _ h3⟩, h4.at fun o e => kk i1 (by simp) o e, h5.at fun o e => kk i2 (by simp) o e⟩
  item := by
    intro X hP hw hK hc i pins s σ H E I hf st hg
    subst hP hw hK
    obtain ⟨xs, ys, x, y, hq1, hq2, hx, hy⟩ := hg
    obtain ⟨its1, rv1, p1, hz1⟩ := I.tuple hq1
    obtain ⟨its2, rv2, p2, hz2⟩ := I.tuple hq2
    obtain ⟨u1, hu1, ru1⟩ := rv1.get hx
    obtain ⟨u2, hu2, ru2⟩ := rv2.get hy
    obtain ⟨h1, h2, ⟨a, b, h3⟩, h4, h5⟩ := st
    have D' := D
    refine zTu_pyNext D ⟨h1, h2, ⟨a, b, h3⟩, h4, h5⟩ (show s.heap.IsTuple l1 its1.toArray from p1) (show s.heap.IsTuple l2 its2.toArray from p2) (x := u1) (y := u2) (by simpa using hu1) (by simpa using hu2) fun h' a1 a2 a3 a4 a5 hk => ?_
    have lt : ∀ {c : Addr} {o : Obj}, s.heap.get? c = some o → c ≠ s.heap.objs.size := fun e => Nat.ne_of_lt (Heap.lt_size e)
    refine ⟨_, rfl, wpAny_letOwnedTupleGo_zip a1 fun h'' b1 sb => ?_⟩
    have nT : s.heap.objs.size ≠ z := Ne.symm (lt h1)
    have kk : ∀ b o, b ∉ [z, TI, TO, i1, i2] → s.heap.get? b = some o → h''.get? b = some o := fun b o hb e => by
      simp only [List.mem_cons, List.not_mem_nil, or_false, not_or] at hb
      exact (sb.2 b hb.1).trans (hk b o hb.1 hb.2.2.1 hb.2.2.2.1 hb.2.2.2.2 e)
    have I1 : Inv X pins σ H { s with heap := h'', toks := s.toks } := I.turnedL kk hf
    have hn : H s.heap.objs.size = none := I.hok.fresh (Nat.le_refl _)
    have fT : FpOk X pins H s.heap.objs.size := I.fpOk (Nat.le_refl _) hn
    have I2 : Inv X pins σ (upd H s.heap.objs.size (.tup [x, y])) { s with heap := h'', toks := s.toks } := I1.lay fT I.sz
      ⟨⟨by show 2 ≤ sizeLine; decide, _, (sb.2 _ nT).trans a5, rfl⟩, [u1, u2], .cons ru1 (.cons ru2 .nil), ⟨_, (sb.2 _ nT).trans a5, rfl, _, rfl⟩⟩
    refine ⟨.ref s.heap.objs.size, _, I2, rfl, ⟨_, x, y, rfl, hn, rfl, fun xs' hx' => by rw [I.tuple_inj hx' hq1]; exact hx, fun ys' hy' => by rw [I.tuple_inj hy' hq2]; exact hy⟩, ?_, fun b hb => ?_⟩
    · exact ⟨b1, (sb.2 _ D.TIz).trans (hk _ _ D.TIz D.TITO D.TIi1 D.TIi2 h2), ⟨_, _, (sb.2 _ D.TOz).trans a2⟩, a3.at fun o e => (sb.2 _ D.i1z).trans e, a4.at fun o e => (sb.2 _ D.i2z).trans e⟩
    · have hb' : b = z ∨ b = TI ∨ b = TO ∨ b = i1 ∨ b = i2 := by simpa using hb
      have ne : b ≠ s.heap.objs.size := by
        obtain ⟨o4, e4, _⟩ := h4
        obtain ⟨o5, e5, _⟩ := h5
        rcases hb' with e | e | e | e | e <;> subst e
        · exact lt h1
        · exact lt h2
        · exact lt h3
        · exact lt e4
        · exact lt e5
      rw [upd_ne ne]
      exact (hf b hb).1
  done := by
    intro X hP hw hK hc i pins s σ H E I hf st hg
    subst hP hw hK
    obtain ⟨xs, ys, hq1, hq2, hend⟩ := hg
    obtain ⟨its1, rv1, p1, hz1⟩ := I.tuple hq1
    obtain ⟨its2, rv2, p2, hz2⟩ := I.tuple hq2
    obtain ⟨h1, h2, ⟨a, b, h3⟩, h4, h5⟩ := st
    have n1 := rv1.length
    have n2 := rv2.length
    refine zTu_pyStop (I.ok.hd hc) D ⟨h1, h2, ⟨a, b, h3⟩, h4, h5⟩ (show s.heap.IsTuple l1 its1.toArray from p1) (show s.heap.IsTuple l2 its2.toArray from p2) (by
      rcases hend with e | e
      · exact .inl (by simp; omega)
      · exact .inr (by simp; omega)) fun h' hk => ⟨rfl, I.turnedL (t' := s.toks) (fun b o hb e => ?_) hf⟩
    simp only [List.mem_cons, List.not_mem_nil, or_false, not_or] at hb
    exact hk b o hb.1 hb.2.2.1 hb.2.2.2.1 hb.2.2.2.2 e
  self := fun A i s Q E st h => wpAny_pyIter_zip st.1 h
def iZipT (K : PySem.W.Frag) (ta : TA) : TI := fun σ H R => ta σ H fun vs H1 => ∃ a b, vs = [.ref a, .ref b] ∧ (∃ xs, SqT K H1 a xs) ∧ (∃ ys, SqT K H1 b ys) ∧ R (ItzT K a b) H1
theorem pi_zipT {X : Cx} {a b : Expr} {ta : TA} {p pos : Pos} {elts : List Expr} {k : Nat} {tp : Pos} (hg : Gl X "zip") (hm : X.mg "zip" = none) (hz : bootBuiltins "zip" = some (.type "zip")) (ha : PA X [a, b] ta) (hs : starEach [a, b] X.env = [(false, eval a X.env), (false, eval b X.env)] := by rfl) (hs2 : starEach [b] X.env = [(false, eval b X.env)] := by rfl) :
    PI X (.Tuple elts k tp) (.Call (.Name "zip" p) [a, b] [] pos) (iZipT X.K ta) := by
  intro pins s σ H R I h
  refine Call_ (ld_blt I hg hm hz (PyProof.Rows.callWith_type1 (thn (ha pos pins s σ H _ I h) fun us s1 ⟨vs, H1, I1, r1, q1⟩ => ?_) (by rw [hs, hs2]) (by rw [hs2]; rfl)))
  obtain ⟨a1, a2, e, ⟨xs, hx⟩, ⟨ys, hy⟩, q⟩ := q1
  subst e
  obtain ⟨u1, u2, rfl, ra, rb⟩ := vals2 r1
  cases ra
  cases rb
  obtain ⟨its1, rv1, p1, _⟩ := I1.tuple hx
  obtain ⟨its2, rv2, p2, _⟩ := I1.tuple hy
  have lt1 : a1 < s1.heap.objs.size := by obtain ⟨o, e, _⟩ := p1; exact Heap.lt_size e
  have lt2 : a2 < s1.heap.objs.size := by obtain ⟨o, e, _⟩ := p2; exact Heap.lt_size e
  refine zu_call (show s1.heap.IsTuple a1 its1.toArray from p1) (show s1.heap.IsTuple a2 its2.toArray from p2) fun h' zt hk => ?_
  refine wpAny_pyIter_zip zt.1 ?_
  refine ⟨s1.heap.objs.size + 4, [s1.heap.objs.size + 4, s1.heap.objs.size + 2, s1.heap.objs.size + 3, s1.heap.objs.size, s1.heap.objs.size + 1], _, _, H1, rfl, I1.kept (t' := s1.toks) fun b o e => hk b o e,
    turn_zipT _ _ _ _ _ a1 a2 ?_, zt, fun b hb => ?_, q⟩
  · exact apart_of _ _ _ lt1 lt2
  · have hle : s1.heap.objs.size ≤ b := by
      have hb' : b = s1.heap.objs.size + 4 ∨ b = s1.heap.objs.size + 2 ∨ b = s1.heap.objs.size + 3 ∨ b = s1.heap.objs.size ∨ b = s1.heap.objs.size + 1 := by simpa using hb
      rcases hb' with rfl | rfl | rfl | rfl | rfl <;> simp
    exact I1.fpOk hle (I1.hok.fresh hle)
section
variable {X : Cx} {K : Zc} {th : List Addr} {mu : Sto} {H : Hp}
def tup2 (ds : List D) : Option (List D × List D) := match ds with
  | [.tup xs, .tup ys] => some (xs, ys)
  | _ => none
theorem tup2_inv {ds : List D} {p : List D × List D} (h : tup2 ds = some p) : ds = [.tup p.1, .tup p.2] := by
  unfold tup2 at h
  split at h
  · cases h; rfl
  · cases h
def iZpT (a : Exs) : Ix := fun ro mu => bM (a ro mu) fun ds m1 => (tup2 ds).map fun p => ((zipD p.1 p.2, none), m1)
theorem svi_zipT {a b : Expr} {m : Exs} {p pos : Pos} {elts : List Expr} {k : Nat} {tp : Pos} (hm : X.mg "zip" = none) (ha : SVA X [a, b] m) (hg : Gl X "zip" := by rfl) (hs : starEach [a, b] X.env = [(false, eval a X.env), (false, eval b X.env)] := by rfl) (hs2 : starEach [b] X.env = [(false, eval b X.env)] := by rfl) :
    SVI X (.Tuple elts k tp) (.Call (.Name "zip" p) [a, b] [] pos) (iZpT m) := ⟨PI.weak (pi_zipT hg hm PyProof.Rows.boot_zip ha.1 hs hs2) fun st H R h => by
  obtain ⟨th, mu, ro, so, en, t⟩ := h
  refine ⟨th, mu, ro, so, en, t.bind.mono fun ds th1 mu1 H1 e1 s1 t1 vs rvs => ?_⟩
  cases q : tup2 ds with
  | none => rw [q] at t1; exact t1.no.elim
  | some pr =>
    rw [q] at t1
    rw [tup2_inv q] at rvs
    obtain ⟨xs, ys⟩ := pr
    obtain ⟨x, y, rfl, rx, ry⟩ := two_arg rvs
    unfold Rep at rx ry
    obtain ⟨a1, us, rfl, h1, l1, z1⟩ := rx
    obtain ⟨a2, ws, rfl, h2, l2, z2⟩ := ry
    refine ⟨a1, a2, rfl, ⟨us, h1⟩, ⟨ws, h2⟩, t1.ret s1 _ ⟨?_, fun th' mu' H' e s' go i d ed => ?_, fun th' mu' H' e s' go => ?_⟩⟩
    · show (zipD xs ys).length ≤ sizeLine
      unfold zipD
      rw [List.length_map, List.length_zip]
      exact Nat.le_trans (Nat.min_le_left _ _) z1
    · have g1 := e.sqT s1.out h1
      have g2 := e.sqT s1.out h2
      have ed' : (zipD xs ys)[i]? = some d := ed
      unfold zipD at ed'
      rw [List.getElem?_map] at ed'
      cases q3 : (xs.zip ys)[i]? with
      | none => rw [q3] at ed'; cases ed'
      | some pq =>
        rw [q3] at ed'
        have hd : D.tup [pq.1, pq.2] = d := by simpa using ed'
        subst hd
        obtain ⟨hx, hy⟩ := List.getElem?_zip_eq_some.mp q3
        obtain ⟨v1, ev1, rv1⟩ := (l1.ext e s1.out).get hx
        obtain ⟨v2, ev2, rv2⟩ := (l2.ext e s1.out).get hy
        refine ⟨⟨us, ws, v1, v2, g1, g2, ev1, ev2⟩, fun v H2 y => ?_⟩
        obtain ⟨T, x', y', rfl, hT, rfl, f1, f2⟩ := y
        have ex := f1 us g1
        have ey := f2 ws g2
        rw [ev1] at ex
        rw [ev2] at ey
        cases ex
        cases ey
        exact ⟨.new hT _, s'.new hT _, Rep.newTup s' hT (.cons rv1 (.cons rv2 .nil)) (by show 2 ≤ sizeLine; decide)⟩
    · have g1 := e.sqT s1.out h1
      have g2 := e.sqT s1.out h2
      refine ⟨us, ws, g1, g2, ?_⟩
      show us.length ≤ (zipD xs ys).length ∨ ws.length ≤ (zipD xs ys).length
      unfold zipD
      rw [List.length_map, List.length_zip, l1.len, l2.len]
      dsimp only
      omega⟩
def orI (m m' : Ix) : Ix := fun ro mu => match m ro mu with | some r => some r | none => m' ro mu
theorem SVI.or {tg e : Expr} {m m' : Ix} (h : SVI X tg e m) (h' : SVI X tg e m') : SVI X tg e (orI m m') := ⟨fun pins s st H R I q => by
  obtain ⟨th, mu, ro, so, en, t⟩ := q
  unfold orI at t
  cases c : m ro mu with
  | some p =>
    refine h.r pins s st H R I ⟨th, mu, ro, so, en, ?_⟩
    rw [c]; simpa only [c] using t
  | none =>
    refine h'.r pins s st H R I ⟨th, mu, ro, so, en, ?_⟩
    simpa only [c] using t⟩
def iZpG (a : Exs) : Ix := orI (iZp a) (iZpT a)
theorem svi_zipG {a b : Expr} {m : Exs} {p pos : Pos} {elts : List Expr} {k : Nat} {tp : Pos} (hm : X.mg "zip" = none) (ha : SVA X [a, b] m) (hg : Gl X "zip" := by rfl) (hs : starEach [a, b] X.env = [(false, eval a X.env), (false, eval b X.env)] := by rfl) (hs2 : starEach [b] X.env = [(false, eval b X.env)] := by rfl) :
    SVI X (.Tuple elts k tp) (.Call (.Name "zip" p) [a, b] [] pos) (iZpG m) := SVI.or (svi_zip hm ha hg hs hs2) (svi_zipT hm ha hg hs hs2)
end
end PV

namespace PV
open PySem L2 PySem.Spec PyProof.Rows
section
variable {X : Cx} {K : Zc} {th : List Addr} {mu : Sto} {H : Hp}
def eDctM : Ex := fun _ mu => some (.ref mu.length, mu ++ [.dct [] []])
theorem sv_dctM {pos : Pos} : SV X (.Dict [] [] pos) eDctM := ⟨fun pins s st H Q I h => by
  obtain ⟨th, mu, ro, so, en, t⟩ := h
  have hp : H s.heap.objs.size = none := I.hok.fresh (Nat.le_refl _)
  refine wpAny_Dict_empty ⟨.ref s.heap.objs.size, _, I.laid (a := s.heap.objs.size) (o := .dK []) (t' := s.toks) (fun _ _ q => Heap.get?_push_of_some _ q) (Nat.le_refl _) ?_, rfl, t.retX (.newM hp (.dK [])) (so.newD hp) _ ?_⟩
  · exact ⟨Nat.zero_le _, beq_eq_false_iff_ne.mpr (Ne.symm (Nat.ne_of_lt (big_of I))), [], .nil, Heap.DictOf.new s.heap⟩
  · unfold Rep
    exact ⟨_, rfl, by rw [← so.len]; simp⟩⟩
def okDct (mu : Sto) : D → Bool
  | .ref k => match mu[k]? with
    | some (.dct _ _) => true
    | _ => false
  | _ => false
theorem okDct_inv {mu : Sto} {d : D} (h : okDct mu d = true) : ∃ k ks ds, d = .ref k ∧ mu[k]? = some (.dct ks ds) := by
  unfold okDct at h
  split at h
  · split at h
    · rename_i k _ ks ds e; exact ⟨k, ks, ds, rfl, e⟩
    · cases h
  · cases h
def dgtD (d : D) (xs : List D) (mu : Sto) : Rs D := match d, xs with
  | .ref k, [.str x, y] => match mu[k]? with
    | some (.dct ks ds) => some ((dGet x ks ds).getD y, mu)
    | _ => none
  | _, _ => none
theorem dgtD_inv {d : D} {xs : List D} {mu : Sto} {r : D × Sto} (h : dgtD d xs mu = some r) : ∃ k x y ks ds, d = .ref k ∧ xs = [.str x, y] ∧ mu[k]? = some (.dct ks ds) ∧ r = ((dGet x ks ds).getD y, mu) := by
  unfold dgtD at h
  split at h
  · split at h
    · rename_i k x y _ ks ds e; cases h; exact ⟨k, x, y, ks, ds, rfl, rfl, e, rfl⟩
    · cases h
  · cases h
def eGet (o : Ex) (a : Exs) : Ex := fun ro mu => bM (o ro mu) fun d m1 => if okDct m1 d = true then bM (a ro m1) fun xs m2 => dgtD d xs m2 else none
theorem mt_get2 : MtR X "dict.get" (fun x vs H Q => ∃ th mu d ds, StoOk X.z th mu H ∧ Rep X.z th H d x ∧ RepL X.z th H ds vs ∧ Tr X.z th H (dgtD d ds mu) (KV' X.z Q)) := by
  intro pins s st H x xs v us Q I rx rxs h
  obtain ⟨th, mu, d, ds, so, r1, r2, t⟩ := h
  obtain ⟨a0, mu0, e0, _⟩ := id t
  obtain ⟨k, key, y, ks, vals, rfl, rfl, em, er⟩ := dgtD_inv e0
  rw [e0] at t
  cases er
  unfold Rep at r1
  obtain ⟨a, rfl, ha⟩ := r1
  obtain ⟨x1, x2, rfl, q1, q2⟩ := two_arg r2
  unfold Rep at q1
  obtain ⟨rfl, _⟩ := q1
  obtain ⟨u1, u2, rfl, ra, rb⟩ := vals2 rxs
  cases rx
  obtain ⟨kvs, h1, h2, h3, h4⟩ := so.at' k a _ ha em
  obtain ⟨z, hd, vs, rel, dd⟩ := dk_of I.hok h1
  obtain ⟨g1, g2⟩ := dGet_rep key h2 h3
  refine call_meetsIn PySem.F.slot_dict_get dd.typeIs PySem.F.entry_dict_get (PySem.F.args_dict_get_3 _ _ _) (meets_dict_get_default (mixKind X.prog X.w) a (kV_is (k := Sum.inr key) ra) hd u2) ⟨_, dd.mapOf, ?_⟩
  have rr := (rel.val (Sum.inr key : Key)).getD rb
  cases c : dGet key ks vals with
  | some d =>
    obtain ⟨w, e1, e2⟩ := g1 d c
    rw [e1] at rr
    rw [c] at t
    exact ⟨w, H, I.tok _, rr, t.ret so _ e2⟩
  | none =>
    rw [g2 c] at rr
    rw [c] at t
    exact ⟨x2, H, I.tok _, rr, t.ret so _ q2⟩
theorem sv_get2 {o e f : Expr} {m : Ex} {n : Exs} {apos cpos : Pos} (ho : SV X o m) (ha : SVA X [e, f] n) (hbase : attributeBase o "get" X.env (eval o X.env) = eval o X.env := by rfl)
    (hfew : ((backTo cpos (starEach [e, f] X.env)).all (fun x => !x.1) && (backToKw cpos (keywordEach [] X.env)).all (fun x => x.1.isSome)
      && decide ([e, f].length + ([] : List Keyword).length + (if ([] : List Keyword).isEmpty then 0 else 1) < 30)) = true := by rfl)
    (hline : (apos.endLine == cpos.line) = true := by rfl) (hs : starEach [e, f] X.env = (false, eval e X.env) :: starEach [f] X.env := by rfl) (hplain : (backTo cpos (starEach [f] X.env)).any (·.1) = false := by rfl) :
    SV X (.Call (.Attribute o "get" apos) [e, f] [] cpos) (eGet m n) :=
  ⟨PE.weak (pe_bm PySem.F.plainAttrs_dict PySem.F.slot_dict_get PySem.F.type_dict_get mt_get2 ho.r ha.1 hbase hfew hline hs hplain) fun st H Q h => by
    obtain ⟨th, mu, ro, so, en, t⟩ := h
    refine ⟨th, mu, ro, so, en, t.bind.mono fun d th1 mu1 H1 e1 s1 t1 v rv => ?_⟩
    by_cases c : okDct mu1 d = true
    case neg => rw [if_neg c] at t1; exact t1.no.elim
    rw [if_pos c] at t1
    obtain ⟨k, ks, ds, rfl, em⟩ := okDct_inv c
    have rv' := rv
    unfold Rep at rv'
    obtain ⟨a, rfl, ha'⟩ := rv'
    obtain ⟨kvs, h1, _⟩ := s1.at' k a _ ha' em
    refine ⟨?_, th1, mu1, ro, s1, en.ext e1 so.out, ?_⟩
    · first | exact .inr (.inr (.inl ⟨rfl, .inl ⟨kvs, h1⟩⟩)) | exact .inr (.inr ⟨rfl, .inl ⟨kvs, h1⟩⟩) | exact .inr (.inr (.inr ⟨rfl, .inl ⟨kvs, h1⟩⟩)) | exact .inr (.inl ⟨rfl, .inl ⟨kvs, h1⟩⟩)
    exact Tr.mono (Tr.bind t1) fun xs th2 mu2 H2 e2 s2 t2 ws rws => ⟨th2, mu2, .ref k, xs, s2, rv.ext e2 s1.out, rws, t2⟩⟩
end
end PV

namespace PV
open PySem L2 PySem.Spec PyProof.Rows
theorem noKeys : typeLookup (.type "list") "keys" = pure none := by rw [typeLookup_type, builtinLookup_eq_fast]; kernel_rfl
theorem gA_list {prog : Program} {w : World} {A : Around} {E : Value → Shared → Prop} {s : Shared} {a : Addr} {o : Obj} {xs : Array Value} {k : Nat} {Q : Option Value → Shared → Prop}
    (g : s.heap.get? a = some o) (hc : o.cls = .type "list") (ht : o.data = .seq xs k) (hd : o.dict = none) (hA : A.handled = none)
    (q : ∀ h' tk, (∀ b ob, s.heap.get? b = some ob → h'.get? b = some ob) → Q none { s with heap := h', toks := tk }) : wpAny (model prog w) A (getAttr? (.ref a) "keys") Q E s := by
  obtain ⟨c, dct, dat, sl⟩ := o
  simp only at hc ht hd
  subst hc ht hd
  obtain ⟨hp, gn, dr, tk, os⟩ := s
  have hT : ∀ tk', (⟨hp, gn, dr, tk', os⟩ : Shared).TypeIs (.ref a) "list" := fun _ => ⟨_, g, rfl⟩
  (have f1 := sub_AttributeError); have f3 := F.slot_list_getattribute.lookup; have f4 := F.slot_list_getattribute.bind (.ref a); have f5 := am_list_getattr_none; unfold getAttr? getAttrBy? getAttrBy
  (repeat (any_goals (first | assumption | exact hT _ | ((with_reducible show wpAny _ _ (call (Value.builtin "list.__getattribute__") _ _) _ _ _); refine call_meets F.slot_list_getattribute (hT _) am_entry_list_getattribute (F.args_list_getattribute_2 _ _) (meets_getattribute_miss_list a xs k sl "keys" _ noKeys (by decide +kernel)) ⟨g, hA, fun h' tk' e hx' => ?_⟩) | wp_step))); obtain ⟨t', u', he⟩ := hx'.there; show wpAny _ _ (getattributeRaised _ _ _ _ _ _ _) _ _ _
  (unfold getattributeRaised); repeat (any_goals (first | assumption | wp_step))
  exact q _ _ hx'.keeps
theorem entry_dul : entryFor table "dict.update.loop" = some Builtin.«dict.update.loop» := entryFor_of_tree (by kernel_rfl)
theorem plain_dul : plainId "dict.update.loop" = true := by decide +kernel
section
variable {prog : Program} {w : World} {κ : Type} [DecidableEq κ] {knd : HeapKind prog w κ} {A : Around} {R : Result → Shared → Prop}
def addK (r : List κ) (k : κ) : List κ := if k ∈ r then r else r ++ [k]
theorem atKey_mem {xs : List (κ × Addr × Value)} {k : κ} : (atKey xs k).isSome = true ↔ k ∈ xs.map (·.1) := by
  unfold atKey
  rw [Option.isSome_map, List.find?_isSome]
  constructor
  · rintro ⟨x, hx, e⟩
    exact List.mem_map.mpr ⟨x, hx, by simpa using e⟩
  · intro h
    obtain ⟨x, hx, e⟩ := List.mem_map.mp h
    exact ⟨x, hx, by simpa using e⟩
theorem storedH_keys (xs : List (κ × Addr × Value)) (k : κ) (a : Addr) (v : Value) : (storedH xs k a v).map (·.1) = addK (xs.map (·.1)) k := by
  unfold storedH addK
  by_cases c : (atKey xs k).isSome = true
  · rw [if_pos c, if_pos (atKey_mem.mp c), List.map_map]
    (refine List.map_congr_left fun x _ => ?_); show (putAt k v x).1 = x.1
    unfold putAt
    split <;> rfl
  · rw [if_neg c, if_neg (fun z => c (atKey_mem.mpr z)), List.map_append]
    rfl
def onceK (ks : List κ) : List κ := ks.foldl addK []
theorem addK_len (r : List κ) (k : κ) : (addK r k).length ≤ r.length + 1 := by unfold addK; split <;> simp
theorem onceK_len : ∀ (ks r : List κ), (ks.foldl addK r).length ≤ r.length + ks.length
  | [], r => by simp
  | k :: ks, r => by
    have h1 := onceK_len ks (addK r k)
    (have h2 := addK_len r k); rw [List.foldl_cons, List.length_cons]
    omega
def PrAt (knd : HeapKind prog w κ) (h : Heap) (v : Value) (k : κ) : Prop := ∃ p kb u, v = .ref p ∧ h.IsTuple p #[.ref kb, u] ∧ knd.is h k kb
theorem storedH_is {h : Heap} {xs : List (κ × Addr × Value)} {k : κ} {a : Addr} {v : Value} (j : ∀ x ∈ xs, knd.is h x.1 x.2.1) (hk : knd.is h k a) : ∀ x ∈ storedH xs k a v, knd.is h x.1 x.2.1 := by
  intro x hx
  unfold storedH at hx
  split at hx
  · obtain ⟨y, hy, rfl⟩ := List.mem_map.mp hx
    have := j y hy
    unfold putAt
    split <;> exact this
  · rcases List.mem_append.mp hx with hx | hx
    · exact j x hx
    · rw [List.mem_singleton.mp hx]; exact hk
theorem dul_loop (hh : A.handled = none) (hu : knd.room A.in1) {l d I : Addr} {its : Array Value} {h0 : Heap} (hl : h0.IsList l its) (hI : h0.get? I = none) (hd : h0.get? d = none) (hdI : d ≠ I) (hsz : its.size ≤ sizeLine)
    (hkeep : ∀ h k b, knd.is h0 k b → (∀ c o, h0.get? c = some o → h.get? c = some o) → knd.is h k b) :
    ∀ (ks : List κ) (i : Nat) (s : Shared) (xs : List (κ × Addr × Value)), Paired (PrAt knd h0) (its.toList.drop i) ks → i ≤ its.size → s.heap.IsListIter I l i → (∀ b o, h0.get? b = some o → s.heap.get? b = some o) → s.heap.DictOfH knd d xs → xs.length ≤ i → (∀ x ∈ xs, knd.is h0 x.1 x.2.1) →
      (∀ h' tk xs', (∀ b o, b ≠ d → b ≠ I → s.heap.get? b = some o → h'.get? b = some o) → h'.DictOfH knd d xs' → xs'.map (·.1) = ks.foldl addK (xs.map (·.1)) → R (.ok (.ret .none)) { s with heap := h', toks := tk }) →
      codeAny (model prog w) A (.builtin "dict.update.loop" ⟨[.ref d, .ref I, rawInt i, .none], []⟩) R s
  | [], i, s, xs, pr, hi, it, hk, hm, hx, J, q => by
    have hn : its[i]? = none := by
      cases e : its.toList.drop i with
      | nil =>
        have : its.toList.length ≤ i := List.drop_eq_nil_iff.mp e
        simp at this
        simp [this]
      | cons a b => rw [e] at pr; cases pr
    have ll : s.heap.IsList l its := let ⟨o, g, r⟩ := hl; ⟨o, hk _ _ g, r⟩
    refine codeAny_builtin entry_dul ?_
    rw [Around.under_plainId plain_dul _]
    refine (?_ : wpAny _ A.in1 (pyNext (.ref I) >>= _) _ _ s)
    refine wpAny_bind (wpAny_pyNext_list_end (A := A.in1) hh it ll hn fun h' eb => ?_)
    refine (?_ : wpAny _ A.in1 (Builtin.Dict.addKeywords d [] >>= _) _ _ _)
    have k1 : ∀ b o, h0.get? b = some o → h'.get? b = some o := fun b o e => eb _ _ (fun z => by rw [z, hI] at e; cases e) (hk b o e)
    have dd : h'.DictOfH knd d xs := by
      obtain ⟨o, es, ep, g1, g2, g3, g4, g5, g6⟩ := hm
      exact ⟨o, es, ep, eb _ _ hdI g1, g2, g3, g4, fun x hx => hkeep h' _ _ (J x hx) k1, g6⟩
    exact wpAny_bind (wpAny_pure (wpAny_pure (q h' s.toks xs (fun b o _ n e => eb _ _ n e) dd rfl)))
  | k :: ks, i, s, xs, pr, hi, it, hk, hm, hx, J, q => by
    cases e : its.toList.drop i with
    | nil => rw [e] at pr; cases pr
    | cons v r =>
      rw [e] at pr
      cases pr with
      | cons p1 p2 =>
      have lt : i < its.size := by
        have : i < its.toList.length := by
          refine Nat.lt_of_not_le fun z => ?_
          rw [List.drop_eq_nil_iff.mpr z] at e
          cases e
        simpa using this
      have e2 : its.toList.drop i = its[i] :: its.toList.drop (i + 1) := by
        have := List.drop_eq_getElem_cons (l := its.toList) (i := i) (by simpa using lt)
        simpa using this
      rw [e] at e2
      injection e2 with e3 e4
      obtain ⟨p, kb, u, ev, tp, ik⟩ := p1
      subst ev
      have hn : its[i]? = some (.ref p) := by rw [Array.getElem?_eq_getElem lt, e3]
      have ll : s.heap.IsList l its := let ⟨o, g, r⟩ := hl; ⟨o, hk _ _ g, r⟩
      refine codeAny_builtin entry_dul ?_
      rw [Around.under_plainId plain_dul _]
      refine (?_ : wpAny _ A.in1 (pyNext (.ref I) >>= _) _ _ s)
      refine wpAny_bind (wpAny_pyNext_list_item (A := A.in1) it ll hn fun h1 it1 sb1 => ?_)
      refine (?_ : wpAny _ A.in1 (holding [Value.ref p] _ >>= _) _ _ _)
      have k1 : ∀ b o, h0.get? b = some o → h1.get? b = some o := fun b o g => sb1.extBut _ _ (fun z => by rw [z, hI] at g; cases g) (hk b o g)
      have dd : h1.DictOfH knd d xs := by
        obtain ⟨o, es, ep, g1, g2, g3, g4, g5, g6⟩ := hm
        exact ⟨o, es, ep, sb1.extBut _ _ hdI g1, g2, g3, g4, fun x hx => hkeep h1 _ _ (J x hx) k1, g6⟩
      obtain ⟨ot, t1, t2, nt, t3⟩ := tp
      have ty : (Shared.TypeIs { s with heap := h1 } (.ref p) "tuple") := ⟨ot, k1 _ _ t1, t2⟩
      refine wpAny_bind (wpAny_holding (wpAny_bind (wpAny_tryCatch ?_)))
      unfold Builtin.Dict.pairItems
      refine wpAny_bind (wpAny_typeOf ty ?_)
      rw [if_pos (by decide)]
      refine wpAny_bind (wpAny_seqItems (k1 _ _ t1) t3 (wpAny_pure ?_))
      refine (?_ : wpAny _ A.in1 (holding [Value.ref kb, u] (dictSet d (.ref kb) u)) _ _ _)
      refine wpAny_holding (wpAny_dictSet_heap (hsz := by omega) hu (hkeep h1 _ _ ik k1) dd fun h2 d2 sb2 => ?_)
      have k2 : ∀ b o, h0.get? b = some o → h2.get? b = some o := fun b o g => sb2.extBut _ _ (fun z => by rw [z, hd] at g; cases g) (k1 b o g)
      have it2 : h2.IsListIter I l (i + 1) := it1.extBut sb2.extBut (Ne.symm hdI)
      refine wpAny_pure ⟨plainId_quiet plain_dul _, ?_⟩
      have cast : rawInt ((i : Int) + 1) = rawInt ((i + 1 : Nat) : Int) := rfl
      rw [cast]
      refine dul_loop hh hu hl hI hd hdI hsz hkeep ks (i + 1) _ (storedH xs k kb u) (by rw [← e4]; exact p2) lt it2 k2 d2 ?_ (storedH_is J ik) fun h' tk xs' a1 a2 a3 => ?_
      · have := congrArg List.length (storedH_keys xs k kb u)
        rw [List.length_map] at this
        have h2 := addK_len (xs.map (·.1)) k
        rw [List.length_map] at h2
        omega
      · refine q h' tk xs' (fun b o n1 n2 g => a1 b o n1 n2 (sb2.extBut _ _ n1 (sb1.extBut _ _ n2 g))) a2 ?_
        rw [a3, storedH_keys, List.foldl_cons]
theorem lenH {E : Value → Shared → Prop} {s : Shared} {d : Addr} {xs : List (κ × Addr × Value)} {Q : Value → Shared → Prop} (hd : (d == sysModules) = false) (hm : s.heap.DictOfH knd d xs) (hz : xs.length ≤ sizeLine) (q : ∀ t tk, Q (.int xs.length t) { s with toks := tk }) : wpAny (model prog w) A (call (.builtin "len") [.ref d]) Q E s := by
  have ty := hm.typeIs
  obtain ⟨o, es, ep, g1, g2, g3, g4, _⟩ := hm
  have es_len : es.size = xs.length := size_of_entries g4
  have fit : ((xs.length : Nat) : Int) < 2 ^ 63 := by rw [sizeLine_eq] at hz; omega
  have hM : MeetsIn prog w (Builtin.«dict.__len__» ⟨[.ref d], []⟩) (fun _ R s => s.heap.get? d = some o ∧ R (.ok (.ret (.int xs.length s.toks))) { s with toks := s.toks + 1 }) := .of_wp fun A R s ⟨g, h⟩ => by
    refine (?_ : wpAny _ _ (dictSize d >>= _) _ _ s)
    unfold dictSize
    refine wpAny_bind (wpAny_bind (wpAny_dictEntries g g3 (wpAny_pure (?_ : wpAny _ _ (Builtin.Dict.pendingCount d >>= _) _ _ s))))
    refine wpAny_bind (wpAny_pendingCount_other hd (wpAny_ret_mkInt ?_))
    rw [Nat.add_zero, es_len]
    exact h
  (refine Calls.call_function_entry kind_len plain_len entry_len (args_len1 _) ?_); unfold Builtin.«len»
  refine wpAny_bind (m := oneArg "len" _) (wpAny_pure (wpAny_bind (m := callSpecial? (.ref d) (Str.ofString "__len__")) (wpAny_callSpecial?_slot (name := Str.ofString "__len__") ty F.slot_dict_len (call_meetsIn F.slot_dict_len ty F.entry_dict_len (F.args_dict_len_1 _) hM ⟨g1, ?_⟩))))
  refine (?_ : wpAny _ _ _ _ _ { s with toks := s.toks + 1 })
  refine wpAny_bind (wpAny_holding (wpAny_pure (wpAny_bind (wpAny_letGo (?_ : wpAny _ _ (if ((xs.length : Nat) : Int) < 0 then _ else _) _ _ _)))))
  rw [if_neg (by omega)]
  refine (?_ : wpAny _ _ (if ((xs.length : Nat) : Int) ≥ 2 ^ 63 then _ else _) _ _ _)
  rw [if_neg (by omega)]
  exact wpAny_bind (wpAny_mkInt (wpAny_pure ⟨_, rfl, q _ _⟩))
theorem call_dictP {E : Value → Shared → Prop} {s : Shared} {l : Addr} {o : Obj} {its : Array Value} {n : Nat} {ks : List κ} {Q : Value → Shared → Prop} (hh : A.handled = none) (hu : knd.room A.in1.in1) (g1 : s.heap.get? l = some o) (g2 : o.cls = .type "list") (g3 : o.data = .seq its n) (g4 : o.dict = none) (hsz : its.size ≤ sizeLine) (hbig : sysModules < s.heap.objs.size)
    (hkeep : ∀ h k b, knd.is s.heap k b → (∀ c o, s.heap.get? c = some o → h.get? c = some o) → knd.is h k b) (pr : Paired (PrAt knd s.heap) its.toList ks)
    (q : ∀ h' tk xs, (∀ b o, s.heap.get? b = some o → h'.get? b = some o) → h'.DictOfH knd s.heap.objs.size xs → (s.heap.objs.size == sysModules) = false → xs.map (·.1) = onceK ks → Q (.ref s.heap.objs.size) { s with heap := h', toks := tk }) :
    wpAny (model prog w) A (call (.type "dict") [.ref l]) Q E s := by
  refine callType_codes (Q₁ := fun nw sn => nw = .ref s.heap.objs.size ∧ sn = { s with heap := s.heap.push { cls := .type "dict", data := .dict #[] } }) F.kt_called_dict (F.kt_typeCall_dict_1 _) F.entry_dict_init (kt_code_dict_new _ ⟨rfl, rfl⟩) ?_
  rintro obj s₁ ⟨rfl, rfl⟩
  have hnew : (s.heap.push { cls := .type "dict", data := .dict #[] }).DictOfH knd s.heap.objs.size [] := Heap.DictOfH.new s.heap
  have gl : (s.heap.push { cls := .type "dict", data := .dict #[] }).get? l = some o := Heap.get?_push_of_some _ g1
  have ty : Shared.TypeIs { s with heap := s.heap.push { cls := .type "dict", data := .dict #[] } } (.ref l) "list" := ⟨o, gl, g2⟩
  (refine ⟨hnew.typeIs (s := { s with heap := s.heap.push { cls := .type "dict", data := .dict #[] } }), F.args_dict_init_2 _ _, ?_⟩); unfold Builtin.«dict.__init__»
  (refine wpAny_bind ?_); unfold Builtin.Dict.selfAndRest
  refine wpAny_bind (wpAny_notOrdered_dict (hnew.typeIs (s := { s with heap := s.heap.push { cls := .type "dict", data := .dict #[] } })) (?_ : wpAny _ _ (pure (s.heap.objs.size, [Value.ref l])) _ _ _))
  (refine wpAny_pure (?_ : wpAny _ _ (Builtin.Dict.updateFrom "dict.__init__" s.heap.objs.size (.ref l) [] .none) _ _ _)); unfold Builtin.Dict.updateFrom
  refine wpAny_bind (wpAny_typeOf ty ?_)
  rw [if_pos (by decide)]
  refine wpAny_bind (gA_list gl g2 g3 g4 hh fun h1 tk1 k1 => ?_)
  rw [if_pos (by rfl)]
  refine wpAny_bind (wpAny_rule ?_)
  have ll : h1.IsList l its := ⟨o, k1 _ _ gl, g2, n, g3⟩
  refine wpAny_bind (wpAny_pyIter_list ll ?_)
  have hnd : h1.get? s.heap.objs.size = some { cls := .type "dict", data := .dict #[] } := k1 _ _ (Heap.get?_push_size _ rfl)
  have lt1 : s.heap.objs.size < h1.objs.size := Heap.lt_size hnd
  have keep : ∀ b ob, s.heap.get? b = some ob → (h1.push { cls := .type "list_iterator", data := .fields #[.ref l, .int 0 0] }).get? b = some ob := fun b ob e => Heap.get?_push_of_some _ (k1 _ _ (Heap.get?_push_of_some _ e))
  refine wpAny_pure ⟨plainId_quiet plain_dul _, ?_⟩
  refine dul_loop (A := A.in1) (knd := knd) hh hu (h0 := s.heap) (l := l) (d := s.heap.objs.size) (I := h1.objs.size) (its := its) ⟨o, g1, g2, n, g3⟩ (Heap.get?_none_of_le (Nat.le_of_lt lt1)) (Heap.get?_none_of_le (Nat.le_refl _)) (Nat.ne_of_lt lt1) hsz hkeep ks 0 _ [] (by simpa using pr) (Nat.zero_le _) ⟨_, Heap.get?_push_size _ rfl, rfl, rfl⟩ keep ?_ (Nat.le_refl _) (fun x hx => nomatch hx) fun h' tk xs' a1 a2 a3 => ?_
  · exact ⟨_, #[], 0, Heap.get?_push_of_some _ hnd, ⟨rfl, rfl, rfl⟩, rfl, rfl, fun x hx => (nomatch hx), List.nodup_nil⟩
  · refine ⟨rfl, q h' tk xs' (fun b ob e => a1 b ob ?_ ?_ (keep b ob e)) a2 (beq_eq_false_iff_ne.mpr (Ne.symm (Nat.ne_of_lt hbig))) a3⟩
    · exact Nat.ne_of_lt (Heap.lt_size e)
    · exact Nat.ne_of_lt (Nat.lt_trans (Heap.lt_size e) lt1)
end
end PV

namespace PV
open PySem L2 PySem.Spec PyProof.Rows
section
variable {X : Cx} {K : Zc} {th : List Addr} {mu : Sto} {H : Hp}
def keyT : D → Option (List Key)
  | .tup ds => (strsOf ds).map (·.map Sum.inr)
  | _ => none
def keyP : D → Option (List Key)
  | .tup [k, _] => keyT k
  | _ => none
def keysP : List D → Option (List (List Key))
  | [] => some []
  | d :: ds => match keyP d, keysP ds with
    | some k, some ks => some (k :: ks)
    | _, _ => none
def lnD (xs : List D) (mu : Sto) : Rs D := match arg1 xs with
  | some d => match lstOf mu d with
    | some es => (keysP es).map fun ks => (.int (onceK ks).length, mu)
    | none => none
  | none => none
def eLnD (a : Exs) : Ex := fun ro mu => bM (a ro mu) fun xs m1 => lnD xs m1
theorem lnD_inv {xs : List D} {mu : Sto} {r : D × Sto} (h : lnD xs mu = some r) : ∃ d es ks, xs = [d] ∧ lstOf mu d = some es ∧ keysP es = some ks ∧ r = (.int (onceK ks).length, mu) := by
  unfold lnD at h
  split at h
  · rename_i d e
    split at h
    · rename_i es e2
      cases e3 : keysP es with
      | none => rw [e3] at h; cases h
      | some ks => rw [e3] at h; cases h; exact ⟨d, es, ks, arg1_inv e, e2, e3, rfl⟩
    · cases h
  · cases h
theorem kVs_str (ss : List Str) : (ss.map (Sum.inr : Str → Key)).map kV = ss.map V.str := by
  rw [List.map_map]; rfl
theorem keyT_is {pins : List (Addr × Obj)} {st : L2.St} {s : Shared} (I : L2.Inv X pins st H s) {d : D} {ks : List Key} {v : V} {u : Value} (e : keyT d = some ks) (r : Rep X.z th H d v) (rv : RelV v u) : ∃ kb, u = .ref kb ∧ (tupleKind (mixKind X.prog X.w)).is s.heap ks kb := by
  unfold keyT at e
  split at e
  · rename_i ds
    cases e2 : strsOf ds with
    | none => rw [e2] at e; cases e
    | some ss =>
      rw [e2] at e
      have e' : ss.map Sum.inr = ks := Option.some.inj e
      subst e'
      unfold Rep at r
      obtain ⟨a, vs, rfl, h1, h2, _⟩ := r
      rw [strsOf_inv e2] at h2
      obtain ⟨rfl, _⟩ := repL_strs h2
      cases rv
      obtain ⟨its, rv2, ⟨o, g1, g2, n, g3⟩, _⟩ := I.tuple h1
      refine ⟨a, rfl, o, its.toArray, n, g1, g2, g3, ?_⟩
      have rv3 : Vals ((ss.map (Sum.inr : Str → Key)).map kV) its := by rw [kVs_str]; exact rv2
      simpa using items_are (P := X.prog) (w := X.w) rv3
  · cases e
theorem keyP_is {pins : List (Addr × Obj)} {st : L2.St} {s : Shared} (I : L2.Inv X pins st H s) {d : D} {ks : List Key} {v : V} {u : Value} (e : keyP d = some ks) (r : Rep X.z th H d v) (rv : RelV v u) : PrAt (tupleKind (mixKind X.prog X.w)) s.heap u ks := by
  unfold keyP at e
  split at e
  · unfold Rep at r
    obtain ⟨a, vs, rfl, h1, h2, _⟩ := r
    obtain ⟨x, y, rfl, q1, q2⟩ := two_arg h2
    cases rv
    obtain ⟨its, rv2, ⟨o, g1, g2, n, g3⟩, _⟩ := I.tuple h1
    obtain ⟨u1, u2, rfl, ra, rb⟩ := vals2 rv2
    obtain ⟨kb, rfl, hk⟩ := keyT_is I e q1 ra
    exact ⟨a, kb, u2, rfl, ⟨o, g1, g2, n, g3⟩, hk⟩
  · cases e
theorem keysP_is {pins : List (Addr × Obj)} {st : L2.St} {s : Shared} (I : L2.Inv X pins st H s) : ∀ {ds : List D} {ks : List (List Key)} {vs : List V} {us : List Value}, keysP ds = some ks → RepL X.z th H ds vs → Vals vs us → Paired (PrAt (tupleKind (mixKind X.prog X.w)) s.heap) us ks
  | [], _, _, _, e, r, rv => by cases e; cases r.inv0; cases rv; exact .nil
  | d :: ds, ks, _, _, e, r, rv => by
    obtain ⟨v, r', rfl, h1, h2⟩ := r.inv
    cases rv with
    | cons a b =>
      unfold keysP at e
      cases e1 : keyP d with
      | none => rw [e1] at e; cases e
      | some k =>
        cases e2 : keysP ds with
        | none => rw [e1, e2] at e; cases e
        | some ks' =>
          rw [e1, e2] at e
          cases e
          exact .cons (keyP_is I e1 h1 a) (keysP_is I e2 h2 b)
theorem keysP_len : ∀ {ds : List D} {ks : List (List Key)}, keysP ds = some ks → ks.length = ds.length
  | [], _, e => by cases e; rfl
  | d :: ds, ks, e => by
    unfold keysP at e
    split at e
    · rename_i k ks' e1 e2; cases e; rw [List.length_cons, List.length_cons, keysP_len e2]
    · cases e
theorem sv_lnD {a : Expr} {m : Exs} {p p2 pos pos2 : Pos} (hc : X.calm = true) (hu : X.A.units + 64 < cLine) (h1 : X.mg "len" = none) (h2 : X.mg "dict" = none) (hb : bootBuiltins "dict" = some (.type "dict")) (ha : SVA X [a] m)
    (hg : Gl X "len" := by rfl) (hg2 : Gl X "dict" := by rfl)
    (hs1 : starEach [.Call (.Name "dict" p2) [a] [] pos2] X.env = (false, eval (.Call (.Name "dict" p2) [a] [] pos2) X.env) :: starEach [] X.env := by rfl) (hs2 : (backTo pos (starEach [] X.env)).any (·.1) = false := by rfl)
    (hs3 : starEach [a] X.env = (false, eval a X.env) :: starEach [] X.env := by rfl) (hs4 : (backTo pos2 (starEach [] X.env)).any (·.1) = false := by rfl) :
    SV X (.Call (.Name "len" p) [.Call (.Name "dict" p2) [a] [] pos2] [] pos) (eLnD m) := ⟨fun pins s st H Q I h => by
  obtain ⟨th, mu, ro, so, en, t⟩ := h
  refine wpAny_Call_Name_kw (ld_blt I hg h1 PySem.boot_len (PyProof.Rows.callWith_builtin1 ?_ hs1 hs2) (by decide) (by decide))
  rw [hs1]
  refine (?_ : wpAny _ _ (spliced ((false, eval (.Call (.Name "dict" p2) [a] [] pos2) X.env) :: backTo pos (starEach [] X.env))) _ _ s)
  refine Calls.spliced_cons (wpAny_Call_Name_kw (ld_blt I hg2 h2 hb (PyProof.Rows.callWith_type1 ?_ hs3 hs4) (by decide) (by decide)))
  refine thn (ha.1 pos2 pins s st H (fun vs H1 => ∃ th1 mu1 ds, StoOk X.z th1 mu1 H1 ∧ RepL X.z th1 H1 ds vs ∧ Tr X.z th1 H1 (lnD ds mu1) (KV' X.z Q)) I ⟨th, mu, ro, so, en, t.bind.mono fun ds th1 mu1 H1 e1 s1 t1 vs rvs => ⟨th1, mu1, ds, s1, rvs, t1⟩⟩) fun us s1 ⟨vs, H1, I1, r1, q1⟩ => ?_
  obtain ⟨th1, mu1, ds, so1, rds, t1⟩ := q1
  obtain ⟨r0, mu0, e0, _⟩ := id t1
  obtain ⟨d, es, ks, rfl, el, ek, er⟩ := lnD_inv e0
  rw [e0] at t1
  cases er
  obtain ⟨x, rfl, rx⟩ := one_arg rds
  obtain ⟨l, ws, rfl, hl, hr, hz⟩ := lstOf_rep so1 el rx
  obtain ⟨u, rfl, ru⟩ := vals1 r1
  cases ru
  obtain ⟨its, rv, ⟨o, n, g1, g2, g4, g3⟩, _⟩ := I1.list hl
  have lz : its.length = es.length := by rw [← rv.length, hr.len]
  refine call_dictP (knd := tupleKind (mixKind X.prog X.w)) (I1.ok.hd hc) (show X.A.units + 1 + 1 < cLine by omega) g1 g2 g3 g4 (by simp [lz, hz]) (big_of I1) (fun h k b q keep => ?_) (by simpa using keysP_is I1 ek hr rv) fun h' tk xs kp dd ns ex => ?_
  · obtain ⟨o, its, n, g, r⟩ := q
    exact ⟨o, its, n, keep _ _ g, r⟩
  · have I2 : L2.Inv X pins st H1 { s1 with heap := h', toks := tk } := I1.kept kp
    have xl : xs.length = (onceK ks).length := by rw [← ex, List.length_map]
    have xz : xs.length ≤ sizeLine := by
      have := onceK_len ks []
      rw [xl]
      refine Nat.le_trans this ?_
      rw [List.length_nil, Nat.zero_add, keysP_len ek]
      exact hz
    refine Calls.spliced_nil (lenH (knd := tupleKind (mixKind X.prog X.w)) ns dd xz fun tk' tk2 => ⟨.int (onceK ks).length, H1, I2.tok _, ⟨tk', ?_⟩, t1.ret so1 _ rfl⟩)
    rw [xl]⟩
end
end PV

namespace PG
open PySem L2 PV PyProof.Rows
noncomputable def m_is_word : Sx :=
    sSeq (sIf (tO (tNt (tV (eIsi "str" (eVar 0)))) (tNt (tV (eChain leD leD (eC (.int 1)) (eCall lenF (aCons (eVar 0) (aNil))) (eC (.int 8)))))) (sRt (eC (.bl false))) (sNx)) (sRt (eCall allF (aCons (eLC (iVal (eVar 0)) 1 [] (gNm 0) (tY) (eBin inD (eVar 0) (eC (.str "abcdefghijklmnopqrstuvwxyz0123456789")))) (aNil))))
noncomputable def f_is_word : Fn := fnB 1 m_is_word
noncomputable def m_is_tuple : Sx :=
    sRt (eAn (eIsi "tuple" (eVar 0)) (eChain leD leD (eVar 1) (eCall lenF (aCons (eVar 0) (aNil))) (eVar 2)))
noncomputable def f_is_tuple : Fn := fnB 3 m_is_tuple
noncomputable def m_is_rising : Sx :=
    sRt (eCall allF (aCons (eLC (iZpG (aCons (eVar 0) (aCons (eSl (eVar 0) (pSome (eC (.int 1))) (pNo)) (aNil)))) 2 [] (gTp 2 (gsCons (gNm 0) (gsCons (gNm 1) (gsNil)))) (tY) (eBin ltG (eVar 0) (eVar 1))) (aNil)))
noncomputable def f_is_rising : Fn := fnB 1 m_is_rising
noncomputable def m_table_of : Sx :=
    sRt (eBin ixD (eLC (iVal (eVar 0)) 1 [1] (gNm 0) (tV (eBin eqD (eBin ixD (eVar 0) (eC (.int 0))) (eVar 1))) (eVar 0)) (eC (.int 0)))
noncomputable def f_table_of : Fn := fnB 2 m_table_of
noncomputable def m_table_if_named : Sx :=
    sSeq (sIf (tO (tNt (tV (eCall f_is_word (aCons (eVar 1) (aNil))))) (tV (eBin ninD (eVar 1) (eLC (iVal (eVar 0)) 1 [] (gNm 0) (tY) (eBin ixD (eVar 0) (eC (.int 0))))))) (sRt (eC .non)) (sNx)) (sRt (eCall f_table_of (aCons (eVar 0) (aCons (eVar 1) (aNil)))))
noncomputable def f_table_if_named : Fn := fnB 2 m_table_if_named
noncomputable def m_is_stay : Sx :=
    sSeq (sSet (eIf (tV (eCall f_is_tuple (aCons (eVar 1) (aCons (eC (.int 2)) (aCons (eC (.int 2)) (aNil)))))) (eCall f_table_if_named (aCons (eVar 0) (aCons (eBin ixD (eVar 1) (eC (.int 0))) (aNil)))) (eC .non)) (gNm 2)) (sSeq (sIf (tO (tV (eBin isD (eVar 2) (eC .non))) (tNt (tV (eIsi "str" (eBin ixD (eVar 1) (eC (.int 1))))))) (sRt (eC (.bl false))) (sNx)) (sRt (eO (eBin eqD (eBin ixD (eVar 1) (eC (.int 1))) (eC (.str ""))) (eBin inD (eBin ixD (eVar 1) (eC (.int 1))) (eLC (iVal (eSl (eBin ixD (eVar 2) (eC (.int 1))) (pSome (eBin ixD (eVar 2) (eC (.int 2)))) (pNo))) 2 [] (gTp 2 (gsCons (gNm 0) (gsCons (gNm 1) (gsNil)))) (tY) (eVar 0))))))
noncomputable def f_is_stay : Fn := fnB 3 m_is_stay
noncomputable def m_are_stays : Sx :=
    sRt (eAn (eIsi "tuple" (eVar 1)) (eAn (eCall allF (aCons (eLC (iVal (eVar 1)) 1 [0] (gNm 0) (tY) (eCall f_is_stay (aCons (eVar 1) (aCons (eVar 0) (aNil))))) (aNil))) (eCall f_is_rising (aCons (eVar 1) (aNil)))))
noncomputable def f_are_stays : Fn := fnB 2 m_are_stays
noncomputable def m_law_hand : Sx :=
    sSeq (sSet (eC (.int 0)) (gNm 2)) (sSeq (sIf (tV (eBin ltG (eVar 1) (eCall lenF (aCons (eVar 0) (aNil))))) (sSet (eBin ixD (eVar 0) (eVar 1)) (gNm 2)) (sNx)) (sRt (eLstM (aCons (eBin mulD (eVar 2) (eCall intF (aCons (eBin geD (eVar 2) (eBin powD (eC (.int 10)) (eC (.int 18)))) (aNil)))) (aCons (eBin addD (eBin addD (eBin modD (eVar 2) (eC (.int 2305843009213693951))) (eBin mulD (eC (.int 7919)) (eVar 1))) (eC (.int 3))) (aCons (eC (.int 0)) (aNil)))))))
noncomputable def f_law_hand : Fn := fnB 3 m_law_hand
noncomputable def m_law_take : Sx :=
    sSeq (sIf (tV (eBin gtD (eBin ixD (eVar 0) (eC (.int 0))) (eC (.int 0)))) (sSeq (sSet (eBin modD (eBin ixD (eVar 0) (eC (.int 0))) (eVar 1)) (gNm 2)) (sSeq (sSet (eBin fdivD (eBin ixD (eVar 0) (eC (.int 0))) (eVar 1)) (gIx (eVar 0) (eC (.int 0)))) (sRt (eVar 2)))) (sNx)) (sSeq (sSet (eBin addD (eBin ixD (eVar 0) (eC (.int 2))) (eC (.int 1))) (gIx (eVar 0) (eC (.int 2)))) (sSeq (sSet (eBin ixD (eVar 0) (eC (.int 2))) (gNm 3)) (sSeq (sSet (eBin modD (eBin mulD (eBin ixD (eVar 0) (eC (.int 1))) (eBin addD (eBin addD (eC (.int 48271)) (eBin mulD (eBin mulD (eC (.int 2)) (eVar 3)) (eVar 3))) (eBin mulD (eC (.int 65537)) (eVar 3)))) (eC (.int 2305843009213693921))) (gNm 4)) (sSeq (sSet (eBin addD (eBin addD (eBin modD (eVar 4) (eC (.int 1000003))) (eBin mulD (eVar 3) (eC (.int 99991)))) (eC (.int 11))) (gNm 5)) (sSeq (sSet (eBin modD (eBin mulD (eVar 4) (eVar 5)) (eC (.int 2305843009213693907))) (gNm 4)) (sRt (eBin modD (eBin addD (eBin fdivD (eVar 4) (eC (.int 97))) (eBin fdivD (eVar 4) (eC (.int 1000033)))) (eVar 1))))))))
noncomputable def f_law_take : Fn := fnB 6 m_law_take
noncomputable def m_law_pick : Sx :=
    sRt (eBin ixD (eVar 1) (eCall f_law_take (aCons (eVar 0) (aCons (eCall lenF (aCons (eVar 1) (aNil))) (aNil)))))
noncomputable def f_law_pick : Fn := fnB 2 m_law_pick
noncomputable def m_law_words : Sx :=
    sSeq (sSet (eC (.str "abcdefghijklmnopqrstuvwxyz0123456789")) (gNm 3)) (sSeq (sSet (eTup (aCons (eCall f_law_take (aCons (eVar 0) (aCons (eC (.int 36)) (aNil)))) (aCons (eCall f_law_pick (aCons (eVar 0) (aCons (eLst (aCons (eC (.int 1)) (aCons (eC (.int 5)) (aCons (eC (.int 7)) (aCons (eC (.int 11)) (aCons (eC (.int 13)) (aCons (eC (.int 17)) (aNil)))))))) (aNil)))) (aNil)))) (gTp 2 (gsCons (gNm 4) (gsCons (gNm 5) (gsNil))))) (sSeq (sSet (eBin mulD (eBin ixD (eVar 3) (eCall f_law_take (aCons (eVar 0) (aCons (eC (.int 36)) (aNil))))) (eCall minF (aCons (eBin subD (eVar 2) (eC (.int 1))) (aCons (eCall f_law_pick (aCons (eVar 0) (aCons (eLst (aCons (eC (.int 0)) (aCons (eC (.int 1)) (aCons (eC (.int 0)) (aCons (eC (.int 2)) (aCons (eC (.int 7)) (aNil))))))) (aNil)))) (aNil))))) (gNm 6)) (sSeq (sSet (eCall f_law_take (aCons (eVar 0) (aCons (eBin addD (eCall lenF (aCons (eVar 6) (aNil))) (eC (.int 1))) (aNil)))) (gNm 7)) (sRt (eLC (iRg (aCons (eVar 1) (aNil))) 1 [6, 7, 3, 4, 5] (gNm 0) (tY) (eBin addD (eBin addD (eSl (eVar 1) (pNo) (pSome (eVar 2))) (eBin ixD (eVar 3) (eBin modD (eBin addD (eVar 4) (eBin mulD (eVar 5) (eVar 0))) (eC (.int 36))))) (eSl (eVar 1) (pSome (eVar 2)) (pNo))))))))
noncomputable def f_law_words : Fn := fnB 8 m_law_words
noncomputable def m_law_schema : Sx :=
    sSeq (sSet (eCall srtG (aCons (eCall f_law_words (aCons (eVar 0) (aCons (eBin addD (eC (.int 1)) (eCall f_law_take (aCons (eVar 0) (aCons (eVar 1) (aNil))))) (aCons (eC (.int 8)) (aNil))))) (aNil))) (gNm 4)) (sSeq (sSet (eCall f_law_words (aCons (eVar 0) (aCons (eBin addD (eVar 2) (eC (.int 2))) (aCons (eC (.int 8)) (aNil))))) (gNm 5)) (sSeq (sSet (eCall f_law_words (aCons (eVar 0) (aCons (eBin addD (eVar 3) (eC (.int 1))) (aCons (eC (.int 8)) (aNil))))) (gNm 6)) (sSeq (sSet (eLstM (aNil)) (gNm 7)) (sSeq (sFor (iVal (eVar 4)) (gNm 8) (sSeq (sSet (eBin addD (eC (.int 1)) (eCall f_law_take (aCons (eVar 0) (aCons (eVar 2) (aNil))))) (gNm 9)) (sSeq (sSet (eCall f_law_take (aCons (eVar 0) (aCons (eC (.int 3)) (aNil)))) (gNm 10)) (sSeq (sSet (eLstM (aNil)) (gNm 11)) (sSeq (sFor (iRg (aCons (eVar 9) (aNil))) (gNm 12) (sSeq (sSet (eBin addD (eC (.int 1)) (eCall f_law_take (aCons (eVar 0) (aCons (eVar 3) (aNil))))) (gNm 13)) (sSeq (sSet (eCall f_law_take (aCons (eVar 0) (aCons (eC (.int 2)) (aNil)))) (gNm 14)) (sEx (eApp (eVar 11) (aCons (eTup (aCons (eBin ixD (eVar 5) (eBin modD (eBin addD (eVar 12) (eVar 10)) (eCall lenF (aCons (eVar 5) (aNil))))) (aCons (eCall tupF (aCons (eLC (iRg (aCons (eVar 13) (aNil))) 1 [6, 14] (gNm 0) (tY) (eBin ixD (eVar 1) (eBin modD (eBin addD (eVar 0) (eVar 2)) (eCall lenF (aCons (eVar 1) (aNil)))))) (aNil))) (aNil)))) (aNil))))))) (sEx (eApp (eVar 7) (aCons (eTup (aCons (eVar 8) (aCons (eCall tupF (aCons (eVar 11) (aNil))) (aCons (eBin addD (eC (.int 1)) (eCall f_law_take (aCons (eVar 0) (aCons (eVar 9) (aNil))))) (aNil))))) (aNil))))))))) (sRt (eCall tupF (aCons (eVar 7) (aNil))))))))
noncomputable def f_law_schema : Fn := fnB 15 m_law_schema
noncomputable def m_law_stays : Sx :=
    sSeq (sSet (eLst (aNil)) (gNm 2)) (sSeq (sFor (iVal (eVar 1)) (gTp 3 (gsCons (gNm 3) (gsCons (gNm 4) (gsCons (gNm 5) (gsNil))))) (sSet (eBin addD (eBin addD (eVar 2) (eLst (aCons (eTup (aCons (eVar 3) (aCons (eC (.str "")) (aNil)))) (aNil)))) (eLC (iVal (eSl (eVar 4) (pSome (eVar 5)) (pNo))) 2 [3] (gTp 2 (gsCons (gNm 0) (gsCons (gNm 1) (gsNil)))) (tY) (eTup (aCons (eVar 2) (aCons (eVar 0) (aNil)))))) (gNm 2))) (sSeq (sSet (eCall f_law_pick (aCons (eVar 0) (aCons (eLst (aCons (eC (.int 2)) (aCons (eC (.int 3)) (aCons (eC (.int 5)) (aCons (eC (.int 9)) (aCons (eC (.int 1)) (aNil))))))) (aNil)))) (gNm 6)) (sRt (eCall tupF (aCons (eCall srtG (aCons (eLC (iVal (eVar 2)) 1 [0, 6] (gNm 0) (tV (eBin eqD (eCall f_law_take (aCons (eVar 1) (aCons (eBin addD (eVar 2) (eC (.int 1))) (aNil)))) (eC (.int 0)))) (eVar 0)) (aNil))) (aNil))))))
noncomputable def f_law_stays : Fn := fnB 7 m_law_stays
noncomputable def m_law_unlike : Sx :=
    sRt (eBin eqD (eLnD (aCons (eLC (iVal (eVar 0)) 1 [] (gNm 0) (tY) (eTup (aCons (eVar 0) (aCons (eC (.bl true)) (aNil))))) (aNil))) (eCall lenF (aCons (eVar 0) (aNil))))
noncomputable def f_law_unlike : Fn := fnB 1 m_law_unlike
noncomputable def m_law_due : Sx :=
    sSeq (sSet (eDctM) (gNm 2)) (sSeq (sFor (iVal (eVar 0)) (gTp 3 (gsCons (gNm 3) (gsCons (gNm 4) (gsCons (gNm 5) (gsNil))))) (sSet (eBin addD (eLst (aCons (eC (.str "")) (aNil))) (eLC (iVal (eSl (eVar 4) (pSome (eVar 5)) (pNo))) 2 [] (gTp 2 (gsCons (gNm 0) (gsCons (gNm 1) (gsNil)))) (tY) (eVar 0))) (gIx (eVar 2) (eVar 3)))) (sSeq (sIf (tNt (tV (eIsi "tuple" (eVar 1)))) (sRt (eC (.bl false))) (sNx)) (sSeq (sFor (iVal (eVar 1)) (gNm 6) (sSeq (sIf (tO (tNt (tV (eIsi "tuple" (eVar 6)))) (tO (tV (eBin neD (eCall lenF (aCons (eVar 6) (aNil))) (eC (.int 2)))) (tO (tNt (tV (eIsi "str" (eBin ixD (eVar 6) (eC (.int 0)))))) (tNt (tV (eIsi "str" (eBin ixD (eVar 6) (eC (.int 1))))))))) (sRt (eC (.bl false))) (sNx)) (sIf (tV (eBin ninD (eBin ixD (eVar 6) (eC (.int 1))) (eGet (eVar 2) (aCons (eBin ixD (eVar 6) (eC (.int 0))) (aCons (eLst (aNil)) (aNil)))))) (sRt (eC (.bl false))) (sNx)))) (sRt (eAn (eBin eqD (eCall lstF (aCons (eVar 1) (aNil))) (eCall srtG (aCons (eVar 1) (aNil)))) (eCall f_law_unlike (aCons (eVar 1) (aNil))))))))
noncomputable def f_law_due : Fn := fnB 7 m_law_due
noncomputable def m_law_odd : Sx :=
    sSeq (sSet (eCall f_law_pick (aCons (eVar 0) (aCons (eVar 1) (aNil)))) (gTp 3 (gsCons (gNm 2) (gsCons (gNm 3) (gsCons (gNm 4) (gsNil)))))) (sSeq (sSet (eCall f_law_pick (aCons (eVar 0) (aCons (eVar 1) (aNil)))) (gNm 5)) (sSeq (sSet (eBin ixD (eCall f_law_pick (aCons (eVar 0) (aCons (eVar 3) (aNil)))) (eC (.int 0))) (gNm 6)) (sSeq (sSet (eLst (aCons (eTup (aCons (eVar 2) (aCons (eBin ixD (eBin ixD (eVar 3) (eC (.int 0))) (eC (.int 0))) (aNil)))) (aCons (eTup (aCons (eBin ixD (eVar 5) (eC (.int 0))) (aCons (eVar 6) (aNil)))) (aCons (eTup (aCons (eC (.str "nosuch")) (aCons (eC (.str "")) (aNil)))) (aCons (eTup (aCons (eVar 2) (aCons (eC (.str "nosuch")) (aNil)))) (aCons (eTup (aCons (eVar 2) (aNil))) (aCons (eTup (aCons (eVar 2) (aCons (eVar 6) (aCons (eC (.int 0)) (aNil))))) (aNil)))))))) (gNm 7)) (sSeq (sSet (eBin addD (eVar 7) (eLst (aCons (eLst (aCons (eVar 2) (aCons (eC (.str "")) (aNil)))) (aCons (eTup (aCons (eVar 2) (aCons (eC .non) (aNil)))) (aCons (eTup (aCons (eC .non) (aCons (eC (.str "")) (aNil)))) (aCons (eVar 2) (aCons (eC .non) (aCons (eC (.bl true)) (aCons (eC (.int 0)) (aCons (eTup (aNil)) (aCons (eTup (aCons (eC (.str "")) (aCons (eC (.str "")) (aNil)))) (aCons (eTup (aCons (eVar 2) (aCons (eTup (aCons (eVar 6) (aNil))) (aNil)))) (aCons (eTup (aCons (eC (.int 1)) (aCons (eC (.int 2)) (aNil)))) (aNil)))))))))))))) (gNm 7)) (sRt (eCall f_law_pick (aCons (eVar 0) (aCons (eVar 7) (aNil)))))))))
noncomputable def f_law_odd : Fn := fnB 8 m_law_odd
noncomputable def m_law_spoilt : Sx :=
    sSeq (sSet (eCall f_law_take (aCons (eVar 0) (aCons (eBin addD (eCall lenF (aCons (eVar 2) (aNil))) (eC (.int 1))) (aNil)))) (gNm 3)) (sSeq (sSet (eCall f_law_odd (aCons (eVar 0) (aCons (eVar 1) (aNil)))) (gNm 4)) (sSeq (sSet (eLst (aCons (e1 revD (eVar 2)) (aCons (eBin addD (eVar 2) (eSl (eVar 2) (pNo) (pSome (eC (.int 1))))) (aCons (eCall lstF (aCons (eVar 2) (aNil))) (aCons (eBin addD (eBin addD (eSl (eVar 2) (pNo) (pSome (eVar 3))) (eTup (aCons (eVar 4) (aNil)))) (eSl (eVar 2) (pSome (eVar 3)) (pNo))) (aCons (eBin addD (eSl (eVar 2) (pNo) (pSome (eVar 3))) (eTup (aCons (eVar 4) (aNil)))) (aCons (eTup (aCons (eVar 4) (aNil))) (aNil)))))))) (gNm 5)) (sRt (eCall f_law_pick (aCons (eVar 0) (aCons (eBin addD (eVar 5) (eLst (aCons (eSl (eVar 2) (pSome (eC (.int 1))) (pNo)) (aCons (eTup (aCons (eVar 2) (aNil))) (aNil))))) (aNil)))))))
noncomputable def f_law_spoilt : Fn := fnB 6 m_law_spoilt
noncomputable def m_law : Sx :=
    sSeq (sFor (iRg (aCons (eCall maxF (aCons (eC (.int 2)) (aCons (eCall minF (aCons (eC (.int 8)) (aCons (eCall lenF (aCons (eVar 0) (aNil))) (aNil)))) (aNil)))) (aNil))) (gNm 1) (sSeq (sSet (eCall f_law_hand (aCons (eVar 0) (aCons (eVar 1) (aNil)))) (gNm 2)) (sSeq (sSet (eCall f_law_schema (aCons (eVar 2) (aCons (eC (.int 4)) (aCons (eC (.int 4)) (aCons (eC (.int 4)) (aNil)))))) (gNm 3)) (sSeq (sSet (eCall f_law_stays (aCons (eVar 2) (aCons (eVar 3) (aNil)))) (gNm 4)) (sSeq (sSet (eLstM (aCons (eVar 4) (aCons (eTup (aNil)) (aCons (eC .non) (aCons (eC (.bl true)) (aCons (eC (.int 0)) (aCons (eC (.str "")) (aCons (eLst (aNil)) (aCons (eDct0) (aCons (eTup (aCons (eTup (aNil)) (aNil))) (aCons (eTup (aCons (eC .non) (aNil))) (aCons (eTup (aCons (eC (.str "")) (aCons (eC (.str "")) (aNil)))) (aNil))))))))))))) (gNm 5)) (sSeq (sFor (iRg (aCons (eC (.int 10)) (aNil))) (gNm 6) (sEx (eApp (eVar 5) (aCons (eCall f_law_spoilt (aCons (eVar 2) (aCons (eVar 3) (aCons (eVar 4) (aNil))))) (aNil))))) (sFor (iVal (eBin addD (eVar 5) (eLst (aCons (eVar 4) (aNil))))) (gNm 7) (sSeq (sSet (eCall f_are_stays (aCons (eVar 3) (aCons (eVar 7) (aNil)))) (gNm 8)) (sIf (tO (tNt (tV (eIsi "bool" (eVar 8)))) (tV (eBin neD (eVar 8) (eCall f_law_due (aCons (eVar 3) (aCons (eVar 7) (aNil))))))) (sRt (eC (.bl false))) (sNx)))))))))) (sRt (eC (.bl true)))
noncomputable def f_law : Fn := fnB 9 m_law
end PG

namespace K1
open PySem L2 PyProof.Rows
abbrev SIGNS : Str := "abcdefghijklmnopqrstuvwxyz0123456789"
structure IsW (x : Str) : Prop where
  lo : 1 ≤ x.length
  hi : x.length ≤ 8
  al : ∀ c ∈ x.cps.toList, c ∈ SIGNS.cps.toList
theorem signs_len : SIGNS.cps.toList.length = 36 := by decide +kernel
theorem signs_nd : SIGNS.cps.toList.Nodup := by decide +kernel
theorem mulOk (c : Nat) (n : Int) (h0 : 0 ≤ n) (h7 : n ≤ 7) : MulOk ⟨#[c]⟩ n := by
  have e : n = 0 ∨ n = 1 ∨ n = 2 ∨ n = 3 ∨ n = 4 ∨ n = 5 ∨ n = 6 ∨ n = 7 := by omega
  have l : (⟨#[c]⟩ : Str).length = 1 := rfl
  unfold MulOk
  rw [l]
  rcases e with rfl | rfl | rfl | rfl | rfl | rfl | rfl | rfl <;> decide
theorem mul_list (c : Nat) (n : Int) (h0 : 0 ≤ n) (h7 : n ≤ 7) : (Txt.mul ⟨#[c]⟩ n).cps.toList = List.replicate n.toNat c := by
  have e : n = 0 ∨ n = 1 ∨ n = 2 ∨ n = 3 ∨ n = 4 ∨ n = 5 ∨ n = 6 ∨ n = 7 := by omega
  rcases e with rfl | rfl | rfl | rfl | rfl | rfl | rfl | rfl <;> rfl
theorem slice_to {x : Str} {j : Int} (h0 : 0 ≤ j) (h1 : j ≤ x.length) : (Txt.slice x none (some j)).cps.toList = x.cps.toList.take j.toNat := by
  have h := slice_closes_to (x := x) (j := j) ⟨h0, by simpa [Str.length] using h1⟩
  rw [eq_of_beq h]
  simp
theorem slice_from {x : Str} {j : Int} (h0 : 0 ≤ j) (h1 : j ≤ x.length) : (Txt.slice x (some j) none).cps.toList = x.cps.toList.drop j.toNat := by
  rw [slice_from_eq h0 h1 rfl]
  apply List.take_of_length_le
  simp [Str.length]
  omega
def wrd (A B : Str) (fi st : Int) (k : Nat) : Str := A ++ ⟨#[SIGNS.cps.toList.getD ((fi + st * k) % 36).toNat 0]⟩ ++ B
theorem wrd_list (A B : Str) (fi st : Int) (k : Nat) : (wrd A B fi st k).cps.toList = A.cps.toList ++ [SIGNS.cps.toList.getD ((fi + st * k) % 36).toNat 0] ++ B.cps.toList := by
  unfold wrd
  rw [Str.cps_append, Str.cps_append, Array.toList_append, Array.toList_append]
theorem sign_mem {j : Int} (h0 : 0 ≤ j) (h1 : j < 36) : SIGNS.cps.toList[j.toNat]? = some (SIGNS.cps.toList.getD j.toNat 0) := by
  have h : j.toNat < SIGNS.cps.toList.length := by rw [signs_len]; omega
  rw [List.getD_eq_getElem?_getD, List.getElem?_eq_getElem h]
  rfl
def StepOk (st : Int) : Prop := st = 1 ∨ st = 5 ∨ st = 7 ∨ st = 11 ∨ st = 13 ∨ st = 17
theorem step_inj {fi st : Int} {j k : Nat} (hs : StepOk st) (hj : j < 6) (hk : k < 6) (e : (fi + st * j) % 36 = (fi + st * k) % 36) : j = k := by
  rcases hs with rfl | rfl | rfl | rfl | rfl | rfl <;> omega
theorem wrd_inj {A B : Str} {fi st : Int} {j k : Nat} (hs : StepOk st) (hj : j < 6) (hk : k < 6) (e : wrd A B fi st j = wrd A B fi st k) : j = k := by
  have h := congrArg (fun s : Str => s.cps.toList) e
  simp only [wrd_list, List.append_cancel_right_eq, List.append_cancel_left_eq, List.cons.injEq, and_true] at h
  refine step_inj (fi := fi) hs hj hk ?_
  have a0 := Int.emod_nonneg (fi + st * j) (show (36 : Int) ≠ 0 by decide)
  have a1 := Int.emod_lt_of_pos (fi + st * j) (show (0 : Int) < 36 by decide)
  have b0 := Int.emod_nonneg (fi + st * k) (show (36 : Int) ≠ 0 by decide)
  have b1 := Int.emod_lt_of_pos (fi + st * k) (show (0 : Int) < 36 by decide)
  have e1 := sign_mem a0 a1
  have e2 := sign_mem b0 b1
  rw [h, ← e2] at e1
  have l1 : ((fi + st * j) % 36).toNat < SIGNS.cps.toList.length := by rw [signs_len]; omega
  have l2 : ((fi + st * k) % 36).toNat < SIGNS.cps.toList.length := by rw [signs_len]; omega
  rw [List.getElem?_eq_getElem l1, List.getElem?_eq_getElem l2] at e1
  have := (List.getElem_inj signs_nd).mp (Option.some.inj e1)
  omega
theorem wrd_isW {A B : Str} {fi st : Int} {k : Nat} {c : Nat} (hc : c ∈ SIGNS.cps.toList) (hA : ∀ x ∈ A.cps.toList, x = c) (hB : ∀ x ∈ B.cps.toList, x = c) (hl : A.length + B.length ≤ 7) : IsW (wrd A B fi st k) := by
  have h := wrd_list A B fi st k
  have hl' : (wrd A B fi st k).length = A.length + 1 + B.length := by
    unfold wrd
    rw [PySem.Str.length_append, PySem.Str.length_append]
    rfl
  refine ⟨by omega, by omega, fun x hx => ?_⟩
  rw [h] at hx
  rcases List.mem_append.mp hx with hy | hy
  · rcases List.mem_append.mp hy with hz | hz
    · rw [hA x hz]; exact hc
    · rw [List.mem_singleton.mp hz]
      exact List.mem_of_getElem? (sign_mem (Int.emod_nonneg (fi + st * k) (show (36 : Int) ≠ 0 by decide)) (Int.emod_lt_of_pos (fi + st * k) (show (0 : Int) < 36 by decide)))
  · rw [hB x hy]; exact hc
def wrds (A B : Str) (fi st : Int) (n : Nat) : List Str := (List.range n).map (wrd A B fi st)
theorem wrds_nd {A B : Str} {fi st : Int} {n : Nat} (hs : StepOk st) (hn : n ≤ 6) : (wrds A B fi st n).Nodup := by
  unfold wrds
  rw [List.nodup_iff_pairwise_ne, List.pairwise_map]
  refine List.Pairwise.imp_of_mem (fun {a b} ha hb hne e => hne ?_) (List.nodup_iff_pairwise_ne.mp List.nodup_range)
  exact wrd_inj hs (Nat.lt_of_lt_of_le (List.mem_range.mp ha) hn) (Nat.lt_of_lt_of_le (List.mem_range.mp hb) hn) e
end K1
namespace PV
open PySem L2 PyProof.Rows K1
theorem lc_pure {m0 : Sto} {tg : Gx} {tt : Tx} {el : Ex} {ro : Ro} {mu : Sto} (p : D → Bool) (g : D → D) : ∀ ds : List D, (∀ d ∈ ds, ∃ ro1, tg d ro mu = some (ro1, mu) ∧ tt ro1 mu = some (p d, mu) ∧ (p d = true → el ro1 mu = some (g d, mu))) → lcGo none m0 tg tt el ro ds mu = some ((ds.filter p).map g, mu)
  | [], _ => rfl
  | d :: ds, h => by
    obtain ⟨ro1, e1, e2, e3⟩ := h d (.head _)
    have ih := lc_pure (m0 := m0) p g ds fun d' hd => h d' (.tail _ hd)
    unfold lcGo
    rw [e1, bM_some, e2, bM_some]
    cases c : p d with
    | true => rw [if_pos rfl, e3 c, bM_some, guard', if_pos (show gOk none m0 mu from True.intro), ih, bM_some, List.filter_cons_of_pos c, List.map_cons]
    | false => rw [if_neg Bool.false_ne_true, guard', if_pos (show gOk none m0 mu from True.intro), ih, List.filter_cons_of_neg (by simp [c])]
theorem lc_all {m0 : Sto} {tg : Gx} {el : Ex} {ro : Ro} {mu : Sto} (g : D → D) (ds : List D) (h : ∀ d ∈ ds, ∃ ro1, tg d ro mu = some (ro1, mu) ∧ el ro1 mu = some (g d, mu)) : lcGo none m0 tg tY el ro ds mu = some (ds.map g, mu) := by
  have := lc_pure (m0 := m0) (tg := tg) (tt := tY) (el := el) (ro := ro) (mu := mu) (fun _ => true) g ds fun d hd => by
    obtain ⟨ro1, e1, e2⟩ := h d hd
    exact ⟨ro1, e1, rfl, fun _ => e2⟩
  rw [this, List.filter_eq_self.mpr (fun _ _ => rfl)]
theorem ix_signs {j : Int} {mu : Sto} (h0 : 0 ≤ j) (h1 : j < 36) : ixD (.str SIGNS) (.int j) mu = some (.str ⟨#[SIGNS.cps.toList.getD j.toNat 0]⟩, mu) := by
  unfold ixD
  dsimp only
  have h : j.toNat < SIGNS.cps.toList.length := by rw [signs_len]; omega
  have e : ixN SIGNS.cps.toList.length j = some j.toNat := by unfold ixN; rw [if_pos h0, if_pos (by rw [signs_len]; exact h1)]
  unfold atI
  rw [e, Option.bind_some, sign_mem h0 h1]
  rfl
end PV

namespace PG
open PySem L2 PV PyProof.Rows K1
def HandOk (mu : Sto) (k n : Nat) : Prop := ∃ a b c : Int, mu[k]? = some (.lst [.int a, .int b, .int c]) ∧ (-(2 ^ 63) < b ∧ b < 2 ^ 63) ∧ 0 ≤ c ∧ c + n < 2 ^ 40
theorem HandOk.mono {mu : Sto} {k n n' : Nat} (h : HandOk mu k n) (l : n' ≤ n) : HandOk mu k n' := by
  obtain ⟨a, b, c, h1, h2, h3, h4⟩ := h
  exact ⟨a, b, c, h1, h2, h3, by omega⟩
structure Fr (k n : Nat) (mu mu' : Sto) : Prop where
  hand : HandOk mu' k n
  keep : ∀ j, j < mu.length → j ≠ k → mu'[j]? = mu[j]?
  len : mu.length ≤ mu'.length
theorem Fr.refl {k n : Nat} {mu : Sto} (h : HandOk mu k n) : Fr k n mu mu := ⟨h, fun _ _ _ => rfl, Nat.le_refl _⟩
theorem Fr.trans {k n n' : Nat} {a b c : Sto} (x : Fr k n a b) (y : Fr k n' b c) : Fr k n' a c := ⟨y.hand, fun j hj hk => (y.keep j (Nat.lt_of_lt_of_le hj x.len) hk).trans (x.keep j hj hk), Nat.le_trans x.len y.len⟩
theorem Fr.mono {k n n' : Nat} {a b : Sto} (x : Fr k n a b) (l : n' ≤ n) : Fr k n' a b := ⟨x.hand.mono l, x.keep, x.len⟩
def Run (r : Rs D) (k n : Nat) (mu : Sto) (P : D → Prop) : Prop := ∃ d mu', r = some (d, mu') ∧ Fr k n mu mu' ∧ P d
theorem set_hand {mu : Sto} {k : Nat} {o o' : MO} (h : mu[k]? = some o) : (mu.set k o')[k]? = some o' := by
  have := (List.getElem?_eq_some_iff.mp h).1
  simp [this]
theorem take_run {mu : Sto} {k n : Nat} {m : Int} (h : HandOk mu k (n + 1)) (m0 : 0 < m) (m1 : m < 1073741824) : Run (f_law_take [.ref k, .int m] mu) k n mu fun d => ∃ t : Int, d = .int t ∧ 0 ≤ t ∧ t < m := by
  obtain ⟨a, b, c, h1, h2, h3, h4⟩ := h
  have hk : k < mu.length := (List.getElem?_eq_some_iff.mp h1).1
  have fr : ∀ a' c' : Int, 0 ≤ c' → c' ≤ c + 1 → Fr k n mu (mu.set k (.lst [.int a', .int b, .int c'])) := fun a' c' z1 z2 => ⟨⟨a', b, c', set_hand h1, h2, z1, by omega⟩, fun j _ hj => by rw [List.getElem?_set_ne (Ne.symm hj)], by simp⟩
  by_cases ha : 0 < a
  · refine ⟨.int (a % m), _, ?_, fr (a / m) c h3 (by omega), a % m, rfl, Int.emod_nonneg _ (by omega), Int.emod_lt_of_pos _ m0⟩
    have cd : CDiv a m := ⟨m0, m1⟩
    simp [f_law_take, fnB, m_law_take, sSeq, sIf, tV, eBin, ixD, eVar, eC, gtD, ordD, bM, sSet, gNm, gIx, putM, sRt, modD, fdivD, seqOf, lstOf, h1, ha, m0, cd, asB, ixN, atI]
  · refine ⟨.int (((b * (48271 + 2 * (c + 1) * (c + 1) + 65537 * (c + 1)) % 2305843009213693921 * (b * (48271 + 2 * (c + 1) * (c + 1) + 65537 * (c + 1)) % 2305843009213693921 % 1000003 + (c + 1) * 99991 + 11) % 2305843009213693907) / 97 + (b * (48271 + 2 * (c + 1) * (c + 1) + 65537 * (c + 1)) % 2305843009213693921 * (b * (48271 + 2 * (c + 1) * (c + 1) + 65537 * (c + 1)) % 2305843009213693921 % 1000003 + (c + 1) * 99991 + 11) % 2305843009213693907) / 1000033) % m), _, ?_, fr a (c + 1) (by omega) (by omega), _, rfl, Int.emod_nonneg _ (by omega), Int.emod_lt_of_pos _ m0⟩
    have hs : ∀ o, (mu.set k o)[k]? = some o := fun o => set_hand h1
    have c1 : CMul 2 (c + 1) := .inl ⟨by decide, by decide⟩
    have c2 : CMul (2 * (c + 1)) (c + 1) := .inl ⟨by omega, by omega⟩
    have c3 : CMul 65537 (c + 1) := .inl ⟨by decide, by decide⟩
    have c4 : ∀ z, CMul b z := fun z => .inl ⟨by omega, by omega⟩
    have c5 : CMul (c + 1) 99991 := .inr ⟨by decide, by decide⟩
    have c6 : ∀ y z : Int, CMul (y % 2305843009213693921) z := fun y z => .inl ⟨by omega, by omega⟩
    have c7 : ∀ y : Int, CDiv y 97 := fun y => ⟨by decide, by decide⟩
    have c8 : ∀ y : Int, CDiv y 1000033 := fun y => ⟨by decide, by decide⟩
    simp [f_law_take, fnB, m_law_take, sSeq, sIf, tV, eBin, ixD, eVar, eC, gtD, ordD, bM, sSet, gNm, gIx, putM, sRt, sNx, modD, fdivD, addD, mulD, seqOf, lstOf, h1, ha, m0, asB, ixN, atI, hs, c1, c2, c3, c4, c5, c6, c7, c8]
theorem at_int {ds : List D} {t : Int} (h0 : 0 ≤ t) (h1 : t < ds.length) : ∃ d, d ∈ ds ∧ atI ds t = some d := by
  have h : t.toNat < ds.length := by omega
  refine ⟨ds[t.toNat], List.getElem_mem h, ?_⟩
  unfold atI ixN
  rw [if_pos h0, if_pos h1, Option.bind_some, List.getElem?_eq_getElem h]
theorem pick_run {mu : Sto} {k n : Nat} {s : D} {ds : List D} (hs : s = .lst ds ∨ s = .tup ds) (hn : ds ≠ []) (hl : ds.length < 1073741824) (h : HandOk mu k (n + 1)) : Run (f_law_pick [.ref k, s] mu) k n mu fun d => d ∈ ds := by
  have pos : 0 < ds.length := List.length_pos_iff.mpr hn
  obtain ⟨_, mu', e, fr, t, rfl, t0, t1⟩ := take_run (m := ds.length) h (by omega) (by omega)
  obtain ⟨d, hd, ed⟩ := at_int t0 t1
  refine ⟨d, mu', ?_, fr, hd⟩
  rcases hs with rfl | rfl
  · simp [f_law_pick, fnB, m_law_pick, sRt, eBin, eVar, eCall, aCons, aNil, lenF, lenN, bM, e, ixD, lstOf, ed]
  · simp [f_law_pick, fnB, m_law_pick, sRt, eBin, eVar, eCall, aCons, aNil, lenF, lenN, bM, e, ixD, lstOf, ed]
end PG

namespace PG
open PySem L2 PV PyProof.Rows K1
theorem ok_signs : ∀ c ∈ SIGNS.cps.toList, decide (c < 0x110000) = true := by decide +kernel
theorem strOk_of {x : Str} (h : ∀ c ∈ x.cps.toList, c ∈ SIGNS.cps.toList) : PyData.strOk x = true := by
  (unfold PyData.strOk); rw [← Array.all_toList, List.all_eq_true]
  exact fun c hc => ok_signs c (h c hc)
theorem words_run {mu : Sto} {k n : Nat} {many : Int} (m0 : 0 ≤ many) (m6 : many ≤ 6) (h : HandOk mu k (n + 5)) : Run (f_law_words [.ref k, .int many, .int 8] mu) k n mu fun d => ∃ ws : List Str, d = .lst (ws.map D.str) ∧ (ws.length : Int) = many ∧ ws.Nodup ∧ ∀ x ∈ ws, IsW x := by
  obtain ⟨_, mu1, e1, f1, fi, rfl, a0, a1⟩ := take_run (m := 36) (n := n + 4) h (by decide) (by decide)
  obtain ⟨st, mu2, e2, f2, hst⟩ := pick_run (s := .lst [.int 1, .int 5, .int 7, .int 11, .int 13, .int 17]) (n := n + 3) (.inl rfl) (by simp) (by decide) f1.hand
  obtain ⟨_, mu3, e3, f3, si, rfl, b0, b1⟩ := take_run (m := 36) (n := n + 2) f2.hand (by decide) (by decide)
  obtain ⟨mv, mu4, e4, f4, hmv⟩ := pick_run (s := .lst [.int 0, .int 1, .int 0, .int 2, .int 7]) (n := n + 1) (.inl rfl) (by simp) (by decide) f3.hand
  obtain ⟨s', rfl, hs⟩ : ∃ s' : Int, st = .int s' ∧ StepOk s' := by
    simp only [List.mem_cons, List.not_mem_nil, or_false] at hst
    unfold StepOk
    rcases hst with rfl | rfl | rfl | rfl | rfl | rfl <;> exact ⟨_, rfl, by decide⟩
  obtain ⟨v, rfl, v0, v7⟩ : ∃ v : Int, mv = .int v ∧ 0 ≤ v ∧ v ≤ 7 := by
    simp only [List.mem_cons, List.not_mem_nil, or_false] at hmv
    rcases hmv with rfl | rfl | rfl | rfl | rfl <;> exact ⟨_, rfl, by decide, by decide⟩
  have hmin : (if v < 7 then v else 7) = v := by split <;> omega
  obtain ⟨ch, hc, ix3⟩ : ∃ ch, ch ∈ SIGNS.cps.toList ∧ ixD (.str (Str.ofString "abcdefghijklmnopqrstuvwxyz0123456789")) (.int si) mu3 = some (.str ⟨#[ch]⟩, mu3) := ⟨_, List.mem_of_getElem? (sign_mem b0 b1), ix_signs b0 b1⟩
  have len : (Txt.mul ⟨#[ch]⟩ v).length = v.toNat := by
    have := congrArg List.length (mul_list (ch) v v0 v7)
    simpa [Str.length] using this
  generalize hst : Txt.mul ⟨#[ch]⟩ v = stem at len
  have stl : stem.cps.toList = List.replicate v.toNat (ch) := by rw [← hst]; exact mul_list _ v v0 v7
  have stAll : ∀ x ∈ stem.cps.toList, x = ch := fun x hx => by rw [stl] at hx; exact (List.mem_replicate.mp hx).2
  obtain ⟨_, mu5, e5, f5, at', rfl, c0, c1⟩ := take_run (m := (stem.length : Int) + 1) (n := n) f4.hand (by omega) (by omega)
  have at2 : at' ≤ stem.length := by omega
  have sl1 := slice_to (x := stem) c0 at2
  have sl2 := slice_from (x := stem) c0 at2
  have allA : ∀ x ∈ (Txt.slice stem none (some at')).cps.toList, x = ch := fun x hx => stAll x (by rw [sl1] at hx; exact List.mem_of_mem_take hx)
  have allB : ∀ x ∈ (Txt.slice stem (some at') none).cps.toList, x = ch := fun x hx => stAll x (by rw [sl2] at hx; exact List.mem_of_mem_drop hx)
  have lens : (Txt.slice stem none (some at')).length + (Txt.slice stem (some at') none).length ≤ 7 := by
    have l1 := congrArg List.length sl1
    have l2 := congrArg List.length sl2
    simp only [Array.length_toList, List.length_take, List.length_drop] at l1 l2
    have ls : stem.cps.size = v.toNat := len
    unfold Str.length
    omega
  refine ⟨.lst ((wrds (Txt.slice stem none (some at')) (Txt.slice stem (some at') none) fi s' many.toNat).map D.str), mu5, ?_, (((f1.trans f2).trans f3).trans f4).trans f5, _, rfl, by simp [wrds]; omega, wrds_nd hs (by omega), fun x hx => ?_⟩
  · have mo : MulOk ⟨#[ch]⟩ v := mulOk _ v v0 v7
    have okm : PyData.strOk stem = true := strOk_of fun c h => by rw [stAll c h]; exact hc
    have okA : PyData.strOk (Txt.slice stem none (some at')) = true := strOk_of fun c h => by rw [allA c h]; exact hc
    have okB : PyData.strOk (Txt.slice stem (some at') none) = true := strOk_of fun c h => by rw [allB c h]; exact hc
    have zl : stem.length ≤ sizeLine := by rw [sizeLine_eq]; omega
    have lc : lcGo none mu5 (gNm 0) tY (eBin addD (eBin addD (eSl (eVar 1) pNo (pSome (eVar 2))) (eBin ixD (eVar 3) (eBin modD (eBin addD (eVar 4) (eBin mulD (eVar 5) (eVar 0))) (eC (.int 36))))) (eSl (eVar 1) (pSome (eVar 2)) pNo)) [none, some (.str stem), some (.int at'), some (.str SIGNS), some (.int fi), some (.int s')] (rngD 0 many.toNat) mu5 = some ((wrds (Txt.slice stem none (some at')) (Txt.slice stem (some at') none) fi s' many.toNat).map D.str, mu5) := by
      have ew : (wrds (Txt.slice stem none (some at')) (Txt.slice stem (some at') none) fi s' many.toNat).map D.str = (rngD 0 many.toNat).map fun d => match d with | .int i => .str (wrd (Txt.slice stem none (some at')) (Txt.slice stem (some at') none) fi s' i.toNat) | _ => .non := by
        (unfold wrds rngD); rw [List.map_map, List.map_map]
        refine List.map_congr_left fun j _ => ?_
        simp
      rw [ew]
      refine lc_all _ _ fun d hd => ⟨_, rfl, ?_⟩
      unfold rngD at hd
      obtain ⟨j, hj, rfl⟩ := List.mem_map.mp hd
      have i0 := Int.emod_nonneg (fi + s' * (j : Int)) (show (36 : Int) ≠ 0 by decide)
      have i1 := Int.emod_lt_of_pos (fi + s' * (j : Int)) (show (0 : Int) < 36 by decide)
      have ix := ix_signs (mu := mu5) i0 i1
      have cm : CMul s' (j : Int) := .inl (by rcases hs with rfl | rfl | rfl | rfl | rfl | rfl <;> exact ⟨by decide, by decide⟩)
      have z1 : (Txt.slice stem none (some at')).length + 1 ≤ sizeLine := by rw [sizeLine_eq]; omega
      have z2 : (Txt.slice stem none (some at')).length + 1 + (Txt.slice stem (some at') none).length ≤ sizeLine := by rw [sizeLine_eq]; omega
      have w2 : wrd (Txt.slice stem none (some at')) (Txt.slice stem (some at') none) fi s' j = Txt.slice stem none (some at') ++ ⟨#[SIGNS.cps.toList.getD ((fi + s' * (j : Int)) % 36).toNat 0]⟩ ++ Txt.slice stem (some at') none := rfl
      have la : (Txt.slice stem none (some at') ++ (⟨#[SIGNS.cps.toList.getD ((fi + s' * (j : Int)) % 36).toNat 0]⟩ : Str)).length = (Txt.slice stem none (some at')).length + 1 := by rw [PySem.Str.length_append]; rfl
      simp only [eBin, eSl, eVar, pNo, pSome, bM, slD, okA, okB, eC, addD, mulD, modD, cm, ix, if_true, List.set, List.getElem?_cons_zero, List.getElem?_cons_succ, Int.zero_add]
      rw [if_pos (by decide)]
      simp only [ix]
      have z1' : (Txt.slice stem none (some at')).length + (⟨#[SIGNS.cps.toList.getD ((fi + s' * (j : Int)) % 36).toNat 0]⟩ : Str).length ≤ sizeLine := z1
      rw [if_pos z1']
      simp only [la]
      rw [if_pos z2, Int.toNat_natCast, w2]
    have mm : mulD (.str ⟨#[ch]⟩) (.int v) mu4 = some (.str stem, mu4) := by
      unfold mulD
      dsimp only
      rw [hst, if_pos ⟨mo, zl, okm⟩]
    have rg2 : (-4611686018427387904 : Int) ≤ many := by omega
    have rg : -(2 ^ 62) ≤ many ∧ many ≤ (sizeLine : Int) := ⟨by omega, by rw [sizeLine_eq]; omega⟩
    simp [f_law_words, fnB, m_law_words, sSeq, sSet, eC, gNm, eTup, eCall, aCons, aNil, eLst, eVar, bM, e1, gTp, gsCons, gsNil, e2, eBin, e3, ix3, minF, PV.ints2, subD, e4, hmin, mm, lenF, lenN, addD, e5, sRt, eLC, iRg, PV.int1, r0, lc, rg, rg2]
  · unfold wrds at hx
    obtain ⟨j, _, rfl⟩ := List.mem_map.mp hx
    exact wrd_isW hc allA allB lens
end PG

namespace PV
theorem for_ind {m0 : Sto} {tg : Gx} {body : Sx} (Inv : Nat → Ro → Sto → Prop) : ∀ (ds : List D) (i : Nat) (ro : Ro) (mu : Sto), Inv i ro mu → (∀ j d ro mu, ds[j]? = some d → Inv (i + j) ro mu → ∃ ro1 m1 ro2 m2, tg d ro mu = some (ro1, m1) ∧ body ro1 m1 = some ((.nx, ro2), m2) ∧ Inv (i + j + 1) ro2 m2) →
    ∃ ro' mu', forGo none m0 tg body ds ro mu = some ((.nx, ro'), mu') ∧ Inv (i + ds.length) ro' mu'
  | [], i, ro, mu, h, _ => ⟨ro, mu, rfl, h⟩
  | d :: ds, i, ro, mu, h, st => by
    obtain ⟨ro1, m1, ro2, m2, e1, e2, h2⟩ := st 0 d ro mu rfl h
    obtain ⟨ro', mu', e3, h3⟩ := for_ind (m0 := m0) (tg := tg) (body := body) Inv ds (i + 1) ro2 m2 h2 fun j d' ro mu ed hi => by
      have := st (j + 1) d' ro mu (by simpa using ed) (by rw [show i + (j + 1) = i + 1 + j by omega]; exact hi)
      rw [show i + (j + 1) + 1 = i + 1 + j + 1 by omega] at this
      exact this
    refine ⟨ro', mu', ?_, by rw [List.length_cons, show i + (ds.length + 1) = i + 1 + ds.length by omega]; exact h3⟩
    unfold forGo
    rw [e1, bM_some, e2, bM_some]
    dsimp only
    rw [guard', if_pos (show gOk none m0 m2 from True.intro), e3]
theorem dep_int (i : Int) : (toPy (.int i)).depth ≤ 60 := by simp [toPy, PySem.PyData.depth]
theorem lt_int (i j : Int) (mu : Sto) : ltG (.int i) (.int j) mu = some (.bl (decide (i < j)), mu) := by
  unfold ltG
  rw [if_pos (dep_int i)]
  rfl
end PV
namespace PG
open PySem L2 PV PyProof.Rows K1
theorem hand_run {mu : Sto} {k n : Nat} {ns : List Int} (hk : k < 64) (hn : n < 2 ^ 39) : ∃ o, f_law_hand [.lst (ns.map D.int), .int k] mu = some (.ref mu.length, mu ++ [o]) ∧ HandOk (mu ++ [o]) mu.length n := by
  have fin : ∀ c : Int, ∃ a b : Int, sRt (eLstM (aCons (eBin mulD (eVar 2) (eCall intF (aCons (eBin geD (eVar 2) (eBin powD (eC (.int 10)) (eC (.int 18)))) (aNil)))) (aCons (eBin addD (eBin addD (eBin modD (eVar 2) (eC (.int 2305843009213693951))) (eBin mulD (eC (.int 7919)) (eVar 1))) (eC (.int 3))) (aCons (eC (.int 0)) (aNil))))) [some (.lst (ns.map D.int)), some (.int k), some (.int c)] mu = some ((.rt (.ref mu.length), [some (.lst (ns.map D.int)), some (.int k), some (.int c)]), mu ++ [.lst [.int a, .int b, .int 0]]) ∧ (-(2 ^ 63) < b ∧ b < 2 ^ 63) := by
    intro c
    refine ⟨c * (if (1000000000000000000 : Int) ≤ c then 1 else 0), c % 2305843009213693951 + 7919 * (k : Int) + 3, ?_, ?_⟩
    · have p1 : CPow 10 18 := ⟨by decide, by decide, by decide⟩
      have p2 : ∀ b : Bool, CMul c (if b = true then 1 else 0) := fun b => .inr (by cases b <;> exact ⟨by decide, by decide⟩)
      have p3 : CMul 7919 (k : Int) := .inl ⟨by decide, by decide⟩
      have p4 : CMul c (if (1000000000000000000 : Int) ≤ c then 1 else 0) := .inr (by split <;> exact ⟨by decide, by decide⟩)
      simp [sRt, eLstM, aCons, aNil, eBin, eVar, eCall, eC, bM, geD, ordD, powD, p1, intF, intOf, mulD, p3, addD, modD, p4]
    · have := Int.emod_nonneg c (show (2305843009213693951 : Int) ≠ 0 by decide)
      have := Int.emod_lt_of_pos c (show (0 : Int) < 2305843009213693951 by decide)
      omega
  have done : ∀ (a b : Int), (-(2 ^ 63) < b ∧ b < 2 ^ 63) → HandOk (mu ++ [.lst [.int a, .int b, .int 0]]) mu.length n := fun a b hb => ⟨a, b, 0, by simp, hb, Int.le_refl _, by omega⟩
  by_cases c : k < ns.length
  · have e : atI (ns.map D.int) (k : Int) = some (.int ns[k]) := by
      unfold atI ixN
      simp [c]
    obtain ⟨a, b, e2, hb⟩ := fin ns[k]
    refine ⟨_, ?_, done a b hb⟩
    simp only [f_law_hand, fnB, m_law_hand]
    simp [sSeq, sSet, eC, gNm, bM, sIf, tV, eBin, eVar, PV.lt_int, eCall, aCons, aNil, lenF, lenN, asB, c, ixD, lstOf, e] at e2 ⊢
    rw [e2]
  · obtain ⟨a, b, e2, hb⟩ := fin 0
    refine ⟨_, ?_, done a b hb⟩
    simp only [f_law_hand, fnB, m_law_hand]
    simp [sSeq, sSet, eC, gNm, bM, sIf, sNx, tV, eBin, eVar, PV.lt_int, eCall, aCons, aNil, lenF, lenN, asB, c] at e2 ⊢
    rw [e2]
end PG

namespace PG
open PySem L2 PV PyProof.Rows K1
structure T where
  nm : Str
  cs : List (Str × D)
  ks : Nat
def colD (p : Str × D) : D := .tup [.str p.1, p.2]
def tabD (t : T) : D := .tup [.str t.nm, .tup (t.cs.map colD), .int t.ks]
structure TOk (t : T) : Prop where
  w : IsW t.nm
  c0 : 0 < t.cs.length
  c4 : t.cs.length ≤ 4
  k1 : 1 ≤ t.ks
  k4 : t.ks ≤ t.cs.length
theorem append_at {mu : Sto} {r : Nat} {ds : List D} {y : D} (h : mu[r]? = some (.lst ds)) (hl : ds.length < sizeLine) : ∀ ro : Ro, ∀ (i : Nat) (e : Ex), ro[i]? = some (some (.ref r)) → e ro mu = some (y, mu) → sEx (eApp (eVar i) (aCons e aNil)) ro mu = some ((.nx, ro), mu.set r (.lst (ds ++ [y]))) := by
  intro ro i e h1 h2
  have ok : okRef mu (.ref r) = true := by simp [okRef, h]
  simp [sEx, eApp, eVar, h1, bM, ok, aCons, aNil, h2, arg1, h, hl]
theorem len_lst (ds : List D) (mu : Sto) : lenF [.lst ds] mu = some (.int ds.length, mu) := rfl
theorem len_tup (ds : List D) (mu : Sto) : lenF [.tup ds] mu = some (.int ds.length, mu) := rfl
theorem len_str (x : Str) (mu : Sto) : lenF [.str x] mu = some (.int x.length, mu) := rfl
theorem ix_words {ws : List Str} (hw : 0 < ws.length) (x : Int) : ∃ w ∈ ws, ∀ mu, ixD (.lst (ws.map D.str)) (.int (x % (ws.length : Int))) mu = some (.str w, mu) := by
  have h0 := Int.emod_nonneg x (show (ws.length : Int) ≠ 0 by omega)
  have h1 := Int.emod_lt_of_pos x (show (0 : Int) < ws.length by omega)
  obtain ⟨d, hd, e⟩ := at_int (ds := ws.map D.str) h0 (by simpa using h1)
  obtain ⟨w, hw, rfl⟩ := List.mem_map.mp hd
  exact ⟨w, hw, fun mu => by simp [ixD, lstOf, e]⟩
theorem rng_at {n j : Nat} {d : D} (h : (rngD 0 n)[j]? = some d) : d = .int j ∧ j < n := by
  unfold rngD at h
  rw [List.getElem?_map] at h
  cases q : (List.range n)[j]? with
  | none => rw [q] at h; cases h
  | some k =>
    rw [q] at h
    obtain ⟨hj, e⟩ := List.getElem?_eq_some_iff.mp q
    rw [List.length_range] at hj
    rw [List.getElem_range] at e
    subst e
    exact ⟨by simpa using h.symm, hj⟩
theorem cols_run {k n R : Nat} {many : Nat} {sh : Int} {ws st : List Str} {fnd : D} {nms nm1 : D} (hm : many ≤ 4) (hw : ws.length = 6) (hs : st.length = 5) {mu : Sto} (hR : mu[R]? = some (.lst [])) (hkR : R ≠ k) (h : HandOk mu k (n + 2 * many)) {m0 : Sto} {x12 x13 x14 : Option D} :
    ∃ (ro' : Ro) (mu' : Sto) (cs : List (Str × D)), forGo none m0 (gNm 12) (sSeq (sSet (eBin addD (eC (.int 1)) (eCall f_law_take (aCons (eVar 0) (aCons (eVar 3) (aNil))))) (gNm 13)) (sSeq (sSet (eCall f_law_take (aCons (eVar 0) (aCons (eC (.int 2)) (aNil)))) (gNm 14)) (sEx (eApp (eVar 11) (aCons (eTup (aCons (eBin ixD (eVar 5) (eBin modD (eBin addD (eVar 12) (eVar 10)) (eCall lenF (aCons (eVar 5) (aNil))))) (aCons (eCall tupF (aCons (eLC (iRg (aCons (eVar 13) (aNil))) 1 [6, 14] (gNm 0) (tY) (eBin ixD (eVar 1) (eBin modD (eBin addD (eVar 0) (eVar 2)) (eCall lenF (aCons (eVar 1) (aNil)))))) (aNil))) (aNil)))) (aNil)))))) (rngD 0 many) [some (.ref k), some (.int 4), some (.int 4), some (.int 4), some nms, some (.lst (ws.map D.str)), some (.lst (st.map D.str)), some fnd, some nm1, some (.int many), some (.int sh), some (.ref R), x12, x13, x14] mu = some ((.nx, ro'), mu') ∧
      (∃ y12 y13 y14, ro' = [some (.ref k), some (.int 4), some (.int 4), some (.int 4), some nms, some (.lst (ws.map D.str)), some (.lst (st.map D.str)), some fnd, some nm1, some (.int many), some (.int sh), some (.ref R), y12, y13, y14]) ∧
      mu'[R]? = some (.lst (cs.map colD)) ∧ cs.length = many ∧ HandOk mu' k n ∧ (∀ j, j < mu.length → j ≠ k → j ≠ R → mu'[j]? = mu[j]?) ∧ mu.length ≤ mu'.length := by
  have key := for_ind (m0 := m0) (tg := gNm 12) (body := (sSeq (sSet (eBin addD (eC (.int 1)) (eCall f_law_take (aCons (eVar 0) (aCons (eVar 3) (aNil))))) (gNm 13)) (sSeq (sSet (eCall f_law_take (aCons (eVar 0) (aCons (eC (.int 2)) (aNil)))) (gNm 14)) (sEx (eApp (eVar 11) (aCons (eTup (aCons (eBin ixD (eVar 5) (eBin modD (eBin addD (eVar 12) (eVar 10)) (eCall lenF (aCons (eVar 5) (aNil))))) (aCons (eCall tupF (aCons (eLC (iRg (aCons (eVar 13) (aNil))) 1 [6, 14] (gNm 0) (tY) (eBin ixD (eVar 1) (eBin modD (eBin addD (eVar 0) (eVar 2)) (eCall lenF (aCons (eVar 1) (aNil)))))) (aNil))) (aNil)))) (aNil))))))) (fun i ro m => (∃ y12 y13 y14, ro = [some (.ref k), some (.int 4), some (.int 4), some (.int 4), some nms, some (.lst (ws.map D.str)), some (.lst (st.map D.str)), some fnd, some nm1, some (.int many), some (.int sh), some (.ref R), y12, y13, y14]) ∧ (∃ cs : List (Str × D), m[R]? = some (.lst (cs.map colD)) ∧ cs.length = i) ∧ i ≤ many ∧ HandOk m k (n + 2 * (many - i)) ∧ (∀ j, j < mu.length → j ≠ k → j ≠ R → m[j]? = mu[j]?) ∧ mu.length ≤ m.length) (rngD 0 many) 0 [some (.ref k), some (.int 4), some (.int 4), some (.int 4), some nms, some (.lst (ws.map D.str)), some (.lst (st.map D.str)), some fnd, some nm1, some (.int many), some (.int sh), some (.ref R), x12, x13, x14] mu
    ⟨⟨x12, x13, x14, rfl⟩, ⟨[], hR, rfl⟩, Nat.zero_le _, h, fun _ _ _ _ => rfl, Nat.le_refl _⟩ fun j d ro m ed hi => by
      obtain ⟨⟨y12, y13, y14, rfl⟩, ⟨cs, hR', hl⟩, hle, hh, hkeep, hlen⟩ := hi
      obtain ⟨rfl, hj⟩ := rng_at ed
      obtain ⟨_, m1, e1, f1, t1, rfl, a0, a1⟩ := take_run (m := 4) (n := n + 2 * (many - (0 + j + 1)) + 1) (hh.mono (by omega)) (by decide) (by decide)
      obtain ⟨_, m2, e2, f2, t2, rfl, b0, b1⟩ := take_run (m := 2) (n := n + 2 * (many - (0 + j + 1))) f1.hand (by decide) (by decide)
      have fr := f1.trans f2
      have hRl : R < m.length := (List.getElem?_eq_some_iff.mp hR').1
      have hR2 : m2[R]? = some (.lst (cs.map colD)) := (fr.keep R hRl hkR).trans hR'
      obtain ⟨c, _, ec⟩ := ix_words (ws := ws) (by omega) ((j : Int) + sh)
      have st0 : 0 < st.length := by omega
      have lc : ∃ g : D → D, lcGo none m2 (gNm 0) tY (eBin ixD (eVar 1) (eBin modD (eBin addD (eVar 0) (eVar 2)) (eCall lenF (aCons (eVar 1) (aNil))))) [none, some (.lst (st.map D.str)), some (.int t2)] (rngD 0 (1 + t1).toNat) m2 = some ((rngD 0 (1 + t1).toNat).map g, m2) := by
        have pick : ∀ x : Int, ∃ w, ∀ mu, ixD (.lst (st.map D.str)) (.int (x % (st.length : Int))) mu = some (.str w, mu) := fun x => by
          obtain ⟨w, _, e⟩ := ix_words st0 x
          exact ⟨w, e⟩
        refine ⟨fun d => match d with | .int i => .str (Classical.choose (pick (i + t2))) | _ => .non, lc_all _ _ fun d hd => ⟨_, rfl, ?_⟩⟩
        unfold rngD at hd
        obtain ⟨i, _, rfl⟩ := List.mem_map.mp hd
        have ep := Classical.choose_spec (pick ((0 + (i : Int)) + t2)) m2
        have l0 : (0 : Int) < (st.length : Int) := by omega
        simp only [eBin, eVar, bM, eCall, aCons, aNil, PG.len_lst, addD, modD, List.set, List.getElem?_cons_zero, List.getElem?_cons_succ, Option.map_some, List.length_map, l0, if_true]
        exact ep
      obtain ⟨g, lc⟩ := lc
      have rg : -(2 ^ 62) ≤ 1 + t1 ∧ 1 + t1 ≤ (sizeLine : Int) := ⟨by omega, by rw [sizeLine_eq]; omega⟩
      have rg2 : (-4611686018427387904 : Int) ≤ 1 + t1 := by omega
      have l6 : (0 : Int) < (ws.length : Int) := by omega
      have l7 : 0 < ws.length := by omega
      have hR3 : (m2.set R (.lst (cs.map colD ++ [colD (c, .tup ((rngD 0 (1 + t1).toNat).map g))])))[R]? = some (.lst ((cs ++ [(c, D.tup ((rngD 0 (1 + t1).toNat).map g))]).map colD)) := by rw [set_hand hR2, List.map_append]; rfl
      have ap := append_at hR2 (y := colD (c, .tup ((rngD 0 (1 + t1).toNat).map g))) (by rw [List.length_map, hl, sizeLine_eq]; omega) [some (.ref k), some (.int 4), some (.int 4), some (.int 4), some nms, some (.lst (ws.map D.str)), some (.lst (st.map D.str)), some fnd, some nm1, some (.int many), some (.int sh), some (.ref R), some (.int j), some (.int (1 + t1)), some (.int t2)] 11 (eTup (aCons (eBin ixD (eVar 5) (eBin modD (eBin addD (eVar 12) (eVar 10)) (eCall lenF (aCons (eVar 5) (aNil))))) (aCons (eCall tupF (aCons (eLC (iRg (aCons (eVar 13) (aNil))) 1 [6, 14] (gNm 0) (tY) (eBin ixD (eVar 1) (eBin modD (eBin addD (eVar 0) (eVar 2)) (eCall lenF (aCons (eVar 1) (aNil)))))) (aNil))) (aNil)))) rfl (by
        have ew := ec m2
        have cd : colD (c, .tup ((rngD 0 (1 + t1).toNat).map g)) = .tup [.str c, .tup ((rngD 0 (1 + t1).toNat).map g)] := rfl
        rw [cd]
        simp [eTup, aCons, aNil, eLC, iRg, eVar, bM, PV.int1, rg, rg2, r0, lc, eCall, tupF, sq1, arg1, seqOf, lstOf, PG.len_lst, addD, modD, l6, l7, ew, eBin])
      refine ⟨_, m, _, _, rfl, ?_, ⟨some (.int j), some (.int (1 + t1)), some (.int t2), rfl⟩, ⟨_, hR3, by simp [hl]⟩, by omega, ?_, ?_, ?_⟩
      · simp only [sSeq, sSet, eBin, eC, eCall, aCons, aNil, eVar, bM, List.set, List.getElem?_cons_zero, List.getElem?_cons_succ, e1, addD, gNm, e2]
        exact ap
      · obtain ⟨a, b, c', h1, h2⟩ := f2.hand
        exact ⟨a, b, c', by rw [List.getElem?_set_ne hkR]; exact h1, h2⟩
      · intro i hi hik hiR
        rw [List.getElem?_set_ne (Ne.symm hiR)]
        exact (fr.keep i (Nat.lt_of_lt_of_le hi hlen) hik).trans (hkeep i hi hik hiR)
      · rw [List.length_set]
        exact Nat.le_trans hlen fr.len
  obtain ⟨ro', mu', e, a1, ⟨cs, a2, a3⟩, a4, a5, a6, a7⟩ := key
  have ln : (rngD 0 many).length = many := by simp [rngD]
  rw [ln] at a3 a5
  refine ⟨ro', mu', cs, e, a1, a2, by omega, a5.mono (by omega), a6, a7⟩
end PG

namespace PG
open PySem L2 PV PyProof.Rows K1
structure SOk (ts : List T) : Prop where
  ne : ts ≠ []
  le : ts.length ≤ 4
  nd : (ts.map T.nm).Nodup
  ok : ∀ t ∈ ts, TOk t
theorem strs_map (ss : List Str) : strsOf (ss.map D.str) = some ss := by
  induction ss with
  | nil => rfl
  | cons x xs ih => simp [strsOf, ih]
theorem srt_strs {ss : List Str} (h : ss.length < 64) (mu : Sto) : srtG [.lst (ss.map D.str)] mu = some (.lst ((sortS ss).map D.str), mu) := by
  have : srtF [.lst (ss.map D.str)] mu = some (.lst ((sortS ss).map D.str), mu) := by
    simp [srtF, arg1, lstOf, strs_map, h]
  unfold srtG
  rw [this]
theorem append_at2 {mu mu' : Sto} {r : Nat} {ds ds0 : List D} {y : D} (h0 : mu[r]? = some (.lst ds0)) (h : mu'[r]? = some (.lst ds)) (hl : ds.length < sizeLine) (ro : Ro) (i : Nat) (e : Ex) (h1 : ro[i]? = some (some (.ref r))) (h2 : e ro mu = some (y, mu')) : sEx (eApp (eVar i) (aCons e aNil)) ro mu = some ((.nx, ro), mu'.set r (.lst (ds ++ [y]))) := by
  have ok : okRef mu (.ref r) = true := by simp [okRef, h0]
  simp [sEx, eApp, eVar, h1, bM, ok, aCons, aNil, h2, arg1, h, hl]
noncomputable def tBody : Sx := (sSeq (sSet (eBin addD (eC (.int 1)) (eCall f_law_take (aCons (eVar 0) (aCons (eVar 2) (aNil))))) (gNm 9)) (sSeq (sSet (eCall f_law_take (aCons (eVar 0) (aCons (eC (.int 3)) (aNil)))) (gNm 10)) (sSeq (sSet (eLstM (aNil)) (gNm 11)) (sSeq (sFor (iRg (aCons (eVar 9) (aNil))) (gNm 12) (sSeq (sSet (eBin addD (eC (.int 1)) (eCall f_law_take (aCons (eVar 0) (aCons (eVar 3) (aNil))))) (gNm 13)) (sSeq (sSet (eCall f_law_take (aCons (eVar 0) (aCons (eC (.int 2)) (aNil)))) (gNm 14)) (sEx (eApp (eVar 11) (aCons (eTup (aCons (eBin ixD (eVar 5) (eBin modD (eBin addD (eVar 12) (eVar 10)) (eCall lenF (aCons (eVar 5) (aNil))))) (aCons (eCall tupF (aCons (eLC (iRg (aCons (eVar 13) (aNil))) 1 [6, 14] (gNm 0) (tY) (eBin ixD (eVar 1) (eBin modD (eBin addD (eVar 0) (eVar 2)) (eCall lenF (aCons (eVar 1) (aNil)))))) (aNil))) (aNil)))) (aNil))))))) (sEx (eApp (eVar 7) (aCons (eTup (aCons (eVar 8) (aCons (eCall tupF (aCons (eVar 11) (aNil))) (aCons (eBin addD (eC (.int 1)) (eCall f_law_take (aCons (eVar 0) (aCons (eVar 9) (aNil))))) (aNil))))) (aNil))))))))
theorem tab_step {k n F : Nat} {nm : Str} {ws st : List Str} {nms : D} {ts : List T} {mu : Sto} {x8 x9 x10 x11 x12 x13 x14 : Option D} (hw : ws.length = 6) (hs : st.length = 5) (hW : IsW nm) (hF : mu[F]? = some (.lst (ts.map tabD))) (hts : ts.length ≤ 4) (hkF : F ≠ k) (h : HandOk mu k (n + 11)) :
    ∃ ro2 m2 t, tBody [some (.ref k), some (.int 4), some (.int 4), some (.int 4), some nms, some (.lst (ws.map D.str)), some (.lst (st.map D.str)), some (.ref F), some (.str nm), x9, x10, x11, x12, x13, x14] mu = some ((.nx, ro2), m2) ∧
      (∃ y9 y10 y11 y12 y13 y14, ro2 = [some (.ref k), some (.int 4), some (.int 4), some (.int 4), some nms, some (.lst (ws.map D.str)), some (.lst (st.map D.str)), some (.ref F), some (.str nm), y9, y10, y11, y12, y13, y14]) ∧
      t.nm = nm ∧ TOk t ∧ m2[F]? = some (.lst ((ts ++ [t]).map tabD)) ∧ HandOk m2 k n ∧ (∀ j, j < mu.length → j ≠ k → j ≠ F → m2[j]? = mu[j]?) ∧ mu.length ≤ m2.length := by
  obtain ⟨_, m1, e1, f1, t1, rfl, a0, a1⟩ := take_run (m := 4) (n := n + 10) h (by decide) (by decide)
  obtain ⟨_, m2, e2, f2, t2, rfl, b0, b1⟩ := take_run (m := 3) (n := n + 9) f1.hand (by decide) (by decide)
  have fr := f1.trans f2
  have hkl : k < mu.length := by obtain ⟨a, b, c, q, _⟩ := h; exact (List.getElem?_eq_some_iff.mp q).1
  have hFl : F < mu.length := (List.getElem?_eq_some_iff.mp hF).1
  obtain ⟨c, rfl⟩ : ∃ c : Nat, t1 = (c : Int) := ⟨t1.toNat, by omega⟩
  have hR : (m2 ++ [MO.lst []])[m2.length]? = some (.lst []) := by simp
  have hk2 : k < m2.length := Nat.lt_of_lt_of_le hkl fr.len
  have hF2 : F < m2.length := Nat.lt_of_lt_of_le hFl fr.len
  have hand2 : HandOk (m2 ++ [MO.lst []]) k (n + 9) := by
    obtain ⟨a, b, c', q, r⟩ := f2.hand
    exact ⟨a, b, c', by rw [List.getElem?_append_left hk2]; exact q, r⟩
  obtain ⟨ro3, m3, cs, e3, ⟨y12, y13, y14, er⟩, g1, g2, g3, g4, g5⟩ := cols_run (many := 1 + c) (sh := t2) (fnd := .ref F) (nms := nms) (nm1 := .str nm) (n := n + 1) (by omega) hw hs hR (by omega) (hand2.mono (by omega)) (m0 := m2 ++ [MO.lst []]) (x12 := x12) (x13 := x13) (x14 := x14)
  subst er
  have F3 : m3[F]? = some (.lst (ts.map tabD)) := by
    rw [g4 F (by simp; omega) hkF (by omega), List.getElem?_append_left hF2, fr.keep F hFl hkF, hF]
  obtain ⟨_, m4, e4, f4, t4, rfl, c0, c1⟩ := take_run (m := ((1 + c : Nat) : Int)) (n := n) g3 (by omega) (by omega)
  have hl3 : m2.length < m3.length := by have := g5; simp at this; omega
  have F4 : m4[F]? = some (.lst (ts.map tabD)) := (f4.keep F (by omega) hkF).trans F3
  have R4 : m3[m2.length]? = some (.lst (cs.map colD)) := g1
  have tl : (ts.map tabD).length < sizeLine := by rw [List.length_map, sizeLine_eq]; omega
  have ap := append_at2 F3 F4 (y := tabD ⟨nm, cs, (1 + t4).toNat⟩) tl [some (.ref k), some (.int 4), some (.int 4), some (.int 4), some nms, some (.lst (ws.map D.str)), some (.lst (st.map D.str)), some (.ref F), some (.str nm), some (.int ((1 + c : Nat) : Int)), some (.int t2), some (.ref m2.length), y12, y13, y14] 7 (eTup (aCons (eVar 8) (aCons (eCall tupF (aCons (eVar 11) (aNil))) (aCons (eBin addD (eC (.int 1)) (eCall f_law_take (aCons (eVar 0) (aCons (eVar 9) (aNil))))) (aNil))))) rfl (by
    have cd : tabD ⟨nm, cs, (1 + t4).toNat⟩ = .tup [.str nm, .tup (cs.map colD), .int (1 + t4)] := by
      unfold tabD
      rw [show (((1 + t4).toNat : Nat) : Int) = 1 + t4 by omega]
    rw [cd]
    simp only [eTup, aCons, aNil, eVar, eCall, bM, tupF, sq1, arg1, seqOf, lstOf, R4, Option.map_some, eBin, eC, e4, addD, List.getElem?_cons_zero, List.getElem?_cons_succ])
  have tok : TOk ⟨nm, cs, (1 + t4).toNat⟩ := ⟨hW, (show 0 < cs.length by omega), (show cs.length ≤ 4 by omega), (show 1 ≤ (1 + t4).toNat by omega), (show (1 + t4).toNat ≤ cs.length by omega)⟩
  have F5 : (m4.set F (.lst (ts.map tabD ++ [tabD (⟨nm, cs, (1 + t4).toNat⟩ : T)])))[F]? = some (.lst ((ts ++ [(⟨nm, cs, (1 + t4).toNat⟩ : T)]).map tabD)) := by rw [set_hand F4, List.map_append]; rfl
  refine ⟨[some (.ref k), some (.int 4), some (.int 4), some (.int 4), some nms, some (.lst (ws.map D.str)), some (.lst (st.map D.str)), some (.ref F), some (.str nm), some (.int ((1 + c : Nat) : Int)), some (.int t2), some (.ref m2.length), y12, y13, y14], m4.set F (.lst (ts.map tabD ++ [tabD (⟨nm, cs, (1 + t4).toNat⟩ : T)])), ⟨nm, cs, (1 + t4).toNat⟩, ?_, ⟨_, _, _, _, _, _, rfl⟩, rfl, tok, F5, ?_, ?_, ?_⟩
  · have ce : (1 : Int) + (c : Int) = ((1 + c : Nat) : Int) := by omega
    have rg : -(2 ^ 62) ≤ ((1 + c : Nat) : Int) ∧ ((1 + c : Nat) : Int) ≤ (sizeLine : Int) := ⟨by omega, by rw [sizeLine_eq]; omega⟩
    unfold tBody
    simp only [sSeq, sSet, eBin, eC, eCall, aCons, aNil, eVar, bM, List.set, List.getElem?_cons_zero, List.getElem?_cons_succ, e1, addD, gNm, e2, eLstM, ce]
    simp only [sFor, iRg, aCons, aNil, eVar, bM, List.getElem?_cons_zero, List.getElem?_cons_succ, PV.int1, rg, and_self, if_true, Int.toNat_natCast]
    rw [e3]
    exact ap
  · obtain ⟨a, b, c', h1, h2⟩ := f4.hand
    exact ⟨a, b, c', by rw [List.getElem?_set_ne hkF]; exact h1, h2⟩
  · intro i hi hik hiF
    rw [List.getElem?_set_ne (Ne.symm hiF), f4.keep i (by have := fr.len; omega) hik, g4 i (by have := fr.len; simp; omega) hik (by have := fr.len; omega), List.getElem?_append_left (by have := fr.len; omega), fr.keep i hi hik]
  · rw [List.length_set]
    have := fr.len
    have := f4.len
    omega
theorem for_lst {i : Nat} {tg : Gx} {body : Sx} {ro : Ro} {mu : Sto} {ds : List D} (h : ro[i]? = some (some (.lst ds))) : sFor (iVal (eVar i)) tg body ro mu = forGo none mu tg body ds ro mu := by
  simp only [sFor, iVal, eVar, h, bM]
theorem for_tup {i : Nat} {tg : Gx} {body : Sx} {ro : Ro} {mu : Sto} {ds : List D} (h : ro[i]? = some (some (.tup ds))) : sFor (iVal (eVar i)) tg body ro mu = forGo none mu tg body ds ro mu := by
  simp only [sFor, iVal, eVar, h, bM]
theorem schema_run {mu : Sto} {k n : Nat} (h : HandOk mu k (n + 60)) : Run (f_law_schema [.ref k, .int 4, .int 4, .int 4] mu) k n mu fun d => ∃ ts, d = .tup (ts.map tabD) ∧ SOk ts := by
  obtain ⟨_, m1, e1, f1, t1, rfl, a0, a1⟩ := take_run (m := 4) (n := n + 59) h (by decide) (by decide)
  obtain ⟨_, m2, e2, f2, nm, rfl, nl, nd, nW⟩ := words_run (many := 1 + t1) (n := n + 54) (by omega) (by omega) f1.hand
  obtain ⟨_, m3, e3, f3, ws, rfl, wl, wd, wW⟩ := words_run (many := 6) (n := n + 49) (by omega) (by omega) f2.hand
  obtain ⟨_, m4, e4, f4, st, rfl, sl, sd, sW⟩ := words_run (many := 5) (n := n + 44) (by omega) (by omega) f3.hand
  have fr := ((f1.trans f2).trans f3).trans f4
  have sp := sortS_perm nm
  have hnl : (sortS nm).length = nm.length := sp.length_eq
  have hkl : k < m4.length := by obtain ⟨a, b, c, q, _⟩ := f4.hand; exact (List.getElem?_eq_some_iff.mp q).1
  have hand5 : HandOk (m4 ++ [MO.lst []]) k (n + 44) := by
    obtain ⟨a, b, c', q, r⟩ := f4.hand
    exact ⟨a, b, c', by rw [List.getElem?_append_left hkl]; exact q, r⟩
  have key := for_ind (m0 := m4 ++ [MO.lst []]) (tg := gNm 8) (body := tBody) (fun i ro m => (∃ y8 y9 y10 y11 y12 y13 y14, ro = [some (.ref k), some (.int 4), some (.int 4), some (.int 4), some (.lst ((sortS nm).map D.str)), some (.lst (ws.map D.str)), some (.lst (st.map D.str)), some (.ref m4.length), y8, y9, y10, y11, y12, y13, y14]) ∧
      (∃ ts : List T, m[m4.length]? = some (.lst (ts.map tabD)) ∧ ts.length = i ∧ ts.map T.nm = (sortS nm).take i ∧ ∀ t ∈ ts, TOk t) ∧ i ≤ (sortS nm).length ∧ HandOk m k (n + 11 * ((sortS nm).length - i)) ∧ (∀ j, j < m4.length → j ≠ k → m[j]? = m4[j]?) ∧ m4.length < m.length) ((sortS nm).map D.str) 0
      [some (.ref k), some (.int 4), some (.int 4), some (.int 4), some (.lst ((sortS nm).map D.str)), some (.lst (ws.map D.str)), some (.lst (st.map D.str)), some (.ref m4.length), none, none, none, none, none, none, none] (m4 ++ [MO.lst []])
      ⟨⟨_, _, _, _, _, _, _, rfl⟩, ⟨[], by simp, rfl, by simp, fun t ht => nomatch ht⟩, Nat.zero_le _, hand5.mono (by omega), fun j hj _ => List.getElem?_append_left hj, by simp⟩ fun j d ro m ed hi => by
    obtain ⟨⟨y8, y9, y10, y11, y12, y13, y14, rfl⟩, ⟨ts, hF, tl, tn, tok⟩, hle, hh, hkeep, hlen⟩ := hi
    rw [List.getElem?_map] at ed
    cases q : (sortS nm)[j]? with
    | none => rw [q] at ed; cases ed
    | some x =>
      rw [q] at ed
      have ed' : D.str x = d := by simpa using ed
      subst ed'
      obtain ⟨hj, ex⟩ := List.getElem?_eq_some_iff.mp q
      have hxm : x ∈ nm := sp.mem_iff.mp (by rw [← ex]; exact List.getElem_mem hj)
      obtain ⟨ro2, m2', t, g1, g2, g3, g4, g5, g6, g7, g8⟩ := tab_step (n := n + 11 * ((sortS nm).length - (0 + j + 1))) (nms := .lst ((sortS nm).map D.str)) (x8 := y8) (x9 := y9) (x10 := y10) (x11 := y11) (x12 := y12) (x13 := y13) (x14 := y14) (ws := ws) (st := st) (by omega) (by omega) (nW x hxm) hF (by omega) (by omega) (hh.mono (by omega))
      obtain ⟨z9, z10, z11, z12, z13, z14, rfl⟩ := g2
      refine ⟨_, m, _, m2', rfl, g1, ⟨_, _, _, _, _, _, _, rfl⟩, ⟨ts ++ [t], g5, by simp [tl], ?_, ?_⟩, by omega, g6, fun i hi hik => ?_, by omega⟩
      · rw [List.map_append, tn, List.map_cons, List.map_nil, g3]
        have := List.take_add_one (l := sortS nm) (i := 0 + j)
        rw [this, Nat.zero_add, q]
        rfl
      · intro u hu
        rcases List.mem_append.mp hu with hu | hu
        · exact tok u hu
        · rw [List.mem_singleton.mp hu]; exact g4
      · rw [g7 i (by omega) hik (by omega), hkeep i hi hik]
  obtain ⟨ro', mu', e5, ⟨_, _, _, _, _, _, _, rfl⟩, ⟨ts, b1, b2, b3, b4⟩, b5, b6, b7, b8⟩ := key
  have lnm : ((sortS nm).map D.str).length = (sortS nm).length := by simp
  rw [lnm] at b2 b3 b6
  refine ⟨.tup (ts.map tabD), mu', ?_, ⟨b6.mono (by omega), fun j hj hk => ?_, by have := fr.len; omega⟩, ts, rfl, ⟨?_, by omega, ?_, b4⟩⟩
  · have s64 : nm.length < 64 := by omega
    unfold tBody at e5
    simp only [f_law_schema, fnB, m_law_schema]
    simp only [List.map_cons, List.map_nil, List.length_cons, List.length_nil, List.replicate, List.cons_append, List.nil_append, sSeq, sSet, eCall, aCons, aNil, eVar, eBin, eC, addD, bM, List.set, List.getElem?_cons_zero, List.getElem?_cons_succ, e1, e2, srt_strs s64, gNm, Int.reduceAdd, e3, e4, eLstM]
    rw [for_lst rfl, e5]
    simp only [sRt, eCall, aCons, aNil, eVar, bM, List.getElem?_cons_zero, List.getElem?_cons_succ, tupF, sq1, arg1, seqOf, lstOf, b1, Option.map_some]
  · rw [b7 j (by have := fr.len; omega) hk, fr.keep j hj hk]
  · intro z
    rw [z] at b2
    simp at b2
    omega
  · rw [b3, Nat.zero_add, List.take_length]
    exact sp.nodup_iff.mpr nd
end PG

namespace PG
open PySem L2 PV PyProof.Rows K1
theorem dep_str (x : Str) : (toPy (.str x)).depth ≤ 60 := by simp [toPy, PySem.PyData.depth]
theorem pure_strs (ss : List Str) : pureL (ss.map D.str) = true := by
  induction ss with
  | nil => rfl
  | cons x xs ih => simp [pureL, pureD, ih]
theorem any_strs (x : Str) (ss : List Str) : ((toPys (ss.map D.str)).any fun y => PyData.eqv y (toPy (.str x))) = decide (x ∈ ss) := by
  induction ss with
  | nil => rfl
  | cons y ys ih =>
    rw [List.map_cons, toPys, List.any_cons, ih]
    simp only [toPy, PyData.eqv, List.mem_cons]
    by_cases c : y = x
    · subst c; simp
    · have c' : ¬ x = y := fun z => c z.symm
      simp [c, c']
theorem in_strs (x : Str) (ss : List Str) (mu : Sto) : inB mu (.str x) (.lst (ss.map D.str)) = some (decide (x ∈ ss)) := by
  have hd : min (PyData.depthAll (toPys (ss.map D.str))) (toPy (.str x)).depth ≤ 60 := Nat.le_trans (Nat.min_le_right _ _) (dep_str x)
  have hp : pureD (.str x) = true := rfl
  simp only [inB, PV.seen, pure_strs, hp, hd, decide_true, Bool.and_self, if_true, any_strs]
theorem eq_strs (x y : Str) (mu : Sto) : eqD (.str x) (.str y) mu = some (.bl (decide (x = y)), mu) := by
  have hd : min (toPy (.str x)).depth (toPy (.str y)).depth ≤ 60 := Nat.le_trans (Nat.min_le_right _ _) (dep_str y)
  have hp : ∀ z : Str, pureD (.str z) = true := fun _ => rfl
  simp only [eqD, eqB, PV.seen, hp, hd, decide_true, Bool.and_self, if_true, Option.map_some]
  simp only [toPy, PyData.eqv]
  by_cases c : x = y
  · subst c; simp
  · simp [c]
theorem ix0 (d : D) (ds : List D) (mu : Sto) : ixD (.tup (d :: ds)) (.int 0) mu = some (d, mu) := by simp [ixD, atI, ixN]
theorem ix1 (d e : D) (ds : List D) (mu : Sto) : ixD (.tup (d :: e :: ds)) (.int 1) mu = some (e, mu) := by
  have : (1 : Int) < ((d :: e :: ds).length : Int) := by simp; omega
  simp only [ixD, atI, ixN, this, if_true]
  rfl
theorem ix2 (d e f : D) (ds : List D) (mu : Sto) : ixD (.tup (d :: e :: f :: ds)) (.int 2) mu = some (f, mu) := by
  have : (2 : Int) < ((d :: e :: f :: ds).length : Int) := by simp; omega
  simp only [ixD, atI, ixN, this, if_true]
  rfl
theorem ix0l (d : D) (ds : List D) (mu : Sto) : ixD (.lst (d :: ds)) (.int 0) mu = some (d, mu) := by simp [ixD, atI, ixN, lstOf]
theorem bls_map (bs : List Bool) : blsOf (bs.map D.bl) = some bs := by
  induction bs with
  | nil => rfl
  | cons b bs ih => simp [blsOf, ih]
theorem all_map (bs : List Bool) (mu : Sto) : allF [.lst (bs.map D.bl)] mu = some (.bl (bs.all id), mu) := by
  simp [allF, quF, arg1, lstOf, bls_map]
def inS (x : Str) : Bool := !(Builtin.Str.occurrences (Str.ofString "abcdefghijklmnopqrstuvwxyz0123456789") x 0 (Str.ofString "abcdefghijklmnopqrstuvwxyz0123456789").length 1).isEmpty
def wB (x : Str) : Bool := decide (1 ≤ x.length) && (decide (x.length ≤ 8) && x.cps.toList.all fun c => inS ⟨#[c]⟩)
def nR : D → Bool
  | .ref _ => false
  | _ => true
theorem in_S : ∀ c ∈ SIGNS.cps.toList, inS ⟨#[c]⟩ = true := by decide +kernel
theorem wB_of {x : Str} (h : IsW x) : wB x = true := by
  unfold wB
  have := h.lo
  have := h.hi
  simp only [Bool.and_eq_true, decide_eq_true_eq, List.all_eq_true]
  exact ⟨h.lo, h.hi, fun c hc => in_S c (h.al c hc)⟩
theorem word_str (x : Str) (mu : Sto) : f_is_word [.str x] mu = some (.bl (wB x), mu) := by
  have lc : lcGo none mu (gNm 0) tY (eBin inD (eVar 0) (eC (.str (Str.ofString "abcdefghijklmnopqrstuvwxyz0123456789")))) [none] (chars x) mu = some ((x.cps.toList.map fun c => inS ⟨#[c]⟩).map D.bl, mu) := by
    have e : (x.cps.toList.map fun c => inS ⟨#[c]⟩).map D.bl = (chars x).map fun d => match d with | .str y => .bl (inS y) | _ => .non := by
      (unfold chars); rw [List.map_map, List.map_map]
      rfl
    rw [e]
    refine lc_all _ _ fun d hd => ⟨_, rfl, ?_⟩
    unfold chars at hd
    obtain ⟨c, _, rfl⟩ := List.mem_map.mp hd
    simp only [eBin, eVar, eC, bM, List.set, List.getElem?_cons_zero, inD, inB, PV.seen, Option.map_some, inS]
  have al := all_map (x.cps.toList.map fun c => inS ⟨#[c]⟩) mu
  have ae : (x.cps.toList.map fun c => inS ⟨#[c]⟩).all id = x.cps.toList.all fun c => inS ⟨#[c]⟩ := by rw [List.all_map]; rfl
  have wb : wB x = (decide (1 ≤ x.length) && (decide (x.length ≤ 8) && (x.cps.toList.map fun c => inS ⟨#[c]⟩).all id)) := by rw [ae]; rfl
  rw [wb]
  generalize (x.cps.toList.map fun c => inS ⟨#[c]⟩) = bs at lc al
  by_cases c1 : 1 ≤ x.length
  · by_cases c2 : x.length ≤ 8
    · have d1 : (1 : Int) ≤ (x.length : Int) := by omega
      have d2 : (x.length : Int) ≤ 8 := by omega
      simp only [f_is_word, fnB, m_is_word]
      simp [sSeq, sIf, tO, tNt, tV, eIsi, eVar, bM, okRef, isi, tyN, asB, eChain, leD, ordD, eC, eCall, aCons, aNil, PG.len_str, d1, d2, sNx, sRt, eLC, iVal, r0, lc, al, c1, c2]
    · have d1 : (1 : Int) ≤ (x.length : Int) := by omega
      have d2 : ¬ (x.length : Int) ≤ 8 := by omega
      simp only [f_is_word, fnB, m_is_word]
      simp [sSeq, sIf, tO, tNt, tV, eIsi, eVar, bM, okRef, isi, tyN, asB, eChain, leD, ordD, eC, eCall, aCons, aNil, PG.len_str, d1, d2, sNx, sRt, c1, c2]
  · have d1 : ¬ (1 : Int) ≤ (x.length : Int) := by omega
    simp only [f_is_word, fnB, m_is_word]
    simp [sSeq, sIf, tO, tNt, tV, eIsi, eVar, bM, okRef, isi, tyN, asB, eChain, leD, ordD, eC, eCall, aCons, aNil, PG.len_str, d1, sNx, sRt, c1]
theorem word_not {d : D} (h : nR d = true) (hs : ∀ x, d ≠ .str x) (mu : Sto) : f_is_word [d] mu = some (.bl false, mu) := by
  simp only [f_is_word, fnB, m_is_word]
  cases d with
  | str x => exact absurd rfl (hs x)
  | ref k => cases h
  | _ => simp [sSeq, sIf, tO, tNt, tV, eIsi, eVar, bM, okRef, isi, tyN, asB, eC, sNx, sRt]
def tupB : D → Bool
  | .tup [_, _] => true
  | _ => false
theorem tuple_22 {d : D} (h : nR d = true) (mu : Sto) : f_is_tuple [d, .int 2, .int 2] mu = some (.bl (tupB d), mu) := by
  simp only [f_is_tuple, fnB, m_is_tuple]
  cases d with
  | ref k => cases h
  | tup ds =>
    match ds with
    | [] => simp [sRt, eAn, eIsi, eVar, bM, okRef, isi, tyN, asB, eChain, leD, ordD, eCall, aCons, aNil, PG.len_tup, tupB]
    | [_] => simp [sRt, eAn, eIsi, eVar, bM, okRef, isi, tyN, asB, eChain, leD, ordD, eCall, aCons, aNil, PG.len_tup, tupB]
    | [_, _] => simp [sRt, eAn, eIsi, eVar, bM, okRef, isi, tyN, asB, eChain, leD, ordD, eCall, aCons, aNil, PG.len_tup, tupB]
    | a :: b :: c :: r =>
      have d1 : (2 : Int) ≤ ((a :: b :: c :: r).length : Int) := by simp; omega
      have d2 : ¬ ((a :: b :: c :: r).length : Int) ≤ 2 := by simp; omega
      have tb : tupB (.tup (a :: b :: c :: r)) = false := rfl
      rw [tb]
      generalize a :: b :: c :: r = ds at d1 d2
      simp [sRt, eAn, eIsi, eVar, bM, okRef, isi, tyN, asB, eChain, leD, ordD, eCall, aCons, aNil, PG.len_tup, d1, d2]
  | _ => simp [sRt, eAn, eIsi, eVar, bM, okRef, isi, tyN, asB, tupB]
theorem names_lc (ts : List T) (mu m0 : Sto) : lcGo none m0 (gNm 0) tY (eBin ixD (eVar 0) (eC (.int 0))) [none] (ts.map tabD) mu = some ((ts.map T.nm).map D.str, mu) := by
  have e : (ts.map T.nm).map D.str = (ts.map tabD).map fun d => match d with | .tup (x :: _) => x | _ => .non := by
    (rw [List.map_map]); rw [List.map_map]
    rfl
  rw [e]
  refine lc_all _ _ fun d hd => ⟨_, rfl, ?_⟩
  obtain ⟨t, _, rfl⟩ := List.mem_map.mp hd
  simp only [eBin, eVar, eC, bM, List.set, List.getElem?_cons_zero, tabD, ix0]
theorem filter_tab (ts : List T) (x : Str) : (ts.map tabD).filter (fun d => match d with | .tup (.str y :: _) => decide (y = x) | _ => false) = (ts.filter fun t => decide (t.nm = x)).map tabD := by
  induction ts with
  | nil => rfl
  | cons t ts ih =>
    rw [List.map_cons]
    by_cases c : t.nm = x
    · rw [List.filter_cons_of_pos (by simp [tabD, c]), ih, List.filter_cons_of_pos (by simp [c]), List.map_cons]
    · rw [List.filter_cons_of_neg (by simp [tabD, c]), ih, List.filter_cons_of_neg (by simp [c])]
theorem find_head {ts : List T} {x : Str} {t : T} (h : ts.find? (fun t => decide (t.nm = x)) = some t) : ∃ r, ts.filter (fun t => decide (t.nm = x)) = t :: r := by
  induction ts with
  | nil => cases h
  | cons u us ih =>
    by_cases c : u.nm = x
    · rw [List.find?_cons_of_pos (by simp [c])] at h
      cases h
      exact ⟨_, List.filter_cons_of_pos (by simp [c])⟩
    · rw [List.find?_cons_of_neg (by simp [c])] at h
      obtain ⟨r, e⟩ := ih h
      exact ⟨r, by rw [List.filter_cons_of_neg (by simp [c])]; exact e⟩
theorem table_of_run {ts : List T} {x : Str} {t : T} (h : ts.find? (fun t => decide (t.nm = x)) = some t) (mu : Sto) : f_table_of [.tup (ts.map tabD), .str x] mu = some (tabD t, mu) := by
  have lc : lcGo none mu (gNm 0) (tV (eBin eqD (eBin ixD (eVar 0) (eC (.int 0))) (eVar 1))) (eVar 0) [none, some (.str x)] (ts.map tabD) mu = some (((ts.map tabD).filter (fun d => match d with | .tup (.str y :: _) => decide (y = x) | _ => false)).map id, mu) := by
    refine lc_pure _ _ _ fun d hd => ⟨_, rfl, ?_, fun _ => rfl⟩
    obtain ⟨t, _, rfl⟩ := List.mem_map.mp hd
    simp only [tV, eBin, eVar, eC, bM, List.set, List.getElem?_cons_zero, List.getElem?_cons_succ, tabD, ix0, eq_strs, asB, Option.map_some]
  obtain ⟨r, e⟩ := find_head h
  rw [filter_tab, e, List.map_id, List.map_cons] at lc
  simp only [f_table_of, fnB, m_table_of]
  simp [sRt, eBin, eLC, iVal, eVar, bM, r0, lc, eC, ix0l]
theorem find_none {ts : List T} {x : Str} : ts.find? (fun t => decide (t.nm = x)) = none ↔ x ∉ ts.map T.nm := by
  rw [List.find?_eq_none]
  constructor
  · intro h z
    obtain ⟨t, ht, e⟩ := List.mem_map.mp z
    exact h t ht (by simp [e])
  · intro h t ht e
    exact h (List.mem_map.mpr ⟨t, ht, by simpa using e⟩)
theorem named_run {ts : List T} (hW : ∀ t ∈ ts, TOk t) (x : Str) (mu : Sto) : f_table_if_named [.tup (ts.map tabD), .str x] mu = some (match ts.find? (fun t => decide (t.nm = x)) with | some t => tabD t | none => .non, mu) := by
  have nl := names_lc ts mu mu
  cases q : ts.find? (fun t => decide (t.nm = x)) with
  | none =>
    have hn := find_none.mp q
    cases w : wB x with
    | false =>
      simp only [f_table_if_named, fnB, m_table_if_named]
      simp [sSeq, sIf, tO, tNt, tV, eCall, aCons, aNil, eVar, bM, word_str, w, asB, sRt, eC]
    | true =>
      have inn := in_strs x (ts.map T.nm) mu
      simp only [f_table_if_named, fnB, m_table_if_named]
      simp only [List.map_cons, List.map_nil, List.length_cons, List.length_nil, List.replicate, List.cons_append, List.nil_append, List.append_nil, sSeq, sIf, tO, tNt, tV, eCall, aCons, aNil, eVar, bM, word_str, w, asB, sRt, eC, List.getElem?_cons_zero, List.getElem?_cons_succ, Option.map_some, Bool.not_true, Bool.false_eq_true, if_false, eBin, eLC, iVal, r0, nl, ninD, inn, hn, decide_false, Bool.not_false, if_true]
  | some t =>
    have ht := List.mem_of_find?_eq_some q
    have hx : t.nm = x := by simpa using List.find?_some q
    have w : wB x = true := by rw [← hx]; exact wB_of (hW t ht).w
    have hn : x ∈ ts.map T.nm := List.mem_map.mpr ⟨t, ht, hx⟩
    have inn := in_strs x (ts.map T.nm) mu
    have tr := table_of_run q mu
    simp only [f_table_if_named, fnB, m_table_if_named]
    simp only [List.map_cons, List.map_nil, List.length_cons, List.length_nil, List.replicate, List.cons_append, List.nil_append, List.append_nil, sSeq, sIf, tO, tNt, tV, eCall, aCons, aNil, eVar, bM, word_str, w, asB, sRt, sNx, eC, List.getElem?_cons_zero, List.getElem?_cons_succ, Option.map_some, Bool.not_true, Bool.false_eq_true, if_false, eBin, eLC, iVal, r0]
    simp [-List.map_map, nl, ninD, inn, hn, tr]
theorem named_not {ts : List T} {d : D} (h : nR d = true) (hs : ∀ x, d ≠ .str x) (mu : Sto) : f_table_if_named [.tup (ts.map tabD), d] mu = some (.non, mu) := by
  have w := word_not h hs mu
  simp only [f_table_if_named, fnB, m_table_if_named]
  simp [sSeq, sIf, tO, tNt, tV, eCall, aCons, aNil, eVar, bM, w, asB, sRt, eC]
def tail (t : T) : List Str := (t.cs.drop t.ks).map (·.1)
def stB (ts : List T) (x y : Str) : Bool := match ts.find? (fun t => decide (t.nm = x)) with
  | some t => decide (y = Str.ofString "") || decide (y ∈ tail t)
  | none => false
def stayB (ts : List T) : D → Bool
  | .tup [.str x, .str y] => stB ts x y
  | _ => false
theorem cut_drop {α : Type} (xs : List α) (k : Nat) (h : k ≤ xs.length) : PV.cutD xs (some (k : Int)) none = xs.drop k := by
  unfold PV.cutD
  rw [HT.sIx_nat, HT.sIx_none, Nat.min_eq_left h, List.take_of_length_le (by simp)]
theorem cols_lc (ps : List (Str × D)) (mu m0 : Sto) (more : Ro) : lcGo none m0 (gTp 2 (gsCons (gNm 0) (gsCons (gNm 1) gsNil))) tY (eVar 0) (none :: none :: more) (ps.map colD) mu = some ((ps.map (·.1)).map D.str, mu) := by
  have e : (ps.map (·.1)).map D.str = (ps.map colD).map fun d => match d with | .tup (x :: _) => x | _ => .non := by
    (rw [List.map_map]); rw [List.map_map]
    rfl
  rw [e]
  refine lc_all _ _ fun d hd => ?_
  obtain ⟨p, _, rfl⟩ := List.mem_map.mp hd
  refine ⟨some (.str p.1) :: some p.2 :: more, ?_, rfl⟩
  simp [colD, gTp, gsCons, gsNil, gNm, bM]
theorem stay_run {ts : List T} (hW : ∀ t ∈ ts, TOk t) {d : D} (h : nR d = true) (h2 : ∀ ds, d = .tup ds → ∀ e ∈ ds, nR e = true) (mu : Sto) : f_is_stay [.tup (ts.map tabD), d] mu = some (.bl (stayB ts d), mu) := by
  have tt := tuple_22 h mu
  cases c : tupB d with
  | false =>
    rw [c] at tt
    have sb : stayB ts d = false := by
      unfold stayB
      split
      · cases c
      · rfl
    rw [sb]
    simp only [f_is_stay, fnB, m_is_stay]
    simp [sSeq, sSet, eIf, tV, eCall, aCons, aNil, eVar, eC, bM, tt, asB, gNm, sIf, tO, eBin, isD, isB, sRt]
  | true =>
    rw [c] at tt
    obtain ⟨a, b, rfl⟩ : ∃ a b, d = .tup [a, b] := by
      unfold tupB at c
      split at c
      · exact ⟨_, _, rfl⟩
      · cases c
    have na := h2 _ rfl a (by simp)
    have nb := h2 _ rfl b (by simp)
    by_cases hs : ∃ x, a = .str x
    · obtain ⟨x, rfl⟩ := hs
      have nr := named_run hW x mu
      cases q : ts.find? (fun t => decide (t.nm = x)) with
      | none =>
        rw [q] at nr
        have sb : stayB ts (.tup [.str x, b]) = false := by
          unfold stayB
          split
          · rename_i x' y e; cases e; unfold stB; rw [q]
          · rfl
        rw [sb]
        simp only [f_is_stay, fnB, m_is_stay]
        simp [sSeq, sSet, eIf, tV, eCall, aCons, aNil, eVar, eC, bM, tt, asB, gNm, sIf, tO, eBin, isD, isB, sRt, ix0, nr]
      | some t =>
        rw [q] at nr
        dsimp only at nr
        have ok := hW t (List.mem_of_find?_eq_some q)
        by_cases hb : ∃ y, b = .str y
        · obtain ⟨y, rfl⟩ := hb
          have sb : stayB ts (.tup [.str x, .str y]) = (decide (y = Str.ofString "") || decide (y ∈ tail t)) := by
            show stB ts x y = _
            unfold stB
            rw [q]
          rw [sb]
          have cl := cols_lc (t.cs.drop t.ks) mu mu []
          rw [show (t.cs.drop t.ks).map colD = PV.cutD (t.cs.map colD) (some (t.ks : Int)) none by rw [cut_drop _ _ (by rw [List.length_map]; exact ok.k4), List.map_drop]] at cl
          have inn := in_strs y (tail t) mu
          have e1 := eq_strs y (Str.ofString "") mu
          simp only [f_is_stay, fnB, m_is_stay]
          have i1 := ix1 (.str t.nm) (.tup (t.cs.map colD)) [.int t.ks] mu
          have i2 := ix2 (.str t.nm) (.tup (t.cs.map colD)) (.int t.ks) [] mu
          have j1 := ix1 (.str x) (.str y) [] mu
          have td : tabD t = .tup [.str t.nm, .tup (t.cs.map colD), .int t.ks] := rfl
          rw [td] at nr
          have tl : (t.cs.drop t.ks).map (·.1) = tail t := rfl
          rw [tl] at cl
          cases y0 : decide (y = Str.ofString "") with
          | true =>
            rw [y0] at e1
            simp [-List.map_map, sSeq, sSet, eIf, tV, eCall, aCons, aNil, eVar, eC, bM, tt, asB, gNm, sIf, tO, tNt, eBin, isD, isB, sRt, sNx, ix0, nr, j1, eIsi, okRef, isi, tyN, eO, e1]
          | false =>
            rw [y0] at e1
            simp [-List.map_map, sSeq, sSet, eIf, tV, eCall, aCons, aNil, eVar, eC, bM, tt, asB, gNm, sIf, tO, tNt, eBin, isD, isB, sRt, sNx, ix0, nr, j1, eIsi, okRef, isi, tyN, eO, e1, eLC, iVal, eSl, i1, i2, pSome, pNo, slD, r0, cl, inD, inn]
        · have sb : stayB ts (.tup [.str x, b]) = false := by
            unfold stayB
            split
            · rename_i x' y e; cases e; exact absurd ⟨y, rfl⟩ hb
            · rfl
          rw [sb]
          have j1 := ix1 (.str x) b [] mu
          have td : tabD t = .tup [.str t.nm, .tup (t.cs.map colD), .int t.ks] := rfl
          rw [td] at nr
          simp only [f_is_stay, fnB, m_is_stay]
          cases b with
          | ref k => cases nb
          | str y => exact absurd ⟨y, rfl⟩ hb
          | _ => simp [-List.map_map, sSeq, sSet, eIf, tV, eCall, aCons, aNil, eVar, eC, bM, tt, asB, gNm, sIf, tO, tNt, eBin, isD, isB, sRt, sNx, ix0, nr, j1, eIsi, okRef, isi, tyN]
    · have nn := named_not (ts := ts) na (fun x e => hs ⟨x, e⟩) mu
      have sb : stayB ts (.tup [a, b]) = false := by
        unfold stayB
        split
        · rename_i x y e; cases e; exact absurd ⟨x, rfl⟩ hs
        · rfl
      rw [sb]
      simp only [f_is_stay, fnB, m_is_stay]
      simp [sSeq, sSet, eIf, tV, eCall, aCons, aNil, eVar, eC, bM, tt, asB, gNm, sIf, tO, eBin, isD, isB, sRt, ix0, nn]
end PG

namespace PG
open PySem L2 PV PyProof.Rows K1
theorem lc_on {α : Type} {m0 : Sto} {tg : Gx} {el : Ex} {ro : Ro} {mu : Sto} (f h : α → D) : ∀ xs : List α, (∀ x ∈ xs, ∃ ro1, tg (f x) ro mu = some (ro1, mu) ∧ el ro1 mu = some (h x, mu)) → lcGo none m0 tg tY el ro (xs.map f) mu = some (xs.map h, mu)
  | [], _ => rfl
  | x :: xs, q => by
    obtain ⟨ro1, e1, e2⟩ := q x (.head _)
    have ih := lc_on (m0 := m0) f h xs fun y hy => q y (.tail _ hy)
    rw [List.map_cons]
    unfold lcGo
    rw [e1, bM_some, show tY ro1 mu = some (true, mu) from rfl, bM_some, if_pos rfl, e2, bM_some, guard', if_pos (show gOk none m0 mu from True.intro), ih, bM_some, List.map_cons]
abbrev Pr := Str × Str
def prD (p : Pr) : D := .tup [.str p.1, .str p.2]
def sl (a b : Str) : Bool := decide (a.cps.toList < b.cps.toList)
def ltP (p q : Pr) : Bool := if p.1 = q.1 then (if p.2 = q.2 then false else sl p.2 q.2) else sl p.1 q.1
theorem lt_pr (p q : Pr) : ltB (prD p) (prD q) = some (ltP p q) := by
  unfold prD ltP
  simp only [ltB, lexB, pureD, toPy, PyData.eqv, Bool.and_self, if_true]
  by_cases c : p.1 = q.1
  · by_cases c2 : p.2 = q.2
    · simp [c, c2]
    · simp [c, c2, sl]
  · simp [c, sl]
theorem dep_pr (p : Pr) : (toPy (prD p)).depth ≤ 60 := by simp [prD, toPy, toPys, PySem.PyData.depth, PySem.PyData.depthAll]
theorem ltG_pr (p q : Pr) (mu : Sto) : ltG (prD p) (prD q) mu = some (.bl (ltP p q), mu) := by
  unfold ltG
  rw [if_pos (dep_pr p), lt_pr]
  rfl
def risB (ps : List Pr) : Bool := ((ps.zip (ps.drop 1)).map fun z => ltP z.1 z.2).all id
theorem cut1 {α : Type} (xs : List α) : PV.cutD xs (some 1) none = xs.drop 1 := by
  unfold PV.cutD
  have := HT.sIx_nat xs.length 0 1
  rw [show (some (1 : Int)) = some ((1 : Nat) : Int) from rfl, this, HT.sIx_none]
  cases xs with
  | nil => rfl
  | cons a r => simp
theorem rising_run (ps : List Pr) (mu : Sto) : f_is_rising [.tup (ps.map prD)] mu = some (.bl (risB ps), mu) := by
  have lc : lcGo none mu (gTp 2 (gsCons (gNm 0) (gsCons (gNm 1) gsNil))) tY (eBin ltG (eVar 0) (eVar 1)) [none, none] (zipD (ps.map prD) ((ps.map prD).drop 1)) mu = some (((ps.zip (ps.drop 1)).map fun z => ltP z.1 z.2).map D.bl, mu) := by
    have e1 : zipD (ps.map prD) ((ps.map prD).drop 1) = (ps.zip (ps.drop 1)).map fun z => .tup [prD z.1, prD z.2] := by
      unfold zipD
      rw [← List.map_drop, List.zip_map, List.map_map]
      rfl
    rw [e1, List.map_map]
    refine lc_on _ _ _ fun z _ => ⟨[some (prD z.1), some (prD z.2)], ?_, ?_⟩
    · simp [gTp, gsCons, gsNil, gNm, bM]
    · simp only [eBin, eVar, bM, List.getElem?_cons_zero, List.getElem?_cons_succ, ltG_pr, Function.comp]
  have al := all_map ((ps.zip (ps.drop 1)).map fun z => ltP z.1 z.2) mu
  have t2 : tup2 [.tup (ps.map prD), .tup ((ps.map prD).drop 1)] = some (ps.map prD, (ps.map prD).drop 1) := rfl
  have l2 : lst2 [.tup (ps.map prD), .tup ((ps.map prD).drop 1)] = none := rfl
  simp only [f_is_rising, fnB, m_is_rising]
  unfold risB
  simp [-List.map_map, -List.map_drop, -List.drop_one, sRt, eCall, aCons, aNil, eLC, iZpG, orI, iZp, iZpT, eVar, eSl, pSome, pNo, eC, slD, cut1, bM, t2, l2, r0, lc, al]
structure Th (d : D) : Prop where
  r : nR d = true
  r1 : ∀ ds, d = .tup ds → ds.length < 64 ∧ ∀ e ∈ ds, nR e = true ∧ ∀ es, e = .tup es → ∀ x ∈ es, nR x = true
def allB (ts : List T) (ds : List D) : Bool := (ds.map (stayB ts)).all id
theorem stay_pr {ts : List T} {d : D} (h : stayB ts d = true) : ∃ p, d = prD p := by
  unfold stayB at h
  split at h
  · exact ⟨(_, _), rfl⟩
  · cases h
theorem prs_of {ts : List T} : ∀ {ds : List D}, allB ts ds = true → ∃ ps : List Pr, ds = ps.map prD
  | [], _ => ⟨[], rfl⟩
  | d :: ds, h => by
    unfold allB at h
    rw [List.map_cons, List.all_cons, Bool.and_eq_true] at h
    obtain ⟨p, rfl⟩ := stay_pr h.1
    obtain ⟨ps, rfl⟩ := prs_of (ts := ts) h.2
    exact ⟨p :: ps, rfl⟩


theorem stays_no {ts : List T} (hW : ∀ t ∈ ts, TOk t) {d : D} (h : Th d) (hn : ∀ ds, d = .tup ds → allB ts ds = false) (mu : Sto) : f_are_stays [.tup (ts.map tabD), d] mu = some (.bl false, mu) := by
  by_cases c : ∃ ds, d = .tup ds
  · obtain ⟨ds, rfl⟩ := c
    have lc : lcGo none mu (gNm 0) tY (eCall f_is_stay (aCons (eVar 1) (aCons (eVar 0) aNil))) [none, some (.tup (ts.map tabD))] ds mu = some ((ds.map (stayB ts)).map D.bl, mu) := by
      have := lc_on (m0 := mu) (tg := gNm 0) (el := eCall f_is_stay (aCons (eVar 1) (aCons (eVar 0) aNil))) (ro := [none, some (.tup (ts.map tabD))]) (mu := mu) id (fun e => .bl (stayB ts e)) ds fun e he => ⟨[some e, some (.tup (ts.map tabD))], rfl, by
        have q := (h.r1 ds rfl).2 e he
        have sr := stay_run hW q.1 q.2 mu
        simp only [eCall, aCons, aNil, eVar, bM, List.getElem?_cons_zero, List.getElem?_cons_succ, sr]⟩
      rw [List.map_id] at this
      rw [this, List.map_map]
      rfl
    have al := all_map (ds.map (stayB ts)) mu
    have hf := hn ds rfl
    unfold allB at hf
    rw [hf] at al
    simp only [f_are_stays, fnB, m_are_stays]
    simp [-List.map_map, sRt, eAn, eIsi, eVar, bM, okRef, isi, tyN, asB, eCall, aCons, aNil, eLC, iVal, r0, lc, al]
  · have hr := h.r
    simp only [f_are_stays, fnB, m_are_stays]
    cases d with
    | ref k => cases hr
    | tup ds => exact absurd ⟨ds, rfl⟩ c
    | _ => simp [-List.map_map, sRt, eAn, eIsi, eVar, bM, okRef, isi, tyN, asB]
theorem stays_yes {ts : List T} (hW : ∀ t ∈ ts, TOk t) {ps : List Pr} (ha : allB ts (ps.map prD) = true) (mu : Sto) : f_are_stays [.tup (ts.map tabD), .tup (ps.map prD)] mu = some (.bl (risB ps), mu) := by
  have lc : lcGo none mu (gNm 0) tY (eCall f_is_stay (aCons (eVar 1) (aCons (eVar 0) aNil))) [none, some (.tup (ts.map tabD))] (ps.map prD) mu = some (((ps.map prD).map (stayB ts)).map D.bl, mu) := by
    have := lc_on (m0 := mu) (tg := gNm 0) (el := eCall f_is_stay (aCons (eVar 1) (aCons (eVar 0) aNil))) (ro := [none, some (.tup (ts.map tabD))]) (mu := mu) prD (fun p => .bl (stayB ts (prD p))) ps fun p hp => ⟨[some (prD p), some (.tup (ts.map tabD))], rfl, by
      have sr := stay_run hW (d := prD p) rfl (fun ds e x hx => by cases e; simp at hx; rcases hx with rfl | rfl <;> rfl) mu
      simp only [eCall, aCons, aNil, eVar, bM, List.getElem?_cons_zero, List.getElem?_cons_succ, sr]⟩
    rw [this, List.map_map, List.map_map]
    rfl
  have al := all_map ((ps.map prD).map (stayB ts)) mu
  have ha' := ha
  unfold allB at ha'
  rw [ha'] at al
  have rr := rising_run ps mu
  generalize (ps.map prD).map (stayB ts) = bs at lc al
  generalize ps.map prD = ds at lc rr
  simp only [f_are_stays, fnB, m_are_stays]
  simp [-List.map_map, sRt, eAn, eIsi, eVar, bM, okRef, isi, tyN, asB, eCall, aCons, aNil, eLC, iVal, r0, lc, al, rr]
end PG

namespace PG
open PySem L2 PV PyProof.Rows K1
def lsD (t : T) : D := .lst ((Str.ofString "" :: tail t).map D.str)
noncomputable def thBody : Sx := sSet (eBin addD (eLst (aCons (eC (.str (Str.ofString ""))) (aNil))) (eLC (iVal (eSl (eVar 4) (pSome (eVar 5)) (pNo))) 2 [] (gTp 2 (gsCons (gNm 0) (gsCons (gNm 1) (gsNil)))) (tY) (eVar 0))) (gIx (eVar 2) (eVar 3))
theorem set_last (mu : Sto) (a b : MO) : (mu ++ [a]).set mu.length b = mu ++ [b] := by simp
theorem last_at (mu : Sto) (a : MO) : (mu ++ [a])[mu.length]? = some a := by simp
theorem there_loop (sch th : D) (mu : Sto) (m0 : Sto) : ∀ (us : List T) (done : List T) (y3 y4 y5 y6 : Option D), (∀ t ∈ us, TOk t) → ((done ++ us).map T.nm).Nodup → (done ++ us).length ≤ 4 →
    ∃ z3 z4 z5 z6, forGo none m0 (gTp 3 (gsCons (gNm 3) (gsCons (gNm 4) (gsCons (gNm 5) (gsNil))))) thBody (us.map tabD) [some sch, some th, some (.ref mu.length), y3, y4, y5, y6] (mu ++ [.dct (done.map T.nm) (done.map lsD)]) = some ((.nx, [some sch, some th, some (.ref mu.length), z3, z4, z5, z6]), mu ++ [.dct ((done ++ us).map T.nm) ((done ++ us).map lsD)])
  | [], done, y3, y4, y5, y6, _, _, _ => ⟨y3, y4, y5, y6, by simp [forGo]⟩
  | t :: us, done, y3, y4, y5, y6, hW, hN, hL => by
    obtain ⟨z3, z4, z5, z6, ih⟩ := there_loop sch th mu m0 us (done ++ [t]) (some (.str t.nm)) (some (.tup (t.cs.map colD))) (some (.int t.ks)) y6 (fun u hu => hW u (.tail _ hu)) (by simpa using hN) (by simpa using hL)
    refine ⟨z3, z4, z5, z6, ?_⟩
    have ok := hW t (.head _)
    have cl := cols_lc (t.cs.drop t.ks) (mu ++ [.dct (done.map T.nm) (done.map lsD)]) (mu ++ [.dct (done.map T.nm) (done.map lsD)]) []
    rw [show (t.cs.drop t.ks).map colD = PV.cutD (t.cs.map colD) (some (t.ks : Int)) none by rw [cut_drop _ _ (by rw [List.length_map]; exact ok.k4), List.map_drop], show (t.cs.drop t.ks).map (·.1) = tail t from rfl] at cl
    have nin : t.nm ∉ done.map T.nm := by
      rw [List.map_append, List.nodup_append] at hN
      exact fun z => hN.2.2 _ z _ (by simp) rfl
    have anyF : ((done.map T.nm).any fun k => decide (k = t.nm)) = false := by
      rw [List.any_eq_false]
      intro k hk e
      exact nin (by rw [← of_decide_eq_true e]; exact hk)
    have tlen : (tail t).length ≤ 4 := by
      unfold tail
      rw [List.length_map, List.length_drop]
      have := ok.c4
      omega
    have kl : (done.map T.nm).length < sizeLine := by
      rw [List.length_map, sizeLine_eq]
      simp at hL
      omega
    have tb : thBody [some sch, some th, some (.ref mu.length), some (.str t.nm), some (.tup (t.cs.map colD)), some (.int t.ks), y6] (mu ++ [.dct (done.map T.nm) (done.map lsD)]) = some ((.nx, [some sch, some th, some (.ref mu.length), some (.str t.nm), some (.tup (t.cs.map colD)), some (.int t.ks), y6]), mu ++ [.dct ((done ++ [t]).map T.nm) ((done ++ [t]).map lsD)]) := by
      have la := last_at mu (.dct (done.map T.nm) (done.map lsD))
      have ad : addD (.lst [.str (Str.ofString "")]) (.lst ((tail t).map D.str)) (mu ++ [.dct (done.map T.nm) (done.map lsD)]) = some (lsD t, mu ++ [.dct (done.map T.nm) (done.map lsD)]) := by
        have z : [D.str (Str.ofString "")].length + ((tail t).map D.str).length ≤ sizeLine := by
          rw [List.length_map, sizeLine_eq]
          simp
          omega
        simp only [addD, lstOf]
        rw [if_pos z]
        rfl
      have pm : putM (.ref mu.length) (.str t.nm) (lsD t) (mu ++ [.dct (done.map T.nm) (done.map lsD)]) = some ((), mu ++ [.dct ((done ++ [t]).map T.nm) ((done ++ [t]).map lsD)]) := by
        simp only [putM, la]
        rw [if_pos kl, set_last]
        unfold dPut
        rw [anyF, if_neg Bool.false_ne_true, List.map_append, List.map_append]
        rfl
      generalize (mu ++ [MO.dct (done.map T.nm) (done.map lsD)]) = M at cl la ad pm
      simp only [thBody, sSet, eBin, eLst, aCons, aNil, eC, bM, eLC, iVal, eSl, eVar, List.getElem?_cons_zero, List.getElem?_cons_succ, pSome, pNo, slD, r0, List.map_nil, List.replicate, List.append_nil, cl, ad, gIx, pm]
    rw [List.map_cons]
    unfold forGo
    have tg : gTp 3 (gsCons (gNm 3) (gsCons (gNm 4) (gsCons (gNm 5) (gsNil)))) (tabD t) [some sch, some th, some (.ref mu.length), y3, y4, y5, y6] (mu ++ [.dct (done.map T.nm) (done.map lsD)]) = some ([some sch, some th, some (.ref mu.length), some (.str t.nm), some (.tup (t.cs.map colD)), some (.int t.ks), y6], mu ++ [.dct (done.map T.nm) (done.map lsD)]) := by
      simp [gTp, tabD, gsCons, gsNil, gNm, bM]
    rw [tg, bM_some, tb, bM_some]
    dsimp only
    rw [guard', if_pos (show gOk none m0 _ from True.intro), ih]
    simp
theorem dGet_nm (x : Str) : ∀ ts : List T, dGet x (ts.map T.nm) (ts.map lsD) = (ts.find? fun t => decide (t.nm = x)).map lsD
  | [] => rfl
  | t :: ts => by
    rw [List.map_cons, List.map_cons]
    unfold dGet
    by_cases c : t.nm = x
    · rw [if_pos c, List.find?_cons_of_pos (by simp [c])]; rfl
    · rw [if_neg c, List.find?_cons_of_neg (by simp [c]), dGet_nm x ts]
end PG

namespace PG
open PySem L2 PV PyProof.Rows K1
theorem ne_int (i j : Int) (mu : Sto) : neD (.int i) (.int j) mu = some (.bl (!decide (i = j)), mu) := by
  have hd : min (toPy (.int i)).depth (toPy (.int j)).depth ≤ 60 := Nat.le_trans (Nat.min_le_right _ _) (PV.dep_int j)
  have hp : ∀ z : Int, pureD (.int z) = true := fun _ => rfl
  simp only [neD, eqB, PV.seen, hp, hd, decide_true, Bool.and_self, if_true, Option.map_some]
  simp only [toPy, PyData.eqv]
  by_cases c : i = j
  · subst c; simp
  · simp [c]
noncomputable def ckBody : Sx := (sSeq (sIf (tO (tNt (tV (eIsi "tuple" (eVar 6)))) (tO (tV (eBin neD (eCall lenF (aCons (eVar 6) (aNil))) (eC (.int 2)))) (tO (tNt (tV (eIsi "str" (eBin ixD (eVar 6) (eC (.int 0)))))) (tNt (tV (eIsi "str" (eBin ixD (eVar 6) (eC (.int 1))))))))) (sRt (eC (.bl false))) (sNx)) (sIf (tV (eBin ninD (eBin ixD (eVar 6) (eC (.int 1))) (eGet (eVar 2) (aCons (eBin ixD (eVar 6) (eC (.int 0))) (aCons (eLst (aNil)) (aNil)))))) (sRt (eC (.bl false))) (sNx)))
def ssOf (ts : List T) (x : Str) : List Str := match ts.find? (fun t => decide (t.nm = x)) with
  | some t => Str.ofString "" :: tail t
  | none => []
theorem ss_get (ts : List T) (x : Str) : (dGet x (ts.map T.nm) (ts.map lsD)).getD (.lst []) = .lst ((ssOf ts x).map D.str) := by
  rw [dGet_nm]
  unfold ssOf
  cases ts.find? (fun t => decide (t.nm = x)) <;> rfl
theorem ss_mem (ts : List T) (x y : Str) : decide (y ∈ ssOf ts x) = stB ts x y := by
  unfold ssOf stB
  cases ts.find? (fun t => decide (t.nm = x)) with
  | none => simp
  | some t => simp [Bool.decide_or]
theorem ck_step {ts : List T} {sch th : D} {mu : Sto} {y3 y4 y5 : Option D} {e : D} (h : nR e = true) (h2 : ∀ es, e = .tup es → ∀ x ∈ es, nR x = true) :
    ckBody [some sch, some th, some (.ref mu.length), y3, y4, y5, some e] (mu ++ [.dct (ts.map T.nm) (ts.map lsD)]) = some ((if stayB ts e then .nx else .rt (.bl false), [some sch, some th, some (.ref mu.length), y3, y4, y5, some e]), mu ++ [.dct (ts.map T.nm) (ts.map lsD)]) := by
  have la := last_at mu (.dct (ts.map T.nm) (ts.map lsD))
  generalize hM : (mu ++ [MO.dct (ts.map T.nm) (ts.map lsD)]) = M at la
  unfold ckBody
  cases e with
  | ref k => cases h
  | tup es =>
    match es with
    | [] => simp [sSeq, sIf, tO, tNt, tV, eIsi, eVar, bM, okRef, isi, tyN, asB, eBin, eCall, aCons, aNil, PG.len_tup, eC, PG.ne_int, sRt, stayB]
    | [_] => simp [sSeq, sIf, tO, tNt, tV, eIsi, eVar, bM, okRef, isi, tyN, asB, eBin, eCall, aCons, aNil, PG.len_tup, eC, PG.ne_int, sRt, stayB]
    | a :: b :: c :: r =>
      have d2 : ¬ ((a :: b :: c :: r).length : Int) = 2 := by simp; omega
      have sb : stayB ts (.tup (a :: b :: c :: r)) = false := by
        unfold stayB
        split
        · rename_i e; cases e
        · rfl
      rw [sb]
      generalize a :: b :: c :: r = es at d2
      simp [sSeq, sIf, tO, tNt, tV, eIsi, eVar, bM, okRef, isi, tyN, asB, eBin, eCall, aCons, aNil, PG.len_tup, eC, PG.ne_int, sRt, d2]
    | [a, b] =>
      have na := h2 _ rfl a (by simp)
      have nb := h2 _ rfl b (by simp)
      have i0 := ix0 a [b] M
      have i1 := ix1 a b [] M
      by_cases ha : ∃ x, a = .str x
      · obtain ⟨x, rfl⟩ := ha
        by_cases hb : ∃ y, b = .str y
        · obtain ⟨y, rfl⟩ := hb
          have ok : okDct M (.ref mu.length) = true := by simp [okDct, la]
          have sb : stayB ts (.tup [.str x, .str y]) = stB ts x y := rfl
          have inn := in_strs y (ssOf ts x) M
          rw [ss_mem] at inn
          have gt : dgtD (.ref mu.length) [.str x, .lst []] M = some (.lst ((ssOf ts x).map D.str), M) := by
            simp only [dgtD, la]
            rw [ss_get]
          rw [sb]
          cases c : stB ts x y with
          | true => simp [-List.map_map, sSeq, sIf, tO, tNt, tV, eIsi, eVar, bM, okRef, isi, tyN, asB, eBin, eCall, aCons, aNil, PG.len_tup, eC, PG.ne_int, sRt, sNx, i0, i1, eGet, ok, eLst, gt, ninD, inn, c]
          | false => simp [-List.map_map, sSeq, sIf, tO, tNt, tV, eIsi, eVar, bM, okRef, isi, tyN, asB, eBin, eCall, aCons, aNil, PG.len_tup, eC, PG.ne_int, sRt, sNx, i0, i1, eGet, ok, eLst, gt, ninD, inn, c]
        · have sb : stayB ts (.tup [.str x, b]) = false := by
            unfold stayB
            split
            · rename_i x' y e; cases e; exact absurd ⟨y, rfl⟩ hb
            · rfl
          rw [sb]
          cases b with
          | ref k => cases nb
          | str y => exact absurd ⟨y, rfl⟩ hb
          | _ => simp [sSeq, sIf, tO, tNt, tV, eIsi, eVar, bM, okRef, isi, tyN, asB, eBin, eCall, aCons, aNil, PG.len_tup, eC, PG.ne_int, sRt, sNx, i0, i1]
      · have sb : stayB ts (.tup [a, b]) = false := by
          unfold stayB
          split
          · rename_i x y e; cases e; exact absurd ⟨x, rfl⟩ ha
          · rfl
        rw [sb]
        cases a with
        | ref k => cases na
        | str y => exact absurd ⟨y, rfl⟩ ha
        | _ => simp [sSeq, sIf, tO, tNt, tV, eIsi, eVar, bM, okRef, isi, tyN, asB, eBin, eCall, aCons, aNil, PG.len_tup, eC, PG.ne_int, sRt, sNx, i0, i1]
  | _ => simp [sSeq, sIf, tO, tNt, tV, eIsi, eVar, bM, okRef, isi, tyN, asB, eC, sRt, stayB]
theorem ck_loop {ts : List T} {sch th : D} {mu m0 : Sto} {y3 y4 y5 : Option D} : ∀ (ds : List D) (y6 : Option D), (∀ e ∈ ds, nR e = true ∧ ∀ es, e = .tup es → ∀ x ∈ es, nR x = true) →
    ∃ z6, forGo none m0 (gNm 6) ckBody ds [some sch, some th, some (.ref mu.length), y3, y4, y5, y6] (mu ++ [.dct (ts.map T.nm) (ts.map lsD)]) = some ((if allB ts ds then .nx else .rt (.bl false), [some sch, some th, some (.ref mu.length), y3, y4, y5, z6]), mu ++ [.dct (ts.map T.nm) (ts.map lsD)])
  | [], y6, _ => ⟨y6, rfl⟩
  | e :: ds, y6, h => by
    obtain ⟨h1, h2⟩ := h e (.head _)
    obtain ⟨z6, ih⟩ := ck_loop (ts := ts) (sch := sch) (th := th) (mu := mu) (m0 := m0) (y3 := y3) (y4 := y4) (y5 := y5) ds (some e) fun d hd => h d (.tail _ hd)
    have st := ck_step (ts := ts) (sch := sch) (th := th) (mu := mu) (y3 := y3) (y4 := y4) (y5 := y5) h1 h2
    have ac : allB ts (e :: ds) = (stayB ts e && allB ts ds) := rfl
    unfold forGo
    rw [show gNm 6 e [some sch, some th, some (.ref mu.length), y3, y4, y5, y6] (mu ++ [.dct (ts.map T.nm) (ts.map lsD)]) = some ([some sch, some th, some (.ref mu.length), y3, y4, y5, some e], mu ++ [.dct (ts.map T.nm) (ts.map lsD)]) from rfl, bM_some, st, bM_some, ac]
    cases c : stayB ts e with
    | true =>
      refine ⟨z6, ?_⟩
      dsimp only
      rw [if_pos rfl]
      dsimp only
      rw [guard', if_pos (show gOk none m0 _ from True.intro), ih]
      rfl
    | false => exact ⟨some e, rfl⟩
end PG

namespace PG
open PySem L2 PV PyProof.Rows K1
theorem str_ext {a b : Str} (h : a.cps.toList = b.cps.toList) : a = b := by
  cases a; cases b
  simp only at h
  have := Array.toList_inj.mp h
  rw [this]
theorem sl_irr (a : Str) : sl a a = false := by unfold sl; exact decide_eq_false (List.lt_irrefl _)
theorem sl_asym {a b : Str} (h : sl a b = true) : sl b a = false := by
  unfold sl at *
  exact decide_eq_false (List.lt_asymm (of_decide_eq_true h))
theorem sl_trans {a b c : Str} (h : sl a b = true) (g : sl b c = true) : sl a c = true := by
  unfold sl at *
  exact decide_eq_true (List.lt_trans (of_decide_eq_true h) (of_decide_eq_true g))
theorem sl_tri {a b : Str} (h : sl a b = false) (g : sl b a = false) : a = b := by
  unfold sl at *
  refine str_ext (List.le_antisymm ?_ ?_)
  · exact List.not_lt.mp (of_decide_eq_false g)
  · exact List.not_lt.mp (of_decide_eq_false h)
theorem ltP_irr (p : Pr) : ltP p p = false := by simp [ltP]
theorem ltP_asym {p q : Pr} (h : ltP p q = true) : ltP q p = false := by
  unfold ltP at *
  by_cases c : p.1 = q.1
  · rw [if_pos c] at h
    rw [if_pos c.symm]
    by_cases c2 : p.2 = q.2
    · rw [if_pos c2] at h; cases h
    · rw [if_neg c2] at h
      rw [if_neg (fun z => c2 z.symm)]
      exact sl_asym h
  · rw [if_neg c] at h
    rw [if_neg (fun z => c z.symm)]
    exact sl_asym h
theorem ltP_tri {p q : Pr} (h : ltP p q = false) (g : ltP q p = false) : p = q := by
  unfold ltP at *
  by_cases c : p.1 = q.1
  · rw [if_pos c] at h
    rw [if_pos c.symm] at g
    by_cases c2 : p.2 = q.2
    · exact Prod.ext c c2
    · rw [if_neg c2] at h
      rw [if_neg (fun z => c2 z.symm)] at g
      exact absurd (sl_tri h g) c2
  · rw [if_neg c] at h
    rw [if_neg (fun z => c z.symm)] at g
    exact absurd (sl_tri h g) c
theorem ltP_trans {p q r : Pr} (h : ltP p q = true) (g : ltP q r = true) : ltP p r = true := by
  unfold ltP at *
  by_cases c : p.1 = q.1
  · rw [if_pos c] at h
    by_cases c2 : p.2 = q.2
    · rw [if_pos c2] at h; cases h
    · rw [if_neg c2] at h
      by_cases d : q.1 = r.1
      · rw [if_pos d] at g
        by_cases d2 : q.2 = r.2
        · rw [if_pos d2] at g; cases g
        · rw [if_neg d2] at g
          have t := sl_trans h g
          rw [if_pos (c.trans d), if_neg (fun z => by rw [z] at t; rw [sl_irr] at t; cases t)]
          exact t
      · rw [if_neg d] at g
        rw [if_neg (fun z => d (c.symm.trans z)), c]
        exact g
  · rw [if_neg c] at h
    by_cases d : q.1 = r.1
    · rw [← d, if_neg c]
      exact h
    · rw [if_neg d] at g
      have t := sl_trans h g
      rw [if_neg (fun z => by rw [z] at t; rw [sl_irr] at t; cases t)]
      exact t
theorem ltP_neg {p q r : Pr} (h : ltP q p = false) (g : ltP r q = false) : ltP r p = false := by
  cases c : ltP r p with
  | false => rfl
  | true =>
    cases e : ltP p q with
    | true => rw [ltP_trans c e] at g; cases g
    | false =>
      have := ltP_tri e h
      subst this
      rw [c] at g; cases g
theorem tupS_pr (p : Pr) : tupS (prD p) = true := by
  unfold tupS prD
  simp [pureL, pureD, toPys, toPy, PyData.depthAll, PyData.depth]
theorem sort_prs {ps : List Pr} (h : ps.length < 64) (mu : Sto) : ∃ rs : List Pr, srtG [.tup (ps.map prD)] mu = some (.lst (rs.map prD), mu) ∧ rs.Perm ps ∧ rs.Pairwise fun p q => ltP q p = false := by
  have hS : ∀ rs : List Pr, sortP (ps.map prD) = some (rs.map prD) → srtG [.tup (ps.map prD)] mu = some (.lst (rs.map prD), mu) := fun rs e => by
    have hall : (ps.map prD).all tupS = true := by
      rw [List.all_eq_true]
      intro d hd
      obtain ⟨p, _, rfl⟩ := List.mem_map.mp hd
      exact tupS_pr p
    have hl : (ps.map prD).length < 64 := by rw [List.length_map]; exact h
    have hf : srtF [.tup (ps.map prD)] mu = none := rfl
    have hh : srtH [.tup (ps.map prD)] mu = some (.lst (rs.map prD), mu) := by
      have sq : sq1 [.tup (ps.map prD)] mu = some (ps.map prD) := rfl
      unfold srtH
      rw [sq]
      dsimp only
      unfold srtAny
      rw [if_pos hl, if_pos hall, e]
      rfl
    unfold srtG
    rw [hf]
    exact hh
  by_cases c : ps.length < 2
  · refine ⟨ps, hS ps ?_, List.Perm.refl _, ?_⟩
    · unfold sortP
      rw [if_pos (by rw [List.length_map]; exact c)]
    · match ps, c with
      | [], _ => exact .nil
      | [_], _ => exact List.pairwise_singleton _ _
      | _ :: _ :: _, c => exact absurd c (by simp)
  · have pre : Pre ps.length (askD (ps.map prD)) (fun i j => match ps[i]?, ps[j]? with | some p, some q => ltP p q | _, _ => false) := by
      refine ⟨fun i j hi hj => ?_, fun i j hi hj e => ?_, fun i j k hi hj hk e f => ?_⟩
      · unfold askD
        simp only [List.getElem?_map, List.getElem?_eq_getElem hi, List.getElem?_eq_getElem hj, Option.map_some, lt_pr]
      · simp only [List.getElem?_eq_getElem hi, List.getElem?_eq_getElem hj] at e ⊢
        exact ltP_asym e
      · simp only [List.getElem?_eq_getElem hi, List.getElem?_eq_getElem hj, List.getElem?_eq_getElem hk] at e f ⊢
        exact ltP_neg e f
    obtain ⟨p, e1, e2, e3⟩ := sort_ok pre (by omega)
    have pl : p.size = ps.length := by rw [← Array.length_toList, e2.length_eq, List.length_range]
    have inn : ∀ i ∈ p.toList, i < ps.length := fun i hi => List.mem_range.mp (e2.mem_iff.mp hi)
    refine ⟨p.toList.map fun i => ps.getD i default, hS _ ?_, ?_, ?_⟩
    · unfold sortP
      rw [if_neg (by rw [List.length_map]; exact c), List.length_map, e1]
      dsimp only
      rw [if_pos (List.isPerm_iff.mpr e2), List.map_map]
      congr 1
      refine List.map_congr_left fun i hi => ?_
      have hi' := inn i hi
      show (ps.map prD).getD i .non = prD (ps.getD i default)
      rw [List.getD_eq_getElem?_getD, List.getD_eq_getElem?_getD, List.getElem?_map, List.getElem?_eq_getElem hi']
      rfl
    · have : (List.range ps.length).map (fun i => ps.getD i default) = ps := by
        refine List.ext_getElem (by simp) fun i h1 h2 => ?_
        simp [List.getD_eq_getElem?_getD, h2]
      exact (e2.map _).trans (by rw [this])
    · rw [List.pairwise_map, List.pairwise_iff_getElem]
      intro i j hi hj hij
      rw [Array.length_toList] at hi hj
      have u := e3 i j (Nat.le_of_lt hij) (by omega)
      have gi' : ∀ k (hk : k < p.size), gi p k = p.toList[k] := fun k hk => by rw [gi_at hk]; simp
      rw [gi' i hi, gi' j hj] at u
      have a1 := inn _ (List.getElem_mem (l := p.toList) (n := i) (by simpa using hi))
      have a2 := inn _ (List.getElem_mem (l := p.toList) (n := j) (by simpa using hj))
      simp only [List.getElem?_eq_getElem a1, List.getElem?_eq_getElem a2] at u
      rw [List.getD_eq_getElem?_getD, List.getD_eq_getElem?_getD, List.getElem?_eq_getElem a1, List.getElem?_eq_getElem a2]
      exact u
theorem pair_adj {R : Pr → Pr → Prop} (tr : ∀ a b c, R a b → R b c → R a c) : ∀ ps : List Pr, (∀ z ∈ ps.zip (ps.drop 1), R z.1 z.2) → ps.Pairwise R
  | [], _ => .nil
  | [p], _ => List.pairwise_singleton _ p
  | a :: b :: r, h => by
    have ih := pair_adj tr (b :: r) fun z hz => h z (by simp only [List.drop_succ_cons, List.drop_zero, List.zip_cons_cons] at hz ⊢; exact .tail _ hz)
    have ab : R a b := h (a, b) (by simp)
    (refine List.pairwise_cons.mpr ⟨fun x hx => ?_, ih⟩); rcases List.mem_cons.mp hx with rfl | hx
    · exact ab
    · exact tr a b x ab ((List.pairwise_cons.mp ih).1 x hx)
theorem adj_pair {R : Pr → Pr → Prop} : ∀ ps : List Pr, ps.Pairwise R → ∀ z ∈ ps.zip (ps.drop 1), R z.1 z.2
  | [], _, z, hz => by simp at hz
  | [_], _, z, hz => by simp at hz
  | a :: b :: r, h, z, hz => by
    (simp only [List.drop_succ_cons, List.drop_zero, List.zip_cons_cons] at hz); obtain ⟨h1, h2⟩ := List.pairwise_cons.mp h; rcases List.mem_cons.mp hz with rfl | hz
    · exact h1 b (.head _)
    · exact adj_pair (b :: r) h2 z (by simpa using hz)
theorem ris_iff (ps : List Pr) : risB ps = true ↔ ps.Pairwise fun p q => ltP p q = true := by
  unfold risB
  rw [List.all_map, List.all_eq_true]
  constructor
  · intro h
    exact pair_adj (R := fun p q => ltP p q = true) (fun a b c x y => ltP_trans x y) ps fun z hz => h z hz
  · intro h z hz
    exact adj_pair ps h z hz
theorem ris_eq {ps rs : List Pr} (hp : rs.Perm ps) (hs : rs.Pairwise fun p q => ltP q p = false) : risB ps = (decide (ps = rs) && decide ps.Nodup) := by
  have key : risB ps = true ↔ ps = rs ∧ ps.Nodup := by
    rw [ris_iff]
    constructor
    · intro h
      refine ⟨?_, ?_⟩
      · refine (List.Perm.eq_of_pairwise (le := fun p q => ltP q p = false) (fun a b _ _ x y => ltP_tri y x) ?_ hs hp.symm)
        exact h.imp fun x => ltP_asym x
      · exact List.nodup_iff_pairwise_ne.mpr (h.imp fun {a b} x e => by rw [e, ltP_irr] at x; cases x)
    · rintro ⟨e, nd⟩
      rw [← e] at hs
      refine List.Pairwise.imp₂ ?_ hs (List.nodup_iff_pairwise_ne.mp nd)
      intro a b x ne
      cases c : ltP a b with
      | true => rfl
      | false => exact absurd (ltP_tri c x) ne
  cases c : risB ps with
  | true =>
    obtain ⟨a, b⟩ := key.mp c
    simp [← a, b]
  | false =>
    have : ¬ (ps = rs ∧ ps.Nodup) := fun z => by rw [key.mpr z] at c; cases c
    simp only [← Bool.decide_and, decide_eq_false this]
end PG

namespace PG
open PySem L2 PV PyProof.Rows K1
theorem once_len {κ : Type} [DecidableEq κ] : ∀ (ks r : List κ), ((ks.foldl addK r).length = r.length + ks.length ↔ ks.Nodup ∧ ∀ k ∈ ks, k ∉ r)
  | [], r => by simp
  | k :: ks, r => by
    rw [List.foldl_cons]
    by_cases c : k ∈ r
    · have e : addK r k = r := by unfold addK; rw [if_pos c]
      rw [e]
      have := onceK_len ks r
      constructor
      · intro h
        rw [List.length_cons] at h
        omega
      · rintro ⟨_, h⟩
        exact absurd c (h k (.head _))
    · have e : addK r k = r ++ [k] := by unfold addK; rw [if_neg c]
      rw [e, show r.length + (k :: ks).length = (r ++ [k]).length + ks.length by simp; omega, once_len ks (r ++ [k])]
      constructor
      · rintro ⟨h1, h2⟩
        refine ⟨List.nodup_cons.mpr ⟨fun z => h2 k z (by simp), h1⟩, fun j hj => ?_⟩
        rcases List.mem_cons.mp hj with rfl | hj
        · exact c
        · exact fun z => h2 j hj (by simp [z])
      · rintro ⟨h1, h2⟩
        obtain ⟨h3, h4⟩ := List.nodup_cons.mp h1
        refine ⟨h4, fun j hj z => ?_⟩
        rcases List.mem_append.mp z with z | z
        · exact h2 j (.tail _ hj) z
        · rw [List.mem_singleton.mp z] at hj; exact h3 hj
def keyO (p : Pr) : List Key := [Sum.inr p.1, Sum.inr p.2]
theorem keyO_inj {p q : Pr} (h : keyO p = keyO q) : p = q := by
  unfold keyO at h
  injection h with h1 h2
  injection h2 with h2 _
  injection h1 with h1
  injection h2 with h2
  exact Prod.ext h1 h2
theorem keys_pr : ∀ ps : List Pr, keysP (ps.map fun p => .tup [prD p, .bl true]) = some (ps.map keyO)
  | [] => rfl
  | p :: ps => by
    rw [List.map_cons]
    unfold keysP
    rw [keys_pr ps]
    rfl
theorem eq_int (i j : Int) (mu : Sto) : eqD (.int i) (.int j) mu = some (.bl (decide (i = j)), mu) := by
  have hd : min (toPy (.int i)).depth (toPy (.int j)).depth ≤ 60 := Nat.le_trans (Nat.min_le_right _ _) (PV.dep_int j)
  have hp : ∀ z : Int, pureD (.int z) = true := fun _ => rfl
  simp only [eqD, eqB, PV.seen, hp, hd, decide_true, Bool.and_self, if_true, Option.map_some]
  simp only [toPy, PyData.eqv]
  by_cases c : i = j
  · subst c; simp
  · simp [c]
theorem unlike_run (ps : List Pr) (mu : Sto) : f_law_unlike [.tup (ps.map prD)] mu = some (.bl (decide ps.Nodup), mu) := by
  have lc : lcGo none mu (gNm 0) tY (eTup (aCons (eVar 0) (aCons (eC (.bl true)) aNil))) [none] (ps.map prD) mu = some (ps.map fun p => .tup [prD p, .bl true], mu) :=
    lc_on _ _ _ fun p _ => ⟨[some (prD p)], rfl, by simp only [eTup, aCons, aNil, eVar, eC, bM, List.getElem?_cons_zero]⟩
  have ln : lnD [.lst (ps.map fun p => .tup [prD p, .bl true])] mu = some (.int (onceK (ps.map keyO)).length, mu) := by
    simp only [lnD, arg1, lstOf, keys_pr, Option.map_some]
  have nd : decide (((onceK (ps.map keyO)).length : Int) = ((ps.map prD).length : Int)) = decide ps.Nodup := by
    refine decide_eq_decide.mpr ?_
    have := once_len (ps.map keyO) []
    unfold onceK
    rw [List.length_nil, Nat.zero_add, List.length_map] at this
    rw [List.length_map]
    constructor
    · intro h
      have h' := (this.mp (by omega)).1
      exact (List.Pairwise.of_map keyO (fun a b ne e => ne (by rw [e])) h')
    · intro h
      have nk : (ps.map keyO).Nodup := List.Pairwise.map keyO (fun a b ne e => ne (keyO_inj e)) h
      have := this.mpr ⟨nk, fun _ _ z => nomatch z⟩
      omega
  rw [← nd]
  generalize (ps.map prD) = ds at lc ⊢
  simp only [f_law_unlike, fnB, m_law_unlike]
  simp [-List.map_map, sRt, eBin, eLnD, aCons, aNil, eLC, iVal, eVar, bM, r0, lc, ln, eCall, PG.len_tup, eq_int]
theorem dep_prs (ps : List Pr) : PyData.depthAll (toPys (ps.map prD)) ≤ 10 := by
  induction ps with
  | nil => simp [toPys, PyData.depthAll]
  | cons p ps ih =>
    rw [List.map_cons, toPys]
    have e : (toPy (prD p)).depth = 1 := by simp [PyData.depthAll, prD, toPy, toPys, PyData.depth]
    unfold PyData.depthAll
    rw [e]
    exact Nat.max_le.mpr ⟨by decide, ih⟩
theorem pure_prs (ps : List Pr) : pureL (ps.map prD) = true := by
  induction ps with
  | nil => rfl
  | cons p ps ih => simp [pureL, pureD, prD, ih]
theorem eqv_prs : ∀ ps rs : List Pr, PyData.eqvAll (toPys (ps.map prD)) (toPys (rs.map prD)) = decide (ps = rs)
  | [], [] => by simp [toPys, PyData.eqvAll]
  | [], r :: rs => by simp [toPys, PyData.eqvAll]
  | p :: ps, [] => by simp [toPys, PyData.eqvAll]
  | p :: ps, r :: rs => by
    rw [List.map_cons, List.map_cons, toPys, toPys]
    have ih := eqv_prs ps rs
    simp only [PyData.eqvAll, ih, prD, toPy, toPys, PyData.eqv]
    obtain ⟨a, b⟩ := p
    obtain ⟨c, d⟩ := r
    by_cases h1 : a = c
    · by_cases h2 : b = d
      · simp [h1, h2]
      · simp [h1, h2]
    · simp [h1]
theorem eq_prs (ps rs : List Pr) (mu : Sto) : eqD (.lst (ps.map prD)) (.lst (rs.map prD)) mu = some (.bl (decide (ps = rs)), mu) := by
  have hd : min (toPy (.lst (ps.map prD))).depth (toPy (.lst (rs.map prD))).depth ≤ 60 := by
    refine Nat.le_trans (Nat.min_le_left _ _) ?_
    unfold toPy PyData.depth
    have := dep_prs ps
    omega
  have hp : ∀ zs : List Pr, pureD (.lst (zs.map prD)) = true := fun zs => by unfold pureD; exact pure_prs zs
  simp only [eqD, eqB, PV.seen, hp, hd, decide_true, Bool.and_self, if_true, Option.map_some]
  simp only [toPy, PyData.eqv, eqv_prs]
theorem due_run {ts : List T} (hS : SOk ts) {d : D} (h : Th d) (mu : Sto) : ∃ b o, f_are_stays [.tup (ts.map tabD), d] mu = some (.bl b, mu) ∧ f_law_due [.tup (ts.map tabD), d] mu = some (.bl b, mu ++ [o]) := by
  obtain ⟨z3, z4, z5, z6, lp⟩ := there_loop (.tup (ts.map tabD)) d mu (mu ++ [.dct [] []]) ts [] none none none none hS.ok (by simpa using hS.nd) (by simpa using hS.le)
  simp only [List.map_nil, List.nil_append] at lp
  unfold thBody at lp
  by_cases c : ∃ ds, d = .tup ds
  · obtain ⟨ds, rfl⟩ := c
    obtain ⟨hl, hr⟩ := h.r1 ds rfl
    obtain ⟨w6, ck⟩ := ck_loop (ts := ts) (sch := .tup (ts.map tabD)) (th := .tup ds) (mu := mu) (m0 := mu ++ [.dct (ts.map T.nm) (ts.map lsD)]) (y3 := z3) (y4 := z4) (y5 := z5) ds z6 hr
    unfold ckBody at ck
    cases ca : allB ts ds with
    | false =>
      rw [ca, if_neg Bool.false_ne_true] at ck
      refine ⟨false, .dct (ts.map T.nm) (ts.map lsD), stays_no hS.ok h (fun ds' e => by cases e; exact ca) mu, ?_⟩
      simp only [f_law_due, fnB, m_law_due]
      simp only [List.map_cons, List.map_nil, List.length_cons, List.length_nil, List.replicate, List.cons_append, List.nil_append, Nat.reduceSub, Nat.reduceAdd, sSeq, sSet, eDctM, gNm, bM, List.set] at lp ck ⊢
      rw [for_tup rfl, lp]
      simp only [sIf, tNt, tV, eIsi, eVar, bM, List.getElem?_cons_zero, List.getElem?_cons_succ, okRef, isi, tyN, asB, if_true, beq_self_eq_true, Bool.true_or, Option.map_some, Bool.not_true, Bool.false_eq_true, if_false, sNx]
      rw [for_tup rfl, ck]
    | true =>
      rw [ca, if_pos rfl] at ck
      obtain ⟨ps, rfl⟩ := prs_of ca
      rw [List.length_map] at hl
      refine ⟨risB ps, .dct (ts.map T.nm) (ts.map lsD), stays_yes hS.ok ca mu, ?_⟩
      obtain ⟨rs, sr, pm, up⟩ := sort_prs hl (mu ++ [.dct (ts.map T.nm) (ts.map lsD)])
      have un := unlike_run ps (mu ++ [.dct (ts.map T.nm) (ts.map lsD)])
      have eq := eq_prs ps rs (mu ++ [.dct (ts.map T.nm) (ts.map lsD)])
      have lf : lstF [.tup (ps.map prD)] (mu ++ [.dct (ts.map T.nm) (ts.map lsD)]) = some (.lst (ps.map prD), mu ++ [.dct (ts.map T.nm) (ts.map lsD)]) := rfl
      have re := ris_eq pm up
      simp only [f_law_due, fnB, m_law_due]
      simp only [List.map_cons, List.map_nil, List.length_cons, List.length_nil, List.replicate, List.cons_append, List.nil_append, Nat.reduceSub, Nat.reduceAdd, sSeq, sSet, eDctM, gNm, bM, List.set] at lp ck ⊢
      rw [for_tup rfl, lp]
      simp only [sIf, tNt, tV, eIsi, eVar, bM, List.getElem?_cons_zero, List.getElem?_cons_succ, okRef, isi, tyN, asB, if_true, beq_self_eq_true, Bool.true_or, Option.map_some, Bool.not_true, Bool.false_eq_true, if_false, sNx]
      rw [for_tup rfl, ck]
      generalize (mu ++ [MO.dct (ts.map T.nm) (ts.map lsD)]) = M at sr un eq lf
      generalize ps.map prD = ds at sr un eq lf
      simp only [sRt, eAn, eBin, eCall, aCons, aNil, eVar, bM, List.getElem?_cons_zero, List.getElem?_cons_succ, lf, sr, eq, asB, un]
      rw [re]
      cases decide (ps = rs) with
      | true => simp
      | false => simp
  · refine ⟨false, .dct (ts.map T.nm) (ts.map lsD), stays_no hS.ok h (fun ds e => absurd ⟨ds, e⟩ c) mu, ?_⟩
    have hr := h.r
    simp only [f_law_due, fnB, m_law_due]
    simp only [List.map_cons, List.map_nil, List.length_cons, List.length_nil, List.replicate, List.cons_append, List.nil_append, Nat.reduceSub, Nat.reduceAdd, sSeq, sSet, eDctM, gNm, bM, List.set] at lp ⊢
    rw [for_tup rfl, lp]
    cases d with
    | ref k => cases hr
    | tup ds => exact absurd ⟨ds, rfl⟩ c
    | _ => simp [sIf, tNt, tV, eIsi, eVar, bM, okRef, isi, tyN, asB, sRt, eC]
end PG

namespace PG
open PySem L2 PV PyProof.Rows K1
theorem sort_prsL {qs : List Pr} (h : qs.length < 64) (mu : Sto) : ∃ rs : List Pr, srtG [.lst (qs.map prD)] mu = some (.lst (rs.map prD), mu) ∧ rs.length = qs.length := by
  obtain ⟨rs, e, pm, _⟩ := sort_prs h mu
  refine ⟨rs, ?_, pm.length_eq⟩
  cases qs with
  | nil =>
    have : rs = [] := List.Perm.eq_nil pm
    subst this
    have e0 : sortS [] = [] := List.Perm.eq_nil (sortS_perm [])
    have := srt_strs (ss := []) (by decide) mu
    rw [e0] at this
    exact this
  | cons p qs =>
    have hf : srtF [.lst ((p :: qs).map prD)] mu = none := by
      simp [srtF, arg1, lstOf, strsOf, prD]
    have hf2 : srtF [.tup ((p :: qs).map prD)] mu = none := rfl
    unfold srtG at e ⊢
    rw [hf]
    rw [hf2] at e
    exact e
noncomputable def stBody : Sx := (sSet (eBin addD (eBin addD (eVar 2) (eLst (aCons (eTup (aCons (eVar 3) (aCons (eC (.str (Str.ofString ""))) (aNil)))) (aNil)))) (eLC (iVal (eSl (eVar 4) (pSome (eVar 5)) (pNo))) 2 [3] (gTp 2 (gsCons (gNm 0) (gsCons (gNm 1) (gsNil)))) (tY) (eTup (aCons (eVar 2) (aCons (eVar 0) (aNil)))))) (gNm 2))
theorem stays_loop (hd sch : D) (mu m0 : Sto) : ∀ (us : List T) (ps : List Pr) (y3 y4 y5 y6 : Option D), (∀ t ∈ us, TOk t) → ps.length + 4 * us.length ≤ 16 →
    ∃ (qs : List Pr) (z3 z4 z5 z6 : Option D), forGo none m0 (gTp 3 (gsCons (gNm 3) (gsCons (gNm 4) (gsCons (gNm 5) (gsNil))))) stBody (us.map tabD) [some hd, some sch, some (.lst (ps.map prD)), y3, y4, y5, y6] mu = some ((.nx, [some hd, some sch, some (.lst (qs.map prD)), z3, z4, z5, z6]), mu) ∧ qs.length ≤ 16
  | [], ps, y3, y4, y5, y6, _, hl => ⟨ps, y3, y4, y5, y6, rfl, by simpa using hl⟩
  | t :: us, ps, y3, y4, y5, y6, hW, hl => by
    have ok := hW t (.head _)
    have tlen : (tail t).length ≤ 3 := by
      unfold tail
      rw [List.length_map, List.length_drop]
      have := ok.c4
      have := ok.k1
      omega
    rw [List.length_cons] at hl
    obtain ⟨qs, z3, z4, z5, z6, ih, hq⟩ := stays_loop hd sch mu m0 us (ps ++ [(t.nm, Str.ofString "")] ++ (tail t).map fun c => (t.nm, c)) (some (.str t.nm)) (some (.tup (t.cs.map colD))) (some (.int t.ks)) y6 (fun u hu => hW u (.tail _ hu)) (by simp only [List.length_append, List.length_map, List.length_cons, List.length_nil]; omega)
    refine ⟨qs, z3, z4, z5, z6, ?_, hq⟩
    have cl : lcGo none mu (gTp 2 (gsCons (gNm 0) (gsCons (gNm 1) gsNil))) tY (eTup (aCons (eVar 2) (aCons (eVar 0) aNil))) [none, none, some (.str t.nm)] (PV.cutD (t.cs.map colD) (some (t.ks : Int)) none) mu = some (((tail t).map fun c => (t.nm, c)).map prD, mu) := by
      rw [cut_drop _ _ (by rw [List.length_map]; exact ok.k4), ← List.map_drop, show ((tail t).map fun c => (t.nm, c)).map prD = (t.cs.drop t.ks).map fun p => prD (t.nm, p.1) by unfold tail; rw [List.map_map, List.map_map]; rfl]
      exact lc_on _ _ _ fun p _ => ⟨[some (.str p.1), some p.2, some (.str t.nm)], by simp [colD, gTp, gsCons, gsNil, gNm, bM], by simp only [eTup, aCons, aNil, eVar, bM, List.getElem?_cons_zero, List.getElem?_cons_succ, prD]⟩
    have a1 : addD (.lst (ps.map prD)) (.lst [.tup [.str t.nm, .str (Str.ofString "")]]) mu = some (.lst ((ps ++ [(t.nm, Str.ofString "")]).map prD), mu) := by
      simp only [addD, lstOf]
      rw [if_pos (by simp only [List.length_map, List.length_cons, List.length_nil, sizeLine_eq]; omega), List.map_append]
      rfl
    have a2 : addD (.lst ((ps ++ [(t.nm, Str.ofString "")]).map prD)) (.lst (((tail t).map fun c => (t.nm, c)).map prD)) mu = some (.lst ((ps ++ [(t.nm, Str.ofString "")] ++ (tail t).map fun c => (t.nm, c)).map prD), mu) := by
      simp only [addD, lstOf]
      rw [if_pos (by simp only [List.length_map, List.length_append, List.length_cons, List.length_nil, sizeLine_eq]; omega), List.map_append (l₁ := ps ++ [(t.nm, Str.ofString "")])]
    have tb : stBody [some hd, some sch, some (.lst (ps.map prD)), some (.str t.nm), some (.tup (t.cs.map colD)), some (.int t.ks), y6] mu = some ((.nx, [some hd, some sch, some (.lst ((ps ++ [(t.nm, Str.ofString "")] ++ (tail t).map fun c => (t.nm, c)).map prD)), some (.str t.nm), some (.tup (t.cs.map colD)), some (.int t.ks), y6]), mu) := by
      simp only [stBody, sSet, eBin, eVar, eLst, eTup, aCons, aNil, eC, bM, List.getElem?_cons_zero, List.getElem?_cons_succ, a1, eLC, iVal, eSl, pSome, pNo, slD, r0, List.map_cons, List.map_nil, List.replicate, List.cons_append, List.nil_append, List.getD_cons_succ, List.getD_cons_zero, cl, a2, gNm, List.set]
    rw [List.map_cons]
    unfold forGo
    have tg : gTp 3 (gsCons (gNm 3) (gsCons (gNm 4) (gsCons (gNm 5) (gsNil)))) (tabD t) [some hd, some sch, some (.lst (ps.map prD)), y3, y4, y5, y6] mu = some ([some hd, some sch, some (.lst (ps.map prD)), some (.str t.nm), some (.tup (t.cs.map colD)), some (.int t.ks), y6], mu) := by
      simp [-List.map_map, gTp, tabD, gsCons, gsNil, gNm, bM]
    rw [tg, bM_some, tb, bM_some]
    dsimp only
    rw [guard', if_pos (show gOk none m0 _ from True.intro), ih]
theorem few_loop {k : Nat} {many : Int} (h1 : 0 < many + 1) (h2 : many + 1 < 1073741824) (m0 : Sto) : ∀ (ps : List Pr) (n : Nat) (mu : Sto), HandOk mu k (n + ps.length) →
    ∃ (qs : List Pr) (mu' : Sto), lcGo none m0 (gNm 0) (tV (eBin eqD (eCall f_law_take (aCons (eVar 1) (aCons (eBin addD (eVar 2) (eC (.int 1))) (aNil)))) (eC (.int 0)))) (eVar 0) [none, some (.ref k), some (.int many)] (ps.map prD) mu = some (qs.map prD, mu') ∧ qs.length ≤ ps.length ∧ Fr k n mu mu'
  | [], n, mu, h => ⟨[], mu, rfl, Nat.le_refl _, Fr.refl h⟩
  | p :: ps, n, mu, h => by
    obtain ⟨_, m1, e1, f1, t, rfl, _, _⟩ := take_run (m := many + 1) (n := n + ps.length) (by rw [List.length_cons, ← Nat.add_assoc] at h; exact h) h1 h2
    obtain ⟨qs, m2, e2, hl, f2⟩ := few_loop h1 h2 m0 ps n m1 f1.hand
    have ei := eq_int t 0 m1
    have tt : tV (eBin eqD (eCall f_law_take (aCons (eVar 1) (aCons (eBin addD (eVar 2) (eC (.int 1))) (aNil)))) (eC (.int 0))) [some (prD p), some (.ref k), some (.int many)] mu = some (decide (t = 0), m1) := by
      simp only [bM, tV, eBin, eCall, aCons, aNil, eVar, eC, List.getElem?_cons_zero, List.getElem?_cons_succ, addD, e1, ei, asB, Option.map_some]
    have g0 : gNm 0 (prD p) [none, some (.ref k), some (.int many)] mu = some ([some (prD p), some (.ref k), some (.int many)], mu) := rfl
    cases c : decide (t = 0) with
    | true =>
      rw [c] at tt
      refine ⟨p :: qs, m2, ?_, by simp; omega, f1.trans f2⟩
      rw [List.map_cons]
      unfold lcGo
      rw [g0, bM_some, tt, bM_some, if_pos rfl, show eVar 0 [some (prD p), some (.ref k), some (.int many)] m1 = some (prD p, m1) from rfl, bM_some, guard', if_pos (show gOk none m0 m1 from True.intro), e2, bM_some, List.map_cons]
    | false =>
      rw [c] at tt
      refine ⟨qs, m2, ?_, by simp; omega, f1.trans f2⟩
      rw [List.map_cons]
      unfold lcGo
      rw [g0, bM_some, tt, bM_some, if_neg Bool.false_ne_true, guard', if_pos (show gOk none m0 m1 from True.intro), e2]
theorem stays_run {ts : List T} (hS : SOk ts) {mu : Sto} {k n : Nat} (h : HandOk mu k (n + 17)) : Run (f_law_stays [.ref k, .tup (ts.map tabD)] mu) k n mu fun d => ∃ ps : List Pr, d = .tup (ps.map prD) ∧ ps.length ≤ 16 := by
  obtain ⟨qs, z3, z4, z5, z6, e1, hq⟩ := stays_loop (.ref k) (.tup (ts.map tabD)) mu mu ts [] none none none none hS.ok (by have := hS.le; simp; omega)
  unfold stBody at e1
  obtain ⟨mv, m1, e2, f1, hmv⟩ := pick_run (s := .lst [.int 2, .int 3, .int 5, .int 9, .int 1]) (n := n + 16) (.inl rfl) (by simp) (by decide) h
  obtain ⟨v, rfl, v0, v9⟩ : ∃ v : Int, mv = .int v ∧ 0 ≤ v ∧ v ≤ 9 := by
    simp only [List.mem_cons, List.not_mem_nil, or_false] at hmv
    rcases hmv with rfl | rfl | rfl | rfl | rfl <;> exact ⟨_, rfl, by decide, by decide⟩
  obtain ⟨ws, m2, e3, hw, f2⟩ := few_loop (k := k) (many := v) (by omega) (by omega) m1 qs n m1 (f1.hand.mono (by omega))
  obtain ⟨rs, e4, hr⟩ := sort_prsL (qs := ws) (by omega) m2
  refine ⟨.tup (rs.map prD), m2, ?_, f1.trans f2, rs, rfl, by omega⟩
  simp only [f_law_stays, fnB, m_law_stays]
  simp only [List.map_cons, List.map_nil, List.length_cons, List.length_nil, List.replicate, List.cons_append, List.nil_append, Nat.reduceSub, Nat.reduceAdd, sSeq, sSet, eLst, aCons, aNil, eC, gNm, bM, List.set] at e1 e2 ⊢
  rw [for_tup rfl, e1]
  simp only [eLst, eC, eCall, aCons, aNil, eVar, bM, List.getElem?_cons_zero, List.getElem?_cons_succ, e2, List.set, sRt, eLC, iVal, r0, List.map_cons, List.map_nil, List.replicate, List.cons_append, List.nil_append, List.getD_cons_succ, List.getD_cons_zero, e3, e4, tupF, sq1, arg1, seqOf, lstOf, Option.map_some]
end PG

namespace PG
open PySem L2 PV PyProof.Rows K1
def OddOk (d : D) : Prop := nR d = true ∧ ∀ es, d = .tup es → ∀ x ∈ es, nR x = true
theorem odd_tup {es : List D} (h : es.all nR = true) : OddOk (.tup es) := ⟨rfl, fun es' e x hx => by cases e; exact List.all_eq_true.mp h x hx⟩
theorem odd_other {d : D} (h : nR d = true) (n : ∀ es, d ≠ .tup es) : OddOk d := ⟨h, fun es e => absurd e (n es)⟩
theorem odd_run {ts : List T} (hS : SOk ts) {mu : Sto} {k n : Nat} (h : HandOk mu k (n + 4)) : Run (f_law_odd [.ref k, .tup (ts.map tabD)] mu) k n mu OddOk := by
  have hne : ts.map tabD ≠ [] := fun z => hS.ne (List.map_eq_nil_iff.mp z)
  have hll : (ts.map tabD).length < 1073741824 := by rw [List.length_map]; have := hS.le; omega
  obtain ⟨_, m1, e1, f1, h1⟩ := pick_run (s := .tup (ts.map tabD)) (n := n + 3) (.inr rfl) hne hll h
  obtain ⟨t, ht, rfl⟩ := List.mem_map.mp h1
  obtain ⟨_, m2, e2, f2, h2⟩ := pick_run (s := .tup (ts.map tabD)) (n := n + 2) (.inr rfl) hne hll f1.hand
  obtain ⟨t2, ht2, rfl⟩ := List.mem_map.mp h2
  have ok := hS.ok t ht
  have cne : t.cs.map colD ≠ [] := fun z => by
    have := ok.c0
    rw [List.map_eq_nil_iff.mp z] at this
    cases this
  obtain ⟨_, m3, e3, f3, h3⟩ := pick_run (s := .tup (t.cs.map colD)) (n := n + 1) (.inr rfl) cne (by rw [List.length_map]; have := ok.c4; omega) f2.hand
  obtain ⟨p, hp, rfl⟩ := List.mem_map.mp h3
  obtain ⟨q, qs, hq⟩ : ∃ q qs, t.cs = q :: qs := List.exists_cons_of_ne_nil (fun z => cne (by rw [z]; rfl))
  have L : ∃ es : List D, es = [.tup [.str t.nm, .str q.1], .tup [.str t2.nm, .str p.1], .tup [.str (Str.ofString "nosuch"), .str (Str.ofString "")], .tup [.str t.nm, .str (Str.ofString "nosuch")], .tup [.str t.nm], .tup [.str t.nm, .str p.1, .int 0], .lst [.str t.nm, .str (Str.ofString "")], .tup [.str t.nm, .non], .tup [.non, .str (Str.ofString "")], .str t.nm, .non, .bl true, .int 0, .tup [], .tup [.str (Str.ofString ""), .str (Str.ofString "")], .tup [.str t.nm, .tup [.str p.1]], .tup [.int 1, .int 2]] := ⟨_, rfl⟩
  obtain ⟨es, he⟩ := L
  have all : ∀ d ∈ es, OddOk d := by
    rw [he]
    intro d hd
    simp only [List.mem_cons, List.not_mem_nil, or_false] at hd
    rcases hd with rfl | rfl | rfl | rfl | rfl | rfl | rfl | rfl | rfl | rfl | rfl | rfl | rfl | rfl | rfl | rfl | rfl <;> first | exact odd_tup rfl | exact odd_other rfl (fun es e => nomatch e)
  obtain ⟨d, m4, e4, f4, h4⟩ := pick_run (s := .lst es) (n := n) (.inl rfl) (by rw [he]; simp) (by rw [he]; simp) f3.hand
  refine ⟨d, m4, ?_, ((f1.trans f2).trans f3).trans f4, all d h4⟩
  rw [he] at e4
  have td : ∀ t : T, tabD t = .tup [.str t.nm, .tup (t.cs.map colD), .int t.ks] := fun _ => rfl
  have i1 := ix0 (.str p.1) [p.2] m3
  have i2 : ixD (.tup (t.cs.map colD)) (.int 0) m3 = some (colD q, m3) := by rw [hq, List.map_cons]; exact ix0 _ _ _
  have i3 := ix0 (.str q.1) [q.2] m3
  have i4 := ix0 (.str t2.nm) [.tup (t2.cs.map colD), .int t2.ks] m3
  have ad : addD (.lst [.tup [.str t.nm, .str q.1], .tup [.str t2.nm, .str p.1], .tup [.str (Str.ofString "nosuch"), .str (Str.ofString "")], .tup [.str t.nm, .str (Str.ofString "nosuch")], .tup [.str t.nm], .tup [.str t.nm, .str p.1, .int 0]]) (.lst [.lst [.str t.nm, .str (Str.ofString "")], .tup [.str t.nm, .non], .tup [.non, .str (Str.ofString "")], .str t.nm, .non, .bl true, .int 0, .tup [], .tup [.str (Str.ofString ""), .str (Str.ofString "")], .tup [.str t.nm, .tup [.str p.1]], .tup [.int 1, .int 2]]) m3 = some (.lst es, m3) := by
    rw [he]
    simp only [addD, lstOf]
    rw [if_pos (by simp only [List.length_cons, List.length_nil, sizeLine_eq]; omega)]
    rfl
  rw [he] at ad
  simp only [f_law_odd, fnB, m_law_odd]
  rw [td t2] at e2
  rw [td t] at e1
  simp only [List.map_cons, List.map_nil, List.length_cons, List.length_nil, List.replicate, List.cons_append, List.nil_append, Nat.reduceSub, Nat.reduceAdd, sSeq, sSet, eCall, aCons, aNil, eVar, bM, List.getElem?_cons_zero, List.getElem?_cons_succ, e1, gTp, gsCons, gsNil, gNm, if_true, List.set, e2, e3, eBin, eC, colD, i1, i2, i3, i4, eLst, eTup, ad, sRt, e4]
end PG

namespace PG
open PySem L2 PV PyProof.Rows K1
theorem th_tup {es : List D} (hl : es.length < 64) (h : ∀ e ∈ es, OddOk e) : Th (.tup es) := ⟨rfl, fun ds e => by cases e; exact ⟨hl, h⟩⟩
theorem th_other {d : D} (h : nR d = true) (n : ∀ es, d ≠ .tup es) : Th d := ⟨h, fun ds e => absurd e (n ds)⟩
theorem cut_mem {ds : List D} {lo hi : Option Int} {x : D} (h : x ∈ PV.cutD ds lo hi) : x ∈ ds := by
  unfold PV.cutD at h
  exact List.mem_of_mem_drop (List.mem_of_mem_take h)
theorem pr_odd (p : Pr) : OddOk (prD p) := odd_tup rfl
theorem prs_odd {ps : List Pr} : ∀ e ∈ ps.map prD, OddOk e := fun e he => by
  obtain ⟨p, _, rfl⟩ := List.mem_map.mp he
  exact pr_odd p
theorem spoilt_run {ts : List T} (hS : SOk ts) {ps : List Pr} (hps : ps.length ≤ 16) {mu : Sto} {k n : Nat} (h : HandOk mu k (n + 6)) : Run (f_law_spoilt [.ref k, .tup (ts.map tabD), .tup (ps.map prD)] mu) k n mu Th := by
  have all := prs_odd (ps := ps)
  have ln : (ps.map prD).length ≤ 16 := by rw [List.length_map]; exact hps
  have nref : ∀ e ∈ ps.map prD, nR e = true := fun e he => (all e he).1
  generalize ps.map prD = ds at all ln nref
  obtain ⟨_, m1, e1, f1, t, rfl, _, _⟩ := take_run (m := (ds.length : Int) + 1) (n := n + 5) h (by omega) (by omega)
  obtain ⟨o, m2, e2, f2, ho⟩ := odd_run hS (n := n + 1) f1.hand
  have c1 : ∀ lo hi, (PV.cutD ds lo hi).length ≤ 16 := fun lo hi => Nat.le_trans (cutD_len ds lo hi) ln
  have c2 : ∀ lo hi, ∀ e ∈ PV.cutD ds lo hi, OddOk e := fun lo hi e he => all e (cut_mem he)
  have L : ∃ es : List D, es = [.tup ds.reverse, .tup (ds ++ PV.cutD ds none (some 1)), .lst ds, .tup (PV.cutD ds none (some t) ++ [o] ++ PV.cutD ds (some t) none), .tup (PV.cutD ds none (some t) ++ [o]), .tup [o]] ++ [.tup (PV.cutD ds (some 1) none), .tup [.tup ds]] := ⟨_, rfl⟩
  obtain ⟨es, he⟩ := L
  have allT : ∀ d ∈ es, Th d := by
    rw [he]
    intro d hd
    have k1 := c1 none (some 1)
    have k2 := c1 none (some t)
    have k3 := c1 (some t) none
    have k4 := c1 (some 1) none
    simp only [List.cons_append, List.nil_append, List.mem_cons, List.not_mem_nil, or_false] at hd
    rcases hd with rfl | rfl | rfl | rfl | rfl | rfl | rfl | rfl
    · exact th_tup (by simp; omega) fun e he => all e (by simpa using he)
    · exact th_tup (by rw [List.length_append]; omega) fun e he => (List.mem_append.mp he).elim (all e) (c2 _ _ e)
    · exact th_other rfl fun es e => nomatch e
    · refine th_tup (by simp only [List.length_append, List.length_cons, List.length_nil]; omega) fun e he => ?_
      have hw := List.mem_append.mp he; rcases hw with he | he
      · have hw := List.mem_append.mp he; rcases hw with he | he
        · exact c2 _ _ e he
        · rw [List.mem_singleton.mp he]; exact ho
      · exact c2 _ _ e he
    · refine th_tup (by simp only [List.length_append, List.length_cons, List.length_nil]; omega) fun e he => ?_
      have hw := List.mem_append.mp he; rcases hw with he | he
      · exact c2 _ _ e he
      · rw [List.mem_singleton.mp he]; exact ho
    · exact th_tup (by simp) fun e he => by rw [List.mem_singleton.mp he]; exact ho
    · exact th_tup (by omega) (c2 _ _)
    · exact th_tup (by simp) fun e he => by rw [List.mem_singleton.mp he]; exact ⟨rfl, fun es e x hx => by cases e; exact nref x hx⟩
  obtain ⟨d, m3, e3, f3, h3⟩ := pick_run (s := .lst es) (n := n) (.inl rfl) (by rw [he]; simp) (by rw [he]; simp) f2.hand
  refine ⟨d, m3, ?_, (f1.trans f2).trans f3, allT d h3⟩
  have at1 : ∀ xs ys : List D, xs.length ≤ 100 → ys.length ≤ 100 → ∀ m, addD (.tup xs) (.tup ys) m = some (.tup (xs ++ ys), m) := fun xs ys a b m => by
    simp only [addD]
    rw [if_pos (by rw [sizeLine_eq]; omega)]
  have k1 := c1 none (some 1)
  have k2 := c1 none (some t)
  have k3 := c1 (some t) none
  have a1 := at1 ds (PV.cutD ds none (some 1)) (by omega) (by omega) m2
  have a2 := at1 (PV.cutD ds none (some t)) [o] (by omega) (by simp) m2
  have a3 := at1 (PV.cutD ds none (some t) ++ [o]) (PV.cutD ds (some t) none) (by simp only [List.length_append, List.length_cons, List.length_nil]; omega) (by omega) m2
  have al : addD (.lst [.tup ds.reverse, .tup (ds ++ PV.cutD ds none (some 1)), .lst ds, .tup (PV.cutD ds none (some t) ++ [o] ++ PV.cutD ds (some t) none), .tup (PV.cutD ds none (some t) ++ [o]), .tup [o]]) (.lst [.tup (PV.cutD ds (some 1) none), .tup [.tup ds]]) m2 = some (.lst es, m2) := by
    rw [he]
    simp only [addD, lstOf]
    rw [if_pos (by simp only [List.length_cons, List.length_nil, sizeLine_eq]; omega)]
  have rv : revD (.tup ds) m2 = some (.tup ds.reverse, m2) := rfl
  have lf : lstF [.tup ds] m2 = some (.lst ds, m2) := rfl
  simp only [f_law_spoilt, fnB, m_law_spoilt]
  simp only [List.map_cons, List.map_nil, List.length_cons, List.length_nil, List.replicate, List.cons_append, List.nil_append, Nat.reduceSub, Nat.reduceAdd, sSeq, sSet, eCall, aCons, aNil, eVar, bM, List.getElem?_cons_zero, List.getElem?_cons_succ, PG.len_tup, eBin, eC, addD, e1, gNm, List.set, e2]
  simp only [eLst, aCons, aNil, PV.e1, eVar, bM, List.getElem?_cons_zero, List.getElem?_cons_succ, rv, eBin, eSl, pNo, pSome, eC, slD, a1, eCall, lf, eTup, a2, a3, sRt, al, e3]
end PG

namespace PG
open PySem L2 PV PyProof.Rows K1
theorem ne_bl (b : Bool) (mu : Sto) : neD (.bl b) (.bl b) mu = some (.bl false, mu) := by
  have hd : min (toPy (.bl b)).depth (toPy (.bl b)).depth ≤ 60 := by simp [toPy, PySem.PyData.depth]
  have hp : pureD (.bl b) = true := rfl
  simp only [neD, eqB, PV.seen, hp, hd, decide_true, Bool.and_self, if_true, Option.map_some]
  cases b <;> simp [toPy, PyData.eqv]
noncomputable def apBody : Sx := (sEx (eApp (eVar 5) (aCons (eCall f_law_spoilt (aCons (eVar 2) (aCons (eVar 3) (aCons (eVar 4) (aNil))))) (aNil))))
noncomputable def lkBody : Sx := (sSeq (sSet (eCall f_are_stays (aCons (eVar 3) (aCons (eVar 7) (aNil)))) (gNm 8)) (sIf (tO (tNt (tV (eIsi "bool" (eVar 8)))) (tV (eBin neD (eVar 8) (eCall f_law_due (aCons (eVar 3) (aCons (eVar 7) (aNil))))))) (sRt (eC (.bl false))) (sNx)))
theorem ap_loop {ts : List T} (hS : SOk ts) {ps : List Pr} (hps : ps.length ≤ 16) {sc kk : D} {k S : Nat} (hkS : S ≠ k) {m0 mu : Sto} {th0 : List D} (h0 : mu[S]? = some (.lst th0)) (hl0 : th0.length = 11) (hT : ∀ d ∈ th0, Th d) (hh : HandOk mu k 60) {y6 y7 y8 : Option D} :
    ∃ ro' mu', forGo none m0 (gNm 6) apBody (rngD 0 10) [some sc, some kk, some (.ref k), some (.tup (ts.map tabD)), some (.tup (ps.map prD)), some (.ref S), y6, y7, y8] mu = some ((.nx, ro'), mu') ∧ (∃ z6 z7 z8, ro' = [some sc, some kk, some (.ref k), some (.tup (ts.map tabD)), some (.tup (ps.map prD)), some (.ref S), z6, z7, z8]) ∧ ∃ th, mu'[S]? = some (.lst th) ∧ th.length = 21 ∧ ∀ d ∈ th, Th d := by
  have key := for_ind (m0 := m0) (tg := gNm 6) (body := apBody) (fun i ro m => (∃ z6 z7 z8, ro = [some sc, some kk, some (.ref k), some (.tup (ts.map tabD)), some (.tup (ps.map prD)), some (.ref S), z6, z7, z8]) ∧ (∃ th, m[S]? = some (.lst th) ∧ th.length = 11 + i ∧ ∀ d ∈ th, Th d) ∧ i ≤ 10 ∧ HandOk m k (6 * (10 - i))) (rngD 0 10) 0 [some sc, some kk, some (.ref k), some (.tup (ts.map tabD)), some (.tup (ps.map prD)), some (.ref S), y6, y7, y8] mu
    ⟨⟨_, _, _, rfl⟩, ⟨th0, h0, hl0, hT⟩, Nat.zero_le _, hh⟩ fun j d ro m ed hi => by
      obtain ⟨⟨z6, z7, z8, rfl⟩, ⟨th, a1, a2, a3⟩, a4, a5⟩ := hi
      obtain ⟨rfl, hj⟩ := rng_at ed
      obtain ⟨d, m1, e1, f1, hd⟩ := spoilt_run hS hps (n := 6 * (10 - (0 + j + 1))) (a5.mono (by omega))
      have hSl : S < m.length := (List.getElem?_eq_some_iff.mp a1).1
      have b1 : m1[S]? = some (.lst th) := (f1.keep S hSl hkS).trans a1
      have ap := append_at2 a1 b1 (y := d) (by rw [a2, sizeLine_eq]; omega) [some sc, some kk, some (.ref k), some (.tup (ts.map tabD)), some (.tup (ps.map prD)), some (.ref S), some (.int j), z7, z8] 5 (eCall f_law_spoilt (aCons (eVar 2) (aCons (eVar 3) (aCons (eVar 4) (aNil))))) rfl (by simp only [eCall, aCons, aNil, eVar, bM, List.getElem?_cons_zero, List.getElem?_cons_succ, e1])
      refine ⟨_, m, _, _, rfl, ap, ⟨_, _, _, rfl⟩, ⟨th ++ [d], set_hand b1, by rw [List.length_append, a2]; rfl, fun x hx => ?_⟩, by omega, ?_⟩
      · rcases List.mem_append.mp hx with hx | hx
        · exact a3 x hx
        · cases List.mem_singleton.mp hx; exact hd
      · obtain ⟨a, b, c', g1, g2⟩ := f1.hand
        exact ⟨a, b, c', by rw [List.getElem?_set_ne hkS]; exact g1, g2⟩
  obtain ⟨ro', mu', e, a1, ⟨th, b1, b2, b3⟩, _, _⟩ := key
  exact ⟨ro', mu', e, a1, th, b1, by rw [b2]; simp [rngD], b3⟩
theorem lk_loop {ts : List T} (hS : SOk ts) {sc kk hd st so : D} {m0 : Sto} (ds : List D) (hT : ∀ d ∈ ds, Th d) (mu : Sto) {y6 y7 y8 : Option D} :
    ∃ ro' mu', forGo none m0 (gNm 7) lkBody ds [some sc, some kk, some hd, some (.tup (ts.map tabD)), some st, some so, y6, y7, y8] mu = some ((.nx, ro'), mu') ∧ (∃ z6 z7 z8, ro' = [some sc, some kk, some hd, some (.tup (ts.map tabD)), some st, some so, z6, z7, z8]) := by
  have key := for_ind (m0 := m0) (tg := gNm 7) (body := lkBody) (fun i ro m => ∃ z6 z7 z8, ro = [some sc, some kk, some hd, some (.tup (ts.map tabD)), some st, some so, z6, z7, z8]) ds 0 [some sc, some kk, some hd, some (.tup (ts.map tabD)), some st, some so, y6, y7, y8] mu ⟨_, _, _, rfl⟩ fun j d ro m ed hi => by
    obtain ⟨z6, z7, z8, rfl⟩ := hi
    obtain ⟨b, o, e1, e2⟩ := due_run hS (hT d (List.mem_of_getElem? ed)) m
    refine ⟨_, m, [some sc, some kk, some hd, some (.tup (ts.map tabD)), some st, some so, z6, some d, some (.bl b)], m ++ [o], rfl, ?_, ⟨_, _, _, rfl⟩⟩
    have ne := ne_bl b (m ++ [o])
    simp only [lkBody, sSeq, sSet, eCall, aCons, aNil, eVar, bM, List.set, List.getElem?_cons_zero, List.getElem?_cons_succ, e1, gNm, sIf, tO, tNt, tV, eIsi, okRef, isi, tyN, asB, if_true, beq_self_eq_true, Bool.true_or, Option.map_some, Bool.not_true, Bool.false_eq_true, if_false, eBin, e2, ne, sNx]
  obtain ⟨ro', mu', e, a1⟩ := key
  exact ⟨ro', mu', e, a1⟩
noncomputable def lwBody : Sx := (sSeq (sSet (eCall f_law_hand (aCons (eVar 0) (aCons (eVar 1) (aNil)))) (gNm 2)) (sSeq (sSet (eCall f_law_schema (aCons (eVar 2) (aCons (eC (.int 4)) (aCons (eC (.int 4)) (aCons (eC (.int 4)) (aNil)))))) (gNm 3)) (sSeq (sSet (eCall f_law_stays (aCons (eVar 2) (aCons (eVar 3) (aNil)))) (gNm 4)) (sSeq (sSet (eLstM (aCons (eVar 4) (aCons (eTup (aNil)) (aCons (eC .non) (aCons (eC (.bl true)) (aCons (eC (.int 0)) (aCons (eC (.str "")) (aCons (eLst (aNil)) (aCons (eDct0) (aCons (eTup (aCons (eTup (aNil)) (aNil))) (aCons (eTup (aCons (eC .non) (aNil))) (aCons (eTup (aCons (eC (.str "")) (aCons (eC (.str "")) (aNil)))) (aNil))))))))))))) (gNm 5)) (sSeq (sFor (iRg (aCons (eC (.int 10)) (aNil))) (gNm 6) (sEx (eApp (eVar 5) (aCons (eCall f_law_spoilt (aCons (eVar 2) (aCons (eVar 3) (aCons (eVar 4) (aNil))))) (aNil))))) (sFor (iVal (eBin addD (eVar 5) (eLst (aCons (eVar 4) (aNil))))) (gNm 7) (sSeq (sSet (eCall f_are_stays (aCons (eVar 3) (aCons (eVar 7) (aNil)))) (gNm 8)) (sIf (tO (tNt (tV (eIsi "bool" (eVar 8)))) (tV (eBin neD (eVar 8) (eCall f_law_due (aCons (eVar 3) (aCons (eVar 7) (aNil))))))) (sRt (eC (.bl false))) (sNx)))))))))
theorem law_step (ns : List Int) {j : Nat} (hj : j < 64) (m : Sto) {y2 y3 y4 y5 y6 y7 y8 : Option D} : ∃ ro2 m2, lwBody [some (.lst (ns.map D.int)), some (.int j), y2, y3, y4, y5, y6, y7, y8] m = some ((.nx, ro2), m2) ∧ ∃ z1 z2 z3 z4 z5 z6 z7 z8, ro2 = [some (.lst (ns.map D.int)), z1, z2, z3, z4, z5, z6, z7, z8] := by
  obtain ⟨o, e1, h1⟩ := hand_run (mu := m) (k := j) (n := 1000) (ns := ns) hj (by decide)
  obtain ⟨_, m2, e2, f2, ts, rfl, hS⟩ := schema_run (n := 900) (h1.mono (by omega))
  obtain ⟨_, m3, e3, f3, ps, rfl, hps⟩ := stays_run hS (n := 800) (f2.hand.mono (by omega))
  have hk3 : m.length < m3.length := by obtain ⟨a, b, c, q, _⟩ := f3.hand; exact (List.getElem?_eq_some_iff.mp q).1
  have L : ∃ th0 : List D, th0 = [.tup (ps.map prD), .tup [], .non, .bl true, .int 0, .str (Str.ofString ""), .lst [], .dct0, .tup [.tup []], .tup [.non], .tup [.str (Str.ofString ""), .str (Str.ofString "")]] := ⟨_, rfl⟩
  obtain ⟨th0, he⟩ := L
  have hst : Th (.tup (ps.map prD)) := th_tup (by rw [List.length_map]; omega) prs_odd
  have hT : ∀ d ∈ th0, Th d := by
    rw [he]
    intro d hd
    simp only [List.mem_cons, List.not_mem_nil, or_false] at hd
    rcases hd with rfl | rfl | rfl | rfl | rfl | rfl | rfl | rfl | rfl | rfl | rfl
    · exact hst
    · exact th_tup (by decide) fun e he => nomatch he
    · exact th_other rfl fun es e => nomatch e
    · exact th_other rfl fun es e => nomatch e
    · exact th_other rfl fun es e => nomatch e
    · exact th_other rfl fun es e => nomatch e
    · exact th_other rfl fun es e => nomatch e
    · exact th_other rfl fun es e => nomatch e
    · exact th_tup (by decide) fun e he => by rw [List.mem_singleton.mp he]; exact odd_tup rfl
    · exact th_tup (by decide) fun e he => by rw [List.mem_singleton.mp he]; exact odd_other rfl fun es e => nomatch e
    · exact th_tup (by decide) fun e he => by
        simp only [List.mem_cons, List.not_mem_nil, or_false] at he
        rcases he with rfl | rfl <;> exact odd_other rfl fun es e => nomatch e
  have hand4 : HandOk (m3 ++ [MO.lst th0]) m.length 60 := by
    obtain ⟨a, b, c', q, r⟩ := f3.hand.mono (show 60 ≤ 800 by decide)
    exact ⟨a, b, c', by rw [List.getElem?_append_left hk3]; exact q, r⟩
  obtain ⟨ro4, m4, e4, ⟨z6, z7, z8, rfl⟩, th, t1, t2, t3⟩ := ap_loop hS hps (sc := .lst (ns.map D.int)) (kk := .int j) (k := m.length) (S := m3.length) (by omega) (m0 := m3 ++ [MO.lst th0]) (mu := m3 ++ [MO.lst th0]) (th0 := th0) (by simp) (by rw [he]; rfl) hT hand4 (y6 := y6) (y7 := y7) (y8 := y8)
  obtain ⟨ro5, m5, e5, ⟨w6, w7, w8, rfl⟩⟩ := lk_loop hS (sc := .lst (ns.map D.int)) (kk := .int j) (hd := .ref m.length) (st := .tup (ps.map prD)) (so := .ref m3.length) (m0 := m4) (th ++ [.tup (ps.map prD)]) (fun d hd => by
    rcases List.mem_append.mp hd with hd | hd
    · exact t3 d hd
    · rw [List.mem_singleton.mp hd]; exact hst) m4 (y6 := z6) (y7 := z7) (y8 := z8)
  refine ⟨[some (.lst (ns.map D.int)), some (.int j), some (.ref m.length), some (.tup (ts.map tabD)), some (.tup (ps.map prD)), some (.ref m3.length), w6, w7, w8], m5, ?_, ⟨_, _, _, _, _, _, _, _, rfl⟩⟩
  have rg : -(2 ^ 62) ≤ (10 : Int) ∧ (10 : Int) ≤ (sizeLine : Int) := ⟨by decide, by rw [sizeLine_eq]; decide⟩
  have r10 : (10 : Int).toNat = 10 := rfl
  have ad : addD (.ref m3.length) (.lst [.tup (ps.map prD)]) m4 = some (.lst (th ++ [.tup (ps.map prD)]), m4) := by
    simp only [addD, lstOf, t1]
    rw [if_pos (by rw [t2, sizeLine_eq]; simp)]
  rw [he] at e4
  unfold apBody at e4
  unfold lkBody at e5
  unfold lwBody
  simp only [sSeq, sSet, eCall, aCons, aNil, eVar, bM, List.set, List.getElem?_cons_zero, List.getElem?_cons_succ, e1, gNm, eC, e2, e3, eLstM, eTup, eLst, eDct0]
  simp only [sFor, iRg, aCons, aNil, eC, bM, PV.int1, rg, and_self, if_true, r10]
  rw [e4]
  simp only [iVal, eBin, eVar, eLst, aCons, aNil, bM, List.getElem?_cons_zero, List.getElem?_cons_succ, ad]
  rw [e5]
theorem law_run (ns : List Int) : ∃ mu', f_law [.lst (ns.map D.int)] [] = some (.bl true, mu') := by
  obtain ⟨N, hN, n8⟩ : ∃ N : Nat, ((if (if (ns.length : Int) < 8 then (ns.length : Int) else 8) > 2 then (if (ns.length : Int) < 8 then (ns.length : Int) else 8) else 2) : Int) = (N : Int) ∧ N ≤ 8 := by
    refine ⟨((if (if (ns.length : Int) < 8 then (ns.length : Int) else 8) > 2 then (if (ns.length : Int) < 8 then (ns.length : Int) else 8) else 2) : Int).toNat, ?_, ?_⟩ <;> (split <;> split <;> omega)
  have rg : -(2 ^ 62) ≤ (N : Int) ∧ (N : Int) ≤ (sizeLine : Int) := ⟨by omega, by rw [sizeLine_eq]; omega⟩
  obtain ⟨ro', mu', e, ⟨z1, z2, z3, z4, z5, z6, z7, z8, rfl⟩⟩ := for_ind (m0 := []) (tg := gNm 1) (body := lwBody) (fun i ro m => ∃ z1 z2 z3 z4 z5 z6 z7 z8, ro = [some (.lst (ns.map D.int)), z1, z2, z3, z4, z5, z6, z7, z8]) (rngD 0 N) 0 [some (.lst (ns.map D.int)), none, none, none, none, none, none, none, none] [] ⟨_, _, _, _, _, _, _, _, rfl⟩ fun j d ro m ed hi => by
    obtain ⟨z1, z2, z3, z4, z5, z6, z7, z8, rfl⟩ := hi
    obtain ⟨rfl, hj⟩ := rng_at ed
    obtain ⟨ro2, m2, e, h⟩ := law_step ns (j := j) (by omega) m (y2 := z2) (y3 := z3) (y4 := z4) (y5 := z5) (y6 := z6) (y7 := z7) (y8 := z8)
    exact ⟨_, m, ro2, m2, rfl, e, h⟩
  refine ⟨mu', ?_⟩
  have ir : iRg (aCons (eCall maxF (aCons (eC (.int 2)) (aCons (eCall minF (aCons (eC (.int 8)) (aCons (eCall lenF (aCons (eVar 0) (aNil))) (aNil)))) (aNil)))) (aNil)) [some (.lst (ns.map D.int)), none, none, none, none, none, none, none, none] [] = some ((rngD 0 N, none), []) := by
    simp only [iRg, eCall, aCons, aNil, eC, eVar, bM, List.getElem?_cons_zero, PG.len_lst, List.length_map, minF, maxF, PV.ints2, Option.map_some, hN, PV.int1, rg, and_self, if_true, Int.toNat_natCast]
  have eM : m_law = sSeq (sFor (iRg (aCons (eCall maxF (aCons (eC (.int 2)) (aCons (eCall minF (aCons (eC (.int 8)) (aCons (eCall lenF (aCons (eVar 0) (aNil))) (aNil)))) (aNil)))) (aNil))) (gNm 1) lwBody) (sRt (eC (.bl true))) := rfl
  have e2 : sFor (iRg (aCons (eCall maxF (aCons (eC (.int 2)) (aCons (eCall minF (aCons (eC (.int 8)) (aCons (eCall lenF (aCons (eVar 0) (aNil))) (aNil)))) (aNil)))) (aNil))) (gNm 1) lwBody [some (.lst (ns.map D.int)), none, none, none, none, none, none, none, none] [] = some ((.nx, [some (.lst (ns.map D.int)), z1, z2, z3, z4, z5, z6, z7, z8]), mu') := by
    unfold sFor
    rw [ir, bM_some]
    exact e
  have e3 : m_law [some (.lst (ns.map D.int)), none, none, none, none, none, none, none, none] [] = some ((.rt (.bl true), [some (.lst (ns.map D.int)), z1, z2, z3, z4, z5, z6, z7, z8]), mu') := by
    rw [eM]
    unfold sSeq
    rw [e2, bM_some]
    rfl
  show bM (m_law [some (.lst (ns.map D.int)), none, none, none, none, none, none, none, none] []) _ = _
  rw [e3, bM_some]
end PG

set_option maxHeartbeats 1000000
namespace PG
open PySem L2 PV PyProof.Rows
def top (i : Nat) : Stmt := PySem.Challenge.pw_lookback_k17_stays_let_or_not.main.body.getD i (.Pass ⟨0, 0, 0, 0⟩)
abbrev s_is_word : Stmt := top 3
abbrev s_is_tuple : Stmt := top 4
abbrev s_is_rising : Stmt := top 5
abbrev s_table_of : Stmt := top 7
abbrev s_table_if_named : Stmt := top 8
abbrev s_is_stay : Stmt := top 12
abbrev s_are_stays : Stmt := top 11
abbrev s_law_hand : Stmt := top 14
abbrev s_law_take : Stmt := top 15
abbrev s_law_pick : Stmt := top 16
abbrev s_law_words : Stmt := top 17
abbrev s_law_schema : Stmt := top 18
abbrev s_law_stays : Stmt := top 19
abbrev s_law_unlike : Stmt := top 21
abbrev s_law_due : Stmt := top 20
abbrev s_law_odd : Stmt := top 22
abbrev s_law_spoilt : Stmt := top 23
abbrev s_law : Stmt := top 24
structure Tx (mg : Str → Option Value) : Prop where
  b_all : mg "all" = none
  b_bool : mg "bool" = none
  b_dict : mg "dict" = none
  b_int : mg "int" = none
  b_isinstance : mg "isinstance" = none
  b_len : mg "len" = none
  b_list : mg "list" = none
  b_max : mg "max" = none
  b_min : mg "min" = none
  b_range : mg "range" = none
  b_sorted : mg "sorted" = none
  b_str : mg "str" = none
  b_tuple : mg "tuple" = none
  b_zip : mg "zip" = none
  g_LONGEST : ∃ t, mg "LONGEST" = some (.int 8 t)
  g_SIGNS : ∃ t, mg "SIGNS" = some (.str "abcdefghijklmnopqrstuvwxyz0123456789" t)
  g_WHOLE : ∃ t, mg "WHOLE" = some (.str "" t)
section
variable {P : Program} {w : World} {K : PySem.W.Frag} {mg : Str → Option Value} {base : Heap}
theorem sc_is_word : FnScope ["thing"] ["thing"] (defScope s_is_word) := ⟨rfl, rfl, rfl, by decide +kernel, rfl, by decide +kernel, by decide +kernel⟩
theorem ok_is_word {f : Addr} {fd : FuncData} (F : Fun K "is_word" "is_word" s_is_word f fd) (T : Tx mg)  : FnOk P w K mg base CX0 1 f fd ["thing"] (spF ⟨K, P, w⟩ f_is_word 1) := by
  have b : ∀ (cdv : Value) (A : Around) (outer : List Env) (s : Shared) (H : Hp) (E : XK), Room 0 (A.deeper (envOfC "is_word" (defScope s_is_word) s.heap.objs.size f cdv)) →
      SVB (cxOf CX0 P w K mg base ["thing"] "is_word" (defScope s_is_word) f cdv A outer s H E).nox (defBody s_is_word) m_is_word := fun cdv A outer s H E hr => by
    exact svb_cons (svs_if (SVW.t (svw_or (svt_not (svt_val (sv_isi "str" (sv_var 0) T.b_isinstance T.b_str PyProof.Rows.boot_str))) (svw_or1 (svt_not (svt_chain op_leD op_leD (sv_int) (sv_callB call_lenD T.b_len PySem.boot_len (sva_cons (sv_var 0) (sva_nil))) (sv_gint T.g_LONGEST)))))) (svb_one (svs_ret (sv_bl))) (svb_nil)) (svb_one (svs_ret (sv_callB (call_allD rfl) T.b_all PyProof.Rows.boot_all (sva_cons (sv_lc ["sign"] [] (by exact lcOk (defScope s_is_word) rfl rfl ⟨rfl, by decide +kernel, by decide +kernel, by decide +kernel⟩ True.intro) (svi_val (sv_var 0)) (gown_name) (fun _ _ _ _ _ => svg_name 0 (show (["sign"] : List Str).Nodup by decide +kernel)) (fun _ _ _ _ _ => svf_nil) (fun _ _ _ _ _ => sv_cmp (op_inD hr.units) (sv_var 0) (sv_gstr T.g_SIGNS))) (sva_nil)))))
  have c := fn_svn 1 1 F sc_is_word rfl rfl b
  exact c
theorem sc_is_tuple : FnScope ["thing", "least", "most"] ["thing", "least", "most"] (defScope s_is_tuple) := ⟨rfl, rfl, rfl, by decide +kernel, rfl, by decide +kernel, by decide +kernel⟩
theorem ok_is_tuple {f : Addr} {fd : FuncData} (F : Fun K "is_tuple" "is_tuple" s_is_tuple f fd) (T : Tx mg)  : FnOk P w K mg base CX0 1 f fd ["thing", "least", "most"] (spF ⟨K, P, w⟩ f_is_tuple 3) := by
  have b : ∀ (cdv : Value) (A : Around) (outer : List Env) (s : Shared) (H : Hp) (E : XK), Room 0 (A.deeper (envOfC "is_tuple" (defScope s_is_tuple) s.heap.objs.size f cdv)) →
      SVB (cxOf CX0 P w K mg base ["thing", "least", "most"] "is_tuple" (defScope s_is_tuple) f cdv A outer s H E).nox (defBody s_is_tuple) m_is_tuple := fun cdv A outer s H E hr => by
    exact svb_one (svs_ret (sv_and (sv_isi "tuple" (sv_var 0) T.b_isinstance T.b_tuple PyProof.Rows.boot_tuple) (sv_one (sv_chain op_leD op_leD (sv_var 1) (sv_callB call_lenD T.b_len PySem.boot_len (sva_cons (sv_var 0) (sva_nil))) (sv_var 2)))))
  have c := fn_svn 3 3 F sc_is_tuple rfl rfl b
  exact c
theorem sc_is_rising : FnScope ["things"] ["things"] (defScope s_is_rising) := ⟨rfl, rfl, rfl, by decide +kernel, rfl, by decide +kernel, by decide +kernel⟩
theorem ok_is_rising {f : Addr} {fd : FuncData} (F : Fun K "is_rising" "is_rising" s_is_rising f fd) (T : Tx mg)  : FnOk P w K mg base CX0 1 f fd ["things"] (spF ⟨K, P, w⟩ f_is_rising 1) := by
  have b : ∀ (cdv : Value) (A : Around) (outer : List Env) (s : Shared) (H : Hp) (E : XK), Room 0 (A.deeper (envOfC "is_rising" (defScope s_is_rising) s.heap.objs.size f cdv)) →
      SVB (cxOf CX0 P w K mg base ["things"] "is_rising" (defScope s_is_rising) f cdv A outer s H E).nox (defBody s_is_rising) m_is_rising := fun cdv A outer s H E hr => by
    exact svb_one (svs_ret (sv_callB (call_allD rfl) T.b_all PyProof.Rows.boot_all (sva_cons (sv_lc ["one", "other"] [] (by exact lcOk (defScope s_is_rising) rfl rfl ⟨rfl, by decide +kernel, by decide +kernel, by decide +kernel⟩ True.intro) (svi_zipG T.b_zip (sva_cons (sv_var 0) (sva_cons (sv_slice (sv_var 0) (svp_some (sv_int)) (svp_none)) (sva_nil)))) (gown_tup (gsown_cons gown_name (gsown_cons gown_name (gsown_nil)))) (fun _ _ _ _ _ => svg_tup rfl (svgs_cons (svg_name 0 (show (["one", "other"] : List Str).Nodup by decide +kernel)) (svgs_cons (svg_name 1 (show (["one", "other"] : List Str).Nodup by decide +kernel)) (svgs_nil)))) (fun _ _ _ _ _ => svf_nil) (fun _ _ _ _ _ => sv_cmp (op_ltG hr.units) (sv_var 0) (sv_var 1))) (sva_nil))))
  have c := fn_svn 1 1 F sc_is_rising rfl rfl b
  exact c
theorem sc_table_of : FnScope ["schema", "name"] ["schema", "name"] (defScope s_table_of) := ⟨rfl, rfl, rfl, by decide +kernel, rfl, by decide +kernel, by decide +kernel⟩
theorem ok_table_of {f : Addr} {fd : FuncData} (F : Fun K "table_of" "table_of" s_table_of f fd) (T : Tx mg)  : FnOk P w K mg base CX0 1 f fd ["schema", "name"] (spF ⟨K, P, w⟩ f_table_of 2) := by
  have b : ∀ (cdv : Value) (A : Around) (outer : List Env) (s : Shared) (H : Hp) (E : XK), Room 0 (A.deeper (envOfC "table_of" (defScope s_table_of) s.heap.objs.size f cdv)) →
      SVB (cxOf CX0 P w K mg base ["schema", "name"] "table_of" (defScope s_table_of) f cdv A outer s H E).nox (defBody s_table_of) m_table_of := fun cdv A outer s H E hr => by
    exact svb_one (svs_ret (sv_ix ix_D (sv_lc ["table"] [(1, "name")] (by exact lcOk (defScope s_table_of) rfl rfl ⟨rfl, by decide +kernel, by decide +kernel, by decide +kernel⟩ ⟨⟨rfl, .inl rfl, .inl rfl⟩, True.intro⟩) (svi_val (sv_var 0)) (gown_name) (fun _ _ _ _ _ => svg_name 0 (show (["table", "name"] : List Str).Nodup by decide +kernel)) (fun _ _ _ _ _ => svf_one (svt_cmp (op_eqD hr.units) (sv_ix ix_D (sv_var 0) (sv_int)) (sv_var 1))) (fun _ _ _ _ _ => sv_var 0)) (sv_int)))
  have c := fn_svn 2 2 F sc_table_of rfl rfl b
  exact c
theorem sc_table_if_named : FnScope ["schema", "thing"] ["schema", "thing"] (defScope s_table_if_named) := ⟨rfl, rfl, rfl, by decide +kernel, rfl, by decide +kernel, by decide +kernel⟩
theorem ok_table_if_named {f : Addr} {fd : FuncData} (F : Fun K "table_if_named" "table_if_named" s_table_if_named f fd) (T : Tx mg) (C_is_word : Cal P w K mg base 1 "is_word" f_is_word 1) (C_table_of : Cal P w K mg base 1 "table_of" f_table_of 2) : FnOk P w K mg base CX0 2 f fd ["schema", "thing"] (spF ⟨K, P, w⟩ f_table_if_named 2) := by
  have b : ∀ (cdv : Value) (A : Around) (outer : List Env) (s : Shared) (H : Hp) (E : XK), Room 1 (A.deeper (envOfC "table_if_named" (defScope s_table_if_named) s.heap.objs.size f cdv)) →
      SVB (cxOf CX0 P w K mg base ["schema", "thing"] "table_if_named" (defScope s_table_if_named) f cdv A outer s H E).nox (defBody s_table_if_named) m_table_if_named := fun cdv A outer s H E hr => by
    have hr_is_word : Room 1 _ := hr.mono (by decide)
    have hr_table_of : Room 1 _ := hr.mono (by decide)
    exact svb_cons (svs_if (SVW.t (svw_or (svt_not (svt_val (sv_call C_is_word hr_is_word (sva_cons (sv_var 1) (sva_nil))))) (svw_or1 (svt_cmp (op_ninD hr.units) (sv_var 1) (sv_lc ["table"] [] (by exact lcOk (defScope s_table_if_named) rfl rfl ⟨rfl, by decide +kernel, by decide +kernel, by decide +kernel⟩ True.intro) (svi_val (sv_var 0)) (gown_name) (fun _ _ _ _ _ => svg_name 0 (show (["table"] : List Str).Nodup by decide +kernel)) (fun _ _ _ _ _ => svf_nil) (fun _ _ _ _ _ => sv_ix ix_D (sv_var 0) (sv_int))))))) (svb_one (svs_ret (sv_non))) (svb_nil)) (svb_one (svs_ret (sv_call C_table_of hr_table_of (sva_cons (sv_var 0) (sva_cons (sv_var 1) (sva_nil))))))
  have c := fn_svn 2 2 F sc_table_if_named rfl rfl b
  exact c
theorem sc_is_stay : FnScope ["schema", "thing", "table"] ["schema", "thing"] (defScope s_is_stay) := ⟨rfl, rfl, rfl, by decide +kernel, rfl, by decide +kernel, by decide +kernel⟩
theorem ok_is_stay {f : Addr} {fd : FuncData} (F : Fun K "is_stay" "is_stay" s_is_stay f fd) (T : Tx mg) (C_is_tuple : Cal P w K mg base 1 "is_tuple" f_is_tuple 3) (C_table_if_named : Cal P w K mg base 2 "table_if_named" f_table_if_named 2) : FnOk P w K mg base CX0 3 f fd ["schema", "thing"] (spF ⟨K, P, w⟩ f_is_stay 2) := by
  have b : ∀ (cdv : Value) (A : Around) (outer : List Env) (s : Shared) (H : Hp) (E : XK), Room 2 (A.deeper (envOfC "is_stay" (defScope s_is_stay) s.heap.objs.size f cdv)) →
      SVB (cxOf CX0 P w K mg base ["schema", "thing", "table"] "is_stay" (defScope s_is_stay) f cdv A outer s H E).nox (defBody s_is_stay) m_is_stay := fun cdv A outer s H E hr => by
    have hr_is_tuple : Room 1 _ := hr.mono (by decide)
    have hr_table_if_named : Room 2 _ := hr.mono (by decide)
    exact svb_cons (svs_set 2 sc_is_stay.nd (sv_ifExp (svt_val (sv_call C_is_tuple hr_is_tuple (sva_cons (sv_var 1) (sva_cons (sv_int) (sva_cons (sv_int) (sva_nil)))))) (sv_call C_table_if_named hr_table_if_named (sva_cons (sv_var 0) (sva_cons (sv_ix ix_D (sv_var 1) (sv_int)) (sva_nil)))) (sv_non))) (svb_cons (svs_if (SVW.t (svw_or (svt_cmp op_isD (sv_var 2) (sv_non)) (svw_or1 (svt_not (svt_val (sv_isi "str" (sv_ix ix_D (sv_var 1) (sv_int)) T.b_isinstance T.b_str PyProof.Rows.boot_str)))))) (svb_one (svs_ret (sv_bl))) (svb_nil)) (svb_one (svs_ret (sv_or (sv_cmp (op_eqD hr.units) (sv_ix ix_D (sv_var 1) (sv_int)) (sv_gstr T.g_WHOLE)) (sv_one (sv_cmp (op_inD hr.units) (sv_ix ix_D (sv_var 1) (sv_int)) (sv_lc ["column", "values"] [] (by exact lcOk (defScope s_is_stay) rfl rfl ⟨rfl, by decide +kernel, by decide +kernel, by decide +kernel⟩ True.intro) (svi_val (sv_slice (sv_ix ix_D (sv_var 2) (sv_int)) (svp_some (sv_ix ix_D (sv_var 2) (sv_int))) (svp_none))) (gown_tup (gsown_cons gown_name (gsown_cons gown_name (gsown_nil)))) (fun _ _ _ _ _ => svg_tup rfl (svgs_cons (svg_name 0 (show (["column", "values"] : List Str).Nodup by decide +kernel)) (svgs_cons (svg_name 1 (show (["column", "values"] : List Str).Nodup by decide +kernel)) (svgs_nil)))) (fun _ _ _ _ _ => svf_nil) (fun _ _ _ _ _ => sv_var 0))))))))
  have c := fn_svn 3 2 F sc_is_stay rfl rfl b
  exact c
theorem sc_are_stays : FnScope ["schema", "thing"] ["schema", "thing"] (defScope s_are_stays) := ⟨rfl, rfl, rfl, by decide +kernel, rfl, by decide +kernel, by decide +kernel⟩
theorem ok_are_stays {f : Addr} {fd : FuncData} (F : Fun K "are_stays" "are_stays" s_are_stays f fd) (T : Tx mg) (C_is_stay : Cal P w K mg base 3 "is_stay" f_is_stay 2) (C_is_rising : Cal P w K mg base 1 "is_rising" f_is_rising 1) : FnOk P w K mg base CX0 4 f fd ["schema", "thing"] (spF ⟨K, P, w⟩ f_are_stays 2) := by
  have b : ∀ (cdv : Value) (A : Around) (outer : List Env) (s : Shared) (H : Hp) (E : XK), Room 3 (A.deeper (envOfC "are_stays" (defScope s_are_stays) s.heap.objs.size f cdv)) →
      SVB (cxOf CX0 P w K mg base ["schema", "thing"] "are_stays" (defScope s_are_stays) f cdv A outer s H E).nox (defBody s_are_stays) m_are_stays := fun cdv A outer s H E hr => by
    have hr_is_stay : Room 3 _ := hr.mono (by decide)
    have hr_is_rising : Room 1 _ := hr.mono (by decide)
    exact svb_one (svs_ret (sv_and (sv_isi "tuple" (sv_var 1) T.b_isinstance T.b_tuple PyProof.Rows.boot_tuple) (sv_and (sv_callB (call_allD rfl) T.b_all PyProof.Rows.boot_all (sva_cons (sv_lc ["pair"] [(0, "schema")] (by exact lcOk (defScope s_are_stays) rfl rfl ⟨rfl, by decide +kernel, by decide +kernel, by decide +kernel⟩ ⟨⟨rfl, .inl rfl, .inl rfl⟩, True.intro⟩) (svi_val (sv_var 1)) (gown_name) (fun _ _ _ _ _ => svg_name 0 (show (["pair", "schema"] : List Str).Nodup by decide +kernel)) (fun _ _ _ _ _ => svf_nil) (fun _ _ _ _ _ => sv_call C_is_stay hr_is_stay (sva_cons (sv_var 1) (sva_cons (sv_var 0) (sva_nil))))) (sva_nil))) (sv_one (sv_call C_is_rising hr_is_rising (sva_cons (sv_var 1) (sva_nil)))))))
  have c := fn_svn 2 2 F sc_are_stays rfl rfl b
  exact c
theorem sc_law_hand : FnScope ["_law_script", "_law_k", "_law_cell"] ["_law_script", "_law_k"] (defScope s_law_hand) := ⟨rfl, rfl, rfl, by decide +kernel, rfl, by decide +kernel, by decide +kernel⟩
theorem ok_law_hand {f : Addr} {fd : FuncData} (F : Fun K "_law_hand" "_law_hand" s_law_hand f fd) (T : Tx mg)  : FnOk P w K mg base CX0 1 f fd ["_law_script", "_law_k"] (spF ⟨K, P, w⟩ f_law_hand 2) := by
  have b : ∀ (cdv : Value) (A : Around) (outer : List Env) (s : Shared) (H : Hp) (E : XK), Room 0 (A.deeper (envOfC "_law_hand" (defScope s_law_hand) s.heap.objs.size f cdv)) →
      SVB (cxOf CX0 P w K mg base ["_law_script", "_law_k", "_law_cell"] "_law_hand" (defScope s_law_hand) f cdv A outer s H E).nox (defBody s_law_hand) m_law_hand := fun cdv A outer s H E hr => by
    exact svb_cons (svs_set 2 sc_law_hand.nd (sv_int)) (svb_cons (svs_if (svt_cmp (op_ltG hr.units) (sv_var 1) (sv_callB call_lenD T.b_len PySem.boot_len (sva_cons (sv_var 0) (sva_nil)))) (svb_one (svs_set 2 sc_law_hand.nd (sv_ix ix_D (sv_var 0) (sv_var 1)))) (svb_nil)) (svb_one (svs_ret (sv_lstM (sva_cons (sv_bin op_mulD (sv_var 2) (sv_callTy call_intD T.b_int PyProof.Rows.boot_int (sva_cons (sv_cmp op_geD (sv_var 2) (sv_bin op_powD (sv_int) (sv_int))) (sva_nil)))) (sva_cons (sv_bin op_addD (sv_bin op_addD (sv_bin op_modD (sv_var 2) (sv_int)) (sv_bin op_mulD (sv_int) (sv_var 1))) (sv_int)) (sva_cons (sv_int) (sva_nil))))))))
  have c := fn_svn 3 2 F sc_law_hand rfl rfl b
  exact c
theorem sc_law_take : FnScope ["_law_hand_here", "_law_many", "_law_digit", "_law_turn", "_law_mixed", "_law_other"] ["_law_hand_here", "_law_many"] (defScope s_law_take) := ⟨rfl, rfl, rfl, by decide +kernel, rfl, by decide +kernel, by decide +kernel⟩
theorem ok_law_take {f : Addr} {fd : FuncData} (F : Fun K "_law_take" "_law_take" s_law_take f fd) (T : Tx mg)  : FnOk P w K mg base CX0 1 f fd ["_law_hand_here", "_law_many"] (spF ⟨K, P, w⟩ f_law_take 2) := by
  have b : ∀ (cdv : Value) (A : Around) (outer : List Env) (s : Shared) (H : Hp) (E : XK), Room 0 (A.deeper (envOfC "_law_take" (defScope s_law_take) s.heap.objs.size f cdv)) →
      SVB (cxOf CX0 P w K mg base ["_law_hand_here", "_law_many", "_law_digit", "_law_turn", "_law_mixed", "_law_other"] "_law_take" (defScope s_law_take) f cdv A outer s H E).nox (defBody s_law_take) m_law_take := fun cdv A outer s H E hr => by
    exact svb_cons (svs_if (svt_cmp op_gtD (sv_ix ix_D (sv_var 0) (sv_int)) (sv_int)) (svb_cons (svs_set 2 sc_law_take.nd (sv_bin op_modD (sv_ix ix_D (sv_var 0) (sv_int)) (sv_var 1))) (svb_cons (svs_asg (sv_bin op_fdivD (sv_ix ix_D (sv_var 0) (sv_int)) (sv_var 1)) (svg_ix (sv_var 0) (sv_int))) (svb_one (svs_ret (sv_var 2))))) (svb_nil)) (svb_cons (svs_asg (sv_bin op_addD (sv_ix ix_D (sv_var 0) (sv_int)) (sv_int)) (svg_ix (sv_var 0) (sv_int))) (svb_cons (svs_set 3 sc_law_take.nd (sv_ix ix_D (sv_var 0) (sv_int))) (svb_cons (svs_set 4 sc_law_take.nd (sv_bin op_modD (sv_bin op_mulD (sv_ix ix_D (sv_var 0) (sv_int)) (sv_bin op_addD (sv_bin op_addD (sv_int) (sv_bin op_mulD (sv_bin op_mulD (sv_int) (sv_var 3)) (sv_var 3))) (sv_bin op_mulD (sv_int) (sv_var 3)))) (sv_int))) (svb_cons (svs_set 5 sc_law_take.nd (sv_bin op_addD (sv_bin op_addD (sv_bin op_modD (sv_var 4) (sv_int)) (sv_bin op_mulD (sv_var 3) (sv_int))) (sv_int))) (svb_cons (svs_set 4 sc_law_take.nd (sv_bin op_modD (sv_bin op_mulD (sv_var 4) (sv_var 5)) (sv_int))) (svb_one (svs_ret (sv_bin op_modD (sv_bin op_addD (sv_bin op_fdivD (sv_var 4) (sv_int)) (sv_bin op_fdivD (sv_var 4) (sv_int))) (sv_var 1)))))))))
  have c := fn_svn 6 2 F sc_law_take rfl rfl b
  exact c
theorem sc_law_pick : FnScope ["_law_hand_here", "_law_some"] ["_law_hand_here", "_law_some"] (defScope s_law_pick) := ⟨rfl, rfl, rfl, by decide +kernel, rfl, by decide +kernel, by decide +kernel⟩
theorem ok_law_pick {f : Addr} {fd : FuncData} (F : Fun K "_law_pick" "_law_pick" s_law_pick f fd) (T : Tx mg) (C_law_take : Cal P w K mg base 1 "_law_take" f_law_take 2) : FnOk P w K mg base CX0 2 f fd ["_law_hand_here", "_law_some"] (spF ⟨K, P, w⟩ f_law_pick 2) := by
  have b : ∀ (cdv : Value) (A : Around) (outer : List Env) (s : Shared) (H : Hp) (E : XK), Room 1 (A.deeper (envOfC "_law_pick" (defScope s_law_pick) s.heap.objs.size f cdv)) →
      SVB (cxOf CX0 P w K mg base ["_law_hand_here", "_law_some"] "_law_pick" (defScope s_law_pick) f cdv A outer s H E).nox (defBody s_law_pick) m_law_pick := fun cdv A outer s H E hr => by
    have hr_law_take : Room 1 _ := hr.mono (by decide)
    exact svb_one (svs_ret (sv_ix ix_D (sv_var 1) (sv_call C_law_take hr_law_take (sva_cons (sv_var 0) (sva_cons (sv_callB call_lenD T.b_len PySem.boot_len (sva_cons (sv_var 1) (sva_nil))) (sva_nil))))))
  have c := fn_svn 2 2 F sc_law_pick rfl rfl b
  exact c
theorem sc_law_words : FnScope ["_law_hand_here", "_law_many", "_law_most", "_law_signs", "_law_first", "_law_step", "_law_stem", "_law_at"] ["_law_hand_here", "_law_many", "_law_most"] (defScope s_law_words) := ⟨rfl, rfl, rfl, by decide +kernel, rfl, by decide +kernel, by decide +kernel⟩
theorem ok_law_words {f : Addr} {fd : FuncData} (F : Fun K "_law_words" "_law_words" s_law_words f fd) (T : Tx mg) (C_law_take : Cal P w K mg base 1 "_law_take" f_law_take 2) (C_law_pick : Cal P w K mg base 2 "_law_pick" f_law_pick 2) : FnOk P w K mg base CX0 3 f fd ["_law_hand_here", "_law_many", "_law_most"] (spF ⟨K, P, w⟩ f_law_words 3) := by
  have b : ∀ (cdv : Value) (A : Around) (outer : List Env) (s : Shared) (H : Hp) (E : XK), Room 2 (A.deeper (envOfC "_law_words" (defScope s_law_words) s.heap.objs.size f cdv)) →
      SVB (cxOf CX0 P w K mg base ["_law_hand_here", "_law_many", "_law_most", "_law_signs", "_law_first", "_law_step", "_law_stem", "_law_at"] "_law_words" (defScope s_law_words) f cdv A outer s H E).nox (defBody s_law_words) m_law_words := fun cdv A outer s H E hr => by
    have hr_law_take : Room 1 _ := hr.mono (by decide)
    have hr_law_pick : Room 2 _ := hr.mono (by decide)
    exact svb_cons (svs_set 3 sc_law_words.nd (sv_str)) (svb_cons (svs_asg (sv_tup (sva_cons (sv_call C_law_take hr_law_take (sva_cons (sv_var 0) (sva_cons (sv_int) (sva_nil)))) (sva_cons (sv_call C_law_pick hr_law_pick (sva_cons (sv_var 0) (sva_cons (sv_lst (sva_cons (sv_int) (sva_cons (sv_int) (sva_cons (sv_int) (sva_cons (sv_int) (sva_cons (sv_int) (sva_cons (sv_int) (sva_nil)))))))) (sva_nil)))) (sva_nil)))) (svg_tup rfl (svgs_cons (svg_name 4 sc_law_words.nd) (svgs_cons (svg_name 5 sc_law_words.nd) (svgs_nil))))) (svb_cons (svs_set 6 sc_law_words.nd (sv_bin op_mulD (sv_ix ix_D (sv_var 3) (sv_call C_law_take hr_law_take (sva_cons (sv_var 0) (sva_cons (sv_int) (sva_nil))))) (sv_callB (call_minD rfl) T.b_min PyProof.Rows.boot_min (sva_cons (sv_bin op_subD (sv_var 2) (sv_int)) (sva_cons (sv_call C_law_pick hr_law_pick (sva_cons (sv_var 0) (sva_cons (sv_lst (sva_cons (sv_int) (sva_cons (sv_int) (sva_cons (sv_int) (sva_cons (sv_int) (sva_cons (sv_int) (sva_nil))))))) (sva_nil)))) (sva_nil)))))) (svb_cons (svs_set 7 sc_law_words.nd (sv_call C_law_take hr_law_take (sva_cons (sv_var 0) (sva_cons (sv_bin op_addD (sv_callB call_lenD T.b_len PySem.boot_len (sva_cons (sv_var 6) (sva_nil))) (sv_int)) (sva_nil))))) (svb_one (svs_ret (sv_lc ["_law_k"] [(6, "_law_stem"), (7, "_law_at"), (3, "_law_signs"), (4, "_law_first"), (5, "_law_step")] (by exact lcOk (defScope s_law_words) rfl rfl ⟨rfl, by decide +kernel, by decide +kernel, by decide +kernel⟩ ⟨⟨rfl, .inl rfl, .inl rfl⟩, ⟨rfl, .inl rfl, .inl rfl⟩, ⟨rfl, .inl rfl, .inl rfl⟩, ⟨rfl, .inl rfl, .inl rfl⟩, ⟨rfl, .inl rfl, .inl rfl⟩, True.intro⟩) (svi_range T.b_range (sva_cons (sv_var 1) (sva_nil))) (gown_name) (fun _ _ _ _ _ => svg_name 0 (show (["_law_k", "_law_stem", "_law_at", "_law_signs", "_law_first", "_law_step"] : List Str).Nodup by decide +kernel)) (fun _ _ _ _ _ => svf_nil) (fun _ _ _ _ _ => sv_bin op_addD (sv_bin op_addD (sv_slice (sv_var 1) (svp_none) (svp_some (sv_var 2))) (sv_ix ix_D (sv_var 3) (sv_bin op_modD (sv_bin op_addD (sv_var 4) (sv_bin op_mulD (sv_var 5) (sv_var 0))) (sv_int)))) (sv_slice (sv_var 1) (svp_some (sv_var 2)) (svp_none)))))))))
  have c := fn_svn 8 3 F sc_law_words rfl rfl b
  exact c
theorem sc_law_schema : FnScope ["_law_hand_here", "_law_tables", "_law_columns", "_law_values", "_law_names", "_law_words_here", "_law_stock", "_law_found", "_law_name", "_law_many", "_law_shift", "_law_row", "_law_k", "_law_some", "_law_turn"] ["_law_hand_here", "_law_tables", "_law_columns", "_law_values"] (defScope s_law_schema) := ⟨rfl, rfl, rfl, by decide +kernel, rfl, by decide +kernel, by decide +kernel⟩
theorem ok_law_schema {f : Addr} {fd : FuncData} (F : Fun K "_law_schema" "_law_schema" s_law_schema f fd) (T : Tx mg) (C_law_words : Cal P w K mg base 3 "_law_words" f_law_words 3) (C_law_take : Cal P w K mg base 1 "_law_take" f_law_take 2) : FnOk P w K mg base CX0 4 f fd ["_law_hand_here", "_law_tables", "_law_columns", "_law_values"] (spF ⟨K, P, w⟩ f_law_schema 4) := by
  have b : ∀ (cdv : Value) (A : Around) (outer : List Env) (s : Shared) (H : Hp) (E : XK), Room 3 (A.deeper (envOfC "_law_schema" (defScope s_law_schema) s.heap.objs.size f cdv)) →
      SVB (cxOf CX0 P w K mg base ["_law_hand_here", "_law_tables", "_law_columns", "_law_values", "_law_names", "_law_words_here", "_law_stock", "_law_found", "_law_name", "_law_many", "_law_shift", "_law_row", "_law_k", "_law_some", "_law_turn"] "_law_schema" (defScope s_law_schema) f cdv A outer s H E).nox (defBody s_law_schema) m_law_schema := fun cdv A outer s H E hr => by
    have hr_law_words : Room 3 _ := hr.mono (by decide)
    have hr_law_take : Room 1 _ := hr.mono (by decide)
    exact svb_cons (svs_set 4 sc_law_schema.nd (sv_callB (call_srtG hr.units) T.b_sorted PyProof.Rows.boot_sorted (sva_cons (sv_call C_law_words hr_law_words (sva_cons (sv_var 0) (sva_cons (sv_bin op_addD (sv_int) (sv_call C_law_take hr_law_take (sva_cons (sv_var 0) (sva_cons (sv_var 1) (sva_nil))))) (sva_cons (sv_int) (sva_nil))))) (sva_nil)))) (svb_cons (svs_set 5 sc_law_schema.nd (sv_call C_law_words hr_law_words (sva_cons (sv_var 0) (sva_cons (sv_bin op_addD (sv_var 2) (sv_int)) (sva_cons (sv_int) (sva_nil)))))) (svb_cons (svs_set 6 sc_law_schema.nd (sv_call C_law_words hr_law_words (sva_cons (sv_var 0) (sva_cons (sv_bin op_addD (sv_var 3) (sv_int)) (sva_cons (sv_int) (sva_nil)))))) (svb_cons (svs_set 7 sc_law_schema.nd (sv_lstM (sva_nil))) (svb_cons (svs_for PassesOwn.never rfl (svi_val (sv_var 4)) (svg_name 8 sc_law_schema.nd) (svb_cons (svs_set 9 sc_law_schema.nd (sv_bin op_addD (sv_int) (sv_call C_law_take hr_law_take (sva_cons (sv_var 0) (sva_cons (sv_var 2) (sva_nil)))))) (svb_cons (svs_set 10 sc_law_schema.nd (sv_call C_law_take hr_law_take (sva_cons (sv_var 0) (sva_cons (sv_int) (sva_nil))))) (svb_cons (svs_set 11 sc_law_schema.nd (sv_lstM (sva_nil))) (svb_cons (svs_for PassesOwn.never rfl (svi_range T.b_range (sva_cons (sv_var 9) (sva_nil))) (svg_name 12 sc_law_schema.nd) (svb_cons (svs_set 13 sc_law_schema.nd (sv_bin op_addD (sv_int) (sv_call C_law_take hr_law_take (sva_cons (sv_var 0) (sva_cons (sv_var 3) (sva_nil)))))) (svb_cons (svs_set 14 sc_law_schema.nd (sv_call C_law_take hr_law_take (sva_cons (sv_var 0) (sva_cons (sv_int) (sva_nil))))) (svb_one (svs_expr (sv_append (sv_var 11) (sva_cons (sv_tup (sva_cons (sv_ix ix_D (sv_var 5) (sv_bin op_modD (sv_bin op_addD (sv_var 12) (sv_var 10)) (sv_callB call_lenD T.b_len PySem.boot_len (sva_cons (sv_var 5) (sva_nil))))) (sva_cons (sv_callTy call_tupD T.b_tuple PyProof.Rows.boot_tuple (sva_cons (sv_lc ["_law_j"] [(6, "_law_stock"), (14, "_law_turn")] (by exact lcOk (defScope s_law_schema) rfl rfl ⟨rfl, by decide +kernel, by decide +kernel, by decide +kernel⟩ ⟨⟨rfl, .inl rfl, .inl rfl⟩, ⟨rfl, .inl rfl, .inl rfl⟩, True.intro⟩) (svi_range T.b_range (sva_cons (sv_var 13) (sva_nil))) (gown_name) (fun _ _ _ _ _ => svg_name 0 (show (["_law_j", "_law_stock", "_law_turn"] : List Str).Nodup by decide +kernel)) (fun _ _ _ _ _ => svf_nil) (fun _ _ _ _ _ => sv_ix ix_D (sv_var 1) (sv_bin op_modD (sv_bin op_addD (sv_var 0) (sv_var 2)) (sv_callB call_lenD T.b_len PySem.boot_len (sva_cons (sv_var 1) (sva_nil)))))) (sva_nil))) (sva_nil)))) (sva_nil)))))))) (svb_one (svs_expr (sv_append (sv_var 7) (sva_cons (sv_tup (sva_cons (sv_var 8) (sva_cons (sv_callTy call_tupD T.b_tuple PyProof.Rows.boot_tuple (sva_cons (sv_var 11) (sva_nil))) (sva_cons (sv_bin op_addD (sv_int) (sv_call C_law_take hr_law_take (sva_cons (sv_var 0) (sva_cons (sv_var 9) (sva_nil))))) (sva_nil))))) (sva_nil)))))))))) (svb_one (svs_ret (sv_callTy call_tupD T.b_tuple PyProof.Rows.boot_tuple (sva_cons (sv_var 7) (sva_nil)))))))))
  have c := fn_svn 15 4 F sc_law_schema rfl rfl b
  exact c
theorem sc_law_stays : FnScope ["_law_hand_here", "_law_schema_here", "_law_some", "_law_name", "_law_columns", "_law_keys", "_law_many"] ["_law_hand_here", "_law_schema_here"] (defScope s_law_stays) := ⟨rfl, rfl, rfl, by decide +kernel, rfl, by decide +kernel, by decide +kernel⟩
theorem ok_law_stays {f : Addr} {fd : FuncData} (F : Fun K "_law_stays" "_law_stays" s_law_stays f fd) (T : Tx mg) (C_law_pick : Cal P w K mg base 2 "_law_pick" f_law_pick 2) (C_law_take : Cal P w K mg base 1 "_law_take" f_law_take 2) : FnOk P w K mg base CX0 3 f fd ["_law_hand_here", "_law_schema_here"] (spF ⟨K, P, w⟩ f_law_stays 2) := by
  have b : ∀ (cdv : Value) (A : Around) (outer : List Env) (s : Shared) (H : Hp) (E : XK), Room 2 (A.deeper (envOfC "_law_stays" (defScope s_law_stays) s.heap.objs.size f cdv)) →
      SVB (cxOf CX0 P w K mg base ["_law_hand_here", "_law_schema_here", "_law_some", "_law_name", "_law_columns", "_law_keys", "_law_many"] "_law_stays" (defScope s_law_stays) f cdv A outer s H E).nox (defBody s_law_stays) m_law_stays := fun cdv A outer s H E hr => by
    have hr_law_pick : Room 2 _ := hr.mono (by decide)
    have hr_law_take : Room 1 _ := hr.mono (by decide)
    exact svb_cons (svs_set 2 sc_law_stays.nd (sv_lst (sva_nil))) (svb_cons (svs_for PassesOwn.never rfl (svi_val (sv_var 1)) (svg_tup rfl (svgs_cons (svg_name 3 sc_law_stays.nd) (svgs_cons (svg_name 4 sc_law_stays.nd) (svgs_cons (svg_name 5 sc_law_stays.nd) (svgs_nil))))) (svb_one (svs_set 2 sc_law_stays.nd (sv_bin op_addD (sv_bin op_addD (sv_var 2) (sv_lst (sva_cons (sv_tup (sva_cons (sv_var 3) (sva_cons (sv_str) (sva_nil)))) (sva_nil)))) (sv_lc ["_law_column", "_law_values"] [(3, "_law_name")] (by exact lcOk (defScope s_law_stays) rfl rfl ⟨rfl, by decide +kernel, by decide +kernel, by decide +kernel⟩ ⟨⟨rfl, .inl rfl, .inl rfl⟩, True.intro⟩) (svi_val (sv_slice (sv_var 4) (svp_some (sv_var 5)) (svp_none))) (gown_tup (gsown_cons gown_name (gsown_cons gown_name (gsown_nil)))) (fun _ _ _ _ _ => svg_tup rfl (svgs_cons (svg_name 0 (show (["_law_column", "_law_values", "_law_name"] : List Str).Nodup by decide +kernel)) (svgs_cons (svg_name 1 (show (["_law_column", "_law_values", "_law_name"] : List Str).Nodup by decide +kernel)) (svgs_nil)))) (fun _ _ _ _ _ => svf_nil) (fun _ _ _ _ _ => sv_tup (sva_cons (sv_var 2) (sva_cons (sv_var 0) (sva_nil))))))))) (svb_cons (svs_set 6 sc_law_stays.nd (sv_call C_law_pick hr_law_pick (sva_cons (sv_var 0) (sva_cons (sv_lst (sva_cons (sv_int) (sva_cons (sv_int) (sva_cons (sv_int) (sva_cons (sv_int) (sva_cons (sv_int) (sva_nil))))))) (sva_nil))))) (svb_one (svs_ret (sv_callTy call_tupD T.b_tuple PyProof.Rows.boot_tuple (sva_cons (sv_callB (call_srtG hr.units) T.b_sorted PyProof.Rows.boot_sorted (sva_cons (sv_lc ["_law_one"] [(0, "_law_hand_here"), (6, "_law_many")] (by exact lcOk (defScope s_law_stays) rfl rfl ⟨rfl, by decide +kernel, by decide +kernel, by decide +kernel⟩ ⟨⟨rfl, .inl rfl, .inl rfl⟩, ⟨rfl, .inl rfl, .inl rfl⟩, True.intro⟩) (svi_val (sv_var 2)) (gown_name) (fun _ _ _ _ _ => svg_name 0 (show (["_law_one", "_law_hand_here", "_law_many"] : List Str).Nodup by decide +kernel)) (fun _ _ _ _ _ => svf_one (svt_cmp (op_eqD hr.units) (sv_call C_law_take hr_law_take (sva_cons (sv_var 1) (sva_cons (sv_bin op_addD (sv_var 2) (sv_int)) (sva_nil)))) (sv_int))) (fun _ _ _ _ _ => sv_var 0)) (sva_nil))) (sva_nil)))))))
  have c := fn_svn 7 2 F sc_law_stays rfl rfl b
  exact c
theorem sc_law_unlike : FnScope ["_law_thing"] ["_law_thing"] (defScope s_law_unlike) := ⟨rfl, rfl, rfl, by decide +kernel, rfl, by decide +kernel, by decide +kernel⟩
theorem ok_law_unlike {f : Addr} {fd : FuncData} (F : Fun K "_law_unlike" "_law_unlike" s_law_unlike f fd) (T : Tx mg)  : FnOk P w K mg base CX0 1 f fd ["_law_thing"] (spF ⟨K, P, w⟩ f_law_unlike 1) := by
  have b : ∀ (cdv : Value) (A : Around) (outer : List Env) (s : Shared) (H : Hp) (E : XK), Room 0 (A.deeper (envOfC "_law_unlike" (defScope s_law_unlike) s.heap.objs.size f cdv)) →
      SVB (cxOf CX0 P w K mg base ["_law_thing"] "_law_unlike" (defScope s_law_unlike) f cdv A outer s H E).nox (defBody s_law_unlike) m_law_unlike := fun cdv A outer s H E hr => by
    exact svb_one (svs_ret (sv_cmp (op_eqD hr.units) (sv_lnD rfl hr.units T.b_len T.b_dict (by decide +kernel) (sva_cons (sv_lc ["_law_one"] [] (by exact lcOk (defScope s_law_unlike) rfl rfl ⟨rfl, by decide +kernel, by decide +kernel, by decide +kernel⟩ True.intro) (svi_val (sv_var 0)) (gown_name) (fun _ _ _ _ _ => svg_name 0 (show (["_law_one"] : List Str).Nodup by decide +kernel)) (fun _ _ _ _ _ => svf_nil) (fun _ _ _ _ _ => sv_tup (sva_cons (sv_var 0) (sva_cons (sv_bl) (sva_nil))))) (sva_nil))) (sv_callB call_lenD T.b_len PySem.boot_len (sva_cons (sv_var 0) (sva_nil)))))
  have c := fn_svn 1 1 F sc_law_unlike rfl rfl b
  exact c
theorem sc_law_due : FnScope ["_law_schema_here", "_law_thing", "_law_there", "_law_name", "_law_columns", "_law_keys", "_law_one"] ["_law_schema_here", "_law_thing"] (defScope s_law_due) := ⟨rfl, rfl, rfl, by decide +kernel, rfl, by decide +kernel, by decide +kernel⟩
theorem ok_law_due {f : Addr} {fd : FuncData} (F : Fun K "_law_due" "_law_due" s_law_due f fd) (T : Tx mg) (C_law_unlike : Cal P w K mg base 1 "_law_unlike" f_law_unlike 1) : FnOk P w K mg base CX0 2 f fd ["_law_schema_here", "_law_thing"] (spF ⟨K, P, w⟩ f_law_due 2) := by
  have b : ∀ (cdv : Value) (A : Around) (outer : List Env) (s : Shared) (H : Hp) (E : XK), Room 1 (A.deeper (envOfC "_law_due" (defScope s_law_due) s.heap.objs.size f cdv)) →
      SVB (cxOf CX0 P w K mg base ["_law_schema_here", "_law_thing", "_law_there", "_law_name", "_law_columns", "_law_keys", "_law_one"] "_law_due" (defScope s_law_due) f cdv A outer s H E).nox (defBody s_law_due) m_law_due := fun cdv A outer s H E hr => by
    have hr_law_unlike : Room 1 _ := hr.mono (by decide)
    exact svb_cons (svs_set 2 sc_law_due.nd (sv_dctM)) (svb_cons (svs_for PassesOwn.never rfl (svi_val (sv_var 0)) (svg_tup rfl (svgs_cons (svg_name 3 sc_law_due.nd) (svgs_cons (svg_name 4 sc_law_due.nd) (svgs_cons (svg_name 5 sc_law_due.nd) (svgs_nil))))) (svb_one (svs_asg (sv_bin op_addD (sv_lst (sva_cons (sv_str) (sva_nil))) (sv_lc ["_law_column", "_law_values"] [] (by exact lcOk (defScope s_law_due) rfl rfl ⟨rfl, by decide +kernel, by decide +kernel, by decide +kernel⟩ True.intro) (svi_val (sv_slice (sv_var 4) (svp_some (sv_var 5)) (svp_none))) (gown_tup (gsown_cons gown_name (gsown_cons gown_name (gsown_nil)))) (fun _ _ _ _ _ => svg_tup rfl (svgs_cons (svg_name 0 (show (["_law_column", "_law_values"] : List Str).Nodup by decide +kernel)) (svgs_cons (svg_name 1 (show (["_law_column", "_law_values"] : List Str).Nodup by decide +kernel)) (svgs_nil)))) (fun _ _ _ _ _ => svf_nil) (fun _ _ _ _ _ => sv_var 0))) (svg_ix (sv_var 2) (sv_var 3))))) (svb_cons (svs_if (svt_not (svt_val (sv_isi "tuple" (sv_var 1) T.b_isinstance T.b_tuple PyProof.Rows.boot_tuple))) (svb_one (svs_ret (sv_bl))) (svb_nil)) (svb_cons (svs_for PassesOwn.never rfl (svi_val (sv_var 1)) (svg_name 6 sc_law_due.nd) (svb_cons (svs_if (SVW.t (svw_or (svt_not (svt_val (sv_isi "tuple" (sv_var 6) T.b_isinstance T.b_tuple PyProof.Rows.boot_tuple))) (svw_or (svt_cmp (op_neD hr.units) (sv_callB call_lenD T.b_len PySem.boot_len (sva_cons (sv_var 6) (sva_nil))) (sv_int)) (svw_or (svt_not (svt_val (sv_isi "str" (sv_ix ix_D (sv_var 6) (sv_int)) T.b_isinstance T.b_str PyProof.Rows.boot_str))) (svw_or1 (svt_not (svt_val (sv_isi "str" (sv_ix ix_D (sv_var 6) (sv_int)) T.b_isinstance T.b_str PyProof.Rows.boot_str)))))))) (svb_one (svs_ret (sv_bl))) (svb_nil)) (svb_one (svs_if (svt_cmp (op_ninD hr.units) (sv_ix ix_D (sv_var 6) (sv_int)) (sv_get2 (sv_var 2) (sva_cons (sv_ix ix_D (sv_var 6) (sv_int)) (sva_cons (sv_lst (sva_nil)) (sva_nil))))) (svb_one (svs_ret (sv_bl))) (svb_nil))))) (svb_one (svs_ret (sv_and (sv_cmp (op_eqD hr.units) (sv_callTy call_lstD T.b_list PyProof.Rows.boot_list (sva_cons (sv_var 1) (sva_nil))) (sv_callB (call_srtG hr.units) T.b_sorted PyProof.Rows.boot_sorted (sva_cons (sv_var 1) (sva_nil)))) (sv_one (sv_call C_law_unlike hr_law_unlike (sva_cons (sv_var 1) (sva_nil))))))))))
  have c := fn_svn 7 2 F sc_law_due rfl rfl b
  exact c
theorem sc_law_odd : FnScope ["_law_hand_here", "_law_schema_here", "_law_name", "_law_columns", "_law_keys", "_law_other", "_law_column", "_law_some"] ["_law_hand_here", "_law_schema_here"] (defScope s_law_odd) := ⟨rfl, rfl, rfl, by decide +kernel, rfl, by decide +kernel, by decide +kernel⟩
theorem ok_law_odd {f : Addr} {fd : FuncData} (F : Fun K "_law_odd" "_law_odd" s_law_odd f fd) (T : Tx mg) (C_law_pick : Cal P w K mg base 2 "_law_pick" f_law_pick 2) : FnOk P w K mg base CX0 3 f fd ["_law_hand_here", "_law_schema_here"] (spF ⟨K, P, w⟩ f_law_odd 2) := by
  have b : ∀ (cdv : Value) (A : Around) (outer : List Env) (s : Shared) (H : Hp) (E : XK), Room 2 (A.deeper (envOfC "_law_odd" (defScope s_law_odd) s.heap.objs.size f cdv)) →
      SVB (cxOf CX0 P w K mg base ["_law_hand_here", "_law_schema_here", "_law_name", "_law_columns", "_law_keys", "_law_other", "_law_column", "_law_some"] "_law_odd" (defScope s_law_odd) f cdv A outer s H E).nox (defBody s_law_odd) m_law_odd := fun cdv A outer s H E hr => by
    have hr_law_pick : Room 2 _ := hr.mono (by decide)
    exact svb_cons (svs_asg (sv_call C_law_pick hr_law_pick (sva_cons (sv_var 0) (sva_cons (sv_var 1) (sva_nil)))) (svg_tup rfl (svgs_cons (svg_name 2 sc_law_odd.nd) (svgs_cons (svg_name 3 sc_law_odd.nd) (svgs_cons (svg_name 4 sc_law_odd.nd) (svgs_nil)))))) (svb_cons (svs_set 5 sc_law_odd.nd (sv_call C_law_pick hr_law_pick (sva_cons (sv_var 0) (sva_cons (sv_var 1) (sva_nil))))) (svb_cons (svs_set 6 sc_law_odd.nd (sv_ix ix_D (sv_call C_law_pick hr_law_pick (sva_cons (sv_var 0) (sva_cons (sv_var 3) (sva_nil)))) (sv_int))) (svb_cons (svs_set 7 sc_law_odd.nd (sv_lst (sva_cons (sv_tup (sva_cons (sv_var 2) (sva_cons (sv_ix ix_D (sv_ix ix_D (sv_var 3) (sv_int)) (sv_int)) (sva_nil)))) (sva_cons (sv_tup (sva_cons (sv_ix ix_D (sv_var 5) (sv_int)) (sva_cons (sv_var 6) (sva_nil)))) (sva_cons (sv_tup (sva_cons (sv_str) (sva_cons (sv_str) (sva_nil)))) (sva_cons (sv_tup (sva_cons (sv_var 2) (sva_cons (sv_str) (sva_nil)))) (sva_cons (sv_tup (sva_cons (sv_var 2) (sva_nil))) (sva_cons (sv_tup (sva_cons (sv_var 2) (sva_cons (sv_var 6) (sva_cons (sv_int) (sva_nil))))) (sva_nil))))))))) (svb_cons (svs_set 7 sc_law_odd.nd (sv_bin op_addD (sv_var 7) (sv_lst (sva_cons (sv_lst (sva_cons (sv_var 2) (sva_cons (sv_str) (sva_nil)))) (sva_cons (sv_tup (sva_cons (sv_var 2) (sva_cons (sv_non) (sva_nil)))) (sva_cons (sv_tup (sva_cons (sv_non) (sva_cons (sv_str) (sva_nil)))) (sva_cons (sv_var 2) (sva_cons (sv_non) (sva_cons (sv_bl) (sva_cons (sv_int) (sva_cons (sv_tup (sva_nil)) (sva_cons (sv_tup (sva_cons (sv_str) (sva_cons (sv_str) (sva_nil)))) (sva_cons (sv_tup (sva_cons (sv_var 2) (sva_cons (sv_tup (sva_cons (sv_var 6) (sva_nil))) (sva_nil)))) (sva_cons (sv_tup (sva_cons (sv_int) (sva_cons (sv_int) (sva_nil)))) (sva_nil))))))))))))))) (svb_one (svs_ret (sv_call C_law_pick hr_law_pick (sva_cons (sv_var 0) (sva_cons (sv_var 7) (sva_nil))))))))))
  have c := fn_svn 8 2 F sc_law_odd rfl rfl b
  exact c
theorem sc_law_spoilt : FnScope ["_law_hand_here", "_law_schema_here", "_law_stays_here", "_law_at", "_law_odd_here", "_law_some"] ["_law_hand_here", "_law_schema_here", "_law_stays_here"] (defScope s_law_spoilt) := ⟨rfl, rfl, rfl, by decide +kernel, rfl, by decide +kernel, by decide +kernel⟩
theorem ok_law_spoilt {f : Addr} {fd : FuncData} (F : Fun K "_law_spoilt" "_law_spoilt" s_law_spoilt f fd) (T : Tx mg) (C_law_take : Cal P w K mg base 1 "_law_take" f_law_take 2) (C_law_odd : Cal P w K mg base 3 "_law_odd" f_law_odd 2) (C_law_pick : Cal P w K mg base 2 "_law_pick" f_law_pick 2) : FnOk P w K mg base CX0 4 f fd ["_law_hand_here", "_law_schema_here", "_law_stays_here"] (spF ⟨K, P, w⟩ f_law_spoilt 3) := by
  have b : ∀ (cdv : Value) (A : Around) (outer : List Env) (s : Shared) (H : Hp) (E : XK), Room 3 (A.deeper (envOfC "_law_spoilt" (defScope s_law_spoilt) s.heap.objs.size f cdv)) →
      SVB (cxOf CX0 P w K mg base ["_law_hand_here", "_law_schema_here", "_law_stays_here", "_law_at", "_law_odd_here", "_law_some"] "_law_spoilt" (defScope s_law_spoilt) f cdv A outer s H E).nox (defBody s_law_spoilt) m_law_spoilt := fun cdv A outer s H E hr => by
    have hr_law_take : Room 1 _ := hr.mono (by decide)
    have hr_law_odd : Room 3 _ := hr.mono (by decide)
    have hr_law_pick : Room 2 _ := hr.mono (by decide)
    exact svb_cons (svs_set 3 sc_law_spoilt.nd (sv_call C_law_take hr_law_take (sva_cons (sv_var 0) (sva_cons (sv_bin op_addD (sv_callB call_lenD T.b_len PySem.boot_len (sva_cons (sv_var 2) (sva_nil))) (sv_int)) (sva_nil))))) (svb_cons (svs_set 4 sc_law_spoilt.nd (sv_call C_law_odd hr_law_odd (sva_cons (sv_var 0) (sva_cons (sv_var 1) (sva_nil))))) (svb_cons (svs_set 5 sc_law_spoilt.nd (sv_lst (sva_cons (sv_rev (sv_var 2)) (sva_cons (sv_bin op_addD (sv_var 2) (sv_slice (sv_var 2) (svp_none) (svp_some (sv_int)))) (sva_cons (sv_callTy call_lstD T.b_list PyProof.Rows.boot_list (sva_cons (sv_var 2) (sva_nil))) (sva_cons (sv_bin op_addD (sv_bin op_addD (sv_slice (sv_var 2) (svp_none) (svp_some (sv_var 3))) (sv_tup (sva_cons (sv_var 4) (sva_nil)))) (sv_slice (sv_var 2) (svp_some (sv_var 3)) (svp_none))) (sva_cons (sv_bin op_addD (sv_slice (sv_var 2) (svp_none) (svp_some (sv_var 3))) (sv_tup (sva_cons (sv_var 4) (sva_nil)))) (sva_cons (sv_tup (sva_cons (sv_var 4) (sva_nil))) (sva_nil))))))))) (svb_one (svs_ret (sv_call C_law_pick hr_law_pick (sva_cons (sv_var 0) (sva_cons (sv_bin op_addD (sv_var 5) (sv_lst (sva_cons (sv_slice (sv_var 2) (svp_some (sv_int)) (svp_none)) (sva_cons (sv_tup (sva_cons (sv_var 2) (sva_nil))) (sva_nil))))) (sva_nil))))))))
  have c := fn_svn 6 3 F sc_law_spoilt rfl rfl b
  exact c
theorem sc_law : FnScope ["_law_script", "_law_k", "_law_hand_here", "_law_schema_here", "_law_stays_here", "_law_some", "_law_turn", "_law_thing", "_law_found"] ["_law_script"] (defScope s_law) := ⟨rfl, rfl, rfl, by decide +kernel, rfl, by decide +kernel, by decide +kernel⟩
theorem ok_law {f : Addr} {fd : FuncData} (F : Fun K "law" "law" s_law f fd) (T : Tx mg) (C_law_hand : Cal P w K mg base 1 "_law_hand" f_law_hand 2) (C_law_schema : Cal P w K mg base 4 "_law_schema" f_law_schema 4) (C_law_stays : Cal P w K mg base 3 "_law_stays" f_law_stays 2) (C_law_spoilt : Cal P w K mg base 4 "_law_spoilt" f_law_spoilt 3) (C_are_stays : Cal P w K mg base 4 "are_stays" f_are_stays 2) (C_law_due : Cal P w K mg base 2 "_law_due" f_law_due 2) : FnOk P w K mg base CX0 5 f fd ["_law_script"] (spF ⟨K, P, w⟩ f_law 1) := by
  have b : ∀ (cdv : Value) (A : Around) (outer : List Env) (s : Shared) (H : Hp) (E : XK), Room 4 (A.deeper (envOfC "law" (defScope s_law) s.heap.objs.size f cdv)) →
      SVB (cxOf CX0 P w K mg base ["_law_script", "_law_k", "_law_hand_here", "_law_schema_here", "_law_stays_here", "_law_some", "_law_turn", "_law_thing", "_law_found"] "law" (defScope s_law) f cdv A outer s H E).nox (defBody s_law) m_law := fun cdv A outer s H E hr => by
    have hr_law_hand : Room 1 _ := hr.mono (by decide)
    have hr_law_schema : Room 4 _ := hr.mono (by decide)
    have hr_law_stays : Room 3 _ := hr.mono (by decide)
    have hr_law_spoilt : Room 4 _ := hr.mono (by decide)
    have hr_are_stays : Room 4 _ := hr.mono (by decide)
    have hr_law_due : Room 2 _ := hr.mono (by decide)
    exact svb_cons (svs_for PassesOwn.never rfl (svi_range T.b_range (sva_cons (sv_callB (call_maxD rfl) T.b_max PyProof.Rows.boot_max (sva_cons (sv_int) (sva_cons (sv_callB (call_minD rfl) T.b_min PyProof.Rows.boot_min (sva_cons (sv_int) (sva_cons (sv_callB call_lenD T.b_len PySem.boot_len (sva_cons (sv_var 0) (sva_nil))) (sva_nil)))) (sva_nil)))) (sva_nil))) (svg_name 1 sc_law.nd) (svb_cons (svs_set 2 sc_law.nd (sv_call C_law_hand hr_law_hand (sva_cons (sv_var 0) (sva_cons (sv_var 1) (sva_nil))))) (svb_cons (svs_set 3 sc_law.nd (sv_call C_law_schema hr_law_schema (sva_cons (sv_var 2) (sva_cons (sv_int) (sva_cons (sv_int) (sva_cons (sv_int) (sva_nil))))))) (svb_cons (svs_set 4 sc_law.nd (sv_call C_law_stays hr_law_stays (sva_cons (sv_var 2) (sva_cons (sv_var 3) (sva_nil))))) (svb_cons (svs_set 5 sc_law.nd (sv_lstM (sva_cons (sv_var 4) (sva_cons (sv_tup (sva_nil)) (sva_cons (sv_non) (sva_cons (sv_bl) (sva_cons (sv_int) (sva_cons (sv_str) (sva_cons (sv_lst (sva_nil)) (sva_cons (sv_dct0) (sva_cons (sv_tup (sva_cons (sv_tup (sva_nil)) (sva_nil))) (sva_cons (sv_tup (sva_cons (sv_non) (sva_nil))) (sva_cons (sv_tup (sva_cons (sv_str) (sva_cons (sv_str) (sva_nil)))) (sva_nil)))))))))))))) (svb_cons (svs_for PassesOwn.never rfl (svi_range T.b_range (sva_cons (sv_int) (sva_nil))) (svg_name 6 sc_law.nd) (svb_one (svs_expr (sv_append (sv_var 5) (sva_cons (sv_call C_law_spoilt hr_law_spoilt (sva_cons (sv_var 2) (sva_cons (sv_var 3) (sva_cons (sv_var 4) (sva_nil))))) (sva_nil)))))) (svb_one (svs_for PassesOwn.never rfl (svi_val (sv_bin op_addD (sv_var 5) (sv_lst (sva_cons (sv_var 4) (sva_nil))))) (svg_name 7 sc_law.nd) (svb_cons (svs_set 8 sc_law.nd (sv_call C_are_stays hr_are_stays (sva_cons (sv_var 3) (sva_cons (sv_var 7) (sva_nil))))) (svb_one (svs_if (SVW.t (svw_or (svt_not (svt_val (sv_isi "bool" (sv_var 8) T.b_isinstance T.b_bool (by decide +kernel)))) (svw_or1 (svt_cmp (op_neD hr.units) (sv_var 8) (sv_call C_law_due hr_law_due (sva_cons (sv_var 3) (sva_cons (sv_var 7) (sva_nil)))))))) (svb_one (svs_ret (sv_bl))) (svb_nil)))))))))))) (svb_one (svs_ret (sv_bl)))
  have c := fn_svn 9 1 F sc_law rfl rfl b
  exact c
end
end PG

namespace PG
open PySem L2 PV PyProof.Rows
theorem all_mk {l : PySem.W.OpenLaw} {w : World} {K : PySem.W.Frag} {h : Heap} {mg : Str → Option Value} {fa f1 f2 f3 f4 f5 f6 f7 f8 f9 f10 f11 f12 f13 f14 f15 f16 f17 f18 : Addr} (X : K.In h) (G : h.Ns mainGlobals mg) (hfa : mg "law" = some (.ref fa))
    {od1 an1 od2 an2 od3 an3 od4 an4 od5 an5 od6 an6 od7 an7 od8 an8 od9 an9 od10 an10 od11 an11 od12 an12 od13 an13 od14 an14 od15 an15 od16 an16 od17 an17 od18 an18 : Option Addr} {sl1 sl2 sl3 sl4 sl5 sl6 sl7 sl8 sl9 sl10 sl11 sl12 sl13 sl14 sl15 sl16 sl17 sl18 : Array (Option Value)} {oc1 kV1 dc1 pm1 cd1 ct1 oc2 kV2 dc2 pm2 cd2 ct2 oc3 kV3 dc3 pm3 cd3 ct3 oc4 kV4 dc4 pm4 cd4 ct4 oc5 kV5 dc5 pm5 cd5 ct5 oc6 kV6 dc6 pm6 cd6 ct6 oc7 kV7 dc7 pm7 cd7 ct7 oc8 kV8 dc8 pm8 cd8 ct8 oc9 kV9 dc9 pm9 cd9 ct9 oc10 kV10 dc10 pm10 cd10 ct10 oc11 kV11 dc11 pm11 cd11 ct11 oc12 kV12 dc12 pm12 cd12 ct12 oc13 kV13 dc13 pm13 cd13 ct13 oc14 kV14 dc14 pm14 cd14 ct14 oc15 kV15 dc15 pm15 cd15 ct15 oc16 kV16 dc16 pm16 cd16 ct16 oc17 kV17 dc17 pm17 cd17 ct17 oc18 kV18 dc18 pm18 cd18 ct18 : Value} {t1 t2 t3 : Tok}
    (a1 : PySem.W.nsIn K mainGlobals "is_word" = some (some (.ref f1))) (l1 : K.lookup f1 = some ⟨oc1, od1, .func (PySem.W.fnOf "is_word" "is_word" (defArgs s_is_word) (defBody s_is_word) (defScope s_is_word) .none kV1 dc1 pm1 an1 cd1 ct1), sl1⟩) (c1 : PySem.W.codeIn K cd1 "is_word" = true) (k1 : PySem.W.keepIn K (.ref f1) = true)
    (a2 : PySem.W.nsIn K mainGlobals "is_tuple" = some (some (.ref f2))) (l2 : K.lookup f2 = some ⟨oc2, od2, .func (PySem.W.fnOf "is_tuple" "is_tuple" (defArgs s_is_tuple) (defBody s_is_tuple) (defScope s_is_tuple) .none kV2 dc2 pm2 an2 cd2 ct2), sl2⟩) (c2 : PySem.W.codeIn K cd2 "is_tuple" = true) (k2 : PySem.W.keepIn K (.ref f2) = true)
    (a3 : PySem.W.nsIn K mainGlobals "is_rising" = some (some (.ref f3))) (l3 : K.lookup f3 = some ⟨oc3, od3, .func (PySem.W.fnOf "is_rising" "is_rising" (defArgs s_is_rising) (defBody s_is_rising) (defScope s_is_rising) .none kV3 dc3 pm3 an3 cd3 ct3), sl3⟩) (c3 : PySem.W.codeIn K cd3 "is_rising" = true) (k3 : PySem.W.keepIn K (.ref f3) = true)
    (a4 : PySem.W.nsIn K mainGlobals "table_of" = some (some (.ref f4))) (l4 : K.lookup f4 = some ⟨oc4, od4, .func (PySem.W.fnOf "table_of" "table_of" (defArgs s_table_of) (defBody s_table_of) (defScope s_table_of) .none kV4 dc4 pm4 an4 cd4 ct4), sl4⟩) (c4 : PySem.W.codeIn K cd4 "table_of" = true) (k4 : PySem.W.keepIn K (.ref f4) = true)
    (a5 : PySem.W.nsIn K mainGlobals "table_if_named" = some (some (.ref f5))) (l5 : K.lookup f5 = some ⟨oc5, od5, .func (PySem.W.fnOf "table_if_named" "table_if_named" (defArgs s_table_if_named) (defBody s_table_if_named) (defScope s_table_if_named) .none kV5 dc5 pm5 an5 cd5 ct5), sl5⟩) (c5 : PySem.W.codeIn K cd5 "table_if_named" = true) (k5 : PySem.W.keepIn K (.ref f5) = true)
    (a6 : PySem.W.nsIn K mainGlobals "is_stay" = some (some (.ref f6))) (l6 : K.lookup f6 = some ⟨oc6, od6, .func (PySem.W.fnOf "is_stay" "is_stay" (defArgs s_is_stay) (defBody s_is_stay) (defScope s_is_stay) .none kV6 dc6 pm6 an6 cd6 ct6), sl6⟩) (c6 : PySem.W.codeIn K cd6 "is_stay" = true) (k6 : PySem.W.keepIn K (.ref f6) = true)
    (a7 : PySem.W.nsIn K mainGlobals "are_stays" = some (some (.ref f7))) (l7 : K.lookup f7 = some ⟨oc7, od7, .func (PySem.W.fnOf "are_stays" "are_stays" (defArgs s_are_stays) (defBody s_are_stays) (defScope s_are_stays) .none kV7 dc7 pm7 an7 cd7 ct7), sl7⟩) (c7 : PySem.W.codeIn K cd7 "are_stays" = true) (k7 : PySem.W.keepIn K (.ref f7) = true)
    (a8 : PySem.W.nsIn K mainGlobals "_law_hand" = some (some (.ref f8))) (l8 : K.lookup f8 = some ⟨oc8, od8, .func (PySem.W.fnOf "_law_hand" "_law_hand" (defArgs s_law_hand) (defBody s_law_hand) (defScope s_law_hand) .none kV8 dc8 pm8 an8 cd8 ct8), sl8⟩) (c8 : PySem.W.codeIn K cd8 "_law_hand" = true) (k8 : PySem.W.keepIn K (.ref f8) = true)
    (a9 : PySem.W.nsIn K mainGlobals "_law_take" = some (some (.ref f9))) (l9 : K.lookup f9 = some ⟨oc9, od9, .func (PySem.W.fnOf "_law_take" "_law_take" (defArgs s_law_take) (defBody s_law_take) (defScope s_law_take) .none kV9 dc9 pm9 an9 cd9 ct9), sl9⟩) (c9 : PySem.W.codeIn K cd9 "_law_take" = true) (k9 : PySem.W.keepIn K (.ref f9) = true)
    (a10 : PySem.W.nsIn K mainGlobals "_law_pick" = some (some (.ref f10))) (l10 : K.lookup f10 = some ⟨oc10, od10, .func (PySem.W.fnOf "_law_pick" "_law_pick" (defArgs s_law_pick) (defBody s_law_pick) (defScope s_law_pick) .none kV10 dc10 pm10 an10 cd10 ct10), sl10⟩) (c10 : PySem.W.codeIn K cd10 "_law_pick" = true) (k10 : PySem.W.keepIn K (.ref f10) = true)
    (a11 : PySem.W.nsIn K mainGlobals "_law_words" = some (some (.ref f11))) (l11 : K.lookup f11 = some ⟨oc11, od11, .func (PySem.W.fnOf "_law_words" "_law_words" (defArgs s_law_words) (defBody s_law_words) (defScope s_law_words) .none kV11 dc11 pm11 an11 cd11 ct11), sl11⟩) (c11 : PySem.W.codeIn K cd11 "_law_words" = true) (k11 : PySem.W.keepIn K (.ref f11) = true)
    (a12 : PySem.W.nsIn K mainGlobals "_law_schema" = some (some (.ref f12))) (l12 : K.lookup f12 = some ⟨oc12, od12, .func (PySem.W.fnOf "_law_schema" "_law_schema" (defArgs s_law_schema) (defBody s_law_schema) (defScope s_law_schema) .none kV12 dc12 pm12 an12 cd12 ct12), sl12⟩) (c12 : PySem.W.codeIn K cd12 "_law_schema" = true) (k12 : PySem.W.keepIn K (.ref f12) = true)
    (a13 : PySem.W.nsIn K mainGlobals "_law_stays" = some (some (.ref f13))) (l13 : K.lookup f13 = some ⟨oc13, od13, .func (PySem.W.fnOf "_law_stays" "_law_stays" (defArgs s_law_stays) (defBody s_law_stays) (defScope s_law_stays) .none kV13 dc13 pm13 an13 cd13 ct13), sl13⟩) (c13 : PySem.W.codeIn K cd13 "_law_stays" = true) (k13 : PySem.W.keepIn K (.ref f13) = true)
    (a14 : PySem.W.nsIn K mainGlobals "_law_unlike" = some (some (.ref f14))) (l14 : K.lookup f14 = some ⟨oc14, od14, .func (PySem.W.fnOf "_law_unlike" "_law_unlike" (defArgs s_law_unlike) (defBody s_law_unlike) (defScope s_law_unlike) .none kV14 dc14 pm14 an14 cd14 ct14), sl14⟩) (c14 : PySem.W.codeIn K cd14 "_law_unlike" = true) (k14 : PySem.W.keepIn K (.ref f14) = true)
    (a15 : PySem.W.nsIn K mainGlobals "_law_due" = some (some (.ref f15))) (l15 : K.lookup f15 = some ⟨oc15, od15, .func (PySem.W.fnOf "_law_due" "_law_due" (defArgs s_law_due) (defBody s_law_due) (defScope s_law_due) .none kV15 dc15 pm15 an15 cd15 ct15), sl15⟩) (c15 : PySem.W.codeIn K cd15 "_law_due" = true) (k15 : PySem.W.keepIn K (.ref f15) = true)
    (a16 : PySem.W.nsIn K mainGlobals "_law_odd" = some (some (.ref f16))) (l16 : K.lookup f16 = some ⟨oc16, od16, .func (PySem.W.fnOf "_law_odd" "_law_odd" (defArgs s_law_odd) (defBody s_law_odd) (defScope s_law_odd) .none kV16 dc16 pm16 an16 cd16 ct16), sl16⟩) (c16 : PySem.W.codeIn K cd16 "_law_odd" = true) (k16 : PySem.W.keepIn K (.ref f16) = true)
    (a17 : PySem.W.nsIn K mainGlobals "_law_spoilt" = some (some (.ref f17))) (l17 : K.lookup f17 = some ⟨oc17, od17, .func (PySem.W.fnOf "_law_spoilt" "_law_spoilt" (defArgs s_law_spoilt) (defBody s_law_spoilt) (defScope s_law_spoilt) .none kV17 dc17 pm17 an17 cd17 ct17), sl17⟩) (c17 : PySem.W.codeIn K cd17 "_law_spoilt" = true) (k17 : PySem.W.keepIn K (.ref f17) = true)
    (a18 : PySem.W.nsIn K mainGlobals "law" = some (some (.ref f18))) (l18 : K.lookup f18 = some ⟨oc18, od18, .func (PySem.W.fnOf "law" "law" (defArgs s_law) (defBody s_law) (defScope s_law) .none kV18 dc18 pm18 an18 cd18 ct18), sl18⟩) (c18 : PySem.W.codeIn K cd18 "law" = true) (k18 : PySem.W.keepIn K (.ref f18) = true)
    (z1 : PySem.W.nsIn K mainGlobals "all" = some none) (z2 : PySem.W.nsIn K mainGlobals "bool" = some none) (z3 : PySem.W.nsIn K mainGlobals "dict" = some none) (z4 : PySem.W.nsIn K mainGlobals "int" = some none) (z5 : PySem.W.nsIn K mainGlobals "isinstance" = some none) (z6 : PySem.W.nsIn K mainGlobals "len" = some none) (z7 : PySem.W.nsIn K mainGlobals "list" = some none) (z8 : PySem.W.nsIn K mainGlobals "max" = some none) (z9 : PySem.W.nsIn K mainGlobals "min" = some none) (z10 : PySem.W.nsIn K mainGlobals "range" = some none) (z11 : PySem.W.nsIn K mainGlobals "sorted" = some none) (z12 : PySem.W.nsIn K mainGlobals "str" = some none) (z13 : PySem.W.nsIn K mainGlobals "tuple" = some none) (z14 : PySem.W.nsIn K mainGlobals "zip" = some none)
    (g1 : PySem.W.nsIn K mainGlobals "LONGEST" = some (some (.int 8 t1))) (g2 : PySem.W.nsIn K mainGlobals "SIGNS" = some (some (.str "abcdefghijklmnopqrstuvwxyz0123456789" t2))) (g3 : PySem.W.nsIn K mainGlobals "WHOLE" = some (some (.str "" t3))) :
    ∃ fd : FuncData, (∀ (s : Shared) (v : Value), BindsTo s fd ⟨[v], []⟩ [("_law_script", v)]) ∧ ∀ base : Heap, K.In base → base.Ns mainGlobals mg → FnOk l.prog w K mg base CX0 5 fa fd ["_law_script"] (spF ⟨K, l.prog, w⟩ f_law 1) := by
  have e := hfa.symm.trans (PySem.W.mg_of X G a18)
  cases e
  have T : Tx mg := ⟨PySem.W.mg_none_of X G z1, PySem.W.mg_none_of X G z2, PySem.W.mg_none_of X G z3, PySem.W.mg_none_of X G z4, PySem.W.mg_none_of X G z5, PySem.W.mg_none_of X G z6, PySem.W.mg_none_of X G z7, PySem.W.mg_none_of X G z8, PySem.W.mg_none_of X G z9, PySem.W.mg_none_of X G z10, PySem.W.mg_none_of X G z11, PySem.W.mg_none_of X G z12, PySem.W.mg_none_of X G z13, PySem.W.mg_none_of X G z14, ⟨t1, PySem.W.mg_of X G g1⟩, ⟨t2, PySem.W.mg_of X G g2⟩, ⟨t3, PySem.W.mg_of X G g3⟩⟩
  have F1 := fun_mk (st := s_is_word) l1 c1 k1
  have b1 := F1.binds (ps := ["thing"]) fun _ _ _ _ _ _ us hl => match us, hl with | [_], _ => rfl
  have F2 := fun_mk (st := s_is_tuple) l2 c2 k2
  have b2 := F2.binds (ps := ["thing", "least", "most"]) fun _ _ _ _ _ _ us hl => match us, hl with | [_, _, _], _ => rfl
  have F3 := fun_mk (st := s_is_rising) l3 c3 k3
  have b3 := F3.binds (ps := ["things"]) fun _ _ _ _ _ _ us hl => match us, hl with | [_], _ => rfl
  have F4 := fun_mk (st := s_table_of) l4 c4 k4
  have b4 := F4.binds (ps := ["schema", "name"]) fun _ _ _ _ _ _ us hl => match us, hl with | [_, _], _ => rfl
  have F5 := fun_mk (st := s_table_if_named) l5 c5 k5
  have b5 := F5.binds (ps := ["schema", "thing"]) fun _ _ _ _ _ _ us hl => match us, hl with | [_, _], _ => rfl
  have F6 := fun_mk (st := s_is_stay) l6 c6 k6
  have b6 := F6.binds (ps := ["schema", "thing"]) fun _ _ _ _ _ _ us hl => match us, hl with | [_, _], _ => rfl
  have F7 := fun_mk (st := s_are_stays) l7 c7 k7
  have b7 := F7.binds (ps := ["schema", "thing"]) fun _ _ _ _ _ _ us hl => match us, hl with | [_, _], _ => rfl
  have F8 := fun_mk (st := s_law_hand) l8 c8 k8
  have b8 := F8.binds (ps := ["_law_script", "_law_k"]) fun _ _ _ _ _ _ us hl => match us, hl with | [_, _], _ => rfl
  have F9 := fun_mk (st := s_law_take) l9 c9 k9
  have b9 := F9.binds (ps := ["_law_hand_here", "_law_many"]) fun _ _ _ _ _ _ us hl => match us, hl with | [_, _], _ => rfl
  have F10 := fun_mk (st := s_law_pick) l10 c10 k10
  have b10 := F10.binds (ps := ["_law_hand_here", "_law_some"]) fun _ _ _ _ _ _ us hl => match us, hl with | [_, _], _ => rfl
  have F11 := fun_mk (st := s_law_words) l11 c11 k11
  have b11 := F11.binds (ps := ["_law_hand_here", "_law_many", "_law_most"]) fun _ _ _ _ _ _ us hl => match us, hl with | [_, _, _], _ => rfl
  have F12 := fun_mk (st := s_law_schema) l12 c12 k12
  have b12 := F12.binds (ps := ["_law_hand_here", "_law_tables", "_law_columns", "_law_values"]) fun _ _ _ _ _ _ us hl => match us, hl with | [_, _, _, _], _ => rfl
  have F13 := fun_mk (st := s_law_stays) l13 c13 k13
  have b13 := F13.binds (ps := ["_law_hand_here", "_law_schema_here"]) fun _ _ _ _ _ _ us hl => match us, hl with | [_, _], _ => rfl
  have F14 := fun_mk (st := s_law_unlike) l14 c14 k14
  have b14 := F14.binds (ps := ["_law_thing"]) fun _ _ _ _ _ _ us hl => match us, hl with | [_], _ => rfl
  have F15 := fun_mk (st := s_law_due) l15 c15 k15
  have b15 := F15.binds (ps := ["_law_schema_here", "_law_thing"]) fun _ _ _ _ _ _ us hl => match us, hl with | [_, _], _ => rfl
  have F16 := fun_mk (st := s_law_odd) l16 c16 k16
  have b16 := F16.binds (ps := ["_law_hand_here", "_law_schema_here"]) fun _ _ _ _ _ _ us hl => match us, hl with | [_, _], _ => rfl
  have F17 := fun_mk (st := s_law_spoilt) l17 c17 k17
  have b17 := F17.binds (ps := ["_law_hand_here", "_law_schema_here", "_law_stays_here"]) fun _ _ _ _ _ _ us hl => match us, hl with | [_, _, _], _ => rfl
  have F18 := fun_mk (st := s_law) l18 c18 k18
  refine ⟨PySem.W.fnOf "law" "law" (defArgs s_law) (defBody s_law) (defScope s_law) .none kV18 dc18 pm18 an18 cd18 ct18, fun s v => .of_eq rfl, fun base _ _ => ?_⟩
  have C1 := cal_mk (P := l.prog) (w := w) (base := base) F1 (PySem.W.mg_of X G a1) (ok_is_word F1 T ) b1
  have C2 := cal_mk (P := l.prog) (w := w) (base := base) F2 (PySem.W.mg_of X G a2) (ok_is_tuple F2 T ) b2
  have C3 := cal_mk (P := l.prog) (w := w) (base := base) F3 (PySem.W.mg_of X G a3) (ok_is_rising F3 T ) b3
  have C4 := cal_mk (P := l.prog) (w := w) (base := base) F4 (PySem.W.mg_of X G a4) (ok_table_of F4 T ) b4
  have C5 := cal_mk (P := l.prog) (w := w) (base := base) F5 (PySem.W.mg_of X G a5) (ok_table_if_named F5 T C1 C4) b5
  have C6 := cal_mk (P := l.prog) (w := w) (base := base) F6 (PySem.W.mg_of X G a6) (ok_is_stay F6 T C2 C5) b6
  have C7 := cal_mk (P := l.prog) (w := w) (base := base) F7 (PySem.W.mg_of X G a7) (ok_are_stays F7 T C6 C3) b7
  have C8 := cal_mk (P := l.prog) (w := w) (base := base) F8 (PySem.W.mg_of X G a8) (ok_law_hand F8 T ) b8
  have C9 := cal_mk (P := l.prog) (w := w) (base := base) F9 (PySem.W.mg_of X G a9) (ok_law_take F9 T ) b9
  have C10 := cal_mk (P := l.prog) (w := w) (base := base) F10 (PySem.W.mg_of X G a10) (ok_law_pick F10 T C9) b10
  have C11 := cal_mk (P := l.prog) (w := w) (base := base) F11 (PySem.W.mg_of X G a11) (ok_law_words F11 T C9 C10) b11
  have C12 := cal_mk (P := l.prog) (w := w) (base := base) F12 (PySem.W.mg_of X G a12) (ok_law_schema F12 T C11 C9) b12
  have C13 := cal_mk (P := l.prog) (w := w) (base := base) F13 (PySem.W.mg_of X G a13) (ok_law_stays F13 T C10 C9) b13
  have C14 := cal_mk (P := l.prog) (w := w) (base := base) F14 (PySem.W.mg_of X G a14) (ok_law_unlike F14 T ) b14
  have C15 := cal_mk (P := l.prog) (w := w) (base := base) F15 (PySem.W.mg_of X G a15) (ok_law_due F15 T C14) b15
  have C16 := cal_mk (P := l.prog) (w := w) (base := base) F16 (PySem.W.mg_of X G a16) (ok_law_odd F16 T C10) b16
  have C17 := cal_mk (P := l.prog) (w := w) (base := base) F17 (PySem.W.mg_of X G a17) (ok_law_spoilt F17 T C9 C16 C10) b17
  exact ok_law F18 T C8 C12 C13 C17 C7 C15
theorem rep_ints {K : Zc} {th : List Addr} {H : Hp} : ∀ ns : List Int, RepL K th H (ns.map D.int) (ns.map V.int)
  | [] => .nil
  | i :: ns => .cons rfl (rep_ints ns)
theorem walk {l : PySem.W.OpenLaw} {q : Program} {loose : List Str} {XP : (Str → Option Value) → Heap → Prop} {YP : World → Heap → Prop} {d : DefRec} {K : Params → PySem.W.Frag} (hn : l.most = some 63) (hdf : d.params.defaults = [])
    (hY : ∀ (w : World) (h : Heap), YP w h → (K w.params).In h)
    (F : ∀ (w : World) (mg : Str → Option Value) (fa : Addr) (h : Heap), (K w.params).In h → h.Ns mainGlobals mg → mg d.name = some (.ref fa) →
      ∃ fd : FuncData, (∀ (s : Shared) (u : Value), BindsTo s fd ⟨[u], []⟩ [("_law_script", u)]) ∧ ∀ base : Heap, (K w.params).In base → base.Ns mainGlobals mg → FnOk l.prog w (K w.params) mg base CX0 5 fa fd ["_law_script"] (spF ⟨K w.params, l.prog, w⟩ f_law 1)) :
    PySem.W.WalkO q loose XP YP l.row.toRowW d [] (fun f vs => PySem.call f vs) :=
  L2.walk_of (n := 63) (k := 5) (x := "_law_script") (CX := fun _ => CX0) (sp := fun w => spF ⟨K w.params, l.prog, w⟩ f_law 1) hn (by decide) hdf ⟨rfl, by decide, by decide⟩ hY F (fun w H a ns hl _ hS => by
    obtain ⟨mu', e⟩ := law_run ns
    refine ⟨[], [], [.lst (ns.map D.int)], ⟨rfl, List.nodup_nil, fun k a o e => by simp at e⟩, .cons ?_ .nil, rfl, .bl true, mu', e, fun th' H' _ _ v rv => rv⟩
    unfold Rep
    refine ⟨a, ns.map V.int, rfl, ?_, rep_ints ns, by rw [List.length_map]; exact Nat.le_trans hl (by decide)⟩
    rcases hS with hS | hS
    · exact .inl ⟨by simp, hS⟩
    · exact .inr hS) fun _ _ _ _ _ z => z
end PG
open PySem PySem.W PyProof.Rows
set_option maxRecDepth 100000 in
set_option maxHeartbeats 0 in
theorem PySem.Challenge.cw_lookback_k17_stays_let_or_not_holds : PySem.Challenge.rw_lookback_k17_stays_let_or_not.Holds := by
  w_on; o_law; k_head; (case hw => w_witness2)
  k_fill
  refine PG.walk (l := PySem.Challenge.rw_lookback_k17_stays_let_or_not) rfl rfl (fun w h Y => PySem.W.kIn_of Y) ?F
  case F =>
    intro w mg fa h KX G hmg
    refine' PG.all_mk KX G hmg ?a1 ?l1 ?c1 ?k1 ?a2 ?l2 ?c2 ?k2 ?a3 ?l3 ?c3 ?k3 ?a4 ?l4 ?c4 ?k4 ?a5 ?l5 ?c5 ?k5 ?a6 ?l6 ?c6 ?k6 ?a7 ?l7 ?c7 ?k7 ?a8 ?l8 ?c8 ?k8 ?a9 ?l9 ?c9 ?k9 ?a10 ?l10 ?c10 ?k10 ?a11 ?l11 ?c11 ?k11 ?a12 ?l12 ?c12 ?k12 ?a13 ?l13 ?c13 ?k13 ?a14 ?l14 ?c14 ?k14 ?a15 ?l15 ?c15 ?k15 ?a16 ?l16 ?c16 ?k16 ?a17 ?l17 ?c17 ?k17 ?a18 ?l18 ?c18 ?k18 ?z1 ?z2 ?z3 ?z4 ?z5 ?z6 ?z7 ?z8 ?z9 ?z10 ?z11 ?z12 ?z13 ?z14 ?g1 ?g2 ?g3
    (case a1 => k_is); (case l1 => k_is); (case c1 => k_is); (case k1 => k_is); (case a2 => k_is); (case l2 => k_is)
    (case c2 => k_is); (case k2 => k_is); (case a3 => k_is); (case l3 => k_is); (case c3 => k_is); (case k3 => k_is)
    (case a4 => k_is); (case l4 => k_is); (case c4 => k_is); (case k4 => k_is); (case a5 => k_is); (case l5 => k_is)
    (case c5 => k_is); (case k5 => k_is); (case a6 => k_is); (case l6 => k_is); (case c6 => k_is); (case k6 => k_is)
    (case a7 => k_is); (case l7 => k_is); (case c7 => k_is); (case k7 => k_is); (case a8 => k_is); (case l8 => k_is)
    (case c8 => k_is); (case k8 => k_is); (case a9 => k_is); (case l9 => k_is); (case c9 => k_is); (case k9 => k_is)
    (case a10 => k_is); (case l10 => k_is); (case c10 => k_is); (case k10 => k_is); (case a11 => k_is); (case l11 => k_is)
    (case c11 => k_is); (case k11 => k_is); (case a12 => k_is); (case l12 => k_is); (case c12 => k_is); (case k12 => k_is)
    (case a13 => k_is); (case l13 => k_is); (case c13 => k_is); (case k13 => k_is); (case a14 => k_is); (case l14 => k_is)
    (case c14 => k_is); (case k14 => k_is); (case a15 => k_is); (case l15 => k_is); (case c15 => k_is); (case k15 => k_is)
    (case a16 => k_is); (case l16 => k_is); (case c16 => k_is); (case k16 => k_is); (case a17 => k_is); (case l17 => k_is)
    (case c17 => k_is); (case k17 => k_is); (case a18 => k_is); (case l18 => k_is); (case c18 => k_is); (case k18 => k_is)
    (case z1 => k_is); (case z2 => k_is); (case z3 => k_is); (case z4 => k_is); (case z5 => k_is); (case z6 => k_is)
    (case z7 => k_is); (case z8 => k_is); (case z9 => k_is); (case z10 => k_is); (case z11 => k_is); (case z12 => k_is)
    (case z13 => k_is); (case z14 => k_is); (case g1 => k_is); (case g2 => k_is); (case g3 => k_is)
