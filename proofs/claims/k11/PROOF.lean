import PyProof.Rows.All
import Wide.All
import OpenK.AllK
import Wide.FinOn
import Lean
import PyProof.EqAt
import PyProof.EqKinds
import PyProof.TupleCall
import PySem.Challenge.RW_lookback_k11_costs
set_option Elab.async false
set_option linter.all false
set_option maxRecDepth 100000
namespace L2
open PySem PySem.Spec PyProof.Rows
abbrev Key := Sum Int Str
def keyIs : Key → Value → Bool
  | .inl k, v => Value.isInt k v
  | .inr x, v => Value.isStrOf x v
def keyH (w : World) : Key → Int
  | .inl k => hashInt k
  | .inr x => hashStr w x
theorem keyIs_shape : ∀ {k : Key} {v : Value}, keyIs k v = true → (∃ i t, k = Sum.inl i ∧ v = Value.int i t) ∨ (∃ x t, k = Sum.inr x ∧ v = Value.str x t)
  | .inl i, v, h => by
    obtain ⟨t, e⟩ := Value.isInt_shape (k := i) (v := v) h
    exact .inl ⟨i, t, rfl, e⟩
  | .inr x, v, h => by
    obtain ⟨t, e⟩ := Value.isStrOf_shape (x := x) (v := v) h
    exact .inr ⟨x, t, rfl, e⟩
theorem key_ll (a b : Int) : decide ((Sum.inl a : Key) = Sum.inl b) = (a == b) := by
  by_cases e : a = b
  · subst e; simp
  · have h : ¬ (Sum.inl a : Key) = Sum.inl b := fun q => e (Sum.inl.inj q)
    rw [decide_eq_false h]
    exact (beq_eq_false_iff_ne.mpr e).symm
theorem key_rr (a b : Str) : decide ((Sum.inr a : Key) = Sum.inr b) = decide (a = b) := by
  by_cases e : a = b
  · subst e; simp
  · have h : ¬ (Sum.inr a : Key) = Sum.inr b := fun q => e (Sum.inr.inj q)
    rw [decide_eq_false h, decide_eq_false e]
theorem key_lr (a : Int) (b : Str) : decide ((Sum.inl a : Key) = Sum.inr b) = false := decide_eq_false (fun q => nomatch q)
theorem key_rl (a : Str) (b : Int) : decide ((Sum.inr a : Key) = Sum.inl b) = false := decide_eq_false (fun q => nomatch q)
def mixKind (prog : Program) (w : World) : PySem.KeyKind prog w Key where
  is := keyIs
  hash := keyH w
  inj := fun v a b ha hb => by
    rcases keyIs_shape ha with ⟨i, t, rfl, rfl⟩ | ⟨x, t, rfl, rfl⟩
    · rcases keyIs_shape hb with ⟨j, u, rfl, e⟩ | ⟨y, u, rfl, e⟩
      · injection e with e1 _; rw [e1]
      · exact nomatch e
    · rcases keyIs_shape hb with ⟨j, u, rfl, e⟩ | ⟨y, u, rfl, e⟩
      · exact nomatch e
      · injection e with e1 _; rw [e1]
  byValue := fun k v h => by
    rcases keyIs_shape h with ⟨i, t, rfl, rfl⟩ | ⟨x, t, rfl, rfl⟩ <;> rfl
  pyHash := fun hv h => by
    rcases keyIs_shape hv with ⟨i, t, rfl, rfl⟩ | ⟨x, t, rfl, rfl⟩
    · exact wpAny_pyHash_int h
    · exact wpAny_pyHash_str h
  eqBool := fun hu hv h => by
    rcases keyIs_shape hu with ⟨i, t, rfl, rfl⟩ | ⟨x, t, rfl, rfl⟩
    · rcases keyIs_shape hv with ⟨j, u, rfl, rfl⟩ | ⟨y, u, rfl, rfl⟩
      · rw [key_ll] at h; exact wpAny_eqBool_int h
      · rw [key_lr] at h; exact SeqAt.EqAt.int_str i t y u _ _ _ _ h
    · rcases keyIs_shape hv with ⟨j, u, rfl, rfl⟩ | ⟨y, u, rfl, rfl⟩
      · rw [key_rl] at h; exact SeqAt.EqAt.str_int x t j u _ _ _ _ h
      · rw [key_rr] at h; exact wpAny_eqBool_str h
  «strs» := fun k x t v h => by
    rcases keyIs_shape h with ⟨i, u, rfl, e⟩ | ⟨y, u, rfl, e⟩
    · exact nomatch e
    · injection e with e1 _
      subst e1
      cases v <;> rfl
end L2
namespace L2
open PySem PySem.Spec PyProof.Rows
inductive V where
  | non | bl (b : Bool) | int (i : Int) | str (x : Str) | byt (b : Array UInt8) | flt (b : UInt64) | ref (a : Addr) | ty (n : String)
  deriving DecidableEq
def RelV : V → Value → Prop
  | .non, u => u = Value.none
  | .bl b, u => u = Value.bool b
  | .int i, u => ∃ t, u = Value.int i t
  | .str x, u => ∃ t, u = Value.str x t
  | .byt b, u => ∃ t, u = Value.bytes b t
  | .flt b, u => ∃ t, u = Value.float b t
  | .ref a, u => u = Value.ref a
  | .ty n, u => u = Value.type n
abbrev Vals : List V → List Value → Prop := Paired RelV
theorem Vals.length {xs : List V} {us : List Value} (r : Vals xs us) : xs.length = us.length := Paired.length r
theorem Vals.get : ∀ {xs : List V} {us : List Value} {i : Nat} {x : V}, Vals xs us → xs[i]? = some x → ∃ u, us[i]? = some u ∧ RelV x u
  | _, _, _, _, .nil, e => by simp at e
  | _, _, 0, _, .cons r _, e => by simp at e; subst e; exact ⟨_, rfl, r⟩
  | _, _, i + 1, x, .cons _ t, e => by
    obtain ⟨u, h1, h2⟩ := Vals.get (i := i) (x := x) t (by simpa using e)
    exact ⟨u, by simpa using h1, h2⟩
theorem Vals.set {x : V} {u : Value} (r : RelV x u) : ∀ {xs : List V} {us : List Value} (i : Nat), Vals xs us → Vals (xs.set i x) (us.set i u)
  | _, _, _, .nil => .nil
  | _, _, 0, .cons _ t => .cons r t
  | _, _, i + 1, .cons q t => .cons q (Vals.set r i t)
theorem Vals.append : ∀ {xs ys : List V} {us ws : List Value}, Vals xs us → Vals ys ws → Vals (xs ++ ys) (us ++ ws)
  | _, _, _, _, .nil, s => s
  | _, _, _, _, .cons r t, s => .cons r (Vals.append t s)
theorem Vals.take : ∀ {xs : List V} {us : List Value} (n : Nat), Vals xs us → Vals (xs.take n) (us.take n)
  | _, _, 0, _ => .nil
  | _, _, _ + 1, .nil => .nil
  | _, _, n + 1, .cons r t => .cons r (Vals.take n t)
theorem Vals.drop : ∀ {xs : List V} {us : List Value} (n : Nat), Vals xs us → Vals (xs.drop n) (us.drop n)
  | _, _, 0, r => r
  | _, _, _ + 1, .nil => .nil
  | _, _, n + 1, .cons _ t => Vals.drop n t
def RelO : Option V → Option Value → Prop
  | some v, some u => RelV v u
  | none, none => True
  | _, _ => False
def KV {κ : Type} : List (κ × V) → List (κ × Value) → Prop := Paired fun (p : κ × V) (q : κ × Value) => p.1 = q.1 ∧ RelV p.2 q.2
def kV : Key → V
  | .inl i => .int i
  | .inr x => .str x
inductive HO where
  /-- a list -/
  | lst (xs : List V)
  /-- a tuple (never changes) -/
  | tup (xs : List V)
  /-- a dict whose keys are ints and texts; one whose keys are tuples of ints and texts (the empty one is both) -/
  | dK (kvs : List (Key × V)) | dT (kvs : List (List Key × V))
  /-- a set of ints: its members, its size -/
  | set (S : Int → Bool) (n : Nat)
  /-- an instance of the class at C, its dict at dx, its attributes -/
  | ins (C dx : Addr) (fs : List (Str × V))
  /-- the dict of the instance at x -/
  | own (x : Addr)
  /-- the dict of an exception -/
  | xd (fs : List (Str × V))
  /-- a bound method, f of x -/
  | met (f x : Addr)
  /-- a range object lo, lo + 1, .. below hi -/
  | rng (lo hi : Int)
  /-- a thing that is known to the object (the script; a dict while a loop walks it): read, never written while it is so -/
  | frz (o : Obj) (u : HO)
  /-- a code object's table -/
  | tbl (ps : Array Value)
  /-- any other thing, by what is true of its one object (a def of one's own: SetO a S n := HO.ext fun h => ..) -/
  | ext (φ : Heap → Prop)
abbrev Hp := Addr → Option HO
def upd (H : Hp) (a : Addr) (o : HO) : Hp := fun b => if b = a then some o else H b
theorem upd_same {H : Hp} {a : Addr} {o : HO} : upd H a o a = some o := by unfold upd; rw [if_pos rfl]
theorem upd_ne {H : Hp} {a b : Addr} {o : HO} (h : b ≠ a) : upd H a o b = H b := by unfold upd; rw [if_neg h]
theorem ne_of_none {H : Hp} {a b : Addr} {o : HO} (h : H a = some o) (h' : H b = none) : a ≠ b := by
  intro e; subst e; rw [h] at h'; cases h'
section
variable (P : Program) (w : World)
def ObjOk (H : Hp) (h : Heap) (a : Addr) : HO → Prop
  | .lst xs => xs.length ≤ sizeLine ∧ ∃ (its : List Value) (n : Nat), Vals xs its ∧ h.get? a = some { cls := .type "list", data := .seq its.toArray n }
  | .tup xs => (xs.length ≤ sizeLine ∧ ∃ o, h.get? a = some o ∧ o.dict = none) ∧ ∃ its : List Value, Vals xs its ∧ IsTup h a its.toArray
  | .dK kvs => kvs.length ≤ sizeLine ∧ (a == sysModules) = false ∧ ∃ vs, KV kvs vs ∧ h.DictOf (mixKind P w) a vs
  | .dT kvs => kvs.length ≤ sizeLine ∧ (a == sysModules) = false ∧ ∃ xs : List (List Key × Addr × Value),
      Paired (fun (p : List Key × V) (q : List Key × Addr × Value) => p.1 = q.1 ∧ H q.2.1 = some (.tup (p.1.map kV)) ∧ RelV p.2 q.2.2) kvs xs ∧
      ∃ o es ep, h.get? a = some o ∧ o.ExactDict ∧ o.data = .dict es ep ∧ es.toList = xs.map (entryOfKey (tupleKind (mixKind P w))) ∧ (xs.map (·.1)).Nodup
  | .set S n => h.SetOf (intKind P w) a S n
  | .ins C dx fs => H dx = some (.own a) ∧ fs.length ≤ 1000 ∧ dx ≠ a ∧ h.get? a = some (PySem.W.instObj C dx) ∧
      ∃ mA, h.Ns1 dx mA ∧ (∀ f, RelO (fs.lookup f) (mA f)) ∧ PySem.Within mA (fs.map (·.1))
  | .own _ => ∃ o, h.get? a = some o
  | .xd fs => ∃ mA, h.Ns1 a mA ∧ ∀ f, RelO (fs.lookup f) (mA f)
  | .rng lo hi => ∃ t u v, h.get? a = some { cls := .type "range", data := .fields #[.int lo t, .int hi u, .int 1 v] }
  | .frz o u => h.get? a = some o ∧ ObjOk H h a u
  | .tbl ps => h.get? a = some { cls := .none, data := .fields ps }
  | .met f x => h.get? a = some (PySem.W.methodObj (.ref f) (.ref x))
  | .ext φ => φ h ∧ (∃ o, h.get? a = some o) ∧ ∀ h1 h2 : Heap, φ h1 → (∀ o, h1.get? a = some o → h2.get? a = some o) → φ h2
def HOk (H : Hp) (h : Heap) : Prop := ∀ a o, H a = some o → ObjOk P w H h a o
end
section
variable {P : Program} {w : World} {H H' : Hp} {h h' : Heap} {a : Addr} {o : HO}
theorem ObjOk.lt (x : ObjOk P w H h a o) : a < h.objs.size := by
  cases o with
  | lst xs => obtain ⟨_, _, _, _, e⟩ := x; exact Heap.lt_size e
  | tup xs => obtain ⟨_, _, _, p⟩ := x; exact p.lt
  | dK kvs => obtain ⟨_, _, _, _, o, _, _, e, _⟩ := x; exact Heap.lt_size e
  | dT kvs => obtain ⟨_, _, _, _, o, _, _, e, _⟩ := x; exact Heap.lt_size e
  | set S n => obtain ⟨o, _, _, _, e, _⟩ := x; exact Heap.lt_size e
  | ins C dx fs => obtain ⟨_, _, _, e, _⟩ := x; exact Heap.lt_size e
  | own y => obtain ⟨_, e⟩ := x; exact Heap.lt_size e
  | xd fs => obtain ⟨_, ⟨_, _, _, e, _⟩, _⟩ := x; exact Heap.lt_size e
  | rng lo hi => obtain ⟨_, _, _, e⟩ := x; exact Heap.lt_size e
  | frz ob u => obtain ⟨e, _⟩ := x; exact Heap.lt_size e
  | tbl ps => exact Heap.lt_size (show h.get? a = some _ from x)
  | met f y => exact Heap.lt_size (show h.get? a = some _ from x)
  | ext φ => obtain ⟨_, ⟨_, e⟩, _⟩ := x; exact Heap.lt_size e
theorem Paired.mapP {α β : Type} {F G : α → β → Prop} : ∀ {l₁ : List α} {l₂ : List β}, Paired F l₁ l₂ → (∀ a b, F a b → G a b) → Paired G l₁ l₂
  | _, _, .nil, _ => .nil
  | _, _, .cons r t, f => .cons (f _ _ r) (Paired.mapP t f)
theorem ObjOk.stay (x : ObjOk P w H h a o) (k : ∀ b u, (b = a ∨ H b = some (.own a)) → h.get? b = some u → h'.get? b = some u)
    (ho : ∀ b, H b = some (.own a) → H' b = some (.own a)) (ht : ∀ b xs, H b = some (.tup xs) → H' b = some (.tup xs)) : ObjOk P w H' h' a o := by
  induction o with
  | lst xs => obtain ⟨z, its, n, r, e⟩ := x; exact ⟨z, its, n, r, k _ _ (.inl rfl) e⟩
  | tup xs => obtain ⟨⟨z, o1, z1, z2⟩, its, r, ob, e, c⟩ := x; exact ⟨⟨z, o1, k _ _ (.inl rfl) z1, z2⟩, its, r, ob, k _ _ (.inl rfl) e, c⟩
  | dK kvs => obtain ⟨z, y, vs, r, ob, es, ep, e, c⟩ := x; exact ⟨z, y, vs, r, ob, es, ep, k _ _ (.inl rfl) e, c⟩
  | dT kvs =>
    obtain ⟨z, y, xs, r, ob, es, ep, e, c⟩ := x
    exact ⟨z, y, xs, Paired.mapP r fun p q z => ⟨z.1, ht _ _ z.2.1, z.2.2⟩, ob, es, ep, k _ _ (.inl rfl) e, c⟩
  | set S n => obtain ⟨ob, es, ep, t, e, c⟩ := x; exact ⟨ob, es, ep, t, k _ _ (.inl rfl) e, c⟩
  | ins C dx fs =>
    obtain ⟨d, z, ne, e, mA, ⟨od, es, ep, e2, c⟩, r⟩ := x
    exact ⟨ho _ d, z, ne, k _ _ (.inl rfl) e, mA, ⟨od, es, ep, k _ _ (.inr d) e2, c⟩, r⟩
  | own y => obtain ⟨ob, e⟩ := x; exact ⟨ob, k _ _ (.inl rfl) e⟩
  | xd fs => obtain ⟨mA, ⟨od, es, ep, e, c⟩, r⟩ := x; exact ⟨mA, ⟨od, es, ep, k _ _ (.inl rfl) e, c⟩, r⟩
  | rng lo hi => obtain ⟨t, u, v, e⟩ := x; exact ⟨t, u, v, k _ _ (.inl rfl) e⟩
  | frz ob u ih => obtain ⟨e, q⟩ := x; exact ⟨k _ _ (.inl rfl) e, ih q⟩
  | tbl ps =>
    have e : h.get? a = some { cls := .none, data := .fields ps } := x
    show h'.get? a = some { cls := .none, data := .fields ps }
    exact k a _ (.inl rfl) e
  | met f y =>
    have e : h.get? a = some (PySem.W.methodObj (.ref f) (.ref y)) := x
    show h'.get? a = some (PySem.W.methodObj (.ref f) (.ref y))
    exact k a _ (.inl rfl) e
  | ext φ => obtain ⟨p, ⟨o, e⟩, st⟩ := x; exact ⟨st _ _ p fun o q => k _ _ (.inl rfl) q, ⟨o, k _ _ (.inl rfl) e⟩, st⟩
theorem HOk.lt (x : HOk P w H h) (e : H a = some o) : a < h.objs.size := (x a o e).lt
theorem HOk.fresh (x : HOk P w H h) (e : h.objs.size ≤ a) : H a = none := by
  cases q : H a with
  | none => rfl
  | some u => exact absurd (Nat.lt_of_lt_of_le (x.lt q) e) (Nat.lt_irrefl _)
theorem HOk.kept (x : HOk P w H h) (k : ∀ b u, h.get? b = some u → h'.get? b = some u) : HOk P w H h' := fun a o e =>
  (x a o e).stay (fun b u _ q => k b u q) (fun _ q => q) fun _ _ q => q
theorem HOk.laid (x : HOk P w H h) (k : ∀ b u, h.get? b = some u → h'.get? b = some u) (hp : h.objs.size ≤ a) (new : ObjOk P w (upd H a o) h' a o) : HOk P w (upd H a o) h' := fun b u e => by
  have hn := x.fresh hp
  by_cases hb : b = a
  · subst hb; rw [upd_same] at e; cases e; exact new
  · rw [upd_ne hb] at e
    exact (x b u e).stay (fun c v _ q => k c v q) (fun c q => by rw [upd_ne (ne_of_none q hn)]; exact q) fun c xs q => by rw [upd_ne (ne_of_none q hn)]; exact q
end
def Rd (H : Hp) (a : Addr) (u : HO) : Prop := H a = some u ∨ ∃ o, H a = some (.frz o u)
theorem Rd.ok {P : Program} {w : World} {H : Hp} {h : Heap} {a : Addr} {u : HO} (r : Rd H a u) (x : HOk P w H h) : ObjOk P w H h a u := by
  rcases r with r | ⟨o, r⟩
  · exact x a u r
  · obtain ⟨_, q⟩ := x a _ r
    exact q
def Mut : Option HO → Prop
  | some (.lst _) => True
  | some (.dK _) => True
  | some (.dT _) => True
  | some (.set _ _) => True
  | some (.ins _ _ _) => True
  | some (.ext _) => True
  | _ => False
section
variable {P : Program} {w : World} {H : Hp} {h h' : Heap} {x e : Addr} {o' : HO}
theorem HOk.write (ok : HOk P w H h) (mu : Mut (H x)) (he : e = x ∨ H e = some (.own x)) (k : ∀ b u, b ≠ e → h.get? b = some u → h'.get? b = some u) (heo : ∃ u, h'.get? e = some u)
    (new : ObjOk P w (upd H x o') h' x o') : HOk P w (upd H x o') h' := fun b u q => by
  have nown : ∀ c y, H c = some (.own y) → c ≠ x := fun c y r z => by subst z; rw [r] at mu; exact mu
  have ntup : ∀ c xs, H c = some (.tup xs) → c ≠ x := fun c xs r z => by subst z; rw [r] at mu; exact mu
  by_cases hb : b = x
  · subst hb; rw [upd_same] at q; cases q; exact new
  · rw [upd_ne hb] at q
    by_cases hbe : b = e
    · have q' : H b = some (.own x) := by
        rcases he with z | z
        · exact absurd (hbe.trans z) hb
        · rw [hbe]; exact z
      rw [q] at q'; cases q'
      obtain ⟨v, hv⟩ := heo
      exact ⟨v, by rw [hbe]; exact hv⟩
    · refine (ok b u q).stay (fun c v hc r => k c v ?_ r) (fun c r => by rw [upd_ne (nown c b r)]; exact r) fun c xs r => by rw [upd_ne (ntup c xs r)]; exact r
      rcases hc with rfl | hc
      · exact hbe
      · rintro rfl
        rcases he with z | z
        · exact nown c b hc z
        · rw [hc] at z; cases z; exact hb rfl
end
structure Un (fs ex : List Addr) (H H' : Hp) (h h' : Heap) : Prop where
  keep : ∀ b o, h.get? b = some o → H b = none → b ∉ fs → b ∉ ex → h'.get? b = some o
  slot : ∀ b o, h.get? b = some o → H b = none → b ∈ fs → b ∉ ex → ∃ sl, h'.get? b = some { o with slots := sl }
  free : ∀ b o, h.get? b = some o → H b = none → b ∉ ex → H' b = none
  there : ∀ b o, h.get? b = some o → b ∉ ex → ∃ o', h'.get? b = some o'
  tups : ∀ b xs, H b = some (.tup xs) → H' b = some (.tup xs)
  frzs : ∀ b o u, H b = some (.frz o u) → H' b = some (.frz o u)
  tbls : ∀ b ps, H b = some (.tbl ps) → ∃ more, H' b = some (.tbl (ps ++ more))
section
variable {fs fs' ex ex' : List Addr} {H H1 H2 : Hp} {h h1 h2 h' : Heap} {a x e : Addr} {o : HO}
theorem Un.any (u : Un fs ex H H1 h h1) {b : Addr} {ob : Obj} (q : h.get? b = some ob) (n : H b = none) (hx : b ∉ ex) : ∃ sl, h1.get? b = some { ob with slots := sl } := by
  by_cases hb : b ∈ fs
  · exact u.slot b ob q n hb hx
  · exact ⟨ob.slots, u.keep b ob q n hb hx⟩
theorem Un.kept (k : ∀ b u, h.get? b = some u → h'.get? b = some u) : Un fs ex H H h h' :=
  ⟨fun b ob q _ _ _ => k b ob q, fun b ob q _ _ _ => ⟨ob.slots, k b ob q⟩, fun _ _ _ n _ => n, fun b ob q _ => ⟨ob, k b ob q⟩, fun _ _ q => q, fun _ _ _ q => q, fun _ ps q => ⟨#[], by rw [q]; simp⟩⟩
theorem Un.refl : Un fs ex H H h h := Un.kept fun _ _ q => q
theorem Un.laid (k : ∀ b u, h.get? b = some u → h'.get? b = some u) (hp : h.objs.size ≤ a) (hn : H a = none) : Un fs ex H (upd H a o) h h' where
  keep := fun b u q _ _ _ => k b u q
  slot := fun b u q _ _ _ => ⟨u.slots, k b u q⟩
  free := fun b u q n _ => by rw [upd_ne (Nat.ne_of_lt (Nat.lt_of_lt_of_le (Heap.lt_size q) hp))]; exact n
  there := fun b u q _ => ⟨u, k b u q⟩
  tups := fun b xs q => by rw [upd_ne (ne_of_none q hn)]; exact q
  frzs := fun b u xs q => by rw [upd_ne (ne_of_none q hn)]; exact q
  tbls := fun b ps q => ⟨#[], by rw [upd_ne (ne_of_none q hn), q]; simp⟩
theorem Un.write (mu : Mut (H x)) (he : e = x ∨ H e = some (.own x)) (k : ∀ b u, b ≠ e → h.get? b = some u → h'.get? b = some u) (heo : ∃ u, h'.get? e = some u) : Un fs ex H (upd H x o) h h' := by
  have hx : ∀ b, H b = none → b ≠ x := fun b n z => by subst z; rw [n] at mu; exact mu
  have hb : ∀ b, H b = none → b ≠ e := fun b n z => by
    subst z
    rcases he with r | r
    · exact hx b n r
    · rw [n] at r; cases r
  have hm : ∀ b u, H b = some u → ¬ Mut (some u) → b ≠ x := fun b u q nm z => by subst z; rw [q] at mu; exact nm mu
  refine ⟨fun b u q n _ _ => k b u (hb b n) q, fun b u q n _ _ => ⟨u.slots, k b u (hb b n) q⟩, fun b u q n _ => by rw [upd_ne (hx b n)]; exact n, fun b u q _ => ?_,
    fun b xs q => by rw [upd_ne (hm b _ q fun z => z)]; exact q, fun b u xs q => by rw [upd_ne (hm b _ q fun z => z)]; exact q, fun b ps q => ⟨#[], by rw [upd_ne (hm b _ q fun z => z), q]; simp⟩⟩
  by_cases hbe : b = e
  · subst hbe; exact heo
  · exact ⟨u, k b u hbe q⟩
end
def trk (h : Heap) (H : Hp) : List Addr := (List.range h.objs.size).filter fun a => (H a).isSome
def hidT (h : Heap) (H : Hp) : Heap := PySem.W.hideAll h (trk h H)
theorem hidT_size (h : Heap) (H : Hp) : (hidT h H).objs.size = h.objs.size := PySem.W.hideAll_size _ _
theorem hidT_get {h : Heap} {H : Hp} {b : Addr} {o : Obj} (e : h.get? b = some o) (n : H b = none) : (hidT h H).get? b = some o :=
  PySem.W.hideAll_get _ e fun hm => by
    have q : (H b).isSome = true := (List.mem_filter.mp hm).2
    rw [n] at q; simp at q
theorem of_hidT {h : Heap} {H : Hp} {b : Addr} {o : Obj} (e : (hidT h H).get? b = some o) : h.get? b = some o ∧ H b = none := by
  have e' : h.get? b = some o := PySem.W.of_hideAll (trk h H) e
  refine ⟨e', ?_⟩
  cases q : H b with
  | none => rfl
  | some x =>
    have hm : b ∈ trk h H := List.mem_filter.mpr ⟨List.mem_range.mpr (Heap.lt_size e'), by simp [q]⟩
    have z : (hidT h H).get? b = none := PySem.W.hideAll_none (trk h H) hm
    rw [z] at e; cases e
def allNews (g h : Heap) (L : Addr) : List (Addr × Obj) := (List.range h.objs.size).filterMap fun a => if a = L ∨ (g.get? a).isSome = true then none else (h.get? a).map fun o => (a, o)
def rest (g h : Heap) (L d : Addr) : List (Addr × Obj) := (allNews g h L).filter fun p => decide (p.1 ≠ d)
end L2
namespace L2
open PySem PySem.Spec PyProof.Rows
structure Mod (K : PySem.W.Frag) (mg : Str → Option Value) (base : Heap) : Prop where
  kin : K.In base
  glob : base.Ns mainGlobals mg
  blt : ∃ mb, base.Ns builtinsNs mb ∧ ∀ x : Str, x ≠ "__name__" → mb x = bootBuiltins x
  nolimit : base.NoLimit
structure Cx where
  prog : Program
  w : World
  K : PySem.W.Frag
  mg : Str → Option Value
  base : Heap
  A : Around
  N : List Str
  s₀ : Shared
  H₀ : Hp
  env : Env
  outer : List Env
  stack : List Env
  ex : List Addr
  fn : Str → Bool
  calm : Bool
  pn : List (Addr × Obj)
  xe : Value → Shared → Prop
def frs (l : List Env) : List Addr := l.filterMap (·.frame)
abbrev Cx.fs (X : Cx) : List Addr := frs X.outer
def Vis (sc : Scope) (x : Str) : Prop := sc.names.lookup x = some .local ∨ sc.names.lookup x = some .cell ∨ sc.names.lookup x = some .free
def Loc (sc : Scope) (x : Str) : Prop := sc.names.lookup x = some .local ∨ sc.names.lookup x = some .cell
def Look (env : Env) (h : Heap) (m : Str → Option Value) (x : Str) (u : Value) : Prop :=
  (env.kindOf x = some .local ∧ m x = some u) ∨ ((env.kindOf x = some .cell ∨ env.kindOf x = some .free) ∧ ∃ c, env.cells.lookup x = some c ∧ h.IsCell c (some u))
structure Cx.Ok (X : Cx) : Prop where
  mod : Mod X.K X.mg X.base
  kind : X.env.scope.kind = .function
  glob : X.env.globals = mainGlobals
  blt : X.env.builtins = builtinsNs
  above : X.s₀.heap.objs.size ≤ X.env.locals
  inj : ∀ x y c, X.env.cells.lookup x = some c → X.env.cells.lookup y = some c → x = y
  has : ∀ x, (X.env.kindOf x = some .cell ∨ X.env.kindOf x = some .free) → ∃ c, X.env.cells.lookup x = some c
  cab : ∀ x c, X.fn x = true → X.env.cells.lookup x = some c → X.s₀.heap.objs.size ≤ c
  hd : X.calm = true → X.A.handled = none
  frames : X.A.frames = some X.stack
  stk : X.stack = X.outer ∨ (X.stack = X.env :: X.outer ∧ X.env.frame = some X.env.locals)
  exf : ∀ b ∈ X.ex, b ≠ X.env.locals ∧ ∀ x c, X.env.cells.lookup x = some c → c ≠ b
  bs : ∀ b o, X.base.get? b = some o → X.s₀.heap.get? b = some o ∧ X.H₀ b = none
  bsz : X.base.objs.size ≤ X.s₀.heap.objs.size
  noex : ∀ b o, X.base.get? b = some o → b ∉ X.ex
  exfs : ∀ b ∈ X.ex, b ∉ X.fs
  funs : X.s₀.heap.FunFrames X.base X.outer
  frf : ∀ b ∈ X.fs, X.H₀ b = none
structure Inv (X : Cx) (pins : List (Addr × Obj)) (σ : List (Option V)) (H : Hp) (s : Shared) : Prop where
  ok : X.Ok
  os : s.os = X.s₀.os
  bare : AllBare s.gens
  base : Un X.fs X.ex X.H₀ H X.s₀.heap s.heap
  loc : ∃ m, s.heap.Ns X.env.locals m ∧ ∀ (i : Nat) (x : Str) (v : V), X.N[i]? = some x → σ[i]? = some (some v) → Vis X.env.scope x → ∃ u, RelV v u ∧ Look X.env s.heap m x u
  cell : ∀ x c, X.env.cells.lookup x = some c → ∃ v, s.heap.IsCell c v
  free : H X.env.locals = none
  freeC : ∀ x c, X.env.cells.lookup x = some c → H c = none
  pin : ∀ p ∈ X.pn ++ pins, s.heap.get? p.1 = some p.2 ∧ H p.1 = none ∧ p.1 ≠ X.env.locals ∧ p.1 ∉ X.fs ∧ ∀ v, p.2.data ≠ .cell v
  hok : HOk X.prog X.w H s.heap
  len : σ.length = X.N.length
section
variable {X : Cx} {pins : List (Addr × Obj)} {σ : List (Option V)} {H H' : Hp} {s : Shared} {h' : Heap}
theorem Cx.Ok.nofr (ok : X.Ok) {b : Addr} {o : Obj} (e : X.base.get? b = some o) : b ∉ X.fs := fun hb => by
  have := (ok.funs.mem hb).1
  rw [e] at this; cases this
theorem Inv.bs (I : Inv X pins σ H s) : ∀ b o, X.base.get? b = some o → s.heap.get? b = some o ∧ H b = none := fun b o e =>
  ⟨I.base.keep b o (I.ok.bs b o e).1 (I.ok.bs b o e).2 (I.ok.nofr e) (I.ok.noex b o e), I.base.free b o (I.ok.bs b o e).1 (I.ok.bs b o e).2 (I.ok.noex b o e)⟩
theorem Inv.bk (I : Inv X pins σ H s) : ∀ b o, X.base.get? b = some o → s.heap.get? b = some o := fun b o e => (I.bs b o e).1
theorem Inv.mod (I : Inv X pins σ H s) : Mod X.K X.mg X.base := I.ok.mod
theorem Inv.kIn (I : Inv X pins σ H s) : X.K.In s.heap := I.ok.mod.kin.keeps I.bk
theorem Inv.lt (I : Inv X pins σ H s) : X.env.locals < s.heap.objs.size := let ⟨_, hn, _⟩ := I.loc; hn.lt
theorem Inv.sz (I : Inv X pins σ H s) : X.s₀.heap.objs.size ≤ s.heap.objs.size := Nat.le_trans I.ok.above (Nat.le_of_lt I.lt)
theorem Inv.nofs (I : Inv X pins σ H s) {a : Addr} (h : s.heap.objs.size ≤ a) : a ∉ X.fs := fun hb => by
  obtain ⟨_, o, ho, _⟩ := I.ok.funs.mem hb
  exact absurd (Nat.lt_of_lt_of_le (Heap.lt_size ho) (Nat.le_trans I.sz h)) (Nat.lt_irrefl _)
theorem Inv.cne (I : Inv X pins σ H s) : ∀ x c, X.env.cells.lookup x = some c → c ≠ X.env.locals := fun x c e z => by
  obtain ⟨v, o, ho, hd⟩ := I.cell x c e
  obtain ⟨m, ⟨o', es, ep, ho', hd', _⟩, _⟩ := I.loc
  rw [z, ho'] at ho; cases ho; rw [hd'] at hd; cases hd
theorem Inv.funs (I : Inv X pins σ H s) : s.heap.FunFrames X.base X.outer := by
  have all : ∀ (l : List Env), (∀ b ∈ frs l, b ∈ X.fs) → X.s₀.heap.FunFrames X.base l → s.heap.FunFrames X.base l := by
    intro l
    induction l with
    | nil => intro _ _; trivial
    | cons env r ih =>
      intro hs hl
      obtain ⟨hk, ⟨L, o, hf, hn, ho, hd⟩, hr⟩ := hl
      have hL : L ∈ X.fs := hs L (by unfold frs; rw [List.filterMap_cons, hf]; exact List.mem_cons_self)
      obtain ⟨sl, e⟩ := I.base.slot L o ho (I.ok.frf L hL) hL fun z => I.ok.exfs L z hL
      exact ⟨hk, ⟨L, _, hf, hn, e, hd⟩, ih (fun b hb => hs b (by unfold frs; rw [List.filterMap_cons, hf]; exact List.mem_cons_of_mem _ hb)) hr⟩
  exact all X.outer (fun _ hb => hb) I.ok.funs
theorem Inv.stack (I : Inv X pins σ H s) : s.heap.FunFrames X.base X.stack := by
  rcases I.ok.stk with e | ⟨e, hf⟩
  · rw [e]; exact I.funs
  · rw [e]
    obtain ⟨m, hn, _⟩ := I.loc
    refine .cons (by rw [I.ok.kind]; decide) hf hn ?_ I.funs
    exact Heap.get?_none_of_le (Nat.le_trans I.ok.bsz I.ok.above)
theorem Inv.stkSub (I : Inv X pins σ H s) : ∀ b ∈ frs X.stack, b ∈ X.env.locals :: X.fs := fun b hb => by
  rcases I.ok.stk with e | ⟨e, hf⟩
  · rw [e] at hb; exact List.mem_cons_of_mem _ hb
  · rw [e] at hb
    unfold frs at hb
    rw [List.filterMap_cons, hf] at hb
    exact hb
theorem Inv.stkFree (I : Inv X pins σ H s) : ∀ b ∈ frs X.stack, H b = none := fun b hb => by
  rcases List.mem_cons.mp (I.stkSub b hb) with e | hb
  · rw [e]; exact I.free
  · obtain ⟨_, o, ho, _⟩ := I.ok.funs.mem hb
    exact I.base.free b o ho (I.ok.frf b hb) fun z => I.ok.exfs b z hb
theorem Inv.step {g' : Array GenState} {t' : Nat} {d' : Drawn} {ch : List Addr} (I : Inv X pins σ H s)
    (hch : ∀ b ∈ ch, (b ∈ X.ex ∨ X.s₀.heap.objs.size ≤ b) ∧ b ≠ X.env.locals ∧ (∀ x c, X.env.cells.lookup x = some c → c ≠ b) ∧ ∀ p ∈ X.pn ++ pins, p.1 ≠ b)
    (keep : ∀ b o, b ≠ X.env.locals → b ∉ X.fs → b ∉ ch → s.heap.get? b = some o → H b = none → h'.get? b = some o)
    (slot : ∀ b o, b ≠ X.env.locals → b ∈ X.fs → b ∉ ch → s.heap.get? b = some o → H b = none → ∃ sl, h'.get? b = some { o with slots := sl }) (free : ∀ b o, b ∉ ch → s.heap.get? b = some o → H b = none → H' b = none)
    (there : ∀ b o, b ∉ ch → s.heap.get? b = some o → ∃ o', h'.get? b = some o')
    (tups : ∀ b xs, H b = some (.tup xs) → H' b = some (.tup xs)) (frzs : ∀ b o u, H b = some (.frz o u) → H' b = some (.frz o u)) (tbls : ∀ b ps, H b = some (.tbl ps) → ∃ more, H' b = some (.tbl (ps ++ more)))
    (ns : ∀ m, s.heap.Ns X.env.locals m → h'.Ns X.env.locals m) (hok : HOk X.prog X.w H' h') (hg : AllBare g') :
    Inv X pins σ H' { s with heap := h', gens := g', drawn := d', toks := t' } := by
  have neL : ∀ b o, X.s₀.heap.get? b = some o → b ≠ X.env.locals := fun b o e => Nat.ne_of_lt (Nat.lt_of_lt_of_le (Heap.lt_size e) I.ok.above)
  have neC : ∀ b o, X.s₀.heap.get? b = some o → b ∉ X.ex → b ∉ ch := fun b o e hx hb => by
    rcases (hch b hb).1 with z | z
    · exact hx z
    · exact absurd (Nat.lt_of_lt_of_le (Heap.lt_size e) z) (Nat.lt_irrefl _)
  have cellK : ∀ x c, X.env.cells.lookup x = some c → ∀ v, s.heap.IsCell c v → h'.IsCell c v := fun x c e v ⟨o, ho, hd⟩ => by
    have nch : c ∉ ch := fun z => (hch c z).2.2.1 x c e rfl
    by_cases hc : c ∈ X.fs
    · obtain ⟨sl, q⟩ := slot c o (I.cne x c e) hc nch ho (I.freeC x c e)
      exact ⟨_, q, hd⟩
    · exact ⟨o, keep c o (I.cne x c e) hc nch ho (I.freeC x c e), hd⟩
  refine ⟨I.ok, I.os, hg, ⟨fun b o e n hb hx => ?_, fun b o e n hb hx => ?_, fun b o e n hx => ?_, fun b o e hx => ?_, fun b xs e => tups b xs (I.base.tups b xs e), fun b o xs e => frzs b o xs (I.base.frzs b o xs e), fun b ps e => ?_⟩, ?_, fun x c e => ?_, ?_, fun x c e => ?_, fun p hp => ?_, hok, I.len⟩
  · exact keep b o (neL b o e) hb (neC b o e hx) (I.base.keep b o e n hb hx) (I.base.free b o e n hx)
  · obtain ⟨sl, e1⟩ := I.base.slot b o e n hb hx
    obtain ⟨sl', e2⟩ := slot b _ (neL b o e) hb (neC b o e hx) e1 (I.base.free b o e n hx)
    exact ⟨sl', e2⟩
  · obtain ⟨o', e1⟩ := I.base.there b o e hx
    exact free b o' (neC b o e hx) e1 (I.base.free b o e n hx)
  · obtain ⟨o', e1⟩ := I.base.there b o e hx
    exact there b o' (neC b o e hx) e1
  · obtain ⟨m1, e1⟩ := I.base.tbls b ps e
    obtain ⟨m2, e2⟩ := tbls b _ e1
    exact ⟨m1 ++ m2, by rw [e2, Array.append_assoc]⟩
  · obtain ⟨m, hn, hl⟩ := I.loc
    refine ⟨m, ns m hn, fun i x v e1 e2 e3 => ?_⟩
    obtain ⟨u, r, l⟩ := hl i x v e1 e2 e3
    refine ⟨u, r, ?_⟩
    rcases l with l | ⟨k, c, e, z⟩
    · exact .inl l
    · exact .inr ⟨k, c, e, cellK x c e _ z⟩
  · obtain ⟨v, z⟩ := I.cell x c e
    exact ⟨v, cellK x c e v z⟩
  · obtain ⟨m, ⟨o, _, _, ho, _⟩, _⟩ := I.loc
    exact free _ o (fun z => (hch _ z).2.1 rfl) ho I.free
  · obtain ⟨v, o, ho, hd⟩ := I.cell x c e
    exact free c o (fun z => (hch c z).2.2.1 x c e rfl) ho (I.freeC x c e)
  · obtain ⟨e, n, ne, nf, d⟩ := I.pin p hp
    have nch : p.1 ∉ ch := fun z => (hch p.1 z).2.2.2 p hp rfl
    exact ⟨keep p.1 p.2 ne nf nch e n, free p.1 p.2 nch e n, ne, nf, d⟩
theorem Inv.un {t' : Nat} (I : Inv X pins σ H s) (u : Un X.fs [] H H' s.heap h') (hok : HOk X.prog X.w H' h') : Inv X pins σ H' { s with heap := h', toks := t' } := by
  obtain ⟨m, ⟨o, es, ep, ho, r⟩, _⟩ := id I.loc
  obtain ⟨sl, hL⟩ := u.any ho I.free (by simp)
  exact I.step (g' := s.gens) (d' := s.drawn) (ch := []) (fun _ z => nomatch z) (fun b o _ hb _ e n => u.keep b o e n hb (by simp)) (fun b o _ hb _ e n => u.slot b o e n hb (by simp)) (fun b o _ e n => u.free b o e n (by simp)) (fun b o _ e => u.there b o e (by simp)) u.tups u.frzs u.tbls (fun m' hm => by
    obtain ⟨o', es', ep', ho', r'⟩ := hm
    rw [ho] at ho'; cases ho'
    exact ⟨_, es', ep', hL, r'⟩) hok I.bare
theorem Inv.call {g' : Array GenState} {t' : Nat} {d' : Drawn} {ch : List Addr} (I : Inv X pins σ H s) (u : Un (frs X.stack) ch H H' s.heap h') (hok : HOk X.prog X.w H' h') (hg : AllBare g')
    (hch : ∀ b ∈ ch, (b ∈ X.ex ∨ X.s₀.heap.objs.size ≤ b) ∧ b ≠ X.env.locals ∧ (∀ x c, X.env.cells.lookup x = some c → c ≠ b) ∧ ∀ p ∈ X.pn ++ pins, p.1 ≠ b) :
    Inv X pins σ H' { s with heap := h', gens := g', drawn := d', toks := t' } := by
  obtain ⟨m, ⟨o, es, ep, ho, r⟩, _⟩ := id I.loc
  obtain ⟨sl, hL⟩ := u.any ho I.free fun z => (hch _ z).2.1 rfl
  exact I.step (ch := ch) hch (fun b o hL hb hc e n => u.keep b o e n (fun z => (List.mem_cons.mp (I.stkSub b z)).elim hL hb) hc) (fun b o _ _ hc e n => u.any e n hc) (fun b o hc e n => u.free b o e n hc) (fun b o hc e => u.there b o e hc) u.tups u.frzs u.tbls (fun m' hm => by
    obtain ⟨o', es', ep', ho', r'⟩ := hm
    rw [ho] at ho'; cases ho'
    exact ⟨_, es', ep', hL, r'⟩) hok hg
theorem Inv.turned {t' : Nat} {it : Addr} (I : Inv X pins σ H s) (k : ∀ b o, b ≠ it → s.heap.get? b = some o → h'.get? b = some o) (hn : H it = none) (hL : it ≠ X.env.locals)
    (h1 : it ∈ X.ex ∨ X.s₀.heap.objs.size ≤ it) (h2 : ∀ x c, X.env.cells.lookup x = some c → c ≠ it) (h3 : ∀ p ∈ X.pn ++ pins, p.1 ≠ it) : Inv X pins σ H { s with heap := h', toks := t' } := by
  have nit : ∀ b u, H b = some u → b ≠ it := fun b u e z => by rw [z, hn] at e; cases e
  refine I.step (g' := s.gens) (d' := s.drawn) (ch := [it]) (fun b hb => ?_) (fun b o _ _ hc e _ => k b o (fun z => hc (by simp [z])) e) (fun b o _ _ hc e _ => ⟨o.slots, k b o (fun z => hc (by simp [z])) e⟩) (fun _ _ _ _ n => n)
    (fun b o hc e => ⟨o, k b o (fun z => hc (by simp [z])) e⟩) (fun _ _ e => e) (fun _ _ _ e => e) (fun b ps e => ⟨#[], by rw [e]; simp⟩) (fun m hm => ?_) (fun b u e => ?_) I.bare
  · have e : b = it := by simpa using hb
    subst e
    exact ⟨h1, hL, h2, h3⟩
  · obtain ⟨o, es, ep, ho, r⟩ := hm
    exact ⟨o, es, ep, k _ o (Ne.symm hL) ho, r⟩
  · refine (I.hok b u e).stay (fun c v hc q => k c v ?_ q) (fun _ q => q) fun _ _ q => q
    rcases hc with z | z
    · rw [z]; exact nit b u e
    · exact nit c _ z
theorem Inv.tok (I : Inv X pins σ H s) (t : Nat) : Inv X pins σ H { s with toks := t } := I.un (h' := s.heap) (t' := t) Un.refl I.hok
theorem Inv.kept {t' : Nat} (I : Inv X pins σ H s) (k : ∀ b u, s.heap.get? b = some u → h'.get? b = some u) : Inv X pins σ H { s with heap := h', toks := t' } := I.un (Un.kept k) (I.hok.kept k)
theorem Inv.laid {a : Addr} {o : HO} {t' : Nat} (I : Inv X pins σ H s) (k : ∀ b u, s.heap.get? b = some u → h'.get? b = some u) (hp : s.heap.objs.size ≤ a) (new : ObjOk X.prog X.w (upd H a o) h' a o) :
    Inv X pins σ (upd H a o) { s with heap := h', toks := t' } := I.un (Un.laid k hp (I.hok.fresh hp)) (I.hok.laid k hp new)
theorem Inv.write {x e : Addr} {o : HO} {t' : Nat} (I : Inv X pins σ H s) (mu : Mut (H x)) (he : e = x ∨ H e = some (.own x)) (k : ∀ b u, b ≠ e → s.heap.get? b = some u → h'.get? b = some u) (heo : ∃ u, h'.get? e = some u)
    (new : ObjOk X.prog X.w (upd H x o) h' x o) : Inv X pins σ (upd H x o) { s with heap := h', toks := t' } := I.un (Un.write mu he k heo) (I.hok.write mu he k heo new)
theorem Inv.pins_of {pins' : List (Addr × Obj)} (I : Inv X pins σ H s) (h : ∀ p ∈ pins', s.heap.get? p.1 = some p.2 ∧ H p.1 = none ∧ p.1 ≠ X.env.locals ∧ p.1 ∉ X.fs ∧ ∀ v, p.2.data ≠ .cell v) : Inv X pins' σ H s :=
  ⟨I.ok, I.os, I.bare, I.base, I.loc, I.cell, I.free, I.freeC, fun p hp => (List.mem_append.mp hp).elim (fun z => I.pin p (List.mem_append_left _ z)) (h p), I.hok, I.len⟩
theorem nodup_ix {N : List Str} (hN : N.Nodup) {i j : Nat} {x : Str} (a : N[i]? = some x) (b : N[j]? = some x) : i = j := by
  obtain ⟨h1, e1⟩ := List.getElem?_eq_some_iff.mp a
  obtain ⟨h2, e2⟩ := List.getElem?_eq_some_iff.mp b
  exact (List.getElem_inj hN).mp (e1.trans e2.symm)
theorem store_ok2 {M : Model} {A : Around} {E : Value → Shared → Prop} {i : Nat} {x : Str} {v : V} {u : Value} {Q : Unit → Shared → Prop} (I : Inv X pins σ H s) (hN : X.N.Nodup) (hi : X.N[i]? = some x) (hx : Loc X.env.scope x) (r : RelV v u)
    (h : ∀ s', Inv X pins (σ.set i (some v)) H s' → (∃ a, Heap.SameBut a s.heap s'.heap ∧ (a = X.env.locals ∨ X.env.cells.lookup x = some a)) → Q () s') (hf : X.fn x = true ∨ X.env.scope.names.lookup x = some .local := by first | exact .inl rfl | exact .inr rfl | assumption) : wpAny M A (storeName X.env x u) Q E s := by
  obtain ⟨m, hn, hl⟩ := id I.loc
  have hcls : (X.env.scope.kind == .class || (X.env.scope.kind == .module && X.env.locals != X.env.globals)) = false := by rw [I.ok.kind]; rfl
  have hiσ : i < σ.length := by rw [I.len]; exact (List.getElem?_eq_some_iff.mp hi).1
  have cne := I.cne
  have tracked : ∀ {a : Addr} {h' : Heap}, (∃ o, s.heap.get? a = some o ∧ H a = none) → Heap.SameBut a s.heap h' → HOk X.prog X.w H h' := fun {a h'} ha hs b ob e => by
    obtain ⟨_, _, hfree⟩ := ha
    refine (I.hok b ob e).stay (fun c w' hc q => (hs.2 c ?_).trans q) (fun _ q => q) fun _ _ q => q
    rintro rfl
    rcases hc with rfl | hc
    · rw [hfree] at e; cases e
    · rw [hfree] at hc; cases hc
  rcases hx with hk | hk
  · refine wpAny_storeName_local hk hn (fun h' hn' hs => ?_) hcls
    obtain ⟨oL, _, _, hoL, _⟩ := id hn
    refine h _ ⟨I.ok, I.os, I.bare, ⟨fun b o e n hb hx => ?_, fun b o e n hb hx => ?_, I.base.free, fun b o e hx => ?_, I.base.tups, I.base.frzs, I.base.tbls⟩, ⟨_, hn', fun j y v' e1 e2 e3 => ?_⟩, fun y c e => ?_, I.free, I.freeC, fun p hp => ?_, tracked ⟨oL, hoL, I.free⟩ hs, by simpa using I.len⟩ ⟨_, hs, .inl rfl⟩
    · exact (hs.2 b (Nat.ne_of_lt (Nat.lt_of_lt_of_le (Heap.lt_size e) I.ok.above))).trans (I.base.keep b o e n hb hx)
    · obtain ⟨sl, e1⟩ := I.base.slot b o e n hb hx
      exact ⟨sl, (hs.2 b (Nat.ne_of_lt (Nat.lt_of_lt_of_le (Heap.lt_size e) I.ok.above))).trans e1⟩
    · obtain ⟨o', e1⟩ := I.base.there b o e hx
      exact ⟨o', (hs.2 b (Nat.ne_of_lt (Nat.lt_of_lt_of_le (Heap.lt_size e) I.ok.above))).trans e1⟩
    · by_cases hj : j = i
      · subst hj
        rw [hi] at e1; cases e1
        rw [List.getElem?_set_self hiσ] at e2
        cases e2
        exact ⟨u, r, .inl ⟨hk, by simp⟩⟩
      · rw [List.getElem?_set_ne (Ne.symm hj)] at e2
        obtain ⟨u', r', q⟩ := hl j y v' e1 e2 e3
        refine ⟨u', r', ?_⟩
        rcases q with ⟨k, e⟩ | ⟨k, c, e, z⟩
        · refine .inl ⟨k, ?_⟩
          have : y ≠ x := fun e => hj (nodup_ix hN e1 (e ▸ hi))
          simp [this, e]
        · exact .inr ⟨k, c, e, z.sameBut hs (cne y c e)⟩
    · obtain ⟨w', z⟩ := I.cell y c e
      exact ⟨w', z.sameBut hs (cne y c e)⟩
    · obtain ⟨e, n, ne, nf, d⟩ := I.pin p hp
      exact ⟨(hs.2 p.1 ne).trans e, n, ne, nf, d⟩
  · have hfn : X.fn x = true := by
      rcases hf with z | z
      · exact z
      · rw [z] at hk; cases hk
    obtain ⟨c, hc⟩ := I.ok.has x (.inl hk)
    obtain ⟨w', z⟩ := I.cell x c hc
    refine wpAny_storeName_cell I.ok.kind hk hc z (fun h' hc' hs => ?_)
    obtain ⟨oc, hoc, hocd⟩ := id z
    refine h { s with heap := h' } ⟨I.ok, I.os, I.bare, ⟨fun b o e n hb hx => ?_, fun b o e n hb hx => ?_, I.base.free, fun b o e hx => ?_, I.base.tups, I.base.frzs, I.base.tbls⟩, ⟨m, hn.sameBut hs (Ne.symm (cne x c hc)), fun j y v' e1 e2 e3 => ?_⟩, fun y c' e => ?_, I.free, I.freeC, fun p hp => ?_, tracked ⟨oc, hoc, I.freeC x c hc⟩ hs, by simpa using I.len⟩ ⟨c, hs, .inr hc⟩
    · exact (hs.2 b (Nat.ne_of_lt (Nat.lt_of_lt_of_le (Heap.lt_size e) (I.ok.cab x c hfn hc)))).trans (I.base.keep b o e n hb hx)
    · obtain ⟨sl, e1⟩ := I.base.slot b o e n hb hx
      exact ⟨sl, (hs.2 b (Nat.ne_of_lt (Nat.lt_of_lt_of_le (Heap.lt_size e) (I.ok.cab x c hfn hc)))).trans e1⟩
    · obtain ⟨o', e1⟩ := I.base.there b o e hx
      exact ⟨o', (hs.2 b (Nat.ne_of_lt (Nat.lt_of_lt_of_le (Heap.lt_size e) (I.ok.cab x c hfn hc)))).trans e1⟩
    · by_cases hj : j = i
      · subst hj
        rw [hi] at e1; cases e1
        rw [List.getElem?_set_self hiσ] at e2
        cases e2
        exact ⟨u, r, .inr ⟨.inl hk, c, hc, hc'⟩⟩
      · rw [List.getElem?_set_ne (Ne.symm hj)] at e2
        obtain ⟨u', r', q⟩ := hl j y v' e1 e2 e3
        refine ⟨u', r', ?_⟩
        rcases q with q | ⟨k, c', e, z'⟩
        · exact .inl q
        · refine .inr ⟨k, c', e, z'.sameBut hs ?_⟩
          rintro rfl
          exact hj (nodup_ix hN e1 (I.ok.inj _ _ _ e hc ▸ hi))
    · by_cases hcc : c' = c
      · subst hcc; exact ⟨_, hc'⟩
      · obtain ⟨w2, z2⟩ := I.cell y c' e
        exact ⟨w2, z2.sameBut hs hcc⟩
    · obtain ⟨e, n, ne, nf, d⟩ := I.pin p hp
      refine ⟨(hs.2 p.1 ?_).trans e, n, ne, nf, d⟩
      intro q
      rw [q, hoc] at e
      have q' : oc = p.2 := Option.some.inj e
      exact d w' (by rw [← q']; exact hocd)
theorem store_ok {M : Model} {A : Around} {E : Value → Shared → Prop} {i : Nat} {x : Str} {v : V} {u : Value} {Q : Unit → Shared → Prop} (I : Inv X pins σ H s) (hN : X.N.Nodup) (hi : X.N[i]? = some x) (hx : Loc X.env.scope x) (r : RelV v u)
    (h : ∀ s', Inv X pins (σ.set i (some v)) H s' → Q () s') (hf : X.fn x = true ∨ X.env.scope.names.lookup x = some .local := by first | exact .inl rfl | exact .inr rfl | assumption) : wpAny M A (storeName X.env x u) Q E s :=
  store_ok2 I hN hi hx r (fun s' I' _ => h s' I') hf
theorem Inv.call' {s' : Shared} {ch : List Addr} (I : Inv X pins σ H s) (ho : s'.os = s.os) (u : Un (frs X.stack) ch H H' s.heap s'.heap) (hok : HOk X.prog X.w H' s'.heap) (hg : AllBare s'.gens)
    (hch : ∀ b ∈ ch, (b ∈ X.ex ∨ X.s₀.heap.objs.size ≤ b) ∧ b ≠ X.env.locals ∧ (∀ x c, X.env.cells.lookup x = some c → c ≠ b) ∧ ∀ p ∈ X.pn ++ pins, p.1 ≠ b) : Inv X pins σ H' s' := by
  obtain ⟨h', g', d', t', o'⟩ := s'
  have e : o' = s.os := ho
  subst e
  exact I.call (g' := g') (t' := t') (d' := d') u hok hg hch
end
abbrev XK := Value → Option Addr → Hp → Prop
abbrev St := List (Option V)
abbrev VK := V → Hp → Prop
abbrev TE := St → Hp → VK → Prop
abbrev TT := St → Hp → (Bool → Hp → Prop) → Prop
abbrev TA := St → Hp → (List V → Hp → Prop) → Prop
structure Ends where
  nx : St → Hp → Prop
  rt : VK
  bk : St → Hp → Prop := fun _ _ => False
  ct : St → Hp → Prop := fun _ _ => False
abbrev TS := Ends → St → Hp → Prop
def EP (X : Cx) (pins : List (Addr × Obj)) (σ : St) (Q : VK) (u : Value) (s' : Shared) : Prop := ∃ v H', Inv X pins σ H' s' ∧ RelV v u ∧ Q v H'
def TP (X : Cx) (pins : List (Addr × Obj)) (σ : St) (Q : Bool → Hp → Prop) (b : Bool) (s' : Shared) : Prop := ∃ H', Inv X pins σ H' s' ∧ Q b H'
def AP (X : Cx) (pins : List (Addr × Obj)) (σ : St) (Q : List V → Hp → Prop) (us : List Value) (s' : Shared) : Prop := ∃ vs H', Inv X pins σ H' s' ∧ Vals vs us ∧ Q vs H'
def SP (X : Cx) (pins : List (Addr × Obj)) (D : Ends) (f : Flow) (s' : Shared) : Prop :=
  match f with
  | .next => ∃ σ' H', Inv X pins σ' H' s' ∧ D.nx σ' H'
  | .brk => ∃ σ' H', Inv X pins σ' H' s' ∧ D.bk σ' H'
  | .cont => ∃ σ' H', Inv X pins σ' H' s' ∧ D.ct σ' H'
  | .ret u => ∃ v σ' H', Inv X pins σ' H' s' ∧ RelV v u ∧ D.rt v H'
def PE (X : Cx) (e : Expr) (t : TE) : Prop :=
  ∀ (pins : List (Addr × Obj)) (s : Shared) (σ : St) (H : Hp) (Q : VK), Inv X pins σ H s → t σ H Q → wpAny (model X.prog X.w) X.A (eval e X.env) (EP X pins σ Q) X.xe s
def PT (X : Cx) (e : Expr) (t : TT) : Prop :=
  ∀ (pins : List (Addr × Obj)) (s : Shared) (σ : St) (H : Hp) (Q : Bool → Hp → Prop), Inv X pins σ H s → t σ H Q → wpAny (model X.prog X.w) X.A (isTrue e X.env (eval e X.env)) (TP X pins σ Q) X.xe s
def PW (X : Cx) (e : Expr) (t : TT) : Prop :=
  ∀ (whole : Sem Value) (pins : List (Addr × Obj)) (s : Shared) (σ : St) (H : Hp) (Q : Bool → Hp → Prop), Inv X pins σ H s → t σ H Q → wpAny (model X.prog X.w) X.A (isTrue e X.env whole) (TP X pins σ Q) X.xe s
theorem PW.pt {X : Cx} {e : Expr} {t : TT} (h : PW X e t) : PT X e t := h _
def PA (X : Cx) (es : List Expr) (t : TA) : Prop :=
  ∀ (pos : Pos) (pins : List (Addr × Obj)) (s : Shared) (σ : St) (H : Hp) (Q : List V → Hp → Prop), Inv X pins σ H s → t σ H Q → wpAny (model X.prog X.w) X.A (spliced (backTo pos (starEach es X.env))) (AP X pins σ Q) X.xe s
def PS (X : Cx) (st : Stmt) (t : TS) : Prop :=
  ∀ (pins : List (Addr × Obj)) (s : Shared) (σ : St) (H : Hp) (D : Ends), Inv X pins σ H s → t D σ H → wpAny (model X.prog X.w) X.A (exec st X.env) (SP X pins D) X.xe s
def PSs (X : Cx) (st : List Stmt) (t : TS) : Prop :=
  ∀ (pins : List (Addr × Obj)) (s : Shared) (σ : St) (H : Hp) (D : Ends), Inv X pins σ H s → t D σ H → wpAny (model X.prog X.w) X.A (execs st X.env) (SP X pins D) X.xe s
theorem thn {α : Type} {t : Sem α} {Q Q' : α → Shared → Prop} {M : Model} {A : Around} {E : Value → Shared → Prop} {s : Shared} (h : wpAny M A t Q E s) (hQ : ∀ a s, Q a s → Q' a s) : wpAny M A t Q' E s := wpAny_mono h hQ fun _ _ x => x
end L2
namespace L2
open PySem PySem.Spec PyProof.Rows
section
variable {X : Cx}
def tVar (i : Nat) : TE := fun σ H Q => ∃ v, σ[i]? = some (some v) ∧ Q v H
def tC (v : V) : TE := fun _ H Q => Q v H
theorem pe_var {i : Nat} {x : Str} {pos : Pos} (hN : X.N[i]? = some x) (hv : Vis X.env.scope x) (hd : (x == ("__debug__" : Str)) = false := by decide) (hcd : (x == ("__classdict__" : Str)) = false := by decide) : PE X (.Name x pos) (tVar i) := by
  intro pins s σ H Q I h
  obtain ⟨v, e, h⟩ := h
  obtain ⟨m, hn, hl⟩ := I.loc
  obtain ⟨u, r, l⟩ := hl i x v hN e hv
  have fin : EP X pins σ Q u s := ⟨v, H, I, r, h⟩
  rcases l with ⟨hk, hm⟩ | ⟨hk, c, hc, hcell⟩
  · exact wpAny_Name (wpAny_loadName_local I.ok.kind hk hn hm fin) hd
  · rcases hk with hk | hk
    · exact wpAny_Name (wpAny_loadName_cell I.ok.kind hk hc hcell fin) hd
    · exact wpAny_Name (wpAny_loadName_free I.ok.kind hk hc hcell fin hcd) hd
theorem pe_int {i j pos} : PE X (.Constant (.int i) j pos) (tC (.int i)) := fun _ _ _ H _ I h => wpAny_Constant_int ⟨.int i, H, I.tok _, ⟨_, rfl⟩, h⟩
theorem pe_bl {b j pos} : PE X (.Constant (.bool b) j pos) (tC (.bl b)) := fun _ _ _ H _ I h => Constant_bool ⟨.bl b, H, I, rfl, h⟩
theorem pe_non {j pos} : PE X (.Constant .none j pos) (tC .non) := fun _ _ _ H _ I h => Constant_none ⟨.non, H, I, rfl, h⟩
theorem pe_str {x j pos} : PE X (.Constant (.str x) j pos) (tC (.str x)) := fun _ _ _ H _ I h => Calls.Constant_str ⟨.str x, H, I.tok _, ⟨_, rfl⟩, h⟩
def Gl (X : Cx) (x : Str) : Prop := X.env.kindOf x = some .globalImplicit
theorem ld_glob {E : Value → Shared → Prop} {pins : List (Addr × Obj)} {s : Shared} {σ : St} {H : Hp} {x : Str} {u : Value} {pos : Pos} {Q : Value → Shared → Prop} (I : Inv X pins σ H s) (hg : Gl X x) (hm : X.mg x = some u) (h : Q u s)
    (hd : (x == ("__debug__" : Str)) = false := by decide) : wpAny (model X.prog X.w) X.A (eval (.Name x pos) X.env) Q E s :=
  Calls.Name_function_global I.ok.kind hg (Calls.loadGlobal_global (by rw [I.ok.glob]; exact I.mod.glob.keeps I.bk) hm h) hd
theorem ld_blt {E : Value → Shared → Prop} {pins : List (Addr × Obj)} {s : Shared} {σ : St} {H : Hp} {x : Str} {u : Value} {pos : Pos} {Q : Value → Shared → Prop} (I : Inv X pins σ H s) (hg : Gl X x) (hm : X.mg x = none) (hv : bootBuiltins x = some u) (h : Q u s)
    (hn : x ≠ "__name__" := by decide) (hd : (x == ("__debug__" : Str)) = false := by decide) : wpAny (model X.prog X.w) X.A (eval (.Name x pos) X.env) Q E s := by
  obtain ⟨mb, h1, h2⟩ := I.mod.blt
  exact Calls.Name_function_global I.ok.kind hg (Calls.loadGlobal_builtin (by rw [I.ok.glob]; exact I.mod.glob.keeps I.bk) hm (by rw [I.ok.blt]; exact h1.keeps I.bk) ((h2 x hn).trans hv) h) hd
variable {a b : Expr} {ta tb : TE} {pos : Pos}
variable {tA tB' : TT} {rest : List Expr}
def tAnd (t u : TT) : TT := fun σ H Q => t σ H fun c H1 => if c = true then u σ H1 Q else Q false H1
theorem pw_and1 (ha : PT X a tA) : PW X (.BoolOp .And [a] pos) tA := by
  intro wh pins s σ H Q I h
  refine isTrue_and (thn (ha pins s σ H Q I h) fun c s1 e => ?_)
  cases c with
  | true => exact isTrue_and_nil e
  | false => exact e
theorem pw_and (ha : PT X a tA) (hb : PW X (.BoolOp .And (b :: rest) pos) tB') : PW X (.BoolOp .And (a :: b :: rest) pos) (tAnd tA tB') := by
  intro wh pins s σ H Q I h
  refine isTrue_and (thn (ha pins s σ H _ I h) fun c s1 ⟨H1, I1, q1⟩ => ?_)
  cases c with
  | true => exact hb wh pins s1 σ H1 Q I1 q1
  | false => exact ⟨H1, I1, q1⟩
def tAndV (ta tb : TE) : TE := fun σ H Q => ta σ H fun x H1 => ∃ c, x = .bl c ∧ if c = true then tb σ H1 Q else Q (.bl false) H1
theorem pe_one {op} {t : TE} (h : PE X a t) : PE X (.BoolOp op [a] pos) t := fun pins s σ H Q I hw => BoolOp_one (h pins s σ H Q I hw)
theorem pe_and (ha : PE X a ta) (hb : PE X (.BoolOp .And (b :: rest) pos) tb) : PE X (.BoolOp .And (a :: b :: rest) pos) (tAndV ta tb) := by
  intro pins s σ H Q I h
  refine BoolOp_and (thn (ha pins s σ H _ I h) fun v s1 ⟨x, H1, I1, r1, q1⟩ => ?_)
  obtain ⟨c, rfl, q1⟩ := q1
  cases r1
  refine wpAny_truthy_bool ?_
  cases c with
  | true => exact hb pins s1 σ H1 Q I1 q1
  | false => exact ⟨.bl false, H1, I1, rfl, q1⟩
def tIf (t : TT) (ta tb : TE) : TE := fun σ H Q => t σ H fun c H1 => if c = true then ta σ H1 Q else tb σ H1 Q
theorem pe_ifExp {c : Expr} (hc : PT X c tA) (ha : PE X a ta) (hb : PE X b tb) : PE X (.IfExp c a b pos) (tIf tA ta tb) := by
  intro pins s σ H Q I h
  refine wpAny_IfExp (thn (hc pins s σ H _ I h) fun d s1 ⟨H1, I1, q1⟩ => ?_)
  cases d with
  | true => exact ha pins s1 σ H1 Q I1 q1
  | false => exact hb pins s1 σ H1 Q I1 q1
end
end L2
namespace L2
open PySem PySem.Spec PyProof.Rows
def SqL (K : PySem.W.Frag) (H : Hp) (a : Addr) (xs : List V) : Prop :=
  Rd H a (.lst xs) ∨
    ∃ (o : Obj) (its : Array Value) (n : Nat), K.lookup a = some o ∧ o.cls = .type "list" ∧ o.dict = none ∧ o.data = .seq its n ∧ its.size ≤ sizeLine ∧ Vals xs its.toList
def SqT (K : PySem.W.Frag) (H : Hp) (a : Addr) (xs : List V) : Prop :=
  Rd H a (.tup xs) ∨
    ∃ (o : Obj) (its : Array Value) (n : Nat), K.lookup a = some o ∧ o.cls = .type "tuple" ∧ o.dict = none ∧ o.data = .seq its n ∧ its.size ≤ sizeLine ∧ Vals xs its.toList
def absV : Value → Option V
  | .none => some .non
  | .bool b => some (.bl b)
  | .int i _ => some (.int i)
  | .str x _ => some (.str x)
  | .bytes b _ => some (.byt b)
  | .float b _ => some (.flt b)
  | .ref a => some (.ref a)
  | .type n => some (.ty n)
  | _ => none
theorem RelV.abs {x : V} {u : Value} (r : RelV x u) : absV u = some x := by
  cases x with
  | non => cases r; rfl
  | bl _ => cases r; rfl
  | int _ => obtain ⟨t, rfl⟩ := r; rfl
  | str _ => obtain ⟨t, rfl⟩ := r; rfl
  | byt _ => obtain ⟨t, rfl⟩ := r; rfl
  | flt _ => obtain ⟨t, rfl⟩ := r; rfl
  | ref _ => cases r; rfl
  | ty _ => cases r; rfl
theorem RelV.inj {x y : V} {u : Value} (r : RelV x u) (q : RelV y u) : x = y := Option.some.inj (r.abs.symm.trans q.abs)
theorem Vals.inj : ∀ {xs ys : List V} {us : List Value}, Vals xs us → Vals ys us → xs = ys
  | _, _, _, .nil, .nil => rfl
  | _, _, _, .cons r t, .cons r' t' => by rw [r.inj r', Vals.inj t t']
section
variable {X : Cx} {pins : List (Addr × Obj)} {σ : St} {H : Hp} {s : Shared} {a : Addr} {xs ys : List V}
theorem SqL.of {K : PySem.W.Frag} (h : H a = some (.lst xs)) : SqL K H a xs := .inl (.inl h)
theorem SqT.of {K : PySem.W.Frag} (h : H a = some (.tup xs)) : SqT K H a xs := .inl (.inl h)
theorem Inv.list (I : Inv X pins σ H s) (h : SqL X.K H a xs) : ∃ its : List Value, Vals xs its ∧ PlainL s.heap a its.toArray ∧ xs.length ≤ sizeLine := by
  rcases h with h | ⟨o, its, n, hk, hc, hd, hs, hz, r⟩
  · obtain ⟨z, its, n, r, e⟩ := h.ok I.hok
    exact ⟨its, r, ⟨_, n, e, rfl, rfl, rfl⟩, z⟩
  · refine ⟨its.toList, r, ⟨o, n, I.kIn a o hk, hc, hd, by simpa using hs⟩, ?_⟩
    have e := r.length
    simp only [Array.length_toList] at e
    omega
theorem Inv.tupleD (I : Inv X pins σ H s) (h : SqT X.K H a xs) : ∃ o, s.heap.get? a = some o ∧ o.dict = none ∧ o.cls = .type "tuple" := by
  rcases h with h | ⟨o, its, n, hk, hc, hd, hs, hz, r⟩
  · obtain ⟨⟨z, o, g1, g2⟩, its, r, o', g3, g4, _⟩ := h.ok I.hok
    rw [g1] at g3
    cases g3
    exact ⟨o, g1, g2, g4⟩
  · exact ⟨o, I.kIn a o hk, hd, hc⟩
theorem Inv.tuple (I : Inv X pins σ H s) (h : SqT X.K H a xs) : ∃ its : List Value, Vals xs its ∧ IsTup s.heap a its.toArray ∧ xs.length ≤ sizeLine := by
  rcases h with h | ⟨o, its, n, hk, hc, _, hs, hz, r⟩
  · obtain ⟨⟨z, _⟩, its, r, p⟩ := h.ok I.hok
    exact ⟨its, r, p, z⟩
  · refine ⟨its.toList, r, ⟨o, I.kIn a o hk, hc, n, by simpa using hs⟩, ?_⟩
    have e := r.length
    simp only [Array.length_toList] at e
    omega
theorem Inv.list_inj (I : Inv X pins σ H s) (h : SqL X.K H a xs) (h' : SqL X.K H a ys) : xs = ys := by
  obtain ⟨its, r, ⟨o, n, e, _, _, d⟩, _⟩ := I.list h
  obtain ⟨its', r', ⟨o', n', e', _, _, d'⟩, _⟩ := I.list h'
  rw [e] at e'; cases e'
  rw [d] at d'
  injection d' with d1 _
  have : its = its' := by simpa using congrArg Array.toList d1
  subst this
  exact r.inj r'
theorem Inv.tuple_inj (I : Inv X pins σ H s) (h : SqT X.K H a xs) (h' : SqT X.K H a ys) : xs = ys := by
  obtain ⟨its, r, ⟨o, e, _, n, d⟩, _⟩ := I.tuple h
  obtain ⟨its', r', ⟨o', e', _, n', d'⟩, _⟩ := I.tuple h'
  rw [e] at e'; cases e'
  rw [d] at d'
  injection d' with d1 _
  have : its = its' := by simpa using congrArg Array.toList d1
  subst this
  exact r.inj r'
end
abbrev Cx.wish (X : Cx) (E : Value → Shared → Prop) : Cx := { X with xe := E }
abbrev Cx.nox (X : Cx) : Cx := X.wish fun _ _ => False
theorem Cx.Ok.wish {X : Cx} (ok : X.Ok) (E : Value → Shared → Prop) : (X.wish E).Ok :=
  ⟨ok.mod, ok.kind, ok.glob, ok.blt, ok.above, ok.inj, ok.has, ok.cab, ok.hd, ok.frames, ok.stk, ok.exf, ok.bs, ok.bsz, ok.noex, ok.exfs, ok.funs, ok.frf⟩
theorem Cx.Ok.unwish {X : Cx} {E : Value → Shared → Prop} (ok : (X.wish E).Ok) : X.Ok :=
  ⟨ok.mod, ok.kind, ok.glob, ok.blt, ok.above, ok.inj, ok.has, ok.cab, ok.hd, ok.frames, ok.stk, ok.exf, ok.bs, ok.bsz, ok.noex, ok.exfs, ok.funs, ok.frf⟩
section
variable {X : Cx} {pins : List (Addr × Obj)} {σ : St} {H : Hp} {s : Shared} {E : Value → Shared → Prop}
theorem Inv.wish (I : Inv X pins σ H s) (E : Value → Shared → Prop) : Inv (X.wish E) pins σ H s := ⟨I.ok.wish E, I.os, I.bare, I.base, I.loc, I.cell, I.free, I.freeC, I.pin, I.hok, I.len⟩
theorem Inv.unwish (I : Inv (X.wish E) pins σ H s) : Inv X pins σ H s := ⟨I.ok.unwish, I.os, I.bare, I.base, I.loc, I.cell, I.free, I.freeC, I.pin, I.hok, I.len⟩
theorem SP.unwish {D : Ends} {f : Flow} {s' : Shared} (h : SP (X.wish E) pins D f s') : SP X pins D f s' := by
  cases f with
  | next => obtain ⟨σ', H', I, q⟩ := h; exact ⟨σ', H', I.unwish, q⟩
  | brk => obtain ⟨σ', H', I, q⟩ := h; exact ⟨σ', H', I.unwish, q⟩
  | cont => obtain ⟨σ', H', I, q⟩ := h; exact ⟨σ', H', I.unwish, q⟩
  | ret u => obtain ⟨v, σ', H', I, r, q⟩ := h; exact ⟨v, σ', H', I.unwish, r, q⟩
theorem PSs.nox {st : List Stmt} {t : TS} (h : PSs X.nox st t) : PSs X st t := fun pins s σ H D I hw =>
  wpAny_mono (h pins s σ H D (I.wish _) hw) (fun _ _ q => q.unwish) fun _ _ z => False.elim z
end
section
variable {X : Cx} {st : Stmt} {rest : List Stmt} {t u : TS} {e : Expr} {te : TE} {pos : Pos}
def tNext : TS := fun D σ H => D.nx σ H
def tSeq (t u : TS) : TS := fun D σ H => t { D with nx := u D } σ H
theorem pss_nil : PSs X [] tNext := fun _ _ σ H _ I h => wpAny_execs_nil ⟨σ, H, I, h⟩
theorem pss_cons (h1 : PS X st t) (h2 : PSs X rest u) : PSs X (st :: rest) (tSeq t u) := by
  intro pins s σ H D I h
  refine wpAny_execs_cons (thn (h1 pins s σ H { D with nx := u D } I h) fun f s1 q => ?_)
  cases f with
  | next =>
    obtain ⟨σ', H', I', q⟩ := q
    exact h2 pins s1 σ' H' D I' q
  | ret v => exact q
  | brk => exact q
  | cont => exact q
theorem pss_one (h1 : PS X st t) : PSs X [st] t := by
  intro pins s σ H D I h
  refine wpAny_execs_cons (thn (h1 pins s σ H D I h) fun f s1 q => ?_)
  cases f with
  | next => exact wpAny_execs_nil q
  | ret v => exact q
  | brk => exact q
  | cont => exact q
theorem Inv.quiet {pins : List (Addr × Obj)} {σ : St} {H : Hp} {s : Shared} (I : Inv X pins σ H s) : interactive X.env = false := by simp [interactive, I.ok.kind]
def tDrop (te : TE) : TS := fun D σ H => te σ H fun _ H1 => D.nx σ H1
theorem ps_expr (he : PE X e te) (hs : swapsWith e none pos.line X.env = pure false := by rfl) : PS X (.Expr e pos) (tDrop te) := by
  intro pins s σ H D I h
  exact wpAny_Expr_any (thn (he pins s σ H _ I h) fun v s1 ⟨x, H1, I1, r1, q1⟩ => ⟨σ, H1, I1, q1⟩) I.quiet hs
def tRet (te : TE) : TS := fun D σ H => te σ H D.rt
theorem ps_ret (he : PE X e te) : PS X (.Return (some e) pos) (tRet te) := by
  intro pins s σ H D I h
  exact wpAny_Return_some (thn (he pins s σ H _ I h) fun v s1 ⟨x, H1, I1, r1, q1⟩ => ⟨x, σ, H1, I1, r1, q1⟩)
def tIfS (c : TT) (t u : TS) : TS := fun D σ H => c σ H fun b H1 => if b = true then t D σ H1 else u D σ H1
theorem ps_if {c : Expr} {a b : List Stmt} {tc : TT} (hc : PT X c tc) (ha : PSs X a t) (hb : PSs X b u) : PS X (.If c a b pos) (tIfS tc t u) := by
  intro pins s σ H D I h
  refine wpAny_If (thn (hc pins s σ H _ I h) fun d s1 ⟨H1, I1, q1⟩ => ?_)
  cases d with
  | true => exact ha pins s1 σ H1 D I1 q1
  | false => exact hb pins s1 σ H1 D I1 q1
end
abbrev TG := V → St → Hp → (St → Hp → Prop) → Prop
abbrev TGs := List V → St → Hp → (St → Hp → Prop) → Prop
def PG (X : Cx) (target : Expr) (t : TG) : Prop :=
  ∀ (pins : List (Addr × Obj)) (s : Shared) (σ : St) (H : Hp) (v : V) (u : Value) (Q : St → Hp → Prop), Inv X pins σ H s → RelV v u → t v σ H Q →
    wpAny (model X.prog X.w) X.A (assign target X.env u) (fun _ s' => ∃ σ' H', Inv X pins σ' H' s' ∧ Q σ' H') X.xe s
def PGs (X : Cx) (ts : List Expr) (t : TGs) : Prop :=
  ∀ (pins : List (Addr × Obj)) (s : Shared) (σ : St) (H : Hp) (vs : List V) (us : List Value) (Q : St → Hp → Prop), Inv X pins σ H s → Vals vs us → t vs σ H Q →
    wpAny (model X.prog X.w) X.A (assignInOrder ((assignEach ts X.env).map (·.2)) us) (fun _ s' => ∃ σ' H', Inv X pins σ' H' s' ∧ Q σ' H') X.xe s
abbrev TSet := V → V → V → Hp → (Hp → Prop) → Prop
def PSet (X : Cx) (t : TSet) : Prop :=
  ∀ (pins : List (Addr × Obj)) (s : Shared) (σ : St) (H : Hp) (o i v : V) (ov iv u : Value) (Q : Hp → Prop), Inv X pins σ H s → RelV o ov → RelV i iv → RelV v u → t o i v H Q →
    wpAny (model X.prog X.w) X.A (setItem ov iv u) (fun _ s' => ∃ H', Inv X pins σ H' s' ∧ Q H') X.xe s
section
variable {X : Cx} {pos : Pos}
def gName (i : Nat) : TG := fun v σ H Q => Q (σ.set i (some v)) H
theorem pg_name {i : Nat} {x : Str} (hN : X.N.Nodup) (hi : X.N[i]? = some x) (hx : Loc X.env.scope x) (hf : X.fn x = true ∨ X.env.scope.names.lookup x = some .local := by first | exact .inl rfl | exact .inr rfl | assumption) : PG X (.Name x pos) (gName i) := by
  intro pins s σ H v u Q I r h
  exact wpAny_assign_Name (store_ok I hN hi hx r (fun s' I' => ⟨_, H, I', h⟩) hf)
def gNil : TGs := fun vs σ H Q => vs = [] ∧ Q σ H
def gCons (t : TG) (u : TGs) : TGs := fun vs σ H Q => ∃ v r, vs = v :: r ∧ t v σ H fun σ' H' => u r σ' H' Q
theorem pgs_nil : PGs X [] gNil := by
  intro pins s σ H vs us Q I r h
  obtain ⟨e, h⟩ := h
  subst e
  cases r
  exact assignInOrder_nil ⟨σ, H, I, h⟩
theorem pgs_cons {e : Expr} {es : List Expr} {t : TG} {u : TGs} (h1 : PG X e t) (h2 : PGs X es u)
    (hs : (assignEach (e :: es) X.env).map (·.2) = assign e X.env :: (assignEach es X.env).map (·.2) := by rfl) : PGs X (e :: es) (gCons t u) := by
  intro pins s σ H vs us Q I r h
  obtain ⟨v, vr, e1, h⟩ := h
  subst e1
  cases r with
  | cons r rr =>
    rw [hs]
    refine assignInOrder_cons (thn (h1 pins s σ H _ _ _ I r h) fun _ s1 ⟨σ1, H1, I1, q1⟩ => ?_)
    exact h2 pins s1 σ1 H1 _ _ Q I1 rr q1
def gTup (K : PySem.W.Frag) (n : Nat) (t : TGs) : TG := fun v σ H Q => ∃ a xs, v = .ref a ∧ SqT K H a xs ∧ xs.length = n ∧ t xs σ H Q
theorem pg_tup {es : List Expr} {k : Nat} {t : TGs} {n : Nat} (hc : X.calm = true) (h : PGs X es t)
    (hn : (assignEach es X.env).length = n := by rfl) (hst : (assignEach es X.env).findIdx? (·.1) = none := by rfl) : PG X (.Tuple es k pos) (gTup X.K n t) := by
  intro pins s σ H v u Q I r hw
  obtain ⟨a, xs, e1, hq, hl, hw⟩ := hw
  subst e1
  cases r
  obtain ⟨its, rv, ht, hz⟩ := I.tuple hq
  refine assign_Tuple_tuple (I.ok.hd hc) ht (by simp [hn, ← hl, rv.length]) hst fun h' hx => ?_
  have I1 : Inv X pins σ H { s with heap := h' } := I.kept (t' := s.toks) fun b o e => hx b o (Nat.ne_of_lt (Heap.lt_size e)) e
  exact h pins _ σ H xs _ Q I1 (by simpa using rv) hw
def gSub (to ti : TE) (t : TSet) : TG := fun v σ H Q => to σ H fun o H1 => ti σ H1 fun i H2 => t o i v H2 fun H3 => Q σ H3
theorem pg_sub {o i : Expr} {to ti : TE} {t : TSet} (ho : PE X o to) (hi : PE X i ti) (hs : PSet X t)
    (ha : ∀ v, assign (.Subscript o i pos) X.env v = (do
      let ov ← holding [v] (eval o X.env)
      let iv ← holding [v, ov] (eval i X.env)
      standAt pos
      holding [v, ov, iv] (setItem ov iv v)
      release [v, ov, iv] []) := by intro _; rfl) : PG X (.Subscript o i pos) (gSub to ti t) := by
  intro pins s σ H v u Q I r h
  rw [ha]
  refine wpAny_bind (wpAny_holding (thn (ho pins s σ H _ I h) fun ov s1 ⟨x, H1, I1, r1, q1⟩ => ?_))
  refine wpAny_bind (wpAny_holding (thn (hi pins s1 σ H1 _ I1 q1) fun iv s2 ⟨y, H2, I2, r2, q2⟩ => ?_))
  refine wpAny_bind (wpAny_standAt (wpAny_bind (wpAny_holding (thn (hs pins s2 σ H2 x y v ov iv u _ I2 r1 r2 r q2) fun _ s3 ⟨H3, I3, q3⟩ => ?_))))
  exact wpAny_release ⟨σ, H3, I3, q3⟩
def tAsg (te : TE) (g : TG) : TS := fun D σ H => te σ H fun x H1 => g x σ H1 D.nx
theorem ps_asg {tg e : Expr} {te : TE} {g : TG} (he : PE X e te) (hg : PG X tg g) (hs : swapsWithSole [tg] e pos.line X.env = pure false := by rfl) (hw : swappedStores [tg] e X.env = pure none := by rfl)
    (h1 : (assignEach [tg] X.env).map (·.2) = [assign tg X.env] := by rfl) : PS X (.Assign [tg] e pos) (tAsg te g) := by
  intro pins s σ H D I h
  refine wpAny_Assign_stores (thn (he pins s σ H _ I h) fun v s1 ⟨x, H1, I1, r1, q1⟩ => ?_) hs hw
  rw [h1]
  exact thn (hg pins s1 σ H1 x v _ I1 r1 q1) fun _ s2 q => q
theorem ps_set {i : Nat} {x : Str} {e : Expr} {te : TE} {pos' : Pos} (hN : X.N.Nodup) (hi : X.N[i]? = some x) (hx : Loc X.env.scope x) (he : PE X e te) (hs : swapsWith e (some (.Name x pos')) pos.line X.env = pure false := by rfl) (hf : X.fn x = true ∨ X.env.scope.names.lookup x = some .local := by first | exact .inl rfl | exact .inr rfl | assumption) :
    PS X (.Assign [.Name x pos'] e pos) (tAsg te (gName i)) := by
  intro pins s σ H D I h
  refine wpAny_Assign_Name (thn (he pins s σ H _ I h) fun v s1 ⟨y, H1, I1, r1, q1⟩ => ?_) hs
  exact store_ok I1 hN hi hx r1 (fun s2 I2 => ⟨_, H1, I2, q1⟩) hf
end
structure It where
  go : Nat → Hp → Prop
  yld : Nat → Hp → V → Hp → Prop
  stop : Nat → Hp → Prop
def FpOk (X : Cx) (pins : List (Addr × Obj)) (H : Hp) (b : Addr) : Prop :=
  H b = none ∧ b ≠ X.env.locals ∧ b ∉ X.fs ∧ (b ∈ X.ex ∨ X.s₀.heap.objs.size ≤ b) ∧ (∀ x c, X.env.cells.lookup x = some c → c ≠ b) ∧ ∀ p ∈ X.pn ++ pins, p.1 ≠ b
theorem Inv.fpOk {X : Cx} {pins : List (Addr × Obj)} {σ : St} {H H' : Hp} {s : Shared} {b : Addr} (I : Inv X pins σ H s) (hb : s.heap.objs.size ≤ b) (hn : H' b = none) : FpOk X pins H' b := by
  refine ⟨hn, Nat.ne_of_gt (Nat.lt_of_lt_of_le I.lt hb), I.nofs hb, .inr (Nat.le_trans I.sz hb), fun x c e z => ?_, fun p hp z => ?_⟩
  · obtain ⟨v, q⟩ := I.cell x c e
    exact absurd (Nat.lt_of_lt_of_le q.lt (by rw [z]; exact hb)) (Nat.lt_irrefl _)
  · exact absurd (Nat.lt_of_lt_of_le (Heap.lt_size (I.pin p hp).1) (by rw [z]; exact hb)) (Nat.lt_irrefl _)
structure Turn (P : Program) (w : World) (K : PySem.W.Frag) (tg : Expr) (J : It) (fp : List Addr) (it : Addr) (tn : Nat → Heap → Prop) : Prop where
  mem : it ∈ fp
  obj : ∀ i h, tn i h → ∀ b ∈ fp, ∃ o, h.get? b = some o ∧ ∀ v, o.data ≠ .cell v
  keep : ∀ i h h', tn i h → (∀ b ∈ fp, ∀ o, h.get? b = some o → h'.get? b = some o) → tn i h'
  item : ∀ (X : Cx), X.prog = P → X.w = w → X.K = K → X.calm = true → ∀ (i : Nat) (pins : List (Addr × Obj)) (s : Shared) (σ : St) (H : Hp) (E : Value → Shared → Prop), Inv X pins σ H s → (∀ b ∈ fp, FpOk X pins H b) → tn i s.heap → J.go i H →
    wpAny (model P w) X.A (pyNext (.ref it)) (fun r s1 => ∃ u, r = some u ∧
      wpAny (model P w) X.A (letOwnedTupleGo tg (.ref it) u) (fun _ s2 => ∃ x H', Inv X pins σ H' s2 ∧ RelV x u ∧ J.yld i H x H' ∧ tn (i + 1) s2.heap ∧ ∀ b ∈ fp, H' b = none) E s1) E s
  done : ∀ (X : Cx), X.prog = P → X.w = w → X.K = K → X.calm = true → ∀ (i : Nat) (pins : List (Addr × Obj)) (s : Shared) (σ : St) (H : Hp) (E : Value → Shared → Prop), Inv X pins σ H s → (∀ b ∈ fp, FpOk X pins H b) → tn i s.heap → J.stop i H →
    wpAny (model P w) X.A (pyNext (.ref it)) (fun r s1 => r = none ∧ Inv X pins σ H s1) E s
  self : ∀ (A : Around) (i : Nat) (s : Shared) (Q : Value → Shared → Prop) (E : Value → Shared → Prop), tn i s.heap → Q (.ref it) s → wpAny (model P w) A (pyIter (.ref it)) Q E s
abbrev TI := St → Hp → (It → Hp → Prop) → Prop
def PIE (X : Cx) (pins : List (Addr × Obj)) (σ : St) (tg : Expr) (R : It → Hp → Prop) (itv : Value) (s2 : Shared) : Prop :=
  ∃ (it : Addr) (fp : List Addr) (tn : Nat → Heap → Prop) (J : It) (H' : Hp), itv = .ref it ∧ Inv X pins σ H' s2 ∧ Turn X.prog X.w X.K tg J fp it tn ∧ tn 0 s2.heap ∧ (∀ b ∈ fp, FpOk X pins H' b) ∧ R J H'
def PI (X : Cx) (tg iter : Expr) (wi : TI) : Prop :=
  ∀ (pins : List (Addr × Obj)) (s : Shared) (σ : St) (H : Hp) (R : It → Hp → Prop), Inv X pins σ H s → wi σ H R →
    wpAny (model X.prog X.w) X.A (eval iter X.env) (fun v s1 => wpAny (model X.prog X.w) X.A (pyIter v) (PIE X pins σ tg R) X.xe s1) X.xe s
theorem go_of {M : Model} {A : Around} {E : Value → Shared → Prop} {s : Shared} {tg : Expr} {it : Addr} {u : Value} {o : Obj} {n : String} {vs : Array Value} {Q : Unit → Shared → Prop} (ho : s.heap.get? it = some o) (hc : o.cls = .type n) (hd : o.data = .fields vs)
    (hn : ["enumerate", "zip", "dict_itemiterator", "dict_reverseitemiterator", "odict_iterator", "itertools.zip_longest", "itertools.pairwise"].contains n = false) (hQ : Q () s) : wpAny M A (letOwnedTupleGo tg (.ref it) u) Q E s := by
  unfold letOwnedTupleGo
  cases tg <;> first
    | exact wpAny_pure hQ
    | (cases u <;> first
        | exact wpAny_pure hQ
        | (refine wpAny_bind (wpAny_load ho ?_)
           rw [hc, hd]
           show wpAny M A (if (["enumerate", "zip", "dict_itemiterator", "dict_reverseitemiterator", "odict_iterator", "itertools.zip_longest", "itertools.pairwise"].contains n && vs[0]? == some (rawInt _)) = true then _ else _) Q E s
           rw [if_neg (by intro h; rw [hn, Bool.false_and] at h; cases h)]
           exact wpAny_pure hQ))
def Itl (K : PySem.W.Frag) (a : Addr) : It :=
  ⟨fun i H => ∃ xs x, SqL K H a xs ∧ xs[i]? = some x, fun i H x H' => H' = H ∧ ∀ xs, SqL K H a xs → xs[i]? = some x, fun i H => ∃ xs, SqL K H a xs ∧ xs.length ≤ i⟩
def Itt (K : PySem.W.Frag) (a : Addr) : It :=
  ⟨fun i H => ∃ xs x, SqT K H a xs ∧ xs[i]? = some x, fun i H x H' => H' = H ∧ ∀ xs, SqT K H a xs → xs[i]? = some x, fun i H => ∃ xs, SqT K H a xs ∧ xs.length ≤ i⟩
def Itr (lo : Int) (n : Nat) : It := ⟨fun i _ => i < n, fun i H x H' => H' = H ∧ x = .int (lo + i), fun i _ => n ≤ i⟩
theorem turn_list {P : Program} {w : World} {K : PySem.W.Frag} {tg : Expr} (a it : Addr) : Turn P w K tg (Itl K a) [it] it (fun i h => h.IsListIter it a i) where
  mem := by simp
  obj := fun i h st b hb => by
    have e : b = it := by simpa using hb
    subst e
    obtain ⟨o, e, c, d⟩ := st
    exact ⟨o, e, fun v z => by rw [d] at z; cases z⟩
  keep := fun i h h' st k => st.at fun o e => k it (by simp) o e
  item := by
    intro X hP hw hK hc i pins s σ H E I hf st hg
    subst hP hw hK
    obtain ⟨xs, x, hq, hx⟩ := hg
    obtain ⟨its, rv, p, hz⟩ := I.list hq
    obtain ⟨u, hu, ru⟩ := rv.get hx
    obtain ⟨f0, f1, f2, f3, f4, f5⟩ := hf it (by simp)
    refine wpAny_pyNext_list_item st p.isList (x := u) (by simpa using hu) fun h' st' sb => ?_
    have I1 : Inv X pins σ H { s with heap := h' } := I.turned (t' := s.toks) (fun b o hb e => (sb.2 b hb).trans e) f0 f1 f3 f4 f5
    obtain ⟨o, e, c, d⟩ := id st'
    exact ⟨u, rfl, go_of (s := { s with heap := h' }) e c d (by decide) ⟨x, H, I1, ru, ⟨rfl, fun ys hy => by rw [I.list_inj hy hq]; exact hx⟩, st', fun b hb => (hf b hb).1⟩⟩
  done := by
    intro X hP hw hK hc i pins s σ H E I hf st hg
    subst hP hw hK
    obtain ⟨xs, hq, hx⟩ := hg
    obtain ⟨its, rv, p, hz⟩ := I.list hq
    obtain ⟨f0, f1, f2, f3, f4, f5⟩ := hf it (by simp)
    have hl := rv.length
    exact wpAny_pyNext_list_end (I.ok.hd hc) st p.isList (by simp; omega) fun h' eb => ⟨rfl, I.turned (t' := s.toks) (fun b o hb e => eb b o hb e) f0 f1 f3 f4 f5⟩
  self := fun _ _ _ _ _ st h => wpAny_pyIter_listiter st h
theorem turn_tuple {P : Program} {w : World} {K : PySem.W.Frag} {tg : Expr} (a it : Addr) : Turn P w K tg (Itt K a) [it] it (fun i h => h.IsTupleIter it a i) where
  mem := by simp
  obj := fun i h st b hb => by
    have e : b = it := by simpa using hb
    subst e
    obtain ⟨o, e, c, d⟩ := st
    exact ⟨o, e, fun v z => by rw [d] at z; cases z⟩
  keep := fun i h h' st k => st.at fun o e => k it (by simp) o e
  item := by
    intro X hP hw hK hc i pins s σ H E I hf st hg
    subst hP hw hK
    obtain ⟨xs, x, hq, hx⟩ := hg
    obtain ⟨its, rv, p, hz⟩ := I.tuple hq
    obtain ⟨u, hu, ru⟩ := rv.get hx
    obtain ⟨f0, f1, f2, f3, f4, f5⟩ := hf it (by simp)
    refine wpAny_pyNext_tuple_item st (show s.heap.IsTuple a its.toArray from p) (x := u) (by simpa using hu) fun h' st' sb => ?_
    have I1 : Inv X pins σ H { s with heap := h' } := I.turned (t' := s.toks) (fun b o hb e => (sb.2 b hb).trans e) f0 f1 f3 f4 f5
    obtain ⟨o, e, c, d⟩ := id st'
    exact ⟨u, rfl, go_of (s := { s with heap := h' }) e c d (by decide) ⟨x, H, I1, ru, ⟨rfl, fun ys hy => by rw [I.tuple_inj hy hq]; exact hx⟩, st', fun b hb => (hf b hb).1⟩⟩
  done := by
    intro X hP hw hK hc i pins s σ H E I hf st hg
    subst hP hw hK
    obtain ⟨xs, hq, hx⟩ := hg
    obtain ⟨its, rv, p, hz⟩ := I.tuple hq
    obtain ⟨f0, f1, f2, f3, f4, f5⟩ := hf it (by simp)
    have hl := rv.length
    exact wpAny_pyNext_tuple_end (I.ok.hd hc) st (show s.heap.IsTuple a its.toArray from p) (by simp; omega) fun h' eb => ⟨rfl, I.turned (t' := s.toks) (fun b o hb e => eb b o hb e) f0 f1 f3 f4 f5⟩
  self := fun _ _ _ _ _ st h => wpAny_pyIter_tupleiter st h
theorem turn_range {P : Program} {w : World} {K : PySem.W.Frag} {tg : Expr} (it : Addr) (lo : Int) (n : Nat) : Turn P w K tg (Itr lo n) [it] it (fun i h => IsRangeIter h it (lo + (i : Nat) * 1) ((n : Int) - (i : Nat)) 1) where
  mem := by simp
  obj := fun i h st b hb => by
    have e : b = it := by simpa using hb
    subst e
    exact ⟨_, st, fun v z => by
      have z' : Data.fields _ = Data.cell v := z
      cases z'⟩
  keep := fun i h h' st k => k it (by simp) _ st
  item := by
    intro X hP hw hK hc i pins s σ H E I hf st hg
    subst hP hw hK
    obtain ⟨f0, f1, f2, f3, f4, f5⟩ := hf it (by simp)
    have W := Walks.range (prog := X.prog) (w := X.w) (I.ok.hd hc) it lo 1 n
    refine W.item i s _ _ hg st fun v h' tk hv st' kk => ?_
    obtain ⟨t, rfl⟩ := hv
    have I1 : Inv X pins σ H { s with heap := h', toks := tk } := I.turned (fun b o hb e => kk b o (by simpa using hb) e) f0 f1 f3 f4 f5
    refine ⟨_, rfl, go_of (s := { s with heap := h', toks := tk }) (n := "range_iterator") st' rfl rfl (by decide) ⟨.int (lo + i), H, I1, ⟨t, ?_⟩, ⟨rfl, rfl⟩, st', fun b hb => (hf b hb).1⟩⟩
    rw [Int.mul_one]
  done := by
    intro X hP hw hK hc i pins s σ H E I hf st hg
    subst hP hw hK
    obtain ⟨f0, f1, f2, f3, f4, f5⟩ := hf it (by simp)
    exact wpAny_pyNext_range_end (I.ok.hd hc) st (by have : n ≤ i := hg; omega) fun h' eb => ⟨rfl, I.turned (t' := s.toks) (fun b o hb e => eb b o hb e) f0 f1 f3 f4 f5⟩
  self := fun _ _ _ _ _ st h => wpAny_pyIter_rangeiter st h
end L2
namespace L2
open PySem PySem.Spec PyProof.Rows
section
variable {X : Cx} {tg : Expr}
def iList (K : PySem.W.Frag) (tl : TE) : TI := fun σ H R => tl σ H fun x H1 => ∃ a, x = .ref a ∧ (∃ xs, SqL K H1 a xs) ∧ R (Itl K a) H1
def iTup (K : PySem.W.Frag) (tl : TE) : TI := fun σ H R => tl σ H fun x H1 => ∃ a, x = .ref a ∧ (∃ xs, SqT K H1 a xs) ∧ R (Itt K a) H1
theorem pi_list {l : Expr} {tl : TE} (hl : PE X l tl) : PI X tg l (iList X.K tl) := by
  intro pins s σ H R I h
  refine thn (hl pins s σ H _ I h) fun v s1 ⟨x, H1, I1, r1, q1⟩ => ?_
  obtain ⟨a, e, ⟨xs, hq⟩, q⟩ := q1
  subst e
  cases r1
  obtain ⟨its, rv, p, hz⟩ := I1.list hq
  refine wpAny_pyIter_list p.isList ?_
  refine ⟨s1.heap.objs.size, [s1.heap.objs.size], _, _, H1, rfl, I1.kept (t' := s1.toks) fun b o e => Heap.get?_push_of_some _ e, turn_list a _, ⟨_, Heap.get?_push_size _ rfl, rfl, rfl⟩, fun b hb => ?_, q⟩
  have e : b = s1.heap.objs.size := by simpa using hb
  subst e
  exact I1.fpOk (Nat.le_refl _) (I1.hok.fresh (Nat.le_refl _))
theorem pi_tup {l : Expr} {tl : TE} (hl : PE X l tl) : PI X tg l (iTup X.K tl) := by
  intro pins s σ H R I h
  refine thn (hl pins s σ H _ I h) fun v s1 ⟨x, H1, I1, r1, q1⟩ => ?_
  obtain ⟨a, e, ⟨xs, hq⟩, q⟩ := q1
  subst e
  cases r1
  obtain ⟨its, rv, p, hz⟩ := I1.tuple hq
  refine wpAny_pyIter_tuple (show s1.heap.IsTuple a its.toArray from p) ?_
  refine ⟨s1.heap.objs.size, [s1.heap.objs.size], _, _, H1, rfl, I1.kept (t' := s1.toks) fun b o e => Heap.get?_push_of_some _ e, turn_tuple a _, ⟨_, Heap.get?_push_size _ rfl, rfl, rfl⟩, fun b hb => ?_, q⟩
  have e : b = s1.heap.objs.size := by simpa using hb
  subst e
  exact I1.fpOk (Nat.le_refl _) (I1.hok.fresh (Nat.le_refl _))
theorem range_it {pins : List (Addr × Obj)} {σ : St} {H : Hp} {s : Shared} {R : It → Hp → Prop} {E : Value → Shared → Prop} {lo hi : Int} {t u v : Tok} {tk : Nat} (I : Inv X pins σ H s) (h1 : -(2 ^ 62) ≤ lo) (h2 : lo < 2 ^ 62) (h3 : -(2 ^ 62) ≤ hi) (h4 : hi < 2 ^ 62)
    (q : R (Itr lo (hi - lo).toNat) H) : wpAny (model X.prog X.w) X.A (pyIter (.ref s.heap.objs.size)) (PIE X pins σ tg R) E { s with heap := s.heap.push { cls := .type "range", data := .fields #[.int lo t, .int hi u, .int 1 v] }, toks := tk } := by
  refine wpAny_pyIter_range (IsRange.new ..) (small_one h1 h2 h3 h4) ?_
  have I1 : Inv X pins σ H { s with heap := s.heap.push { cls := .type "range", data := .fields #[.int lo t, .int hi u, .int 1 v] }, toks := tk } := I.kept fun b o e => Heap.get?_push_of_some _ e
  refine ⟨(s.heap.push { cls := .type "range", data := .fields #[.int lo t, .int hi u, .int 1 v] }).objs.size, [(s.heap.push { cls := .type "range", data := .fields #[.int lo t, .int hi u, .int 1 v] }).objs.size], _, _, H, rfl,
    I1.kept (t' := tk) fun b o e => Heap.get?_push_of_some _ e, turn_range _ lo (hi - lo).toNat, ?_, fun b hb => ?_, q⟩
  · have e1 : lo + ((0 : Nat) : Int) * 1 = lo := by simp
    have e2 : (((hi - lo).toNat : Nat) : Int) - ((0 : Nat) : Int) = Builtin.Range.rangeSize lo hi 1 := by rw [rangeSize_one]; split <;> omega
    show IsRangeIter _ _ (lo + ((0 : Nat) : Int) * 1) ((((hi - lo).toNat : Nat) : Int) - ((0 : Nat) : Int)) 1
    rw [e1, e2]
    exact Heap.get?_push_size _ rfl
  · have e : b = (s.heap.push { cls := .type "range", data := .fields #[.int lo t, .int hi u, .int 1 v] }).objs.size := by simpa using hb
    subst e
    exact I1.fpOk (Nat.le_refl _) (I1.hok.fresh (Nat.le_refl _))
def iRng1 (ta : TA) : TI := fun σ H R => ta σ H fun vs H1 => ∃ j : Int, vs = [.int j] ∧ -(2 ^ 62) ≤ j ∧ j < 2 ^ 62 ∧ R (Itr 0 j.toNat) H1
theorem pi_range1 {a : Expr} {ta : TA} {p pos : Pos} (hg : Gl X "range") (hm : X.mg "range" = none) (ha : PA X [a] ta) (hs : starEach [a] X.env = [(false, eval a X.env)] := by rfl) : PI X tg (.Call (.Name "range" p) [a] [] pos) (iRng1 ta) := by
  intro pins s σ H R I h
  refine Call_ (ld_blt I hg hm boot_range (PyProof.Rows.callWith_type1 (thn (ha pos pins s σ H _ I h) fun us s1 ⟨vs, H1, I1, r1, q1⟩ => ?_) hs rfl))
  obtain ⟨j, e, q1, q2, q⟩ := q1
  subst e
  cases r1 with
  | cons r rr =>
    cases rr
    obtain ⟨t, rfl⟩ := r
    exact call_range_1 (range_it I1 (by omega) (by omega) q1 q2 (by simpa using q))
def tFor (wi : TI) (g : TG) (tb : TS) : TS := fun D σ H => wi σ H fun J H1 => ∃ W : Nat → Nat → St → Hp → Prop, (∃ m, W 0 m σ H1) ∧ ∀ i m σ H, W i m σ H →
  (J.stop i H ∧ D.nx σ H) ∨ (J.go i H ∧ ∃ N : St → Hp → Prop, (∀ σ' H', N σ' H' → ∃ m', m' < m ∧ W (i + 1) m' σ' H') ∧ ∀ x H', J.yld i H x H' → g x σ H' fun σ2 H2 => tb { D with nx := N, ct := N, bk := D.nx } σ2 H2)
def pinsAt (fp : List Addr) (h : Heap) : List (Addr × Obj) := fp.filterMap fun b => (h.get? b).map fun o => (b, o)
theorem mem_pinsAt {fp : List Addr} {h : Heap} {b : Addr} {o : Obj} (hb : b ∈ fp) (e : h.get? b = some o) : (b, o) ∈ pinsAt fp h := List.mem_filterMap.mpr ⟨b, hb, by rw [e]; rfl⟩
theorem of_pinsAt {fp : List Addr} {h : Heap} {p : Addr × Obj} (hp : p ∈ pinsAt fp h) : p.1 ∈ fp ∧ h.get? p.1 = some p.2 := by
  obtain ⟨b, hb, e⟩ := List.mem_filterMap.mp hp
  cases q : h.get? b with
  | none => rw [q] at e; cases e
  | some o =>
    rw [q] at e
    have e' : (b, o) = p := Option.some.inj e
    subst e'
    exact ⟨hb, q⟩
theorem Inv.pinned {pins : List (Addr × Obj)} {σ : St} {H : Hp} {s : Shared} {fp : List Addr} (I : Inv X pins σ H s) (hf : ∀ b ∈ fp, FpOk X pins H b) (ho : ∀ b ∈ fp, ∃ o, s.heap.get? b = some o ∧ ∀ v, o.data ≠ .cell v) : Inv X (pins ++ pinsAt fp s.heap) σ H s :=
  I.pins_of fun p hp => (List.mem_append.mp hp).elim (fun z => I.pin p (List.mem_append_right _ z)) fun z => by
    obtain ⟨hb, e⟩ := of_pinsAt z
    obtain ⟨f0, f1, f2, _⟩ := hf p.1 hb
    obtain ⟨o, e', d⟩ := ho p.1 hb
    rw [e] at e'; cases e'
    exact ⟨e, f0, f1, f2, d⟩
theorem Inv.unpinned {pins pl : List (Addr × Obj)} {σ : St} {H : Hp} {s : Shared} (I : Inv X (pins ++ pl) σ H s) : Inv X pins σ H s := I.pins_of fun p hp => I.pin p (List.mem_append_right _ (List.mem_append_left _ hp))
theorem ps_for {iter : Expr} {body : List Stmt} {wi : TI} {g : TG} {tb : TS} {pos : Pos} (hp : PassesOwn (model X.prog X.w) X.A X.env X.xe) (hc : X.calm = true) (hi : PI X tg iter wi) (hg : PG X tg g) (hb : PSs X body tb)
    (hs : ∀ x, foldedSetIterable iter X.env x = pure x := by intro _; rfl) : PS X (.For tg iter body [] pos) (tFor wi g tb) := by
  intro pins s σ H D I h
  refine wpAny_For (thn (hi pins s σ H _ I h) fun v s1 h1 => thn h1 fun itv s2 h2 => ?_) hs
  obtain ⟨it, fp, tn, J, H2, e, I2, T, st2, f2, W, ⟨m0, w0⟩, turn⟩ := h2
  subst e
  have stat : ∀ {H' : Hp}, (∀ b ∈ fp, H' b = none) → ∀ b ∈ fp, FpOk X pins H' b := fun hn b hb => ⟨hn b hb, (f2 b hb).2⟩
  refine codeAny_forLoop_any (fun n s' => ∃ i σ' H', Inv X pins σ' H' s' ∧ tn i s'.heap ∧ (∀ b ∈ fp, H' b = none) ∧ W i n σ' H') ?_ m0 ⟨0, σ, H2, I2, st2, fun b hb => (f2 b hb).1, w0⟩
  rintro n s3 ⟨i, σ3, H3, I3, st3, fr3, w3⟩
  rcases turn i n σ3 H3 w3 with ⟨stop, qn⟩ | ⟨go, N, hN, step⟩
  · refine wpAny_passesOwn hp (thn (T.done X rfl rfl rfl hc i pins s3 σ3 H3 X.xe I3 (stat fr3) st3 stop) fun r s4 ⟨hr, I4⟩ => ?_)
    subst hr
    exact wpAny_execs_nil ⟨σ3, H3, I4, qn⟩
  · refine wpAny_passesOwn hp (thn (T.item X rfl rfl rfl hc i pins s3 σ3 H3 X.xe I3 (stat fr3) st3 go) fun r s4 ⟨u, hr, h4⟩ => ?_)
    subst hr
    refine wpAny_passesOwn hp (thn h4 fun _ s5 ⟨x, H5, I5, r5, y5, st5, fr5⟩ => ?_)
    have I5' := I5.pinned (stat fr5) (T.obj _ _ st5)
    refine wpAny_passesOwn hp (thn (hg _ s5 σ3 H5 x u _ I5' r5 (step x H5 y5)) fun _ s6 ⟨σ6, H6, I6, q6⟩ => ?_)
    refine wpAny_passesOwn hp (thn (hb _ s6 σ6 H6 _ I6 q6) fun f s7 q7 => ?_)
    have again : ∀ {σ7 : St} {H7 : Hp}, Inv X (pins ++ pinsAt fp s5.heap) σ7 H7 s7 → N σ7 H7 → ∃ m, m < n ∧ ∃ i σ' H', Inv X pins σ' H' s7 ∧ tn i s7.heap ∧ (∀ b ∈ fp, H' b = none) ∧ W i m σ' H' := fun {σ7 H7} I7 n7 => by
      obtain ⟨m', hm, w7⟩ := hN σ7 H7 n7
      refine ⟨m', hm, i + 1, σ7, H7, I7.unpinned, T.keep _ _ _ st5 fun b hb o e => (I7.pin (b, o) (List.mem_append_right _ (List.mem_append_right _ (mem_pinsAt hb e)))).1, fun b hb => ?_, w7⟩
      obtain ⟨o, e, d⟩ := T.obj _ _ st5 b hb
      exact (I7.pin (b, o) (List.mem_append_right _ (List.mem_append_right _ (mem_pinsAt hb e)))).2.1
    cases f with
    | next => obtain ⟨σ7, H7, I7, n7⟩ := q7; exact again I7 n7
    | cont => obtain ⟨σ7, H7, I7, n7⟩ := q7; exact again I7 n7
    | brk => obtain ⟨σ7, H7, I7, q7⟩ := q7; exact ⟨σ7, H7, I7.unpinned, q7⟩
    | ret v => obtain ⟨x7, σ7, H7, I7, r7, q7⟩ := q7; exact ⟨x7, σ7, H7, I7.unpinned, r7, q7⟩
end
end L2
namespace L2
open PySem PySem.Spec PyProof.Rows
abbrev R2 := V → V → Hp → VK → Prop
def OpR (X : Cx) (f : Value → Value → Sem Value) (r : R2) : Prop :=
  ∀ (pins : List (Addr × Obj)) (s : Shared) (σ : St) (H : Hp) (x y : V) (v u : Value) (Q : VK), Inv X pins σ H s → RelV x v → RelV y u → r x y H Q →
    wpAny (model X.prog X.w) X.A (f v u) (EP X pins σ Q) X.xe s
def CallR (X : Cx) (f : Value) (r : List V → Hp → VK → Prop) : Prop :=
  ∀ (pins : List (Addr × Obj)) (s : Shared) (σ : St) (H : Hp) (xs : List V) (us : List Value) (Q : VK), Inv X pins σ H s → Vals xs us → r xs H Q →
    wpAny (model X.prog X.w) X.A (call f us) (EP X pins σ Q) X.xe s
def tOp (r : R2) (ta tb : TE) : TE := fun σ H Q => ta σ H fun x H1 => tb σ H1 fun y H2 => r x y H2 Q
def rI (C : Int → Int → Prop) (g : Int → Int → V) : R2 := fun x y H Q => ∃ i j, x = .int i ∧ y = .int j ∧ C i j ∧ Q (g i j) H
def rI0 (g : Int → Int → V) : R2 := fun x y H Q => ∃ i j, x = .int i ∧ y = .int j ∧ Q (g i j) H
section
variable {X : Cx} {a b c : Expr} {ta tb tc : TE} {pos : Pos}
theorem binT (ha : PE X a ta) (hb : PE X b tb) {pins : List (Addr × Obj)} {s : Shared} {σ : St} {H : Hp} {R : V → V → Hp → Prop} (I : Inv X pins σ H s)
    (h : ta σ H fun x H1 => tb σ H1 fun y H2 => R x y H2) {Q : Value → Shared → Prop} {f : Value → Value → Sem Value}
    (hf : ∀ v u s2 x y H2, Inv X pins σ H2 s2 → RelV x v → RelV y u → R x y H2 → wpAny (model X.prog X.w) X.A (f v u) Q X.xe s2) :
    wpAny (model X.prog X.w) X.A (eval a X.env) (fun v s₁ => wpAny (model X.prog X.w) X.A (eval b X.env) (fun u s₂ => wpAny (model X.prog X.w) X.A (f v u) Q X.xe s₂) X.xe s₁) X.xe s := by
  refine thn (ha pins s σ H _ I h) fun v s1 ⟨x, H1, I1, r1, q1⟩ => ?_
  refine thn (hb pins s1 σ H1 _ I1 q1) fun u s2 ⟨y, H2, I2, r2, q2⟩ => ?_
  exact hf v u s2 x y H2 I2 r1 r2 q2
theorem pe_op {op : Operator} {r : R2} (ho : OpR X (binaryOp op) r) (ha : PE X a ta) (hb : PE X b tb) : PE X (.BinOp a op b pos) (tOp r ta tb) := by
  intro pins s σ H Q I h
  exact wpAny_BinOp (binT ha hb I h fun v u s2 x y H2 I2 rx ry q => ho pins s2 σ H2 x y v u Q I2 rx ry q)
theorem opI {f : Value → Value → Sem Value} {C : Int → Int → Prop} {g : Int → Int → Int}
    (rule : ∀ (i j : Int) (t u : Tok) (s : Shared) (Q : Value → Shared → Prop) (E : Value → Shared → Prop), C i j → Q (.int (g i j) s.toks) { s with toks := s.toks + 1 } → wpAny (model X.prog X.w) X.A (f (.int i t) (.int j u)) Q E s) :
    OpR X f (rI C fun i j => .int (g i j)) := by
  intro pins s σ H x y v u Q I rx ry h
  obtain ⟨i, j, rfl, rfl, hc, q⟩ := h
  obtain ⟨t, rfl⟩ := rx
  obtain ⟨t', rfl⟩ := ry
  exact rule i j t t' s _ _ hc ⟨.int (g i j), H, I.tok _, ⟨_, rfl⟩, q⟩
theorem opI0 {f : Value → Value → Sem Value} {g : Int → Int → Int}
    (rule : ∀ (i j : Int) (t u : Tok) (s : Shared) (Q : Value → Shared → Prop) (E : Value → Shared → Prop), Q (.int (g i j) s.toks) { s with toks := s.toks + 1 } → wpAny (model X.prog X.w) X.A (f (.int i t) (.int j u)) Q E s) :
    OpR X f (rI0 fun i j => .int (g i j)) := by
  intro pins s σ H x y v u Q I rx ry h
  obtain ⟨i, j, rfl, rfl, q⟩ := h
  obtain ⟨t, rfl⟩ := rx
  obtain ⟨t', rfl⟩ := ry
  exact rule i j t t' s _ _ ⟨.int (g i j), H, I.tok _, ⟨_, rfl⟩, q⟩
theorem opB0 {f : Value → Value → Sem Value} {g : Int → Int → Bool}
    (rule : ∀ (i j : Int) (t u : Tok) (s : Shared) (Q : Value → Shared → Prop) (E : Value → Shared → Prop), Q (.bool (g i j)) s → wpAny (model X.prog X.w) X.A (f (.int i t) (.int j u)) Q E s) :
    OpR X f (rI0 fun i j => .bl (g i j)) := by
  intro pins s σ H x y v u Q I rx ry h
  obtain ⟨i, j, rfl, rfl, q⟩ := h
  obtain ⟨t, rfl⟩ := rx
  obtain ⟨t', rfl⟩ := ry
  exact rule i j t t' s _ _ ⟨.bl (g i j), H, I, rfl, q⟩
def CDiv (i j : Int) : Prop := 0 < j ∧ j < 1073741824
def CPow (i j : Int) : Prop := 0 ≤ j ∧ j ≤ 1000000 ∧ i.natAbs < 2 ^ 64
def CMul (i j : Int) : Prop := (-(2 ^ 64) < i ∧ i < 2 ^ 64) ∨ (-(2 ^ 64) < j ∧ j < 2 ^ 64)
theorem CMul.ok {i j : Int} (h : CMul i j) : IntMulOk i j := by
  rcases h with ⟨h1, h2⟩ | ⟨h1, h2⟩
  · exact .of_left (intBits_le_64 h1 h2)
  · exact .of_right (intBits_le_64 h1 h2)
theorem op_add : OpR X (binaryOp .Add) (rI0 fun i j => .int (i + j)) := opI0 fun _ _ _ _ _ _ _ q => add_int q
theorem op_sub : OpR X (binaryOp .Sub) (rI0 fun i j => .int (i - j)) := opI0 fun _ _ _ _ _ _ _ q => sub_int q
theorem op_mul : OpR X (binaryOp .Mult) (rI CMul fun i j => .int (i * j)) := opI fun _ _ _ _ _ _ _ hc q => mul_int q hc.ok
theorem op_fdiv : OpR X (binaryOp .FloorDiv) (rI CDiv fun i j => .int (i / j)) := opI fun i j _ _ _ _ _ hc q => by
  have h1 : (0 : Int) < j := hc.1
  have h2 : j < 1073741824 := hc.2
  exact floordiv_int (by omega) (by rw [Int.fdiv_eq_ediv_of_nonneg i (by omega)]; exact q) (.inl (PyProof.noPylong_small (by omega)))
theorem op_mod : OpR X (binaryOp .Mod) (rI (fun _ j => 0 < j) fun i j => .int (i % j)) := opI fun i j _ _ _ _ _ hc q => by
  have h1 : (0 : Int) < j := hc
  exact mod_int' (by omega) (by rw [Int.fmod_eq_emod_of_nonneg i (by omega)]; exact q)
theorem op_pow : OpR X (binaryOp .Pow) (rI CPow fun i j => .int (i ^ j.toNat)) := opI fun _ _ _ _ _ _ _ hc q => pow_int_small hc.1 hc.2.1 hc.2.2 q
end
section
variable {X : Cx} {a b c : Expr} {ta tb tc : TE} {pos : Pos}
theorem fin_bl {pins : List (Addr × Obj)} {σ : St} {H : Hp} {s : Shared} {Q : VK} {k k' : Bool} (I : Inv X pins σ H s) (q : Q (.bl k) H) (e : k = k') : EP X pins σ Q (.bool k') s := by
  subst e
  exact ⟨.bl k, H, I, rfl, q⟩
theorem op_gt : OpR X (compareOp .Gt) (rI0 fun i j => .bl (decide (j < i))) := opB0 fun _ _ _ _ _ _ _ q => gt_int q
theorem op_ge : OpR X (compareOp .GtE) (rI0 fun i j => .bl (decide (j ≤ i))) := opB0 fun _ _ _ _ _ _ _ q => ge_int q
theorem op_isN : OpR X (compareOp .Is) (fun x y H Q => y = .non ∧ Q (.bl (decide (x = .non))) H) := by
  intro pins s σ H x y v u Q I rx ry h
  obtain ⟨rfl, q⟩ := h
  cases ry
  refine is_none_gen (fin_bl I q ?_)
  cases x <;> first
    | (cases rx; rfl)
    | (obtain ⟨t, rfl⟩ := rx; rfl)
theorem nomark (b : Expr) {op : CmpOp} (h : op ≠ .In := by decide) (h2 : op ≠ .NotIn := by decide) : behindInMarks op b = false := by
  have e1 : (op == CmpOp.In) = false := by cases op <;> first | rfl | exact absurd rfl h
  have e2 : (op == CmpOp.NotIn) = false := by cases op <;> first | rfl | exact absurd rfl h2
  cases b <;> simp [behindInMarks, e1, e2]
theorem pe_cmpR {op : CmpOp} {r : R2} (ho : OpR X (compareOp op) r) (ha : PE X a ta) (hb : PE X b tb) (hm : behindInMarks op b = false) : PE X (.Compare a [op] [b] pos) (tOp r ta tb) := by
  intro pins s σ H Q I h
  exact wpAny_Compare1 (binT ha hb I h fun v u s2 x y H2 I2 rx ry q => ho pins s2 σ H2 x y v u Q I2 rx ry q) hm
def tTest (t : TE) : TT := fun σ H Q => t σ H fun x H' => ∃ k, x = .bl k ∧ Q k H'
theorem pt_cmpR {op : CmpOp} {r : R2} (ho : OpR X (compareOp op) r) (ha : PE X a ta) (hb : PE X b tb) (hm : behindInMarks op b = false) : PT X (.Compare a [op] [b] pos) (tTest (tOp r ta tb)) := by
  intro pins s σ H Q I h
  refine wpAny_isTrue_Compare1 (thn (ha pins s σ H _ I h) fun v s1 ⟨x, H1, I1, r1, q1⟩ => thn (hb pins s1 σ H1 _ I1 q1) fun u s2 ⟨y, H2, I2, r2, q2⟩ =>
    thn (ho pins s2 σ H2 x y v u _ I2 r1 r2 q2) fun c s3 ⟨z, H3, I3, r3, k, e, q3⟩ => ?_) hm
  subst e
  cases r3
  exact wpAny_truthy_bool ⟨H3, I3, q3⟩
theorem line63 : (sizeLine : Nat) < 2 ^ 63 := by rw [sizeLine_eq]; decide
theorem op_add_str : OpR X (binaryOp .Add) (fun x y H Q => ∃ i j, x = .str i ∧ y = .str j ∧ i.length + j.length ≤ sizeLine ∧ Q (.str (i ++ j)) H) := by
  intro pins s σ H x y v u Q I rx ry h
  obtain ⟨i, j, rfl, rfl, hz, q⟩ := h
  obtain ⟨t, rfl⟩ := rx
  obtain ⟨t', rfl⟩ := ry
  exact add_str (fun t' tk => ⟨.str (i ++ j), H, I.tok _, ⟨_, rfl⟩, q⟩) hz
theorem vals1 {x : V} {us : List Value} (r : Vals [x] us) : ∃ u, us = [u] ∧ RelV x u := by
  cases r with
  | cons r1 r2 => cases r2; exact ⟨_, rfl, r1⟩
theorem vals2 {x y : V} {us : List Value} (r : Vals [x, y] us) : ∃ u w', us = [u, w'] ∧ RelV x u ∧ RelV y w' := by
  cases r with
  | cons r1 r2 =>
    cases r2 with
    | cons r3 r4 => cases r4; exact ⟨_, _, rfl, r1, r3⟩
theorem call_max2 (hc : X.calm = true) : CallR X (.builtin "max") (fun xs H Q => ∃ i j, xs = [.int i, .int j] ∧ Q (.int (if j > i then j else i)) H) := by
  intro pins s σ H xs us Q I r h
  obtain ⟨i, j, rfl, q⟩ := h
  obtain ⟨u, w', rfl, ⟨t, rfl⟩, ⟨t', rfl⟩⟩ := vals2 r
  refine max_two_ints (I.ok.hd hc) fun h' tk k => ⟨_, H, I.kept k, ?_, q⟩
  by_cases hj : j > i
  · rw [if_pos hj, if_pos hj]; exact ⟨_, rfl⟩
  · rw [if_neg hj, if_neg hj]; exact ⟨_, rfl⟩
theorem call_min2 (hc : X.calm = true) : CallR X (.builtin "min") (fun xs H Q => ∃ i j, xs = [.int i, .int j] ∧ Q (.int (if j < i then j else i)) H) := by
  intro pins s σ H xs us Q I r h
  obtain ⟨i, j, rfl, q⟩ := h
  obtain ⟨u, w', rfl, ⟨t, rfl⟩, ⟨t', rfl⟩⟩ := vals2 r
  refine min_two_ints (I.ok.hd hc) fun h' tk k => ⟨_, H, I.kept k, ?_, q⟩
  by_cases hj : j < i
  · rw [if_pos hj, if_pos hj]; exact ⟨_, rfl⟩
  · rw [if_neg hj, if_neg hj]; exact ⟨_, rfl⟩
theorem call_int1 : CallR X (.type "int") (fun xs H Q => (∃ i, xs = [.int i] ∧ Q (.int i) H) ∨ ∃ k, xs = [.bl k] ∧ Q (.int (if k then 1 else 0)) H) := by
  intro pins s σ H xs us Q I r h
  rcases h with ⟨i, rfl, q⟩ | ⟨k, rfl, q⟩
  · obtain ⟨u, rfl, t, rfl⟩ := vals1 r
    exact call_int_int ⟨.int i, H, I, ⟨_, rfl⟩, q⟩
  · obtain ⟨u, rfl, r1⟩ := vals1 r
    cases r1
    exact call_int_bool ⟨.int (if k then 1 else 0), H, I.tok _, ⟨_, rfl⟩, q⟩
end
end L2
namespace L2
open PySem PySem.Spec PyProof.Rows
structure Room (k : Nat) (A : Around) : Prop where
  hd : A.handled = none
  dp : A.depth + 3 * k + 5 < recursionLimit
  un : A.units + 16 * k + 200 < cLine
  gd : A.guards = some []
theorem Room.mono {j k : Nat} {A : Around} (r : Room k A) (h : j ≤ k) : Room j A := ⟨r.hd, by have := r.dp; omega, by have := r.un; omega, r.gd⟩
theorem Room.deeper {k : Nat} {A : Around} (r : Room (k + 1) A) (env : Env) : Room k (A.deeper env) :=
  ⟨r.hd, by have := r.dp; show A.depth + 1 + 3 * k + 5 < _; omega, by have := r.un; show A.units + 3 + 16 * k + 200 < _; omega, r.gd⟩
theorem Room.depth {k : Nat} {A : Around} (r : Room k A) : A.depth < recursionLimit := by have := r.dp; omega
theorem Room.units {k : Nat} {A : Around} (r : Room k A) : A.units + 64 < cLine := by have := r.un; omega
def tNil : TA := fun _ H Q => Q [] H
def tCons (ta : TE) (tr : TA) : TA := fun σ H Q => ta σ H fun x H1 => tr σ H1 fun xs H2 => Q (x :: xs) H2
section
variable {X : Cx} {e : Expr} {es : List Expr} {te : TE} {t : TA} {pos : Pos}
theorem pa_nil : PA X [] tNil := fun _ _ _ _ H Q I h => Calls.spliced_nil ⟨[], H, I, .nil, h⟩
theorem pa_cons (ha : PE X e te) (hr : PA X es t) (hs : starEach (e :: es) X.env = (false, eval e X.env) :: starEach es X.env := by rfl) : PA X (e :: es) (tCons te t) := by
  intro pos pins s σ H Q I h
  rw [hs]
  show wpAny _ _ (spliced ((false, eval e X.env) :: backTo pos (starEach es X.env))) _ _ s
  refine Calls.spliced_cons (thn (ha pins s σ H _ I h) fun u s1 ⟨x, H1, I1, r1, q1⟩ => ?_)
  exact thn (hr pos pins s1 σ H1 _ I1 q1) fun us s2 ⟨xs, H2, I2, r2, q2⟩ => ⟨x :: xs, H2, I2, .cons r1 r2, q2⟩
def tTup (t : TA) : TE := fun σ H Q => t σ H fun xs H1 => xs.length ≤ sizeLine ∧ ∀ p, H1 p = none → Q (.ref p) (upd H1 p (.tup xs))
def tLst (t : TA) : TE := fun σ H Q => t σ H fun xs H1 => xs.length ≤ sizeLine ∧ ∀ p, H1 p = none → Q (.ref p) (upd H1 p (.lst xs))
theorem pe_tup {x1} (h : PA X es t) : PE X (.Tuple es x1 pos) (tTup t) := by
  intro pins s σ H Q I hq
  refine wpAny_Tuple_spliced (thn (h pos pins s σ H _ I hq) fun us s1 ⟨xs, H1, I1, r, z, q⟩ => ⟨by rw [← r.length]; exact z, ?_⟩)
  have hf : H1 s1.heap.objs.size = none := I1.hok.fresh (Nat.le_refl _)
  refine ⟨.ref s1.heap.objs.size, upd H1 s1.heap.objs.size (.tup xs), I1.laid (t' := s1.toks) (fun b u e => Heap.get?_push_of_some _ e) (Nat.le_refl _) ?_, rfl, q _ hf⟩
  exact ⟨⟨z, ⟨_, Heap.get?_push_size _ rfl, rfl⟩⟩, us, r, ⟨_, Heap.get?_push_size _ rfl, rfl, _, rfl⟩⟩
theorem pe_lst (h : PA X es t) : PE X (.List es pos) (tLst t) := by
  intro pins s σ H Q I hq
  refine wpAny_List_spliced (thn (h pos pins s σ H _ I hq) fun us s1 ⟨xs, H1, I1, r, z, q⟩ => ⟨by rw [← r.length]; exact z, ?_⟩)
  have hf : H1 s1.heap.objs.size = none := I1.hok.fresh (Nat.le_refl _)
  refine ⟨.ref s1.heap.objs.size, upd H1 s1.heap.objs.size (.lst xs), I1.laid (t' := s1.toks) (fun b u e => Heap.get?_push_of_some _ e) (Nat.le_refl _) ?_, rfl, q _ hf⟩
  exact ⟨z, us, 0, r, Heap.get?_push_size _ rfl⟩
end
abbrev Sp := List V → Hp → VK → XK → Prop
abbrev CXT := List Env → Hp → Shared → XK → Value → Shared → Prop
structure Env0 (P : Program) (w : World) (K : PySem.W.Frag) (mg : Str → Option Value) (base : Heap) (A : Around) (outer : List Env) (s : Shared) (H : Hp) : Prop where
  frames : A.frames = some outer
  mod : Mod K mg base
  bs : ∀ b o, base.get? b = some o → s.heap.get? b = some o ∧ H b = none
  bsz : base.objs.size ≤ s.heap.objs.size
  funs : s.heap.FunFrames base outer
  frf : ∀ b ∈ frs outer, H b = none
  hok : HOk P w H s.heap
  bare : AllBare s.gens
def CE (outer : List Env) (P : Program) (w : World) (H : Hp) (s : Shared) (Q : VK) (u : Value) (s' : Shared) : Prop :=
  ∃ v H', s'.os = s.os ∧ AllBare s'.gens ∧ Un (frs outer) [] H H' s.heap s'.heap ∧ HOk P w H' s'.heap ∧ RelV v u ∧ Q v H'
def CR (CX : CXT) (outer : List Env) (P : Program) (w : World) (H : Hp) (s : Shared) (Q : VK) (E : XK) (r : Result) (s' : Shared) : Prop :=
  match r with
  | .ok (.ret u) => CE outer P w H s Q u s'
  | .ok _ => False
  | .error e => CX outer H s E e s'
structure FnOk (P : Program) (w : World) (K : PySem.W.Frag) (mg : Str → Option Value) (base : Heap) (CX : CXT) (k : Nat) (f : Addr) (fd : FuncData) (ps : List Str) (sp : Sp) : Prop where
  len : ∀ vs H Q E, sp vs H Q E → vs.length = ps.length
  run : ∀ (A : Around) (outer : List Env) (s : Shared) (H : Hp) (args : Args) (us : List Value) (vs : List V) (Q : VK) (E : XK), Room k A → Env0 P w K mg base A outer s H → BindsTo s fd args (ps.zip us) → Vals vs us → sp vs H Q E →
    codeAny (model P w) A (.call (.ref f) args) (CR CX outer P w H s Q E) s
section
variable {X : Cx} {pins : List (Addr × Obj)} {σ : St} {H : Hp} {s s' : Shared}
theorem Inv.env0 (I : Inv X pins σ H s) : Env0 X.prog X.w X.K X.mg X.base X.A X.stack s H :=
  ⟨I.ok.frames, I.ok.mod, I.bs, Nat.le_trans I.ok.bsz I.sz, I.stack, I.stkFree, I.hok, I.bare⟩
theorem Inv.after {Q : VK} {u : Value} (I : Inv X pins σ H s) (h : CE X.stack X.prog X.w H s Q u s') : EP X pins σ Q u s' := by
  obtain ⟨v, H', os, bare, un, hok, r, q⟩ := h
  obtain ⟨hh, g, d, t, os'⟩ := s'
  obtain rfl : os' = s.os := os
  exact ⟨v, H', I.call (h' := hh) (g' := g) (d' := d) (t' := t) (ch := []) un hok bare (fun b z => absurd z (by simp)), r, q⟩
end
def tCall (sp : Sp) (dvs : List V) (E : XK) (t : TA) : TE := fun σ H Q => t σ H fun vs H1 => sp (vs ++ dvs) H1 Q E
def Binds (K : PySem.W.Frag) (fd : FuncData) (ps : List Str) (ds : List Value) : Prop :=
  ∀ (s : Shared) (us : List Value), K.In s.heap → (us ++ ds).length = ps.length → BindsTo s fd ⟨us, []⟩ (ps.zip (us ++ ds))
theorem Binds.all {K : PySem.W.Frag} {fd : FuncData} {ps : List Str} (h : ∀ us : List Value, us.length = ps.length → bindArgs fd ⟨us, []⟩ = pure (ps.zip us)) : Binds K fd ps [] := fun s us _ hl => by
  rw [List.append_nil] at hl ⊢
  exact .of_eq (h us hl)
def Passes (CX : CXT) (X : Cx) (E : XK) : Prop := ∀ (pins : List (Addr × Obj)) (σ : St) (H : Hp) (s : Shared) (e : Value) (s' : Shared), Inv X pins σ H s → CX X.stack H s E e s' → X.xe e s'
section
variable {X : Cx} {CX : CXT} {k : Nat} {f C : Addr} {fd : FuncData} {ps : List Str} {sp : Sp} {dvs : List V} {ds : List Value} {E : XK} {x m : Str} {p pos apos : Pos} {e o : Expr} {es : List Expr} {ta : TE} {t : TA}
theorem run_fn {pins : List (Addr × Obj)} {σ : St} {H : Hp} {s : Shared} {Q : VK} {us : List Value} {vs : List V} (F : FnOk X.prog X.w X.K X.mg X.base CX k f fd ps sp) (hr : Room k X.A) (hb : Binds X.K fd ps ds) (hd : Vals dvs ds) (hx : Passes CX X E)
    (I : Inv X pins σ H s) (r : Vals vs us) (h : sp (vs ++ dvs) H Q E) : wpAny (model X.prog X.w) X.A (call (.ref f) us) (EP X pins σ Q) X.xe s := by
  have r2 : Vals (vs ++ dvs) (us ++ ds) := r.append hd
  have hl : (us ++ ds).length = ps.length := by rw [← r2.length]; exact F.len _ _ _ _ h
  refine wpAny_call (codeAny_mono (F.run X.A X.stack s H ⟨us, []⟩ (us ++ ds) (vs ++ dvs) Q E hr I.env0 (hb s us I.kIn hl) r2 h) fun r s' hq => ?_)
  cases r with
  | error e => exact hx pins σ H s e s' I hq
  | ok fl =>
    cases fl with
    | ret u => exact I.after hq
    | next => exact False.elim hq
    | brk => exact False.elim hq
    | cont => exact False.elim hq
theorem pe_call (F : FnOk X.prog X.w X.K X.mg X.base CX k f fd ps sp) (hr : Room k X.A) (hg : Gl X x) (hm : X.mg x = some (.ref f)) (hk : PySem.W.keepIn X.K (.ref f) = true) (hb : Binds X.K fd ps ds) (hd : Vals dvs ds) (hx : Passes CX X E)
    (ha : PA X (e :: es) t) (hdb : (x == ("__debug__" : Str)) = false := by decide) (he : starEach (e :: es) X.env = (false, eval e X.env) :: starEach es X.env := by rfl) (hpl : (backTo pos (starEach es X.env)).any (·.1) = false := by rfl) :
    PE X (.Call (.Name x p) (e :: es) [] pos) (tCall sp dvs E t) := by
  intro pins s σ H Q I h
  refine wpAny_Call_Name_kw (ld_glob I hg hm ?_ hdb)
  refine PySem.W.callWith_K (h₀ := X.base) I.ok.mod.kin hk (thn (ha pos pins s σ H _ I h) fun us s1 ⟨vs, H1, I1, r, q⟩ => ⟨I1.kIn, ?_⟩) he hpl
  exact run_fn F hr hb hd hx I1 r q
end
structure FnScope (N P : List Str) (sc : Scope) : Prop where
  kind : sc.kind = .function
  co : sc.isCoroutine = false
  gen : sc.isGenerator = false
  nd : N.Nodup
  pre : N.take P.length = P
  par : ∀ x ∈ P, sc.names.lookup x = some .local ∨ sc.names.lookup x = some .cell
  nofree : ∀ y ∈ sc.names, y.2 ≠ .free
theorem bindL_out {kindOf : Str → Option NameKind} {x : Str} : ∀ {binds : List (Str × Value)} {m : Str → Option Value}, (∀ v, (x, v) ∉ binds) → bindL kindOf binds m x = m x
  | [], _, _ => rfl
  | (n, v) :: r, m, h => by
    unfold bindL
    rw [bindL_out fun w hw => h w (List.mem_cons_of_mem _ hw)]
    split
    · have : x ≠ n := by rintro rfl; exact h v List.mem_cons_self
      simp [this]
    · rfl
theorem bindC_out {kindOf : Str → Option NameKind} {x : Str} : ∀ {binds : List (Str × Value)} {m : Str → Option Value}, (∀ v, (x, v) ∉ binds) → bindC kindOf binds m x = m x
  | [], _, _ => rfl
  | (n, v) :: r, m, h => by
    unfold bindC
    rw [bindC_out fun w hw => h w (List.mem_cons_of_mem _ hw)]
    split
    · rfl
    · have : x ≠ n := by rintro rfl; exact h v List.mem_cons_self
      simp [this]
theorem bindL_get {kindOf : Str → Option NameKind} {x : Str} {v : Value} : ∀ {P : List Str} {vs : List Value} {i : Nat} {m : Str → Option Value}, P.Nodup → P[i]? = some x → vs[i]? = some v → kindOf x = some .local →
    bindL kindOf (P.zip vs) m x = some v
  | [], _, _, _, _, h, _, _ => by simp at h
  | _ :: _, [], _, _, _, _, h, _ => by simp at h
  | p :: P, w :: vs, 0, m, nd, h1, h2, hk => by
    simp at h1 h2; subst h1; subst h2
    show bindL kindOf ((p, w) :: P.zip vs) m p = _
    unfold bindL
    rw [bindL_out fun v hv => (List.nodup_cons.mp nd).1 (List.of_mem_zip hv).1, if_pos hk]
    simp
  | p :: P, w :: vs, i + 1, m, nd, h1, h2, hk => by
    show bindL kindOf ((p, w) :: P.zip vs) m x = _
    unfold bindL
    exact bindL_get (i := i) (List.nodup_cons.mp nd).2 (by simpa using h1) (by simpa using h2) hk
theorem bindC_get {kindOf : Str → Option NameKind} {x : Str} {v : Value} : ∀ {P : List Str} {vs : List Value} {i : Nat} {m : Str → Option Value}, P.Nodup → P[i]? = some x → vs[i]? = some v → kindOf x ≠ some .local →
    bindC kindOf (P.zip vs) m x = some v
  | [], _, _, _, _, h, _, _ => by simp at h
  | _ :: _, [], _, _, _, _, h, _ => by simp at h
  | p :: P, w :: vs, 0, m, nd, h1, h2, hk => by
    simp at h1 h2; subst h1; subst h2
    show bindC kindOf ((p, w) :: P.zip vs) m p = _
    unfold bindC
    rw [bindC_out fun v hv => (List.nodup_cons.mp nd).1 (List.of_mem_zip hv).1, if_neg hk]
    simp
  | p :: P, w :: vs, i + 1, m, nd, h1, h2, hk => by
    show bindC kindOf ((p, w) :: P.zip vs) m x = _
    unfold bindC
    exact bindC_get (i := i) (List.nodup_cons.mp nd).2 (by simpa using h1) (by simpa using h2) hk
def start (N : List Str) (vs : List V) : St := vs.map some ++ List.replicate (N.length - vs.length) none
def cxOf (CX : CXT) (P : Program) (w : World) (K : PySem.W.Frag) (mg : Str → Option Value) (base : Heap) (N : List Str) (qual : Str) (scope : Scope) (f : Addr) (cd : Value) (A : Around) (outer : List Env) (s : Shared) (H : Hp) (E : XK) : Cx where
  prog := P
  w := w
  K := K
  mg := mg
  base := base
  A := A.deeper (envOfC qual scope s.heap.objs.size f cd)
  N := N
  s₀ := s
  H₀ := H
  env := envOfC qual scope s.heap.objs.size f cd
  outer := outer
  stack := envOfC qual scope s.heap.objs.size f cd :: outer
  ex := []
  calm := true
  fn := fun _ => true
  pn := []
  xe := fun e s' => wpAny (model P w) (A.deeper (envOfC qual scope s.heap.objs.size f cd)) (leaving (envOfC qual scope s.heap.objs.size f cd) e) (fun _ s'' => CX outer H s E e s'') (fun e' s'' => CX outer H s E e' s'') s'
theorem cell_has {sc : Scope} {n : Nat} {x : Str} (h : sc.names.lookup x = some .cell) : ∃ c, (cellsFrom n sc.names []).lookup x = some c := by
  have q := PySem.W.cellsFrom_some sc.names n [] (.inl h)
  exact Option.isSome_iff_exists.mp q
theorem inv_start {CX : CXT} {P : Program} {w : World} {K : PySem.W.Frag} {mg : Str → Option Value} {base : Heap} {N ps : List Str} {qual : Str} {scope : Scope} {f : Addr} {cd : Value} {A : Around} {outer : List Env} {s s1 : Shared} {H : Hp} {E : XK} {us : List Value} {vs : List V}
    (S : FnScope N ps scope) (hd : A.handled = none) (e0 : Env0 P w K mg base A outer s H) (hl : vs.length = ps.length) (r : Vals vs us)
    (x : InCallC s s.heap.objs.size (bindL (envOfC qual scope s.heap.objs.size f cd).kindOf (ps.zip us) fun _ => none) (cellsFrom (s.heap.objs.size + 1) scope.names []) (bindC (envOfC qual scope s.heap.objs.size f cd).kindOf (ps.zip us) fun _ => none) s1) :
    Inv (cxOf CX P w K mg base N qual scope f cd A outer s H E) [] (start N vs) H s1 := by
  have hpl : ps.length ≤ N.length := by have := congrArg List.length S.pre; rw [List.length_take] at this; omega
  obtain ⟨h1, tk, rfl, hk⟩ := x.done
  have noA : ∀ b : Addr, b ∉ (cxOf CX P w K mg base N qual scope f cd A outer s H E).ex := fun b z => absurd (show b ∈ ([] : List Addr) from z) (by simp)
  refine ⟨⟨e0.mod, S.kind, rfl, rfl, Nat.le_refl _, fun y z c h1 h2 => ?_, fun y hy => ?_, fun y c _ h => ?_, fun _ => hd, Around.frames_deeper e0.frames, .inr ⟨rfl, rfl⟩, fun b z => absurd z (noA b), e0.bs, e0.bsz, fun b _ _ => noA b, fun b z => absurd z (noA b), e0.funs, e0.frf⟩,
    rfl, e0.bare, Un.kept hk, ⟨_, x.toInCall.ns, fun i y v h1 h2 h3 => ?_⟩, fun y c h => ⟨_, x.cell y c h⟩, e0.hok.fresh (Nat.le_refl _), fun y c h => ?_, fun p hp => absurd (show p ∈ ([] : List (Addr × Obj)) from hp) (by simp), e0.hok.kept hk, ?_⟩
  · exact name_of_addr x.apart (PySem.mem_of_lookup h1) (PySem.mem_of_lookup h2)
  · have hy : scope.names.lookup y = some .cell ∨ scope.names.lookup y = some .free := hy
    rcases hy with hy | hy
    · exact cell_has hy
    · exact absurd rfl (S.nofree _ (PySem.mem_of_lookup hy))
  · exact Nat.le_of_lt (x.above y c (PySem.mem_of_lookup h))
  · have hi : i < vs.length := by
      unfold start at h2
      by_cases hi : i < vs.length
      · exact hi
      · rw [List.getElem?_append_right (by simpa using hi)] at h2
        rw [List.getElem?_replicate] at h2
        split at h2 <;> cases h2
    have ha : vs[i]? = some v := by
      unfold start at h2
      rw [List.getElem?_append_left (by simpa using hi), List.getElem?_map] at h2
      cases e : vs[i]? with
      | none => rw [e] at h2; cases h2
      | some a => rw [e] at h2; cases h2; rfl
    obtain ⟨u, hu, rv⟩ := r.get ha
    have hp : ps[i]? = some y := by
      rw [← S.pre, List.getElem?_take_of_lt (by omega)]; exact h1
    have ndP : ps.Nodup := by rw [← S.pre]; exact S.nd.sublist (List.take_sublist _ _)
    refine ⟨u, rv, ?_⟩
    rcases S.par y (List.mem_of_getElem? hp) with k | k
    · exact .inl ⟨k, bindL_get ndP hp hu k⟩
    · obtain ⟨c, e⟩ := cell_has (n := s.heap.objs.size + 1) k
      refine .inr ⟨.inl k, c, e, ?_⟩
      have q := x.cell y c e
      rw [bindC_get ndP hp hu (by show scope.names.lookup y ≠ _; rw [k]; decide)] at q
      exact q
  · exact e0.hok.fresh (Nat.le_of_lt (x.above y c (PySem.mem_of_lookup h)))
  · unfold start
    show _ = N.length
    rw [List.length_append, List.length_map, List.length_replicate]
    omega
theorem fn_of {CX : CXT} {P : Program} {w : World} {K : PySem.W.Frag} {mg : Str → Option Value} {base : Heap} {k : Nat} {f : Addr} {name qual : Str} {params : Arguments} {body : List Stmt} {scope : Scope} {dV kV doc pm cdv ct oc : Value} {an od : Option Addr}
    {osl : Array (Option Value)} {N ps : List Str} {sp : Sp} (lk : K.lookup f = some ⟨oc, od, .func (PySem.W.fnOf name qual params body scope dV kV doc pm an cdv ct), osl⟩) (hcd : PySem.W.codeIn K cdv qual = true) (S : FnScope N ps scope)
    (len : ∀ vs H Q E, sp vs H Q E → vs.length = ps.length)
    (hbody : ∀ (A : Around) (outer : List Env) (s : Shared) (H : Hp) (vs : List V) (Q : VK) (E : XK), Room k (A.deeper (envOfC qual scope s.heap.objs.size f cdv)) → sp vs H Q E →
      ∃ t, PSs (cxOf CX P w K mg base N qual scope f cdv A outer s H E) body t ∧ t { nx := fun _ H' => Q .non H', rt := Q } (start N vs) H) :
    FnOk P w K mg base CX (k + 1) f (PySem.W.fnOf name qual params body scope dV kV doc pm an cdv ct) ps sp := by
  refine ⟨len, fun A outer s H args us vs Q E hr e0 hb r hsp => ?_⟩
  have hl := len _ _ _ _ hsp
  have KX : K.In s.heap := e0.mod.kin.keeps fun b o e => (e0.bs b o e).1
  have lim : s.heap.NoLimit := e0.mod.nolimit.keeps fun b o e => (e0.bs b o e).1
  have hkind : ∀ y ∈ ps.zip us, scope.names.lookup y.1 = some .local ∨ (scope.names.lookup y.1 = some .cell ∧ ((cellsFrom (s.heap.objs.size + 1) scope.names []).lookup y.1).isSome = true) := fun ⟨n, v⟩ hy => by
    rcases S.par n (List.of_mem_zip hy).1 with q | q
    · exact .inl q
    · exact .inr ⟨q, PySem.W.cellsFrom_some _ _ _ (.inl q)⟩
  refine codeAny_call_function hr.depth (KX _ _ lk) rfl S.co S.gen rfl (PySem.W.codeRec_of KX hcd) (hb _ _ _ _ ?_)
  refine wpAny_newFunctionEnv_cells S.kind hkind fun env he s1 x => ?_
  subst he
  refine ⟨lim.keeps x.toInCall.keep, codeAny_func ?_⟩
  obtain ⟨t, ht, hq⟩ := hbody A outer s H vs Q E (hr.deeper _) hsp
  have I : Inv (cxOf CX P w K mg base N qual scope f cdv A outer s H E) [] (start N vs) H s1 := inv_start S hr.hd e0 hl r x
  refine wpAny_mono (ht [] s1 (start N vs) H _ I hq) (fun fl s' hs => ?_) fun e s' hs => hs
  have fin : ∀ {σ' : St} {H' : Hp} {v : V} {u : Value}, Inv (cxOf CX P w K mg base N qual scope f cdv A outer s H E) [] σ' H' s' → RelV v u → Q v H' → CE outer P w H s Q u s' :=
    fun {σ' H' v u} J rv q => ⟨v, H', J.os, J.bare, J.base, J.hok, rv, q⟩
  cases fl with
  | ret u =>
    obtain ⟨v, σ', H', J, rv, q⟩ := hs
    exact fin J rv q
  | next =>
    obtain ⟨σ', H', J, q⟩ := hs
    exact fin (v := V.non) (u := Value.none) J rfl q
  | brk =>
    obtain ⟨_, _, _, q⟩ := hs
    exact False.elim q
  | cont =>
    obtain ⟨_, _, _, q⟩ := hs
    exact False.elim q
end L2
namespace L2
open PySem PySem.Spec PyProof.Rows
section
variable {X : Cx} {x : Str} {p pos : Pos} {e : Expr} {es : List Expr} {t : TA} {id T : String} {r : List V → Hp → VK → Prop}
def tCB (r : List V → Hp → VK → Prop) (t : TA) : TE := fun σ H Q => t σ H fun vs H1 => r vs H1 Q
theorem pe_callB (hc : CallR X (.builtin id) r) (hg : Gl X x) (hm : X.mg x = none) (hv : bootBuiltins x = some (.builtin id)) (ha : PA X (e :: es) t) (hn : x ≠ "__name__" := by decide) (hdb : (x == ("__debug__" : Str)) = false := by decide)
    (he : starEach (e :: es) X.env = (false, eval e X.env) :: starEach es X.env := by rfl) (hpl : (backTo pos (starEach es X.env)).any (·.1) = false := by rfl) : PE X (.Call (.Name x p) (e :: es) [] pos) (tCB r t) := by
  intro pins s σ H Q I h
  refine wpAny_Call_Name_kw (ld_blt I hg hm hv ?_ hn hdb)
  exact PyProof.Rows.callWith_builtin1 (thn (ha pos pins s σ H _ I h) fun us s1 ⟨vs, H1, I1, r1, q1⟩ => hc pins s1 σ H1 vs us Q I1 r1 q1) he hpl
theorem pe_callTy (hc : CallR X (.type T) r) (hg : Gl X x) (hm : X.mg x = none) (hv : bootBuiltins x = some (.type T)) (ha : PA X (e :: es) t) (hn : x ≠ "__name__" := by decide) (hdb : (x == ("__debug__" : Str)) = false := by decide)
    (he : starEach (e :: es) X.env = (false, eval e X.env) :: starEach es X.env := by rfl) (hpl : (backTo pos (starEach es X.env)).any (·.1) = false := by rfl) : PE X (.Call (.Name x p) (e :: es) [] pos) (tCB r t) := by
  intro pins s σ H Q I h
  refine wpAny_Call_Name_kw (ld_blt I hg hm hv ?_ hn hdb)
  exact PyProof.Rows.callWith_type1 (thn (ha pos pins s σ H _ I h) fun us s1 ⟨vs, H1, I1, r1, q1⟩ => hc pins s1 σ H1 vs us Q I1 r1 q1) he hpl
end
end L2
namespace HT
open PySem PyProof.Rows
section
open PySem.SeqAt
open PySem.AutoSeq1 (wpAny_loadPart')
open PySem.MeetsSeq PySem.MeetsSeq2 PySem.MeetsSeq3
end
section
variable {prog : Program} {w : World} {A : Around} {E : Value → Shared → Prop} {s : Shared}
theorem cat_tup {t b : Addr} {vs ws : List Value} {Q : Value → Shared → Prop} (ht : IsTup s.heap t vs.toArray) (hb : IsTup s.heap b ws.toArray) (hv : vs ≠ [])
    (h1 : ws = [] → Q (.ref t) s) (h2 : ws ≠ [] → Q (.ref s.heap.objs.size) { s with heap := s.heap.push { cls := .type "tuple", data := .seq (vs ++ ws).toArray } })
    (hsz : vs.length + ws.length ≤ sizeLine) : wpAny (model prog w) A (binaryOp .Add (.ref t) (.ref b)) Q E s := by
  obtain ⟨⟨cls, dd, data, sl⟩, ho, hc, n, hd⟩ := id ht
  obtain ⟨⟨cls2, dd2, data2, sl2⟩, ho2, hc2, n2, hd2⟩ := id hb
  simp only at hc hd hc2 hd2
  subst hc hd hc2 hd2
  have e : vs.toArray ++ ws.toArray = (vs ++ ws).toArray := by simp
  by_cases hw : ws = []
  · exact concat_meets ⟨_, ho, rfl⟩ ⟨_, ho2, rfl⟩ noFill_tuple_add seq_tuple_add PySem.F.slot_tuple_add PySem.F.entry_tuple_add (PySem.F.args_tuple_add_2 _ _)
      (tuple_addW1 t b vs.toArray ws.toArray n n2 dd dd2 sl sl2 (by simpa using hv) (by simp [hw])) ⟨ho, ho2, h1 hw⟩
  · refine concat_meets ⟨_, ho, rfl⟩ ⟨_, ho2, rfl⟩ noFill_tuple_add seq_tuple_add PySem.F.slot_tuple_add PySem.F.entry_tuple_add (PySem.F.args_tuple_add_2 _ _)
      (tuple_addW2 t b vs.toArray ws.toArray n n2 dd dd2 sl sl2 (by simpa using hv) (by simpa using hw) (by rw [List.size_toArray, List.size_toArray]; exact hsz)) ⟨ho, ho2, ?_⟩
    rw [e]
    exact h2 hw
def sIx (n d : Nat) : Option Int → Nat
  | none => d
  | some v => if v < 0 then (v + (n : Int)).toNat else min v.toNat n
theorem sIx_none (n d : Nat) : sIx n d none = d := rfl
theorem sIx_nat (n d k : Nat) : sIx n d (some (k : Int)) = min k n := by
  show (if (k : Int) < 0 then ((k : Int) + (n : Int)).toNat else min (k : Int).toNat n) = min k n
  rw [if_neg (by omega), Int.toNat_natCast]
theorem sIx_le (n d : Nat) (hd : d ≤ n) (o : Option Int) : sIx n d o ≤ n := by
  cases o with
  | none => exact hd
  | some v =>
    show (if v < 0 then (v + (n : Int)).toNat else min v.toNat n) ≤ n
    by_cases hv : v < 0
    · rw [if_pos hv]; omega
    · rw [if_neg hv]; exact Nat.min_le_right _ _
theorem clip_eq (v : Int) (n d : Nat) : (if v < 0 then max (v + (n : Int)) 0 else min v (n : Int)) = ((sIx n d (some v) : Nat) : Int) := by
  show (if v < 0 then max (v + (n : Int)) 0 else min v (n : Int)) = (((if v < 0 then (v + (n : Int)).toNat else min v.toNat n) : Nat) : Int)
  by_cases hv : v < 0
  · simp only [if_pos hv]; omega
  · simp only [if_neg hv]; omega
theorem adjust_gen (lo hi : Option Int) (n : Nat) : Builtin.Slice.sliceAdjust lo hi 1 (n : Int) = (((sIx n 0 lo : Nat) : Int), ((sIx n n hi : Nat) : Int)) := by
  have h1 : ¬ ((1 : Int) < 0) := by omega
  unfold Builtin.Slice.sliceAdjust
  simp only [h1, if_false]
  refine Prod.ext ?_ ?_
  · cases lo with
    | none => rfl
    | some v => exact clip_eq v n 0
  · cases hi with
    | none => rfl
    | some v => exact clip_eq v n n
theorem places_gen (i j : Nat) : Builtin.Slice.slicePlaces (i : Int) (j : Int) 1 = j - i := by
  unfold Builtin.Slice.slicePlaces
  have h1 : (1 : Int) > 0 := by omega
  simp only [h1, if_true, Int.ediv_one]
  split <;> omega
theorem slicePart_ {v : Value} {o : Option Int} {Q : Option Int → Shared → Prop} (p : IsPart v o) (h : Q o s) : wpAny (model prog w) A (Builtin.Slice.slicePartIndex v) Q E s := by
  cases p with
  | none => exact slicePart_none h
  | int i t => exact slicePart_int h
theorem sliceApplied_gen {sl : Addr} {vl vu : Value} {lo hi : Option Int} {n : Nat} {Q : Int × Int × Nat → Shared → Prop} (hs : s.heap.IsSliceOf sl vl vu .none) (pl : IsPart vl lo) (pu : IsPart vu hi)
    (h : Q (((sIx n 0 lo : Nat) : Int), 1, sIx n n hi - sIx n 0 lo) s) : wpAny (model prog w) A (Builtin.Slice.sliceApplied (.ref sl) (pure (n : Int))) Q E s := by
  obtain ⟨os, hos, hcs, hds⟩ := id hs
  unfold Builtin.Slice.sliceApplied Builtin.Slice.sliceFields
  refine wpAny_bind (wpAny_bind (wpAny_field hos hds (x := vl) rfl (wpAny_bind (wpAny_field hos hds (x := vu) rfl (wpAny_bind (wpAny_field hos hds (x := .none) rfl (wpAny_pure ?_)))))))
  refine wpAny_bind (slicePart_none ?_)
  show wpAny _ _ (if ((1 : Int) == 0) = true then _ else _) _ _ s
  rw [if_neg (by decide)]
  refine wpAny_bind (slicePart_ pl (wpAny_bind (slicePart_ pu (wpAny_bind (wpAny_pure ?_)))))
  show wpAny _ _ (match Builtin.Slice.sliceAdjust lo hi 1 (n : Int) with | (lo, hi) => pure (lo, (1 : Int), Builtin.Slice.slicePlaces lo hi 1)) _ _ s
  rw [adjust_gen lo hi n]
  show wpAny _ _ (pure (((sIx n 0 lo : Nat) : Int), (1 : Int), Builtin.Slice.slicePlaces ((sIx n 0 lo : Nat) : Int) ((sIx n n hi : Nat) : Int) 1)) _ _ s
  rw [places_gen]
  exact wpAny_pure h
theorem pick_gen (xs : Array Value) (i k : Nat) : ((List.range k).filterMap fun (m : Nat) => xs[((i : Int) + (m : Int) * 1).toNat]?).toArray = ((xs.toList.drop i).take k).toArray := by
  have e : (fun (m : Nat) => xs[((i : Int) + (m : Int) * 1).toNat]?) = fun m => xs[i + m]? := by
    funext m
    have : ((i : Int) + (m : Int) * 1).toNat = i + m := by omega
    rw [this]
  rw [e]
  have := pick_run xs i k
  rw [List.filterMap_map] at this
  have e2 : ((fun x => xs[x]?) ∘ fun x => i + x) = fun m => xs[i + m]? := rfl
  rw [e2] at this
  rw [this]
theorem getItem_tuple_cut {t sl : Addr} {items : Array Value} {vl vu : Value} {lo hi : Option Int} {Q : Value → Shared → Prop} (ht : IsTup s.heap t items) (hs : s.heap.IsSliceOf sl vl vu .none) (pl : IsPart vl lo) (pu : IsPart vu hi)
    (hw : ¬ (sIx items.size 0 lo = 0 ∧ sIx items.size items.size hi = items.size))
    (h : Q (.ref s.heap.objs.size) { s with heap := s.heap.push { cls := .type "tuple", data := .seq ((items.toList.drop (sIx items.size 0 lo)).take (sIx items.size items.size hi - sIx items.size 0 lo)).toArray } })
    (hsz : items.size ≤ sizeLine) : wpAny (model prog w) A (getItem (.ref t) (.ref sl)) Q E s := by
  have htake : sizeOk (.seq ((items.toList.drop (sIx items.size 0 lo)).take (sIx items.size items.size hi - sIx items.size 0 lo)).toArray) := by
    show ((items.toList.drop (sIx items.size 0 lo)).take (sIx items.size items.size hi - sIx items.size 0 lo)).toArray.size ≤ sizeLine
    rw [List.size_toArray, List.length_take, List.length_drop, Array.length_toList]
    omega
  have hj : sIx items.size items.size hi ≤ items.size := sIx_le _ _ (Nat.le_refl _) hi
  obtain ⟨os, hos, hcs, hds⟩ := id hs
  have hTs : s.TypeIs (.ref sl) "slice" := ⟨os, hos, hcs⟩
  unfold getItem
  try with_reducible refine wpAny_holding ?_
  first | refine wpAny_bind (wpAny_pure ?_) | skip
  refine wpAny_bind (wpAny_sequenceKey ht.typeIs (by decide) ?_)
  refine wpAny_bind (wpAny_callSpecial?_slot (name := Str.ofString "__getitem__") ht.typeIs PyProof.Rows.slot_tuple_getitem
    (wpAny_call_entry PyProof.Rows.slot_tuple_getitem ht.typeIs entry_tuple_getitem ?_ (args_tuple_getitem _ _)))
  show wpAny _ _ (Builtin.Tuple.tupleItemsOf (.ref t) >>= _) _ _ s
  refine wpAny_bind (tupleItemsOf_ ht ?_)
  refine wpAny_bind (wpAny_typeOf hTs ?_)
  rw [if_pos (by decide)]
  refine wpAny_bind (sliceApplied_gen hs pl pu ?_)
  have hno : ¬ ((((sIx items.size 0 lo : Nat) : Int) == 0 && (1 : Int) == 1 && (sIx items.size items.size hi - sIx items.size 0 lo) == items.size) = true) := by
    intro q
    rw [Bool.and_eq_true, Bool.and_eq_true] at q
    have q1 : ((sIx items.size 0 lo : Nat) : Int) = 0 := eq_of_beq q.1.1
    have q2 : sIx items.size items.size hi - sIx items.size 0 lo = items.size := eq_of_beq q.2
    exact hw ⟨by omega, by omega⟩
  show wpAny _ _ (if (((sIx items.size 0 lo : Nat) : Int) == 0 && (1 : Int) == 1 && (sIx items.size items.size hi - sIx items.size 0 lo) == items.size) = true then _ else _) _ _ s
  rw [if_neg hno, pick_gen]
  first
    | exact wpAny_bind (m := Builtin.Tuple.tupleExact _) (wpAny_newObj_type (wpAny_pure ⟨_, rfl, wpAny_pure h⟩) htake)
    | exact wpAny_bind (m := Builtin.Tuple.tupleExact _) (wpAny_newObj_type (wpAny_bind (wpAny_pure (wpAny_pure ⟨_, rfl, wpAny_pure h⟩))) htake)
    | exact wpAny_bind (wpAny_bind (m := Builtin.Tuple.tupleExact _) (wpAny_newObj_type (wpAny_pure (wpAny_pure ⟨_, rfl, wpAny_pure h⟩)) htake))
    | exact wpAny_bind (wpAny_bind (m := Builtin.Tuple.tupleExact _) (wpAny_newObj_type (wpAny_pure ⟨_, rfl, wpAny_pure h⟩) htake))
end
end HT
namespace L2
open PySem PySem.Spec PyProof.Rows
abbrev TO := St → Hp → (Option Int → Hp → Prop) → Prop
def PO (X : Cx) (e : Option Expr) (t : TO) : Prop :=
  ∀ (pins : List (Addr × Obj)) (s : Shared) (σ : St) (H : Hp) (Q : Option Int → Hp → Prop), Inv X pins σ H s → t σ H Q →
    wpAny (model X.prog X.w) X.A (evalPart e X.env) (fun u s' => ∃ o H', Inv X pins σ H' s' ∧ IsPart u o ∧ Q o H') X.xe s
def tNoPart : TO := fun _ H Q => Q none H
def tPart (t : TE) : TO := fun σ H Q => t σ H fun x H1 => ∃ i, x = .int i ∧ Q (some i) H1
section
variable {X : Cx} {e : Expr} {te : TE} {lo hi : Option Expr} {tl th : TO} {pos p2 : Pos}
theorem po_none : PO X none tNoPart := by
  intro pins s σ H Q I h
  rw [evalPart_none]
  exact wpAny_pure ⟨none, H, I, .none, h⟩
theorem po_some (h : PE X e te) : PO X (some e) (tPart te) := by
  intro pins s σ H Q I hw
  rw [evalPart_some]
  refine thn (h pins s σ H _ I hw) fun u s1 ⟨x, H1, I1, r1, q1⟩ => ?_
  obtain ⟨i, rfl, q⟩ := q1
  obtain ⟨t, rfl⟩ := r1
  exact ⟨some i, H1, I1, .int i t, q⟩
def SlR (X : Cx) (r : V → Option Int → Option Int → Hp → VK → Prop) : Prop :=
  ∀ (pins : List (Addr × Obj)) (s : Shared) (σ : St) (H : Hp) (x : V) (v vl vu : Value) (lo hi : Option Int) (sl : Addr) (Q : VK), Inv X pins σ H s → RelV x v → s.heap.IsSliceOf sl vl vu .none → IsPart vl lo → IsPart vu hi → r x lo hi H Q →
    ∃ T id, typeLookup (.type T) "__getitem__" = pure (some (.builtin id)) ∧ s.TypeIs v T ∧ wpAny (model X.prog X.w) X.A (getItem v (.ref sl)) (EP X pins σ Q) X.xe s
def tSl (r : V → Option Int → Option Int → Hp → VK → Prop) (te : TE) (tl th : TO) : TE := fun σ H Q => te σ H fun x H1 => tl σ H1 fun l H2 => th σ H2 fun u H3 => r x l u H3 Q
theorem pe_slice {r : V → Option Int → Option Int → Hp → VK → Prop} (hr : SlR X r) (he : PE X e te) (hl : PO X lo tl) (hu : PO X hi th) : PE X (.Subscript e (.Slice lo hi none p2) pos) (tSl r te tl th) := by
  intro pins s σ H Q I h
  refine Subscript_ (thn (he pins s σ H _ I h) fun v s1 ⟨x, H1, I1, r1, q1⟩ => ?_)
  refine wpAny_Slice (thn (hl pins s1 σ H1 _ I1 q1) fun vl s2 ⟨l, H2, I2, pl, q2⟩ => thn (hu pins s2 σ H2 _ I2 q2) fun vu s3 ⟨u, H3, I3, pu, q3⟩ => ?_)
  rw [evalPart_none]
  refine wpAny_pure ?_
  have I4 : Inv X pins σ H3 { s3 with heap := s3.heap.push { cls := .type "slice", data := .fields #[vl, vu, .none] } } := I3.kept (t' := s3.toks) fun b ob q => Heap.get?_push_of_some _ q
  obtain ⟨T, id, hT, ht, hg⟩ := hr pins { s3 with heap := s3.heap.push { cls := .type "slice", data := .fields #[vl, vu, .none] } } σ H3 x v vl vu l u s3.heap.objs.size Q I4 r1 (Heap.IsSliceOf.new ..) pl pu q3
  show wpAny (model X.prog X.w) X.A (subscriptTail e (.Slice lo hi none p2) v (.ref s3.heap.objs.size)) (EP X pins σ Q) X.xe { s3 with heap := s3.heap.push { cls := .type "slice", data := .fields #[vl, vu, .none] } }
  exact tail_any (ops := [.ref s3.heap.objs.size, v]) ht hT hg (by with_unfolding_all rfl)
def cutV (xs : List V) (lo hi : Option Int) : List V := (xs.drop (HT.sIx xs.length 0 lo)).take (HT.sIx xs.length xs.length hi - HT.sIx xs.length 0 lo)
theorem cutV_length (xs : List V) (lo hi : Option Int) : (cutV xs lo hi).length ≤ xs.length := by
  unfold cutV
  rw [List.length_take, List.length_drop]
  omega
def rSlT (K : PySem.W.Frag) : V → Option Int → Option Int → Hp → VK → Prop := fun x lo hi H Q => ∃ a xs, x = .ref a ∧ SqT K H a xs ∧
  ¬ (HT.sIx xs.length 0 lo = 0 ∧ HT.sIx xs.length xs.length hi = xs.length) ∧ ∀ p, H p = none → Q (.ref p) (upd H p (.tup (cutV xs lo hi)))
theorem sl_tup : SlR X (rSlT X.K) := by
  intro pins s σ H x v vl vu lo hi sl Q I rx hs pl pu h
  obtain ⟨a, xs, rfl, hx, hw, q⟩ := h
  cases rx
  obtain ⟨its, r, ht, hz⟩ := I.tuple hx
  have hlen : its.toArray.size = xs.length := by rw [List.size_toArray]; exact r.length.symm
  refine ⟨"tuple", _, PyProof.Rows.slot_tuple_getitem.lookup, ht.typeIs, ?_⟩
  refine HT.getItem_tuple_cut ht hs pl pu (by rw [hlen]; exact hw) ?_ (by rw [hlen]; exact hz)
  rw [hlen]
  refine ⟨.ref s.heap.objs.size, _, I.laid (t' := s.toks) (o := .tup (cutV xs lo hi)) (fun b ob q => Heap.get?_push_of_some _ q) (Nat.le_refl _) ?_, rfl, q _ (I.hok.fresh (Nat.le_refl _))⟩
  exact ⟨⟨Nat.le_trans (cutV_length xs lo hi) hz, ⟨_, Heap.get?_push_size _ rfl, rfl⟩⟩, _, (r.drop (HT.sIx xs.length 0 lo)).take (HT.sIx xs.length xs.length hi - HT.sIx xs.length 0 lo), IsTup.new _ _⟩
def rCatT (K : PySem.W.Frag) : R2 := fun x y H Q => ∃ a b xs ys, x = .ref a ∧ y = .ref b ∧ SqT K H a xs ∧ SqT K H b ys ∧ xs ≠ [] ∧ xs.length + ys.length ≤ sizeLine ∧
  (ys = [] → Q (.ref a) H) ∧ (ys ≠ [] → ∀ p, H p = none → Q (.ref p) (upd H p (.tup (xs ++ ys))))
theorem Vals.nil_iff {xs : List V} {us : List Value} (r : Vals xs us) : us = [] ↔ xs = [] := by
  cases r with
  | nil => simp
  | cons _ _ => simp
theorem op_catT : OpR X (binaryOp .Add) (rCatT X.K) := by
  intro pins s σ H x y v u Q I rx ry h
  obtain ⟨a, b, xs, ys, rfl, rfl, ha, hb, hx, hz, q1, q2⟩ := h
  cases rx
  cases ry
  obtain ⟨its, r1, p1, _⟩ := I.tuple ha
  obtain ⟨its2, r2, p2, _⟩ := I.tuple hb
  refine HT.cat_tup p1 p2 (fun z => hx (r1.nil_iff.mp z)) (fun z => ⟨.ref a, H, I, rfl, q1 (r2.nil_iff.mp z)⟩) (fun z => ?_) (by rw [← r1.length, ← r2.length]; exact hz)
  refine ⟨.ref s.heap.objs.size, _, I.laid (t' := s.toks) (o := .tup (xs ++ ys)) (fun b ob q => Heap.get?_push_of_some _ q) (Nat.le_refl _) ?_, rfl, q2 (fun w => z (r2.nil_iff.mpr w)) _ (I.hok.fresh (Nat.le_refl _))⟩
  exact ⟨⟨by rw [List.length_append]; exact hz, ⟨_, Heap.get?_push_size _ rfl, rfl⟩⟩, _, r1.append r2, IsTup.new _ _⟩
end
end L2
namespace L2
open PySem PySem.Spec PyProof.Rows
def ixN (n : Nat) (i : Int) : Option Nat := if 0 ≤ i then (if i < n then some i.toNat else none) else if -(n : Int) ≤ i then some (i + n).toNat else none
def atI {α : Type} (xs : List α) (i : Int) : Option α := (ixN xs.length i).bind fun j => xs[j]?
theorem ixN_seq {n : Nat} {i : Int} {j : Nat} (h : ixN n i = some j) : seqIndex? i n = some j ∧ j < n ∧ -(n : Int) ≤ i ∧ i < n := by
  unfold ixN at h
  by_cases h0 : 0 ≤ i
  · rw [if_pos h0] at h
    by_cases h1 : i < n
    · rw [if_pos h1] at h
      have e : i.toNat = j := Option.some.inj h
      exact ⟨by rw [seqIndex_of h0 h1, e], by omega, by omega, h1⟩
    · rw [if_neg h1] at h; cases h
  · rw [if_neg h0] at h
    by_cases h1 : -(n : Int) ≤ i
    · rw [if_pos h1] at h
      have e : (i + n).toNat = j := Option.some.inj h
      exact ⟨by rw [seqIndex_neg (by omega) h1, e], by omega, h1, by omega⟩
    · rw [if_neg h1] at h; cases h
theorem atI_get {α : Type} {xs : List α} {i : Int} {v : α} (h : atI xs i = some v) : ∃ j, seqIndex? i xs.length = some j ∧ xs[j]? = some v ∧ j < xs.length ∧ -(xs.length : Int) ≤ i ∧ i < xs.length := by
  unfold atI at h
  cases e : ixN xs.length i with
  | none => rw [e] at h; cases h
  | some j =>
    rw [e] at h
    obtain ⟨h1, h2, h3, h4⟩ := ixN_seq e
    exact ⟨j, h1, h, h2, h3, h4⟩
def PlainIx (b : Expr) : Prop := ∀ o i, subscripted b false o i = operate [o, i] (getItem o i)
def IxR (X : Cx) (r : R2) : Prop :=
  ∀ (value slice : Expr) (pins : List (Addr × Obj)) (s : Shared) (σ : St) (H : Hp) (x y : V) (v u : Value) (Q : VK), Inv X pins σ H s → RelV x v → RelV y u → r x y H Q →
    subscripted slice false v u = operate [v, u] (getItem v u) → wpAny (model X.prog X.w) X.A (subscriptTail value slice v u) (EP X pins σ Q) X.xe s
def MtR (X : Cx) (id : String) (r : V → List V → Hp → VK → Prop) : Prop :=
  ∀ (pins : List (Addr × Obj)) (s : Shared) (σ : St) (H : Hp) (x : V) (xs : List V) (v : Value) (us : List Value) (Q : VK), Inv X pins σ H s → RelV x v → Vals xs us → r x xs H Q →
    wpAny (model X.prog X.w) X.A (call (.builtin id) (v :: us)) (EP X pins σ Q) X.xe s
section
variable {X : Cx} {a b : Expr} {ta tb : TE} {pos : Pos}
theorem IxR.or {r r' : R2} (h : IxR X r) (h' : IxR X r') : IxR X (fun x y H Q => r x y H Q ∨ r' x y H Q) := by
  intro value slice pins s σ H x y v u Q I rx ry q hs
  rcases q with q | q
  · exact h value slice pins s σ H x y v u Q I rx ry q hs
  · exact h' value slice pins s σ H x y v u Q I rx ry q hs
theorem pe_ix {r : R2} (hr : IxR X r) (ha : PE X a ta) (hb : PE X b tb) (hs : PlainIx b) : PE X (.Subscript a b pos) (tOp r ta tb) := by
  intro pins s σ H Q I h
  exact Subscript_ (binT ha hb I h fun v u s2 x y H2 I2 rx ry q => hr a b pins s2 σ H2 x y v u Q I2 rx ry q (hs _ _))
def rIxL (K : PySem.W.Frag) : R2 := fun x y H Q => ∃ p xs i v, x = .ref p ∧ y = .int i ∧ SqL K H p xs ∧ atI xs i = some v ∧ Q v H
def rIxT (K : PySem.W.Frag) : R2 := fun x y H Q => ∃ p xs i v, x = .ref p ∧ y = .int i ∧ SqT K H p xs ∧ atI xs i = some v ∧ Q v H
def rIxS : R2 := fun x y H Q => ∃ z i c, x = .str z ∧ y = .int i ∧ z.length ≤ sizeLine ∧ atI z.cps.toList i = some c ∧ Q (.str ⟨#[c]⟩) H
theorem ix_list : IxR X (rIxL X.K) := by
  intro value slice pins s σ H x y v u Q I rx ry h hs
  obtain ⟨p, xs, i, z, rfl, rfl, hq, he, q⟩ := h
  cases rx
  obtain ⟨t, rfl⟩ := ry
  obtain ⟨its, r, pl, hz⟩ := I.list hq
  obtain ⟨j, h1, h2, h3, h4, h5⟩ := atI_get he
  obtain ⟨w, ew, rw'⟩ := r.get h2
  have hl := r.length
  have hn := line63
  have fin : EP X pins σ Q w s := ⟨z, H, I, rw', q⟩
  by_cases h0 : 0 ≤ i
  · have hj : i.toNat = j := by
      rw [seqIndex_of h0 h5] at h1
      exact Option.some.inj h1
    exact item_listR pl.isList h0 (by omega) (by rw [hj]; simpa using ew) fin hs
  · have hj : (i + (its.toArray.size : Int)).toNat = j := by
      rw [seqIndex_neg (by omega) h4] at h1
      rw [List.size_toArray, ← hl]
      exact Option.some.inj h1
    exact subscriptTail_builtinR (x := w) pl.isList.typeIs slot_list_getitem.lookup
      (wpAny_getItem_list_neg (Q := fun r s' => r = w ∧ EP X pins σ Q r s') pl.isList (by omega) (by rw [List.size_toArray] <;> omega) (by omega) (by rw [hj]; simpa using ew) ⟨rfl, fin⟩) hs
theorem ix_tup : IxR X (rIxT X.K) := by
  intro value slice pins s σ H x y v u Q I rx ry h hs
  obtain ⟨p, xs, i, z, rfl, rfl, hq, he, q⟩ := h
  cases rx
  obtain ⟨t, rfl⟩ := ry
  obtain ⟨its, r, pl, hz⟩ := I.tuple hq
  obtain ⟨j, h1, h2, h3, h4, h5⟩ := atI_get he
  obtain ⟨w, ew, rw'⟩ := r.get h2
  have hl := r.length
  have hn := line63
  have fin : EP X pins σ Q w s := ⟨z, H, I, rw', q⟩
  exact subscriptTail_builtinR (x := w) pl.typeIs slot_tuple_getitem.lookup
    (getItem_tuple (j := j) (Q := fun r s' => r = w ∧ EP X pins σ Q r s') pl (by omega) (by omega) (by rw [List.size_toArray, ← hl]; exact h1) (by simpa using ew) ⟨rfl, fin⟩) hs
theorem ix_str : IxR X rIxS := by
  intro value slice pins s σ H x y v u Q I rx ry h hs
  obtain ⟨z, i, c, rfl, rfl, hz, he, q⟩ := h
  obtain ⟨t, rfl⟩ := rx
  obtain ⟨t', rfl⟩ := ry
  obtain ⟨j, h1, h2, h3, h4, h5⟩ := atI_get he
  have hl : z.cps.toList.length = z.length := by simp [Str.length]
  rw [hl] at h1 h4 h5
  have hn := line63
  exact tail_any (typeIs_str s z t) slot_str_getitem.lookup (getItem_str (c := c) (by
    have e1 : decide (i < -(2 ^ 63 : Int)) = false := decide_eq_false (by omega)
    have e2 : decide (i ≥ 2 ^ 63) = false := decide_eq_false (by omega)
    rw [e1, e2, Bool.or_false]) (by rw [h1]; simpa using h2) ⟨.str ⟨#[c]⟩, H, I.tok _, ⟨_, rfl⟩, q⟩) hs
def rIx (K : PySem.W.Frag) : R2 := fun x y H Q => rIxL K x y H Q ∨ rIxT K x y H Q ∨ rIxS x y H Q
theorem ix_seq : IxR X (rIx X.K) := ix_list.or (ix_tup.or ix_str)
theorem mapSeq_set (its : List Value) (n j : Nat) (u : Value) : Obj.mapSeq (·.setIfInBounds j u) { cls := .type "list", data := .seq its.toArray n } = { cls := .type "list", data := .seq (its.set j u).toArray n } := by
  simp [Obj.mapSeq]
theorem Inv.lst {pins : List (Addr × Obj)} {σ : St} {H : Hp} {s : Shared} {p : Addr} {xs : List V} (I : Inv X pins σ H s) (h : H p = some (.lst xs)) :
    ∃ (its : List Value) (n : Nat), Vals xs its ∧ s.heap.get? p = some { cls := .type "list", data := .seq its.toArray n } ∧ xs.length ≤ sizeLine := by
  obtain ⟨z, its, n, r, e⟩ := I.hok p _ h
  exact ⟨its, n, r, e, z⟩
theorem Inv.lstUpd {pins : List (Addr × Obj)} {σ : St} {H : Hp} {s : Shared} {p : Addr} {xs ys : List V} {its its' : List Value} {n n' : Nat} {f : Obj → Obj} (I : Inv X pins σ H s) (h : H p = some (.lst xs))
    (ho : s.heap.get? p = some { cls := .type "list", data := .seq its.toArray n }) (hf : f { cls := .type "list", data := .seq its.toArray n } = { cls := .type "list", data := .seq its'.toArray n' }) (r : Vals ys its') (hz : ys.length ≤ sizeLine) (t : Nat) :
    Inv X pins σ (upd H p (.lst ys)) { s with heap := s.heap.update p f, toks := t } := by
  have e : (s.heap.update p f).get? p = some { cls := .type "list", data := .seq its'.toArray n' } := by
    rw [Heap.get?_update_self f ho (by rw [hf] <;> rfl), hf]
  refine I.write (x := p) (e := p) (by rw [h]; trivial) (.inl rfl) (fun b u hb q => (Heap.get?_update_other _ _ (Ne.symm hb)).trans q) ⟨_, e⟩ ?_
  exact ⟨hz, its', n', r, e⟩
def rSetL : V → V → V → Hp → (Hp → Prop) → Prop := fun o i v H Q => ∃ p xs k j, o = .ref p ∧ i = .int k ∧ H p = some (.lst xs) ∧ ixN xs.length k = some j ∧ Q (upd H p (.lst (xs.set j v)))
theorem set_list : PSet X rSetL := by
  intro pins s σ H o i v ov iv u Q I ro ri rv h
  obtain ⟨p, xs, k, j, rfl, rfl, hp, hj, q⟩ := h
  cases ro
  obtain ⟨t, rfl⟩ := ri
  obtain ⟨its, n, r, ho, hz⟩ := I.lst hp
  obtain ⟨h1, h2, h3, h4⟩ := ixN_seq hj
  have hl := r.length
  have hn := line63
  have I' : Inv X pins σ (upd H p (.lst (xs.set j v))) { s with heap := s.heap.update p (Obj.mapSeq (·.setIfInBounds j u)) } :=
    I.lstUpd hp ho (mapSeq_set its n j u) (r.set rv j) (by rw [List.length_set]; exact hz) s.toks
  by_cases h0 : 0 ≤ k
  · have hk : k.toNat = j := by
      rw [seqIndex_of h0 h4] at h1
      exact Option.some.inj h1
    exact PySem.W.ki_setAt ho h0 (by omega) (by rw [List.size_toArray, ← hl]; exact h4) (by rw [hk]; exact ⟨_, I', q⟩)
  · have hk : (k + (its.toArray.size : Int)).toNat = j := by
      rw [seqIndex_neg (by omega) h3] at h1
      rw [List.size_toArray, ← hl]
      exact Option.some.inj h1
    exact PySem.W.ki_setBack ho (by omega) (by rw [List.size_toArray, ← hl]; exact h3) (by omega) (by rw [hk]; exact ⟨_, I', q⟩)
theorem slice_bounds (lo hi : Option Int) (n : Nat) : (sliceBounds lo hi none n).1 = ((HT.sIx n 0 lo : Nat) : Int) ∧ (sliceBounds lo hi none n).2.1 = ((HT.sIx n n hi : Nat) : Int) ∧ (sliceBounds lo hi none n).2.2 = 1 := by
  refine ⟨?_, ?_, rfl⟩
  · cases lo with
    | none => simp [sliceBounds, HT.sIx]
    | some i =>
      simp only [sliceBounds, HT.sIx, Option.getD_none, show (1 : Int) > 0 by decide, if_true]
      by_cases h : i < 0
      · simp only [h, if_true] <;> omega
      · simp only [h, if_false] <;> omega
  · cases hi with
    | none => simp [sliceBounds, HT.sIx]
    | some i =>
      simp only [sliceBounds, HT.sIx, Option.getD_none, show (1 : Int) > 0 by decide, if_true]
      by_cases h : i < 0
      · simp only [h, if_true] <;> omega
      · simp only [h, if_false] <;> omega
theorem slicePick_cut (its : List Value) (lo hi : Option Int) : slicePick its.toArray lo hi none = ((its.drop (HT.sIx its.length 0 lo)).take (HT.sIx its.length its.length hi - HT.sIx its.length 0 lo)).toArray := by
  obtain ⟨h1, h2, h3⟩ := slice_bounds lo hi its.toArray.size
  unfold slicePick
  rw [h1, h2, h3]
  simp only [sliceRange_one, pick_run, List.size_toArray] <;> rfl
def rSlL (K : PySem.W.Frag) : V → Option Int → Option Int → Hp → VK → Prop := fun x lo hi H Q => ∃ a xs, x = .ref a ∧ SqL K H a xs ∧ ∀ p, H p = none → Q (.ref p) (upd H p (.lst (cutV xs lo hi)))
theorem sl_list : SlR X (rSlL X.K) := by
  intro pins s σ H x v vl vu lo hi sl Q I rx hs pl pu h
  obtain ⟨a, xs, rfl, hx, q⟩ := h
  cases rx
  obtain ⟨its, r, ht, hz⟩ := I.list hx
  have hlen := r.length
  refine ⟨"list", _, slot_list_getitem.lookup, ht.isList.typeIs, ?_⟩
  refine wpAny_getItem_list_slice ht.isList hs pl pu .none (by simp) ?_ (by rw [List.size_toArray] <;> omega)
  rw [slicePick_cut, ← hlen]
  refine ⟨.ref s.heap.objs.size, _, I.laid (t' := s.toks) (o := .lst (cutV xs lo hi)) (fun b ob q => Heap.get?_push_of_some _ q) (Nat.le_refl _) ?_, rfl, q _ (I.hok.fresh (Nat.le_refl _))⟩
  exact ⟨Nat.le_trans (cutV_length xs lo hi) hz, _, 0, (r.drop (HT.sIx xs.length 0 lo)).take (HT.sIx xs.length xs.length hi - HT.sIx xs.length 0 lo), Heap.get?_push_size _ rfl⟩
theorem call_len_seq : CallR X (.builtin "len") (fun xs H Q => ∃ p ys, xs = [.ref p] ∧ (SqL X.K H p ys ∨ SqT X.K H p ys) ∧ Q (.int ys.length) H) := by
  intro pins s σ H xs us Q I r h
  obtain ⟨p, ys, rfl, hq, q⟩ := h
  obtain ⟨u, rfl, rx⟩ := vals1 r
  cases rx
  have hn := line63
  rcases hq with hq | hq
  · obtain ⟨its, r', pl, hz⟩ := I.list hq
    have hlen := r'.length
    exact Calls.call_len_list pl.isList (by simp only [List.size_toArray] <;> omega) ⟨.int ys.length, H, I.tok _, ⟨s.toks + 1, by rw [List.size_toArray, hlen]⟩, q⟩
  · obtain ⟨its, r', pl, hz⟩ := I.tuple hq
    have hlen := r'.length
    exact len_tuple pl (by simp only [List.size_toArray] <;> omega) ⟨.int ys.length, H, I.tok _, ⟨s.toks + 1, by rw [List.size_toArray, hlen]⟩, q⟩
theorem call_len_str : CallR X (.builtin "len") (fun xs H Q => ∃ z, xs = [.str z] ∧ z.length ≤ sizeLine ∧ Q (.int z.length) H) := by
  intro pins s σ H xs us Q I r h
  obtain ⟨z, rfl, hz, q⟩ := h
  obtain ⟨u, rfl, t, rfl⟩ := vals1 r
  have hn := line63
  exact len_str (by omega) ⟨.int z.length, H, I.tok _, ⟨_, rfl⟩, q⟩
theorem call_tuple_of : CallR X (.type "tuple") (fun xs H Q => ∃ p ys, xs = [.ref p] ∧ ((SqL X.K H p ys ∧ ∀ l, H l = none → Q (.ref l) (upd H l (.tup ys))) ∨ (SqT X.K H p ys ∧ Q (.ref p) H))) := by
  intro pins s σ H xs us Q I r h
  obtain ⟨p, ys, rfl, h⟩ := h
  obtain ⟨u, rfl, rx⟩ := vals1 r
  cases rx
  rcases h with ⟨hq, q⟩ | ⟨hq, q⟩
  · obtain ⟨its, r', pl, hz⟩ := I.list hq
    have hlen := r'.length
    refine call_tuple_list pl.isList (fun h' kp => ?_) (by simp only [List.size_toArray] <;> omega)
    have I1 : Inv X pins σ H { s with heap := h' } := I.kept (t' := s.toks) kp
    have I2 : Inv X pins σ (upd H h'.objs.size (.tup ys)) { s with heap := h'.push { cls := .type "tuple", data := .seq its.toArray } } :=
      I1.laid (t' := s.toks) (fun b o e => Heap.get?_push_of_some _ e) (Nat.le_refl _) (show ObjOk X.prog X.w _ _ _ (.tup ys) from ⟨⟨hz, ⟨_, Heap.get?_push_size _ rfl, rfl⟩⟩, its, r', IsTup.new _ _⟩)
    exact ⟨.ref h'.objs.size, _, I2, rfl, q _ (I1.hok.fresh (Nat.le_refl _))⟩
  · obtain ⟨its, r', pl, hz⟩ := I.tuple hq
    exact call_tuple_same pl ⟨.ref p, H, I, rfl, q⟩
def tyV (K : PySem.W.Frag) (T : String) (x : V) (H : Hp) : Prop := match x with
  | .str _ => T = "str"
  | .int _ => T = "int"
  | .ref p => (T = "list" ∧ ∃ xs, SqL K H p xs) ∨ (T = "tuple" ∧ ∃ o, K.lookup p = some o ∧ o.cls = .type "tuple" ∧ o.dict = none) ∨
      (T = "dict" ∧ ((∃ kvs, H p = some (.dK kvs)) ∨ ∃ kvs, H p = some (.dT kvs))) ∨ (T = "set" ∧ ∃ S n, H p = some (.set S n))
  | _ => False
theorem tyV_is {pins : List (Addr × Obj)} {σ : St} {H : Hp} {s : Shared} {T : String} {x : V} {v : Value} (I : Inv X pins σ H s) (r : RelV x v) (ty : tyV X.K T x H) :
    s.TypeIs v T ∧ ∀ a, v = .ref a → ∃ ob, s.heap.get? a = some ob ∧ ob.dict = none := by
  cases x with
  | str z =>
    obtain ⟨t, rfl⟩ := r
    cases (show T = "str" from ty)
    exact ⟨typeIs_str s z t, fun _ e => nomatch e⟩
  | int i =>
    obtain ⟨t, rfl⟩ := r
    cases (show T = "int" from ty)
    exact ⟨typeIs_int s i t, fun _ e => nomatch e⟩
  | ref p =>
    cases r
    rcases ty with ⟨rfl, xs, hq⟩ | ⟨rfl, o, hk, hc, hd⟩ | ⟨rfl, hk⟩ | ⟨rfl, S, n, hk⟩
    · obtain ⟨its, _, pl, _⟩ := I.list hq
      refine ⟨pl.isList.typeIs, fun a e => ?_⟩
      cases e
      obtain ⟨o, n, e, c, hd, _⟩ := pl
      exact ⟨o, e, hd⟩
    · refine ⟨⟨o, I.kIn p o hk, hc⟩, fun a e => ?_⟩
      cases e
      exact ⟨o, I.kIn _ o hk, hd⟩
    · have z : ∃ o, s.heap.get? p = some o ∧ o.ExactDict := by
        rcases hk with ⟨kvs, hk⟩ | ⟨kvs, hk⟩
        · obtain ⟨_, _, _, _, o, _, _, e, ex, _⟩ := I.hok p _ hk
          exact ⟨o, e, ex⟩
        · obtain ⟨_, _, _, _, o, _, _, e, ex, _⟩ := I.hok p _ hk
          exact ⟨o, e, ex⟩
      obtain ⟨o, e, ex⟩ := z
      refine ⟨⟨o, e, ex.1⟩, fun a e2 => ?_⟩
      cases e2
      exact ⟨o, e, ex.2.1⟩
    · obtain ⟨o, _, _, _, e, ex, _⟩ := I.hok p _ hk
      refine ⟨⟨o, e, ex.1⟩, fun a e2 => ?_⟩
      cases e2
      exact ⟨o, e, ex.2.1⟩
  | _ => exact False.elim ty
def tBM (K : PySem.W.Frag) (T : String) (r : V → List V → Hp → VK → Prop) (to : TE) (t : TA) : TE := fun σ H Q => to σ H fun x H1 => tyV K T x H1 ∧ t σ H1 fun xs H2 => r x xs H2 Q
variable {o e : Expr} {es : List Expr} {to : TE} {t : TA} {name : Str} {apos cpos : Pos} {T id : String} {r : V → List V → Hp → VK → Prop}
theorem pe_bm (pa : PlainAttrs T) (slot : Slot T name id) (hty : typeOf (.builtin id) = pure (.type "method_descriptor")) (hm : MtR X id r) (ho : PE X o to) (ha : PA X (e :: es) t)
    (hbase : attributeBase o name X.env (eval o X.env) = eval o X.env := by rfl)
    (hfew : ((backTo cpos (starEach (e :: es) X.env)).all (fun x => !x.1) && (backToKw cpos (keywordEach [] X.env)).all (fun x => x.1.isSome)
      && decide ((e :: es).length + ([] : List Keyword).length + (if ([] : List Keyword).isEmpty then 0 else 1) < 30)) = true := by rfl)
    (hline : (apos.endLine == cpos.line) = true := by rfl) (hs : starEach (e :: es) X.env = (false, eval e X.env) :: starEach es X.env := by rfl) (hplain : (backTo cpos (starEach es X.env)).any (·.1) = false := by rfl) :
    PE X (.Call (.Attribute o name apos) (e :: es) [] cpos) (tBM X.K T r to t) := by
  intro pins s σ H Q I h
  refine wpAny_Call_method_late hbase hfew hline rfl (thn (ho pins s σ H _ I h) fun v s1 ⟨x, H1, I1, r1, ty, q1⟩ => ?_)
  obtain ⟨h1, h2⟩ := tyV_is I1 r1 ty
  refine ⟨T, id, pa, slot, hty, h1, h2, ?_⟩
  have hA := ha cpos pins s1 σ H1 _ I1 q1
  rw [hs] at hA ⊢
  refine Calls.callWith_builtin (by show (false || (backTo cpos (starEach es X.env)).any (·.1)) = false; rw [hplain] <;> rfl) (Calls.evalArgs_plain ?_)
  exact thn hA fun us s2 ⟨vs, H2, I2, r2, q2⟩ => hm pins s2 σ H2 x vs v us Q I2 r1 r2 q2
end
end L2
namespace L2
open PySem PySem.Spec PyProof.Rows
def MtM (X : Cx) (id : String) (r : V → List V → Hp → VK → Prop) : Prop :=
  ∀ (pins : List (Addr × Obj)) (s : Shared) (σ : St) (H : Hp) (x : V) (xs : List V) (v : Value) (us : List Value) (Q : VK), Inv X pins σ H s → RelV x v → Vals xs us → r x xs H Q →
    wpAny (model X.prog X.w) X.A (call (.builtin id) (v :: us)) (EP X pins σ Q) X.xe s
theorem Vals.one : ∀ {x : V} {us : List Value}, Vals [x] us → ∃ u, us = [u] ∧ RelV x u
  | _, _, .cons r .nil => ⟨_, rfl, r⟩
section
variable {X : Cx} {pins : List (Addr × Obj)} {σ : St} {H : Hp} {s : Shared} {l b : Addr} {xs ys zs : List V}
theorem Inv.lset {its its' : List Value} {n : Nat} {f : Array Value → Array Value} {t' : Nat} (I : Inv X pins σ H s) (hH : H l = some (.lst xs))
    (e : s.heap.get? l = some { cls := .type "list", data := .seq its.toArray n }) (hf : f its.toArray = its'.toArray) (hv : Vals ys its') (hz : ys.length ≤ sizeLine) :
    Inv X pins σ (upd H l (.lst ys)) { s with heap := s.heap.update l (Obj.mapSeq f), toks := t' } := by
  have q := PySem.IsL.update e f
  rw [hf] at q
  refine I.write (x := l) (e := l) (by rw [hH]; exact trivial) (.inl rfl) (fun b' u hb hu => (Heap.get?_update_other s.heap (Obj.mapSeq f) (Ne.symm hb)).trans hu) ⟨_, q⟩ ?_
  exact ⟨hz, its', _, hv, q⟩
theorem Inv.lstM (I : Inv X pins σ H s) (hH : H l = some (.lst xs)) : xs.length ≤ sizeLine ∧ ∃ (its : List Value) (n : Nat), Vals xs its ∧ xs.length = its.length ∧ s.heap.get? l = some { cls := .type "list", data := .seq its.toArray n } := by
  obtain ⟨z, its, n, r, e⟩ := I.hok l _ hH
  exact ⟨z, its, n, r, r.length, e⟩
end
section
variable {X : Cx}
def rAppend : V → List V → Hp → VK → Prop := fun x vs H Q => ∃ l xs y, x = .ref l ∧ vs = [y] ∧ H l = some (.lst xs) ∧ xs.length < sizeLine ∧ Q .non (upd H l (.lst (xs ++ [y])))
theorem mt_append : MtM X "list.append" rAppend := by
  intro pins s σ H x vs v us Q I rx rv h
  obtain ⟨l, xs, y, rfl, rfl, hH, hz, q⟩ := h
  cases rx
  obtain ⟨u, rfl, ru⟩ := rv.one
  obtain ⟨z, its, n, r, hl, e⟩ := I.lstM hH
  refine call_meets F.slot_list_append ⟨_, e, rfl⟩ F.entry_list_append (F.args_list_append_2 _ _) (PySem.list_append l its.toArray n u (by rw [List.size_toArray]; omega)) ⟨e, ?_⟩
  refine ⟨.non, _, I.lset (its' := its ++ [u]) hH e (by simp) (r.append (.cons ru .nil)) ?_, rfl, q⟩
  rw [List.length_append, List.length_singleton]
  omega
end
end L2
namespace Att
open PySem PySem.W PySem.Calls PyProof.Rows
theorem ints_of_wellAll {P : Params} {h : Heap} : ∀ (ns : List Int) (vs : List Value), WellAll P h vs (ns.map WData.int) → IntsAre vs ns := by
  intro ns
  induction ns with
  | nil =>
    intro vs w
    rw [List.map_nil] at w
    cases w
    exact .nil
  | cons n ns ih =>
    intro vs w
    rw [List.map_cons] at w
    cases w with
    | cons a b =>
      cases a
      exact .cons _ _ (ih _ b)
theorem script_of {l : OpenLaw} {n : Nat} (hn : l.most = some n) {P : Params} {h : Heap} {args : List WData} {vals : List Value}
    (hpre : l.row.toRowW.claim.pre args = true) (hwl : WellAll P h vals args) :
    ∃ a vs ns, vals = [Value.ref a] ∧ args = [WData.list (ns.map WData.int)] ∧ h.get? a = some { cls := .type "list", data := .seq vs.toArray } ∧ IntsAre vs ns ∧ ns.length ≤ n := by
  have hsh : WShape.hasAll [] args [.list .int] = true := (pre_splitW hpre).1
  have hc : l.pre.holds [] { args := args } = true := (pre_splitW hpre).2
  obtain ⟨d, r, rfl, h1, h2⟩ := hasAllW_cons hsh
  obtain rfl := hasAllW_nil h2
  obtain ⟨xs, rfl, h3⟩ := hasW_list h1
  obtain ⟨ns, rfl⟩ := items_int h3
  have hlen : ns.length ≤ n := by
    unfold OpenLaw.pre at hc
    have h4 : (WTm.not (.lt (.lit (.int (n : Int))) (.len (.arg 0)))).holds [] { args := [.list (ns.map .int)] } = true := by
      have h4 := (holds_andW hc).1
      rw [hn] at h4
      exact h4
    have h5 := condW_of h4 (w_not (w_lt w_lit (w_len_list (w_arg rfl))))
    rw [List.length_map] at h5
    refine Nat.le_of_not_lt fun q => ?_
    have q' : (n : Int) < ((ns.length : Nat) : Int) := by omega
    first
      | (rw [decide_eq_true q'] at h5; exact absurd h5 (by decide))
      | (simp at h5; omega)
  cases hwl with
  | cons w1 w2 =>
    cases w2
    cases w1 with
    | list ho hall => exact ⟨_, _, ns, rfl, rfl, ho, ints_of_wellAll ns _ hall, hlen⟩
theorem post_true (l : OpenLaw) (args : List WData) : l.row.toRowW.claim.post args (.bool true) args = true :=
  postW_of (r := l.row.toRowW) (X := (true == true))
    (show WShape.has [] (.bool true) .bool = true by first | rfl | decide | simp [WShape.has, WShape.arms, WShape.armsAll])
    (show (WTm.eq .res (.lit (.bool true))).value [] { args := args, res := some (.bool true), after := args } = some (.bool (true == true)) from w_eq_bool (w_res rfl) w_lit) rfl
theorem attach_call {l : OpenLaw} {n : Nat} {q : Program} {loose : List Str} {XP : (Str → Option Value) → Heap → Prop} {YP : World → Heap → Prop} {d : DefRec}
    (hn : l.most = some n) (hdf : d.params.defaults = [])
    (call : ∀ (w : World) (s₀ s₁ : Shared) (mg mb : Str → Option Value) (fa : Addr) (o : Obj) (pm cd doc : Value) (a : Addr) (vs : List Value) (ns : List Int),
      Ground q loose [] XP w s₀ mg mb s₁.heap → YP w s₁.heap →
      s₁.heap.get? fa = some o → o.data = .func (docDef d.name d.params d.body d.scope pm cd doc) → s₁.heap.CodeRec cd d.name → mg d.name = some (.ref fa) →
      s₁.heap.get? a = some { cls := .type "list", data := .seq vs.toArray } → IntsAre vs ns → ns.length ≤ n → s₁.gens = #[] →
      codeAny (model l.prog w) callerA (.call (.ref fa) ⟨[.ref a], []⟩) (fun r s' => r = .ok (.ret (.bool true)) ∧ OldK s₁.heap s'.heap ∧ s'.os = s₁.os ∧ AllBare s'.gens) s₁) :
    WalkO q loose XP YP l.row.toRowW d [] (fun f vs => PySem.call f vs) := by
  intro w s₀ s₁ mg mb G Y fa o pm cd doc dV kV ho hd hcd hD hmg hg args vals as hpre hlay hrd hwl hlo
  obtain rfl : dV = .none := Dflts.none hD hdf
  obtain rfl : kV = .none := Dflts.noKw hD
  obtain ⟨a, vs, ns, rfl, rfl, hobj, hints, hlen⟩ := script_of hn hpre hwl
  refine enter_call (codeAny_mono (call w s₀ s₁ mg mb fa o pm cd doc a vs ns G Y ho (fd_plain hd) hcd hmg hobj hints hlen hg) fun r s' hq => ?_)
  obtain ⟨rfl, h2, h3, h4⟩ := hq
  exact ⟨.inl ⟨.bool true, .bool true, [], rfl, fun _ => rfl, .bool true, post_true l _, fun _ => ⟨List.Pairwise.nil, fun _ hm => (nomatch hm)⟩⟩, h2, h3, h4⟩
end Att
namespace L2
open PySem PySem.Spec PyProof.Rows
theorem vals_ints : ∀ {vs : List Value} {ns : List Int}, IntsAre vs ns → Vals (ns.map V.int) vs
  | _, _, .nil => .nil
  | _, _, .cons n t h => .cons ⟨t, rfl⟩ (vals_ints h)
def Only (H : Hp) : Prop := ∀ b, H b = none ∨ ∃ o xs, H b = some (.frz o (.lst xs))
theorem law_call {P : Program} {w : World} {K : PySem.W.Frag} {mg mb : Str → Option Value} {CX : CXT} {k : Nat} {fa a : Addr} {fd : FuncData} {x : Str} {sp : Sp} {s₁ : Shared} {vs : List Value} {ns : List Int}
    (KX : K.In s₁.heap) (hns : s₁.heap.Ns mainGlobals mg) (hb : s₁.heap.Ns builtinsNs mb) (hbb : ∀ x : Str, x ≠ "__name__" → mb x = bootBuiltins x) (hlim : s₁.heap.NoLimit) (hg : s₁.gens = #[])
    (ha : s₁.heap.get? a = some { cls := .type "list", data := .seq vs.toArray }) (hi : IntsAre vs ns) (hl : ns.length ≤ sizeLine) (hr : Room k callerA)
    (F : ∀ base : Heap, K.In base → base.Ns mainGlobals mg → FnOk P w K mg base CX k fa fd [x] sp) (hbind : ∀ (s : Shared) (u : Value), BindsTo s fd ⟨[u], []⟩ [(x, u)])
    (hsp : ∀ H : Hp, Only H → SqL K H a (ns.map V.int) → sp [.ref a] H (fun v _ => v = .bl true) fun _ _ _ => False)
    (hCX : ∀ H e s', CX [] H s₁ (fun _ _ _ => False) e s' → False) :
    codeAny (model P w) callerA (.call (.ref fa) ⟨[.ref a], []⟩) (fun r s' => r = .ok (.ret (.bool true)) ∧ OldK s₁.heap s'.heap ∧ s'.os = s₁.os ∧ AllBare s'.gens) s₁ := by
  have rv := vals_ints hi
  have lenV := hi.length
  have core : ∀ H : Hp, Only H → SqL K H a (ns.map V.int) → HOk P w H s₁.heap → (∀ b, H b ≠ none → b = a) → (H a ≠ none → K.lookup a = none) →
      codeAny (model P w) callerA (.call (.ref fa) ⟨[.ref a], []⟩) (fun r s' => r = .ok (.ret (.bool true)) ∧ OldK s₁.heap s'.heap ∧ s'.os = s₁.os ∧ AllBare s'.gens) s₁ := by
    intro H hO hS hok hA hK
    have base_of : ∀ {b : Addr} {o : Obj}, s₁.heap.get? b = some o → H b = none → (hidT s₁.heap H).get? b = some o := fun e n => hidT_get e n
    have noA : ∀ {b : Addr} {o : Obj} {es : Array DictEntry} {ep : Nat}, s₁.heap.get? b = some o → o.data = .dict es ep → H b = none := fun {b o es ep} e d => by
      cases q : H b with
      | none => rfl
      | some u =>
        have e' : b = a := hA b (by rw [q]; simp)
        subst e'
        rw [ha] at e; cases e
        have d' : Data.seq vs.toArray _ = Data.dict es ep := d
        cases d'
    have nsK : ∀ {b : Addr} {m : Str → Option Value}, s₁.heap.Ns b m → (hidT s₁.heap H).Ns b m := fun {b m} ⟨o, es, ep, e, d, r⟩ => ⟨o, es, ep, base_of e (noA e d), d, r⟩
    have hKb : K.In (hidT s₁.heap H) := fun b o e => base_of (KX b o e) (by
      cases q : H b with
      | none => rfl
      | some u =>
        have e' : b = a := hA b (by rw [q]; simp)
        subst e'
        rw [hK (by rw [q]; simp)] at e; cases e)
    have hM : Mod K mg (hidT s₁.heap H) := ⟨hKb, nsK hns, ⟨mb, nsK hb, hbb⟩, let ⟨mc, h1, h2⟩ := hlim; ⟨mc, nsK h1, h2⟩⟩
    have e0 : Env0 P w K mg (hidT s₁.heap H) callerA [] s₁ H := ⟨rfl, hM, fun b o e => of_hidT e, Nat.le_of_eq (hidT_size _ _), trivial, fun b hb => absurd (show b ∈ ([] : List Addr) from hb) (by simp), hok, .of_eq hg⟩
    refine codeAny_mono ((F _ hKb (nsK hns)).run callerA [] s₁ H ⟨[.ref a], []⟩ [.ref a] [.ref a] _ _ hr e0 (hbind s₁ (.ref a)) (.cons rfl .nil) (hsp H hO hS)) fun r s' h => ?_
    cases r with
    | error e => exact (hCX H e s' h).elim
    | ok fl =>
      cases fl with
      | next => exact False.elim h
      | brk => exact False.elim h
      | cont => exact False.elim h
      | ret u =>
        obtain ⟨v, H', os, bare, un, hok', r', q⟩ := h
        have q' : v = .bl true := q
        subst q'
        obtain rfl : u = Value.bool true := r'
        refine ⟨rfl, OldK.of_keep fun b o e => ?_, os, bare⟩
        cases q : H b with
        | none => exact un.keep b o e q (by intro z; exact absurd (show b ∈ ([] : List Addr) from z) (by simp)) (by simp)
        | some u =>
          rcases hO b with z | ⟨ob, xs, z⟩
          · rw [q] at z; cases z
          · have z2 := un.frzs b ob _ z
            obtain ⟨e1, _⟩ := hok b _ z
            obtain ⟨e2, _⟩ := hok' b _ z2
            rw [e] at e1; cases e1
            exact e2
  cases hk : K.lookup a with
  | some o =>
    have e := KX a o hk
    rw [ha] at e
    cases e
    refine core (fun _ => none) (fun _ => .inl rfl) (.inr ⟨_, vs.toArray, _, hk, rfl, rfl, rfl, by rw [List.size_toArray, lenV]; exact hl, by simpa using rv⟩) (fun b u z => by have z' : (none : Option HO) = some u := z; cases z') (fun b z => absurd rfl z) fun z => absurd rfl z
  | none =>
    refine core (fun b => if b = a then some (.frz { cls := .type "list", data := .seq vs.toArray } (.lst (ns.map V.int))) else none) (fun b => ?_) (.inl (.inr ⟨{ cls := .type "list", data := .seq vs.toArray }, if_pos rfl⟩)) (fun b u z => ?_) (fun b z => ?_) fun _ => hk
    · by_cases hb : b = a
      · exact .inr ⟨_, _, if_pos hb⟩
      · exact .inl (if_neg hb)
    · by_cases hb : b = a
      · have z' := (if_pos hb).symm.trans z
        cases z'
        subst hb
        exact ⟨ha, by rw [List.length_map]; exact hl, vs, _, rv, ha⟩
      · have z' := (if_neg hb).symm.trans z
        cases z'
    · by_cases hb : b = a
      · exact hb
      · exact absurd (if_neg hb) z
end L2
namespace L2
open PySem PySem.Spec PyProof.Rows
theorem walk_of {l : PySem.W.OpenLaw} {n k : Nat} {q : Program} {loose : List Str} {XP : (Str → Option Value) → Heap → Prop} {YP : World → Heap → Prop} {d : DefRec} {K : Params → PySem.W.Frag} {CX : World → CXT} {sp : World → Sp} {x : Str}
    (hn : l.most = some n) (hn2 : n ≤ sizeLine) (hdf : d.params.defaults = []) (hr : Room k callerA)
    (hY : ∀ (w : World) (h : Heap), YP w h → (K w.params).In h)
    (F : ∀ (w : World) (mg : Str → Option Value) (fa : Addr) (h : Heap), (K w.params).In h → h.Ns mainGlobals mg → mg d.name = some (.ref fa) →
      ∃ fd : FuncData, (∀ (s : Shared) (u : Value), BindsTo s fd ⟨[u], []⟩ [(x, u)]) ∧
        ∀ base : Heap, (K w.params).In base → base.Ns mainGlobals mg → FnOk l.prog w (K w.params) mg base (CX w) k fa fd [x] (sp w))
    (hsp : ∀ (w : World) (H : Hp) (a : Addr) (ns : List Int), ns.length ≤ n → Only H → SqL (K w.params) H a (ns.map V.int) → sp w [.ref a] H (fun v _ => v = .bl true) fun _ _ _ => False)
    (hCX : ∀ (w : World) (H : Hp) (s : Shared) (e : Value) (s' : Shared), CX w [] H s (fun _ _ _ => False) e s' → False) :
    PySem.W.WalkO q loose XP YP l.row.toRowW d [] (fun f vs => PySem.call f vs) := by
  refine Att.attach_call hn hdf fun w s₀ s₁ mg mb fa o pm cd doc a vs ns G Y ho hd hcd hmg hobj hints hlen hg => ?_
  have KX := hY w _ Y
  obtain ⟨fd, hb, hF⟩ := F w mg fa _ KX G.T.g hmg
  exact law_call KX G.T.g G.T.b G.T.builtins G.T.nolimit hg hobj hints (Nat.le_trans hlen hn2) hr hF hb (fun H hO hS => hsp w H a ns hlen hO hS) fun H e s' => hCX w H s₁ e s'
end L2
namespace L2
open PySem PySem.Spec PyProof.Rows
def defArgs (s : Stmt) : Arguments := match s with
  | .FunctionDef _ a _ _ _ _ _ _ _ _ => a
  | _ => { posonlyargs := [], args := [], vararg := none, kwonlyargs := [], kw_defaults := [], kwarg := none, defaults := [] }
def defBody (s : Stmt) : List Stmt := match s with
  | .FunctionDef _ _ b _ _ _ _ _ _ _ => b
  | _ => []
def defScope (s : Stmt) : Scope := match s with
  | .FunctionDef _ _ _ _ _ _ sc _ _ _ => sc
  | _ => { kind := .function, names := [], isGenerator := false, isCoroutine := false }
abbrev CX0 : CXT := fun _ _ _ _ _ _ => False
abbrev E0 : XK := fun _ _ _ => False
theorem pass0 {X : Cx} : Passes CX0 X E0 := fun _ _ _ _ _ _ _ h => h.elim
structure Fun (K : PySem.W.Frag) (x qual : Str) (st : Stmt) (f : Addr) (fd : FuncData) : Prop where
  ex : ∃ (oc : Value) (od : Option Addr) (kV doc pm : Value) (an : Option Addr) (cdv ct : Value) (osl : Array (Option Value)),
    fd = PySem.W.fnOf x qual (defArgs st) (defBody st) (defScope st) .none kV doc pm an cdv ct ∧ K.lookup f = some ⟨oc, od, .func fd, osl⟩ ∧ PySem.W.codeIn K cdv qual = true
  kp : PySem.W.keepIn K (.ref f) = true
section
variable {P : Program} {w : World} {K : PySem.W.Frag} {mg : Str → Option Value} {base : Heap}
theorem Fun.ok {x qual : Str} {st : Stmt} {f : Addr} {fd : FuncData} {N ps : List Str} {k : Nat} {sp : Sp} (F : Fun K x qual st f fd) (S : FnScope N ps (defScope st)) (len : ∀ vs H Q E, sp vs H Q E → vs.length = ps.length)
    (hbody : ∀ (cdv : Value) (A : Around) (outer : List Env) (s : Shared) (H : Hp) (vs : List V) (Q : VK) (E : XK), Room k (A.deeper (envOfC qual (defScope st) s.heap.objs.size f cdv)) → sp vs H Q E →
      ∃ t, PSs (cxOf CX0 P w K mg base N qual (defScope st) f cdv A outer s H E).nox (defBody st) t ∧ t { nx := fun _ H' => Q .non H', rt := Q } (start N vs) H) : FnOk P w K mg base CX0 (k + 1) f fd ps sp := by
  obtain ⟨oc, od, kV, doc, pm, an, cdv, ct, osl, rfl, lk, hcd⟩ := F.ex
  refine fn_of lk hcd S len fun A outer s H vs Q E hr hsp => ?_
  obtain ⟨t, h, q⟩ := hbody cdv A outer s H vs Q E hr hsp
  exact ⟨t, h.nox, q⟩
theorem Fun.binds {x qual : Str} {st : Stmt} {f : Addr} {fd : FuncData} {ps : List Str} (F : Fun K x qual st f fd)
    (h : ∀ (kV doc pm : Value) (an : Option Addr) (cdv ct : Value) (us : List Value), us.length = ps.length → bindArgs (PySem.W.fnOf x qual (defArgs st) (defBody st) (defScope st) .none kV doc pm an cdv ct) ⟨us, []⟩ = pure (ps.zip us)) : Binds K fd ps [] := by
  obtain ⟨oc, od, kV, doc, pm, an, cdv, ct, osl, rfl, lk, hcd⟩ := F.ex
  exact .all (h kV doc pm an cdv ct)
theorem fun_mk {x qual : Str} {st : Stmt} {f : Addr} {oc : Value} {od an : Option Addr} {osl : Array (Option Value)} {kV doc pm cdv ct : Value} (l : K.lookup f = some ⟨oc, od, .func (PySem.W.fnOf x qual (defArgs st) (defBody st) (defScope st) .none kV doc pm an cdv ct), osl⟩)
    (c : PySem.W.codeIn K cdv qual = true) (k : PySem.W.keepIn K (.ref f) = true) : Fun K x qual st f (PySem.W.fnOf x qual (defArgs st) (defBody st) (defScope st) .none kV doc pm an cdv ct) := ⟨⟨oc, od, kV, doc, pm, an, cdv, ct, osl, rfl, l, c⟩, k⟩
end
end L2
namespace L2
open PySem PySem.Spec PyProof.Rows
abbrev Go (prog : Program) (w : World) (A : Around) {α : Type} (t : Sem α) (Q : α → Shared → Prop) (s : Shared) : Prop := wpAny (model prog w) A t Q (fun _ _ => False) s
def tests (env : Env) (ifs : List Expr) : Sem Bool := forIn ifs true fun c r =>
  if r = true then (isTrue c env (eval c env) >>= fun ok => pure (ForInStep.yield ok)) else pure (ForInStep.yield r)
def OneItem (prog : Program) (w : World) (A : Around) (target elt : Expr) (ifs : List Expr) (it acc : Value) (env : Env) (fin : Shared → Prop) (v : Value) (s : Shared) : Prop :=
  Go prog w A (letOwnedTupleGo target it v) (fun _ s1 => Go prog w A (assign target env v) (fun _ s2 => Go prog w A (tests env ifs) (fun ok s3 =>
    if ok = true then Go prog w A (eval elt env) (fun x s4 => Go prog w A (call (.builtin "list.append") [acc, x]) (fun _ s5 => fin s5) s4) s3 else fin s3) s2) s1) s
theorem compLoop_go {prog : Program} {w : World} {A : Around} {R : Result → Shared → Prop} {s : Shared} {elt target iter : Expr} {ifs : List Expr} {scope : Scope} {pos : Pos} {it acc : Value} {env : Env} (J : Nat → Shared → Prop)
    (turn : ∀ (n : Nat) (z : Shared), J n z → Go prog w A (pyNext it) (fun r z1 => match r with
      | .none => R (.ok .next) z1
      | .some v => OneItem prog w A target elt ifs it acc env (fun z2 => ∃ m, m < n ∧ J m z2) v z1) z) (n : Nat) (h : J n s) :
    codeAny (model prog w) A (Code.compLoop (Expr.ListComp elt [⟨target, iter, ifs, 0⟩] scope pos) 0 it acc env) R s := by
  have step : ∀ (n : Nat) (z : Shared), J n z → Go prog w A (compTurn (Expr.ListComp elt [⟨target, iter, ifs, 0⟩] scope pos) 0 it acc env)
      (fun fin z' => match fin with
        | .done f => R (.ok f) z'
        | .again c' => c' = Code.compLoop (Expr.ListComp elt [⟨target, iter, ifs, 0⟩] scope pos) 0 it acc env ∧ ∃ m, m < n ∧ J m z') z := by
    intro n z hz
    rw [compTurn_list]
    refine wpAny_bind (wpAny_standAt (wpAny_bind (thn (turn n z hz) fun r z1 h1 => ?_)))
    cases r with
    | none => exact wpAny_pure h1
    | some v =>
      refine wpAny_bind (thn h1 fun _ z2 h2 => wpAny_bind (thn h2 fun _ z3 h3 => wpAny_bind (thn h3 fun ok z4 h4 => ?_)))
      cases ok with
      | false => exact wpAny_pure (And.intro rfl h4)
      | true => exact wpAny_bind (wpAny_bind (thn h4 fun x z5 h5 => wpAny_bind (thn h5 fun _ z6 h6 => wpAny_pure (wpAny_pure (And.intro rfl h6)))))
  refine codeAny_loop rfl J (fun n z hz => ?_) n h
  exact wpAny_noted (wpAny_mono (step n z hz) (fun _ _ q => q) fun _ _ q => q.elim)
theorem closure_of {scope : Scope} {env : Env} (h : ∀ y ∈ scope.names, y.2 = .free → ∃ c, env.cells.lookup y.1 = some c) :
    ∃ cl, closureFor scope env = pure cl ∧ (∀ x c, cl.lookup x = some c → env.cells.lookup x = some c) ∧ ∀ y ∈ scope.names, y.2 = .free → ∃ c, cl.lookup y.1 = some c := by
  have gen : ∀ (l : List (Str × NameKind)) (acc : List (Str × Addr)), (∀ y ∈ l, y.2 = .free → ∃ c, env.cells.lookup y.1 = some c) → (∀ x c, acc.lookup x = some c → env.cells.lookup x = some c) →
      ∃ cl, (forIn l acc fun (x : Str × NameKind) (r : List (Str × Addr)) => if (x.2 == NameKind.free) = true then do let c ← cellOf env x.1; pure (ForInStep.yield ((x.1, c) :: r)) else pure (ForInStep.yield r)) = (pure cl : Sem (List (Str × Addr))) ∧
        (∀ x c, cl.lookup x = some c → env.cells.lookup x = some c) ∧ (∀ y ∈ l, y.2 = .free → ∃ c, cl.lookup y.1 = some c) ∧ ∀ x c, acc.lookup x = some c → ∃ c', cl.lookup x = some c' := by
    intro l
    induction l with
    | nil => intro acc _ ha; exact ⟨acc, rfl, ha, fun _ z => (nomatch z), fun x c e => ⟨c, e⟩⟩
    | cons y r ih =>
      intro acc hl ha
      obtain ⟨n, k⟩ := y
      by_cases hk : k = .free
      · subst hk
        obtain ⟨c, hc⟩ := hl (n, .free) List.mem_cons_self rfl
        have ha' : ∀ x c', ((n, c) :: acc).lookup x = some c' → env.cells.lookup x = some c' := fun x c' e => by
          by_cases hx : x = n
          · subst hx
            have hb : (x == x) = true := beq_iff_eq.mpr rfl
            simp only [List.lookup, hb] at e
            cases e; exact hc
          · have hb : (x == n) = false := beq_eq_false_iff_ne.mpr hx
            simp only [List.lookup, hb] at e
            exact ha x c' e
        obtain ⟨cl, h1, h2, h3, h4⟩ := ih ((n, c) :: acc) (fun y hy => hl y (List.mem_cons_of_mem _ hy)) ha'
        refine ⟨cl, ?_, h2, fun y hy hf => ?_, fun x c' e => ?_⟩
        · rw [List.forIn_cons]
          have e : cellOf env n = pure c := by unfold cellOf; rw [hc]
          simp only [beq_self_eq_true, if_true, e, pure_bind]
          exact h1
        · refine (List.mem_cons.mp hy).elim (fun z => ?_) fun hy => ?_
          · subst z
            have hb : (n == n) = true := beq_iff_eq.mpr rfl
            exact h4 n c (by simp only [List.lookup, hb])
          · exact h3 y hy hf
        · by_cases hx : x = n
          · subst hx
            have hb : (x == x) = true := beq_iff_eq.mpr rfl
            exact h4 x c (by simp only [List.lookup, hb])
          · have hb : (x == n) = false := beq_eq_false_iff_ne.mpr hx
            exact h4 x c' (by simp only [List.lookup, hb]; exact e)
      · obtain ⟨cl, h1, h2, h3, h4⟩ := ih acc (fun y hy => hl y (List.mem_cons_of_mem _ hy)) ha
        refine ⟨cl, ?_, h2, fun y hy hf => ?_, h4⟩
        · rw [List.forIn_cons]
          have e : (k == NameKind.free) = false := by simpa using hk
          simp only [e, Bool.false_eq_true, if_false, pure_bind]
          exact h1
        · refine (List.mem_cons.mp hy).elim (fun z => ?_) fun hy => ?_
          · subst z
            exact absurd hf hk
          · exact h3 y hy hf
  obtain ⟨cl, h1, h2, h3, _⟩ := gen scope.names [] h (fun x c e => by simp at e)
  refine ⟨cl, ?_, h2, h3⟩
  unfold closureFor
  rw [← h1]
  simp only [bind_pure]
end L2
namespace L2
open PySem PySem.Spec PyProof.Rows
def compCx (X : Cx) (scope : Scope) (N : List Str) (cl : List (Str × Addr)) (C : Addr) (s₁ : Shared) (H₁ : Hp) (fp : List Addr) : Cx where
  prog := X.prog
  w := X.w
  K := X.K
  mg := X.mg
  base := X.base
  A := X.A
  N := N
  s₀ := s₁
  H₀ := H₁
  env := compEnvC scope cl C X.env
  outer := X.stack
  stack := X.stack
  ex := fp
  fn := fun _ => false
  calm := X.calm
  pn := []
  xe := fun _ _ => False
def PF (X : Cx) (ifs : List Expr) (t : TT) : Prop :=
  ∀ (pins : List (Addr × Obj)) (s : Shared) (σ : St) (H : Hp) (Q : Bool → Hp → Prop), Inv X pins σ H s → t σ H Q →
    wpAny (model X.prog X.w) X.A (tests X.env ifs) (TP X pins σ Q) X.xe s
def tYes : TT := fun _ H Q => Q true H
theorem pf_nil {X : Cx} : PF X [] tYes := fun _ _ _ H _ I h => wpAny_tests_nil ⟨H, I, h⟩
theorem pf_one {X : Cx} {c : Expr} {t : TT} (h : PT X c t) : PF X [c] t := fun pins s σ H Q I q => wpAny_tests_one (h pins s σ H Q I q)
def FvOk (X : Cx) (sc : Scope) : List (Nat × Str) → Prop
  | [] => True
  | p :: r => (X.N[p.1]? = some p.2 ∧ (X.env.scope.names.lookup p.2 = some .cell ∨ X.env.scope.names.lookup p.2 = some .free) ∧ (sc.names.lookup p.2 = some .cell ∨ sc.names.lookup p.2 = some .free)) ∧ FvOk X sc r
theorem FvOk.get {X : Cx} {sc : Scope} : ∀ {l : List (Nat × Str)} {k : Nat} {p : Nat × Str}, FvOk X sc l → l[k]? = some p →
    X.N[p.1]? = some p.2 ∧ (X.env.scope.names.lookup p.2 = some .cell ∨ X.env.scope.names.lookup p.2 = some .free) ∧ (sc.names.lookup p.2 = some .cell ∨ sc.names.lookup p.2 = some .free)
  | [], _, _, _, h => (by simp at h)
  | _ :: _, 0, _, hf, h => by simp at h; subst h; exact hf.1
  | _ :: _, k + 1, _, hf, h => FvOk.get (k := k) hf.2 (by simpa using h)
def st0 (nc : Nat) (fv : List (Nat × Str)) (σ : St) : St := List.replicate nc none ++ fv.map fun p => σ.getD p.1 none
def LcGo (J : It) (st : St) (g : TG) (tt : TT) (te : TE) (Q : VK) (H1 : Hp) : Prop :=
  ∃ W : Nat → Nat → List V → St → Hp → Prop, (∃ m, W 0 m [] st H1) ∧ ∀ i m ys σ' H', W i m ys σ' H' → ys.length ≤ sizeLine ∧
    ((J.stop i H' ∧ ∀ p, H' p = none → Q (.ref p) (upd H' p (.lst ys))) ∨
      (J.go i H' ∧ ∀ x H2, J.yld i H' x H2 → g x σ' H2 fun σ3 H3 => tt σ3 H3 fun b H4 =>
        if b = true then te σ3 H4 fun v H5 => ∃ m', m' < m ∧ W (i + 1) m' (ys ++ [v]) σ3 H5 else ∃ m', m' < m ∧ W (i + 1) m' ys σ3 H4))
def tLC (wi : TI) (nc : Nat) (fv : List (Nat × Str)) (g : TG) (tt : TT) (te : TE) : TE := fun σ H Q => wi σ H fun J H1 => LcGo J (st0 nc fv σ) g tt te Q H1
theorem relabel_mem {scope : Scope} {env : Env} {x : Str} (hcell : ∀ y ∈ scope.names, y.2 ≠ .cell)
    (h : (relabel scope env).names.lookup x = some .cell ∨ (relabel scope env).names.lookup x = some .free) : (x, NameKind.free) ∈ scope.names := by
  have key : ∀ k, (relabel scope env).names.lookup x = some k → k = .cell ∨ k = .free → (x, NameKind.free) ∈ scope.names := fun k hk hkk => by
    have hm := PySem.mem_of_lookup hk
    obtain ⟨⟨n, k'⟩, hy, e⟩ := List.mem_map.mp hm
    dsimp only at e
    by_cases hc : (k' == NameKind.free && env.scope.kind == .function && env.kindOf n == some .cell) = true
    · rw [if_pos hc] at e
      cases e
      have : k' = .free := by
        rw [Bool.and_eq_true, Bool.and_eq_true] at hc
        exact beq_iff_eq.mp hc.1.1
      subst this
      exact hy
    · rw [if_neg hc] at e
      cases e
      rcases hkk with e | e
      · subst e; exact absurd rfl (hcell _ hy)
      · subst e; exact hy
  rcases h with h | h
  · exact key _ h (.inl rfl)
  · exact key _ h (.inr rfl)
theorem Un.lay {fs ex : List Addr} {H H' : Hp} {h h' : Heap} {D : Addr} {o : HO} (u : Un fs ex H H' h h') (hD : h.objs.size ≤ D) (hn : H' D = none) : Un fs ex H (upd H' D o) h h' where
  keep := u.keep
  slot := u.slot
  free := fun b ob q n hx => by
    rw [upd_ne (Nat.ne_of_lt (Nat.lt_of_lt_of_le (Heap.lt_size q) hD))]
    exact u.free b ob q n hx
  there := u.there
  tups := fun b xs q => by have := u.tups b xs q; rw [upd_ne (ne_of_none this hn)]; exact this
  frzs := fun b ob xs q => by have := u.frzs b ob xs q; rw [upd_ne (ne_of_none this hn)]; exact this
  tbls := fun b ps q => by
    obtain ⟨m, e⟩ := u.tbls b ps q
    exact ⟨m, by rw [upd_ne (ne_of_none e hn)]; exact e⟩
theorem HOk.lay {P : Program} {w : World} {H : Hp} {h : Heap} {D : Addr} {o : HO} (x : HOk P w H h) (hn : H D = none) (new : ObjOk P w (upd H D o) h D o) : HOk P w (upd H D o) h := fun b u e => by
  by_cases hb : b = D
  · subst hb; rw [upd_same] at e; cases e; exact new
  · rw [upd_ne hb] at e
    exact (x b u e).stay (fun c v _ q => q) (fun c q => by rw [upd_ne (ne_of_none q hn)]; exact q) fun c xs q => by rw [upd_ne (ne_of_none q hn)]; exact q
theorem Un.same {fs ex : List Addr} {H H' : Hp} {h h1 h2 : Heap} {C : Addr} (u : Un fs ex H H' h h1) (hC : h.objs.size ≤ C) (sb : Heap.SameBut C h1 h2) : Un fs ex H H' h h2 := by
  have ne : ∀ b o, h.get? b = some o → b ≠ C := fun b o e => Nat.ne_of_lt (Nat.lt_of_lt_of_le (Heap.lt_size e) hC)
  refine ⟨fun b o q n hb hx => (sb.2 b (ne b o q)).trans (u.keep b o q n hb hx), fun b o q n hb hx => ?_, u.free, fun b o q hx => ?_, u.tups, u.frzs, u.tbls⟩
  · obtain ⟨sl, e⟩ := u.slot b o q n hb hx
    exact ⟨sl, (sb.2 b (ne b o q)).trans e⟩
  · obtain ⟨o', e⟩ := u.there b o q hx
    exact ⟨o', (sb.2 b (ne b o q)).trans e⟩
theorem HOk.same {P : Program} {w : World} {H : Hp} {h1 h2 : Heap} {C : Addr} (x : HOk P w H h1) (hn : H C = none) (sb : Heap.SameBut C h1 h2) : HOk P w H h2 := fun b u e => by
  refine (x b u e).stay (fun c v hc q => (sb.2 c ?_).trans q) (fun _ q => q) fun _ _ q => q
  rcases hc with rfl | hc
  · exact ne_of_none e hn
  · exact ne_of_none hc hn
section
variable {X : Cx} {tg iter elt : Expr} {ifs : List Expr} {scope : Scope} {pos : Pos} {wi : TI} {own : List Str} {fv : List (Nat × Str)} {g : TG} {tt : TT} {te : TE}
structure LcOk (X : Cx) (scope : Scope) (fv : List (Nat × Str)) : Prop where
  calm : X.calm = true
  kind : scope.kind = .function
  cell : ∀ y ∈ scope.names, y.2 ≠ .cell
  names : ∀ y ∈ scope.names, y.2 = .local → scope.names.lookup y.1 = some .local
  free : ∀ y ∈ scope.names, y.2 = .free → X.env.kindOf y.1 = some .cell ∨ X.env.kindOf y.1 = some .free
  fv : FvOk X (relabel scope X.env) fv
theorem comp_start {pins : List (Addr × Obj)} {σ : St} {H : Hp} {s : Shared} {fp : List Addr} {cl : List (Str × Addr)} {h₁ : Heap} {own : List Str} (I : Inv X pins σ H s) (L : LcOk X scope fv) (hf : ∀ b ∈ fp, FpOk X pins H b) (hfo : ∀ b ∈ fp, ∃ o, s.heap.get? b = some o)
    (hsub : ∀ x c, cl.lookup x = some c → X.env.cells.lookup x = some c) (hhas : ∀ y ∈ scope.names, y.2 = .free → ∃ c, cl.lookup y.1 = some c)
    (hns : h₁.Ns (s.heap.objs.size + 1) (fun x => ([] : List (Str × Value)).reverse.lookup x)) (hold : ∀ b o, s.heap.get? b = some o → h₁.get? b = some o) (hD : h₁.get? s.heap.objs.size = some { cls := .type "list", data := .seq #[] 0 }) {tk : Nat} :
    Inv (compCx X scope (own ++ fv.map (·.2)) cl (s.heap.objs.size + 1) s H fp) [(s.heap.objs.size, { cls := .type "list", data := .seq #[] 0 })] (st0 own.length fv σ) H { s with heap := h₁, toks := tk } := by
  have nst : ∀ b, s.heap.objs.size ≤ b → b ∉ frs X.stack := fun b hb hm => by
    rcases List.mem_cons.mp (I.stkSub b hm) with e | e
    · exact absurd I.lt (by rw [← e]; exact Nat.not_lt.mpr hb)
    · exact I.nofs hb e
  have fpst : ∀ b ∈ fp, b ∉ frs X.stack := fun b hb hm => by
    obtain ⟨_, f1, f2, _⟩ := hf b hb
    rcases List.mem_cons.mp (I.stkSub b hm) with e | e
    · exact f1 e
    · exact f2 e
  have celllt : ∀ x c, cl.lookup x = some c → c < s.heap.objs.size := fun x c e => by
    obtain ⟨v, z⟩ := I.cell x c (hsub x c e)
    exact z.lt
  refine ⟨⟨I.ok.mod, L.kind, I.ok.glob, I.ok.blt, Nat.le_succ _, fun x y c h1 h2 => I.ok.inj x y c (hsub _ _ h1) (hsub _ _ h2), fun x hx => hhas (x, .free) (relabel_mem L.cell hx) rfl, fun _ _ z => Bool.noConfusion z, I.ok.hd, I.ok.frames, .inl rfl,
      fun b hb => ⟨?_, fun x c e z => ?_⟩, I.bs, Nat.le_trans I.ok.bsz I.sz, fun b o e hb => ?_, fpst, I.stack, I.stkFree⟩,
    rfl, I.bare, Un.kept hold, ⟨_, hns, fun i x v e1 e2 e3 => ?_⟩, fun x c e => ?_, I.hok.fresh (Nat.le_succ _), fun x c e => I.freeC x c (hsub x c e), fun p hp => ?_, I.hok.kept hold, ?_⟩
  · obtain ⟨o, e⟩ := hfo b hb
    exact Nat.ne_of_lt (Nat.lt_succ_of_lt (Heap.lt_size e))
  · exact (hf b hb).2.2.2.2.1 x c (hsub x c e) z
  · obtain ⟨_, _, _, f3, _⟩ := hf b hb
    rcases f3 with f3 | f3
    · exact I.ok.noex b o e f3
    · exact absurd (Nat.lt_of_lt_of_le (Heap.lt_size e) (Nat.le_trans I.ok.bsz f3)) (Nat.lt_irrefl _)
  · -- a name that is read
    have e1' : (own ++ fv.map (·.2))[i]? = some x := e1
    unfold st0 at e2
    by_cases hi : i < own.length
    · rw [List.getElem?_append_left (by simpa using hi), List.getElem?_replicate] at e2
      split at e2 <;> cases e2
    · rw [List.getElem?_append_right (by simpa using hi), List.length_replicate, List.getElem?_map] at e2
      rw [List.getElem?_append_right (by simpa using hi), List.getElem?_map] at e1'
      cases hp : fv[i - own.length]? with
      | none => rw [hp] at e1'; cases e1'
      | some p =>
        rw [hp] at e1' e2
        have ex : p.2 = x := Option.some.inj e1'
        have ev : σ.getD p.1 none = some v := Option.some.inj e2
        obtain ⟨q1, q2, q3⟩ := L.fv.get hp
        rw [ex] at q1 q2 q3
        have hσ : σ[p.1]? = some (some v) := by
          rw [List.getD_eq_getElem?_getD] at ev
          cases q : σ[p.1]? with
          | none => rw [q] at ev; cases ev
          | some w => rw [q] at ev; exact congrArg some ev
        obtain ⟨m, _, hl⟩ := I.loc
        obtain ⟨u, r, l⟩ := hl p.1 x v q1 hσ (by rcases q2 with z | z; exact .inr (.inl z); exact .inr (.inr z))
        refine ⟨u, r, .inr ⟨q3, ?_⟩⟩
        rcases l with ⟨k, _⟩ | ⟨_, c, ec, z⟩
        · exfalso
          have k' : X.env.scope.names.lookup x = some .local := k
          rcases q2 with z | z <;> rw [k'] at z <;> cases z
        · obtain ⟨c', ec'⟩ := hhas (x, .free) (relabel_mem L.cell q3) rfl
          have : c' = c := Option.some.inj ((hsub x c' ec').symm.trans ec)
          subst this
          obtain ⟨o, ho, hd⟩ := z
          exact ⟨c', ec', o, hold _ _ ho, hd⟩
  · obtain ⟨v, o, ho, hd⟩ := I.cell x c (hsub x c e)
    exact ⟨v, o, hold _ _ ho, hd⟩
  · have e : p = (s.heap.objs.size, { cls := .type "list", data := .seq #[] 0 }) := by simpa [compCx] using hp
    subst e
    exact ⟨hD, I.hok.fresh (Nat.le_refl _), Nat.ne_of_lt (Nat.lt_succ_self _), nst _ (Nat.le_refl _), fun v z => by cases z⟩
  · show (st0 own.length fv σ).length = (own ++ fv.map (·.2)).length
    unfold st0
    simp
theorem pe_lc (L : LcOk X scope fv) (hi : PI X tg iter wi)
    (hg : ∀ cl C s₁ H₁ fp, PG (compCx X scope (own ++ fv.map (·.2)) cl C s₁ H₁ fp) tg g)
    (ht : ∀ cl C s₁ H₁ fp, PF (compCx X scope (own ++ fv.map (·.2)) cl C s₁ H₁ fp) ifs tt)
    (he : ∀ cl C s₁ H₁ fp, PE (compCx X scope (own ++ fv.map (·.2)) cl C s₁ H₁ fp) elt te)
    (hs : ∀ x, foldedSetIterable iter X.env x = pure x := by intro _; rfl) :
    PE X (.ListComp elt [⟨tg, iter, ifs, 0⟩] scope pos) (tLC wi own.length fv g tt te) := by
  intro pins s σ H Q I h
  rw [eval_ListComp]
  obtain ⟨cl, hclos, hsub, hhas⟩ := closure_of (scope := scope) (env := X.env) fun y hy hf => I.ok.has y.1 (L.free y hy hf)
  refine wpAny_comprehension_free (use := none) rfl hs hclos L.kind L.names (thn (hi pins s σ H _ I h) fun v s1 h1 => thn h1 fun itv s2 h2 => ?_)
  obtain ⟨it, fp, tn, J, H2, e, I2, T, st2, f2, W, ⟨m0, w0⟩, turn⟩ := h2
  subst e
  have hfo : ∀ b ∈ fp, ∃ o, s2.heap.get? b = some o := fun b hb => let ⟨o, e, _⟩ := T.obj _ _ st2 b hb; ⟨o, e⟩
  refine wpAny_newObj_type (wpAny_newFunctionEnv L.cell (by intro y hy; simp at hy) (fun h₁ hns₁ hsb₁ => ?_) L.kind)
  dsimp only at hns₁ hsb₁ ⊢
  have hCe : (s2.heap.push { cls := .type "list", dict := none, data := .seq ([] : List Value).toArray }).objs.size = s2.heap.objs.size + 1 := Heap.size_push _ _
  rw [hCe] at hns₁ hsb₁ ⊢
  have old : ∀ b o, s2.heap.get? b = some o → h₁.get? b = some o := fun b o e => hsb₁.extBut b o (Nat.ne_of_lt (Nat.lt_succ_of_lt (Heap.lt_size e))) (Heap.get?_push_of_some _ (Heap.get?_push_of_some _ e))
  have hD₁ : h₁.get? s2.heap.objs.size = some { cls := .type "list", data := .seq #[] 0 } := hsb₁.extBut _ _ (Nat.ne_of_lt (Nat.lt_succ_self _)) (Heap.get?_push_of_some _ (Heap.get?_push_size _ rfl))
  have I4 := comp_start (own := own) (tk := s2.toks + ([] : List (Str × Value)).length) I2 L f2 hfo hsub hhas hns₁ old hD₁
  generalize hXc : compCx X scope (own ++ fv.map (·.2)) cl (s2.heap.objs.size + 1) s2 H2 fp = Xc at I4
  have hg' := hg cl (s2.heap.objs.size + 1) s2 H2 fp
  have ht' := ht cl (s2.heap.objs.size + 1) s2 H2 fp
  have he' := he cl (s2.heap.objs.size + 1) s2 H2 fp
  have st4 : tn 0 h₁ := T.keep _ _ _ st2 fun b _ o e => old b o e
  have celllt : ∀ x c, cl.lookup x = some c → c < s2.heap.objs.size := fun x c e => by
    obtain ⟨v, z⟩ := I2.cell x c (hsub x c e)
    exact z.lt
  have nst : s2.heap.objs.size ∉ frs X.stack := fun hm => by
    rcases List.mem_cons.mp (I2.stkSub _ hm) with e | e
    · exact absurd I2.lt (by rw [← e]; exact Nat.lt_irrefl _)
    · exact I2.nofs (Nat.le_refl _) e
  rw [hXc] at hg' ht' he'
  have loop : ∀ s4 : Shared, s4 = { s2 with heap := h₁, toks := s2.toks + ([] : List (Str × Value)).length } →
      codeAny (model X.prog X.w) X.A (.compLoop (.ListComp elt [⟨tg, iter, ifs, 0⟩] scope pos) 0 (.ref it) (.ref s2.heap.objs.size) (compEnvC scope cl (s2.heap.objs.size + 1) X.env))
        (compPost (model X.prog X.w) X.A X.xe none (EP X pins σ Q) (.ref s2.heap.objs.size) (s2.heap.objs.size + 1)) s4 := by
    rintro s4 rfl
    have fpok : ∀ {pl : List (Addr × Obj)} {H' : Hp}, (∀ p ∈ pl, p.1 = s2.heap.objs.size) → (∀ b ∈ fp, H' b = none) → ∀ b ∈ fp, FpOk Xc pl H' b := fun {pl H'} hpl hn b hb => by
      obtain ⟨o, eo⟩ := hfo b hb
      have blt := Heap.lt_size eo
      subst hXc
      refine ⟨hn b hb, Nat.ne_of_lt (Nat.lt_succ_of_lt blt), fun hm => ?_, .inl hb, fun x c e => (f2 b hb).2.2.2.2.1 x c (hsub x c e), fun p hp => ?_⟩
      · obtain ⟨_, f1, f3, _⟩ := f2 b hb
        rcases List.mem_cons.mp (I2.stkSub b hm) with e | e
        · exact f1 e
        · exact f3 e
      · have hp' : p ∈ pl := by simpa [compCx] using hp
        rw [hpl p hp']
        exact Nat.ne_of_gt blt
    have xP : Xc.prog = X.prog := by subst hXc; rfl
    have xw : Xc.w = X.w := by subst hXc; rfl
    have xK : Xc.K = X.K := by subst hXc; rfl
    have xA : Xc.A = X.A := by subst hXc; rfl
    have xc : Xc.calm = true := by subst hXc; exact L.calm
    have xx : Xc.xe = fun _ _ => False := by subst hXc; rfl
    have xe : Xc.env = compEnvC scope cl (s2.heap.objs.size + 1) X.env := by subst hXc; rfl
    have xs : Xc.s₀ = s2 := by subst hXc; rfl
    have xH : Xc.H₀ = H2 := by subst hXc; rfl
    have xf : Xc.fs = frs X.stack := by subst hXc; rfl
    have xex : Xc.ex = fp := by subst hXc; rfl
    have xpn : Xc.pn = [] := by subst hXc; rfl
    refine compLoop_go (fun n s' => ∃ i ys its k σ' H', Inv Xc [(s2.heap.objs.size, { cls := .type "list", data := .seq its k })] σ' H' s' ∧ Vals ys its.toList ∧ tn i s'.heap ∧ (∀ b ∈ fp, H' b = none) ∧ W i n ys σ' H') ?_ m0
      ⟨0, [], #[], 0, _, H2, I4, .nil, st4, fun b hb => (f2 b hb).1, w0⟩
    rintro n s5 ⟨i, ys, its, k, σ5, H5, I5, r5, st5, fr5, w5⟩
    obtain ⟨hlen, hst⟩ := turn i n ys σ5 H5 w5
    have hf5 := fpok (pl := [(s2.heap.objs.size, { cls := .type "list", data := .seq its k })]) (fun p hp => by simp at hp; rw [hp]) fr5
    rcases hst with ⟨stop, qn⟩ | ⟨go, step⟩
    · -- the end
      have d := T.done Xc xP xw xK xc i _ s5 σ5 H5 (fun _ _ => False) I5 hf5 st5 stop
      rw [xA] at d
      refine thn d fun r s6 ⟨hr, I6⟩ => ?_
      subst hr
      obtain ⟨m, hn, _⟩ := I6.loc
      rw [xe] at hn
      refine ⟨m, hn, fun h' sb => ?_⟩
      obtain ⟨eD, nD, _⟩ := I6.pin (s2.heap.objs.size, _) (List.mem_append_right _ (List.mem_singleton.mpr rfl))
      have nC : H5 (s2.heap.objs.size + 1) = none := by have := I6.free; rw [xe] at this; exact this
      refine ⟨.ref s2.heap.objs.size, upd H5 s2.heap.objs.size (.lst ys), ?_, rfl, qn _ nD⟩
      have U : Un (frs X.stack) fp H2 H5 s2.heap s6.heap := by have := I6.base; rw [xf, xex, xs, xH] at this; exact this
      have ok6 : HOk X.prog X.w H5 s6.heap := by have := I6.hok; rw [xP, xw] at this; exact this
      have eD' : h'.get? s2.heap.objs.size = some { cls := .type "list", data := .seq its k } := (sb.2 _ (Nat.ne_of_lt (Nat.lt_succ_self _))).trans eD
      refine I2.call' (s' := { s6 with heap := h' }) (by have := I6.os; rw [xs] at this; exact this) ((U.same (Nat.le_succ _) sb).lay (Nat.le_refl _) nD) ((ok6.same nC sb).lay nD ?_) I6.bare fun b hb => ?_
      · exact ⟨hlen, its.toList, k, r5, by simpa using eD'⟩
      · obtain ⟨_, f1, _, f3, f4, f5⟩ := f2 b hb
        exact ⟨f3, f1, f4, f5⟩
    · have d := T.item Xc xP xw xK xc i _ s5 σ5 H5 (fun _ _ => False) I5 hf5 st5 go
      rw [xA] at d
      refine thn d fun r s6 ⟨u, hr, h6⟩ => ?_
      subst hr
      refine thn h6 fun _ s7 ⟨x, H7, I7, r7, y7, st7, fr7⟩ => ?_
      have I7' := I7.pinned (fpok (pl := [(s2.heap.objs.size, { cls := .type "list", data := .seq its k })]) (fun p hp => by simp at hp; rw [hp]) fr7) (T.obj _ _ st7)
      have a := hg' _ s7 σ5 H7 x u _ I7' r7 (step x H7 y7)
      rw [xP, xw, xA, xx, xe] at a
      refine thn a fun _ s8 ⟨σ8, H8, I8, q8⟩ => ?_
      have b := ht' _ s8 σ8 H8 _ I8 q8
      rw [xP, xw, xA, xx, xe] at b
      refine thn b fun ok s9 ⟨H9, I9, q9⟩ => ?_
      have back : ∀ {s' : Shared} {σ' : St} {H' : Hp}, Inv Xc ([(s2.heap.objs.size, { cls := .type "list", data := .seq its k })] ++ pinsAt fp s7.heap) σ' H' s' →
          tn (i + 1) s'.heap ∧ (∀ b ∈ fp, H' b = none) ∧ s'.heap.get? s2.heap.objs.size = some { cls := .type "list", data := .seq its k } ∧ H' s2.heap.objs.size = none := fun {s' σ' H'} J' => by
        refine ⟨T.keep _ _ _ st7 fun b hb o e => (J'.pin (b, o) (List.mem_append_right _ (List.mem_append_right _ (mem_pinsAt hb e)))).1, fun b hb => ?_, ?_, ?_⟩
        · obtain ⟨o, e, _⟩ := T.obj _ _ st7 b hb
          exact (J'.pin (b, o) (List.mem_append_right _ (List.mem_append_right _ (mem_pinsAt hb e)))).2.1
        · exact (J'.pin (s2.heap.objs.size, _) (List.mem_append_right _ (List.mem_append_left _ (List.mem_singleton.mpr rfl)))).1
        · exact (J'.pin (s2.heap.objs.size, _) (List.mem_append_right _ (List.mem_append_left _ (List.mem_singleton.mpr rfl)))).2.1
      cases ok with
      | false =>
        rw [if_neg Bool.false_ne_true] at q9 ⊢
        obtain ⟨m', hm, w9⟩ := q9
        obtain ⟨b1, b2, _, _⟩ := back I9
        exact ⟨m', hm, i + 1, ys, its, k, σ8, H9, I9.unpinned, r5, b1, b2, w9⟩
      | true =>
        rw [if_pos rfl] at q9 ⊢
        have c := he' _ s9 σ8 H9 _ I9 q9
        rw [xP, xw, xA, xx, xe] at c
        refine thn c fun u' s10 ⟨y, H10, I10, r10, m', hm, w10⟩ => ?_
        obtain ⟨b1, b2, b3, b4⟩ := back I10
        have hz : its.size ≤ sizeLine := by
          have e := r5.length
          simp only [Array.length_toList] at e
          omega
        refine wpAny_list_append_plain (hsz := hz) ⟨k, b3⟩ fun h' hl' sb => ?_
        obtain ⟨k', hk'⟩ := hl'
        have I11 : Inv Xc [] σ8 H10 s10 := I10.pins_of fun p hp => nomatch hp
        have nDL : s2.heap.objs.size ≠ Xc.env.locals := by rw [xe]; exact Nat.ne_of_lt (Nat.lt_succ_self _)
        have I12 : Inv Xc [] σ8 H10 { s10 with heap := h' } := I11.turned (t' := s10.toks) (it := s2.heap.objs.size) (fun b o hb e => (sb.2 b hb).trans e) b4 nDL
          (.inr (by rw [xs]; exact Nat.le_refl _)) (fun x c e => by rw [xe] at e; exact Nat.ne_of_lt (celllt x c e)) (fun p hp => by rw [xpn] at hp; exact nomatch hp)
        have I13 : Inv Xc [(s2.heap.objs.size, { cls := .type "list", data := .seq (its.push u') k' })] σ8 H10 { s10 with heap := h' } := I12.pins_of fun p hp => by
          have e : p = (s2.heap.objs.size, { cls := .type "list", data := .seq (its.push u') k' }) := by simpa using hp
          subst e
          exact ⟨hk', b4, nDL, by rw [xf]; exact nst, fun v z => by cases z⟩
        refine ⟨m', hm, i + 1, ys ++ [y], its.push u', k', σ8, H10, I13, ?_, T.keep _ _ _ b1 fun b hb o e => (sb.2 b ?_).trans e, b2, w10⟩
        · rw [Array.toList_push]
          exact r5.append (.cons r10 .nil)
        · obtain ⟨o', eo⟩ := hfo b hb
          exact Nat.ne_of_lt (Heap.lt_size eo)
  exact codeAny_compStart_list (loop _ rfl) (T.self _ 0 _ _ _ st4 (loop _ rfl))
end
end L2
namespace L2
open PySem PySem.Spec PyProof.Rows
section
variable {X : Cx}
theorem op_is_bl : OpR X (compareOp .Is) (fun x y H Q => ∃ a b, x = .bl a ∧ y = .bl b ∧ Q (.bl (a == b)) H) := by
  intro pins s σ H x y v u Q I rx ry h
  obtain ⟨a, b, rfl, rfl, q⟩ := h
  cases rx
  cases ry
  exact is_bool (fin_bl I q rfl)
theorem op_mul_str : OpR X (binaryOp .Mult) (fun x y H Q => ∃ (z : Str) (n : Int), x = .str z ∧ y = .int n ∧ MulOk z n ∧ Q (.str (Txt.mul z n)) H) := by
  intro pins s σ H x y v u Q I rx ry h
  obtain ⟨z, n, rfl, rfl, hok, q⟩ := h
  obtain ⟨t, rfl⟩ := rx
  obtain ⟨t', rfl⟩ := ry
  exact SB.mul hok fun t' k => ⟨.str _, H, I.tok _, ⟨_, rfl⟩, q⟩
theorem part_of {v : Value} {o : Option Int} (p : IsPart v o) : ∃ l : Option (Int × Tok), v = partValue l ∧ l.map (·.1) = o := by
  cases p with
  | none => exact ⟨none, rfl, rfl⟩
  | int i t => exact ⟨some (i, t), rfl, rfl⟩
theorem sl_str : SlR X (fun x lo hi H Q => ∃ z : Str, x = .str z ∧ z.length ≤ sizeLine ∧ Q (.str (Txt.slice z lo hi)) H) := by
  intro pins s σ H x v vl vu lo hi sl Q I rx hs pl pu h
  obtain ⟨z, rfl, hz, q⟩ := h
  obtain ⟨t, rfl⟩ := rx
  obtain ⟨l, rfl, rfl⟩ := part_of pl
  obtain ⟨u, rfl, rfl⟩ := part_of pu
  refine ⟨"str", _, PySem.F.slot_str_getitem.lookup, typeIs_str _ _ _, ?_⟩
  refine wpAny_getItem_str_slice (l := l) (u := u) (st := none) hs rfl (post_val_or_str ⟨Nat.le_trans (Txt.slice_le z _ _) hz, fun t' k => ?_⟩)
  exact ⟨.str _, H, I.tok _, ⟨_, rfl⟩, q⟩
end
end L2
namespace L2
open PySem PySem.Spec PyProof.Rows
section
variable {X : Cx} {pins : List (Addr × Obj)} {σ : St} {H : Hp} {s : Shared} {h' : Heap}
theorem Inv.turnedL {t' : Nat} {ch : List Addr} (I : Inv X pins σ H s) (k : ∀ b o, b ∉ ch → s.heap.get? b = some o → h'.get? b = some o) (hf : ∀ b ∈ ch, FpOk X pins H b) : Inv X pins σ H { s with heap := h', toks := t' } := by
  have nit : ∀ b u, H b = some u → b ∉ ch := fun b u e z => by rw [(hf b z).1] at e; cases e
  refine I.step (g' := s.gens) (d' := s.drawn) (ch := ch) (fun b hb => ?_) (fun b o _ _ hc e _ => k b o hc e) (fun b o _ _ hc e _ => ⟨o.slots, k b o hc e⟩) (fun _ _ _ _ n => n) (fun b o hc e => ⟨o, k b o hc e⟩)
    (fun _ _ e => e) (fun _ _ _ e => e) (fun b ps e => ⟨#[], by rw [e]; simp⟩) (fun m hm => ?_) (fun b u e => ?_) I.bare
  · obtain ⟨_, f1, _, f3, f4, f5⟩ := hf b hb
    exact ⟨f3, f1, f4, f5⟩
  · obtain ⟨o, es, ep, ho, r⟩ := hm
    exact ⟨o, es, ep, k _ o (fun z => (hf _ z).2.1 rfl) ho, r⟩
  · refine (I.hok b u e).stay (fun c v hc q => k c v ?_ q) (fun _ q => q) fun _ _ q => q
    rcases hc with z | z
    · rw [z]; exact nit b u e
    · exact nit c _ z
theorem Inv.lay {T : Addr} {o : HO} (I : Inv X pins σ H s) (hf : FpOk X pins H T) (hs : X.s₀.heap.objs.size ≤ T) (new : ObjOk X.prog X.w (upd H T o) s.heap T o) : Inv X pins σ (upd H T o) s := by
  obtain ⟨f0, f1, f2, f3, f4, f5⟩ := hf
  refine ⟨I.ok, I.os, I.bare, I.base.lay hs f0, I.loc, I.cell, ?_, fun x c e => ?_, fun p hp => ?_, I.hok.lay f0 new, I.len⟩
  · rw [upd_ne (Ne.symm f1)]; exact I.free
  · rw [upd_ne (f4 x c e)]; exact I.freeC x c e
  · obtain ⟨e, n, r⟩ := I.pin p hp
    exact ⟨e, by rw [upd_ne (f5 p hp)]; exact n, r⟩
end
def Its (x : Str) : It := ⟨fun i _ => i < x.cps.size, fun i H v H' => H' = H ∧ ∃ c, x.cps[i]? = some c ∧ v = .str ⟨#[c]⟩, fun i _ => i = x.cps.size⟩
theorem turn_str {P : Program} {w : World} {K : PySem.W.Frag} {tg : Expr} {ty : String} (x : Str) (t : Tok) (it : Addr)
    (W : ∀ A : Around, A.handled = none → Walks P w A it [it] [it] x.cps.size (SignAt x) (fun i h => h.IsStrIter it ty x t i)) (W0 : ∀ A : Around, ∀ i (s : Shared) (Q : Value → Shared → Prop) (E : Value → Shared → Prop), s.heap.IsStrIter it ty x t i → Q (.ref it) s → wpAny (model P w) A (pyIter (.ref it)) Q E s)
    (hn : ["enumerate", "zip", "dict_itemiterator", "dict_reverseitemiterator", "odict_iterator", "itertools.zip_longest", "itertools.pairwise"].contains ty = false) : Turn P w K tg (Its x) [it] it (fun i h => h.IsStrIter it ty x t i) where
  mem := by simp
  obj := fun i h st b hb => by
    have e : b = it := by simpa using hb
    subst e
    obtain ⟨o, e, c, d⟩ := st
    exact ⟨o, e, fun v z => by rw [d] at z; cases z⟩
  keep := fun i h h' st k => by
    obtain ⟨o, e, r⟩ := st
    exact ⟨o, k it (by simp) o e, r⟩
  item := by
    intro X hP hw hK hc i pins s σ H E I hf st hg
    subst hP hw hK
    refine (W X.A (I.ok.hd hc)).item i s _ _ hg st fun v h' tk hv st' kk => ?_
    obtain ⟨c, u, hc', rfl⟩ := hv
    have I1 : Inv X pins σ H { s with heap := h', toks := tk } := I.turnedL kk hf
    obtain ⟨o, e, c2, d⟩ := id st'
    exact ⟨_, rfl, go_of (s := { s with heap := h', toks := tk }) e c2 d hn ⟨.str ⟨#[c]⟩, H, I1, ⟨u, rfl⟩, ⟨rfl, c, hc', rfl⟩, st', fun b hb => (hf b hb).1⟩⟩
  done := by
    intro X hP hw hK hc i pins s σ H E I hf st hg
    subst hP hw hK
    have e : i = x.cps.size := hg
    subst e
    exact (W X.A (I.ok.hd hc)).done s _ _ st fun h' tk kk => ⟨rfl, I.turnedL kk hf⟩
  self := fun A i s Q E st h => W0 A i s Q E st h
def iStr (tl : TE) : TI := fun σ H R => tl σ H fun x H1 => ∃ z, x = .str z ∧ R (Its z) H1
theorem pi_str {X : Cx} {tg l : Expr} {tl : TE} (hl : PE X l tl) : PI X tg l (iStr tl) := by
  intro pins s σ H R I h
  refine thn (hl pins s σ H _ I h) fun v s1 ⟨x, H1, I1, r1, q1⟩ => ?_
  obtain ⟨z, e, q⟩ := q1
  subst e
  obtain ⟨t, rfl⟩ := r1
  have fin : ∀ ty : String, (∀ A : Around, A.handled = none → Walks X.prog X.w A s1.heap.objs.size [s1.heap.objs.size] [s1.heap.objs.size] z.cps.size (SignAt z) (fun i h => h.IsStrIter s1.heap.objs.size ty z t i)) →
      (∀ A : Around, ∀ i (s : Shared) (Q : Value → Shared → Prop) (E : Value → Shared → Prop), s.heap.IsStrIter s1.heap.objs.size ty z t i → Q (.ref s1.heap.objs.size) s → wpAny (model X.prog X.w) A (pyIter (.ref s1.heap.objs.size)) Q E s) →
      ["enumerate", "zip", "dict_itemiterator", "dict_reverseitemiterator", "odict_iterator", "itertools.zip_longest", "itertools.pairwise"].contains ty = false →
      PIE X pins σ tg R (.ref s1.heap.objs.size) { s1 with heap := s1.heap.push { cls := .type ty, data := .fields #[.str z t, .int 0 0] } } := fun ty W W0 hn => by
    refine ⟨s1.heap.objs.size, [s1.heap.objs.size], _, _, H1, rfl, I1.kept (t' := s1.toks) fun b o e => Heap.get?_push_of_some _ e, turn_str z t _ W W0 hn, ⟨_, Heap.get?_push_size _ rfl, rfl, rfl⟩, fun b hb => ?_, q⟩
    have e : b = s1.heap.objs.size := by simpa using hb
    subst e
    exact I1.fpOk (Nat.le_refl _) (I1.hok.fresh (Nat.le_refl _))
  cases ha : z.cps.all (· < 128)
  · exact wpAny_pyIter_wide ha (fin _ (fun A hA => Walks.strWide hA _ z t) (fun A i s Q E st h => wpAny_pyIter_striter_wide st h) (by decide))
  · exact wpAny_pyIter_ascii ha (fin _ (fun A hA => Walks.strAscii hA _ z t) (fun A i s Q E st h => wpAny_pyIter_striter_ascii st h) (by decide))
def Itz (K : PySem.W.Frag) (a b : Addr) : It :=
  ⟨fun i H => ∃ xs ys x y, SqL K H a xs ∧ SqL K H b ys ∧ xs[i]? = some x ∧ ys[i]? = some y,
   fun i H v H' => ∃ T x y, v = .ref T ∧ H T = none ∧ H' = upd H T (.tup [x, y]) ∧ (∀ xs, SqL K H a xs → xs[i]? = some x) ∧ ∀ ys, SqL K H b ys → ys[i]? = some y,
   fun i H => ∃ xs ys, SqL K H a xs ∧ SqL K H b ys ∧ (xs.length ≤ i ∨ ys.length ≤ i)⟩
def zipSt (z TI TO i1 i2 l1 l2 : Addr) (i : Nat) (h : Heap) : Prop :=
  IsZip h z TI TO .none ∧ IsPair h TI (.ref i1) (.ref i2) ∧ (∃ a b, IsPair h TO a b) ∧ h.IsListIter i1 l1 i ∧ h.IsListIter i2 l2 i
theorem turn_zip {P : Program} {w : World} {K : PySem.W.Frag} {elts : List Expr} {k : Nat} {pos : Pos} (z TI TO i1 i2 l1 l2 : Addr) (D : ZipApart z TI TO i1 i2 l1 l2) :
    Turn P w K (.Tuple elts k pos) (Itz K l1 l2) [z, TI, TO, i1, i2] z (zipSt z TI TO i1 i2 l1 l2) where
  mem := by simp
  obj := fun i h st b hb => by
    obtain ⟨h1, h2, ⟨_, _, h3⟩, ⟨o4, h4, _, d4⟩, ⟨o5, h5, _, d5⟩⟩ := st
    have hb' : b = z ∨ b = TI ∨ b = TO ∨ b = i1 ∨ b = i2 := by simpa using hb
    rcases hb' with e | e | e | e | e <;> subst e
    · exact ⟨_, h1, fun v e => by cases e⟩
    · exact ⟨_, h2, fun v e => by cases e⟩
    · exact ⟨_, h3, fun v e => by cases e⟩
    · exact ⟨_, h4, fun v e => by rw [d4] at e; cases e⟩
    · exact ⟨_, h5, fun v e => by rw [d5] at e; cases e⟩
  keep := fun i h h' st kk => by
    obtain ⟨h1, h2, ⟨a, b, h3⟩, h4, h5⟩ := st
    exact ⟨kk z (by simp) _ h1, kk TI (by simp) _ h2, ⟨a, b, kk TO (by simp) _ h3⟩, h4.at fun o e => kk i1 (by simp) o e, h5.at fun o e => kk i2 (by simp) o e⟩
  item := by
    intro X hP hw hK hc i pins s σ H E I hf st hg
    subst hP hw hK
    obtain ⟨xs, ys, x, y, hq1, hq2, hx, hy⟩ := hg
    obtain ⟨its1, rv1, p1, hz1⟩ := I.list hq1
    obtain ⟨its2, rv2, p2, hz2⟩ := I.list hq2
    obtain ⟨u1, hu1, ru1⟩ := rv1.get hx
    obtain ⟨u2, hu2, ru2⟩ := rv2.get hy
    obtain ⟨h1, h2, ⟨a, b, h3⟩, h4, h5⟩ := st
    have D' := D
    refine wpAny_pyNext_zip_item D h1 h2 h3 h4 h5 p1.isList p2.isList (x := u1) (y := u2) (by simpa using hu1) (by simpa using hu2) fun h' a1 a2 a3 a4 a5 a6 hk => ?_
    have lt : ∀ {c : Addr} {o : Obj}, s.heap.get? c = some o → c ≠ s.heap.objs.size := fun e => Nat.ne_of_lt (Heap.lt_size e)
    refine ⟨_, rfl, wpAny_letOwnedTupleGo_zip a1 fun h'' b1 sb => ?_⟩
    have nT : s.heap.objs.size ≠ z := Ne.symm (lt h1)
    have kk : ∀ b o, b ∉ [z, TI, TO, i1, i2] → s.heap.get? b = some o → h''.get? b = some o := fun b o hb e => by
      simp only [List.mem_cons, List.not_mem_nil, or_false, not_or] at hb
      exact (sb.2 b hb.1).trans (hk b o hb.1 hb.2.2.1 hb.2.2.2.1 hb.2.2.2.2 e)
    have I1 : Inv X pins σ H { s with heap := h'', toks := s.toks } := I.turnedL kk hf
    have hn : H s.heap.objs.size = none := I.hok.fresh (Nat.le_refl _)
    have fT : FpOk X pins H s.heap.objs.size := I.fpOk (Nat.le_refl _) hn
    have I2 : Inv X pins σ (upd H s.heap.objs.size (.tup [x, y])) { s with heap := h'', toks := s.toks } := I1.lay fT I.sz
      ⟨⟨by show 2 ≤ sizeLine; decide, _, (sb.2 _ nT).trans a5, rfl⟩, [u1, u2], .cons ru1 (.cons ru2 .nil), ⟨_, (sb.2 _ nT).trans a5, rfl, _, rfl⟩⟩
    refine ⟨.ref s.heap.objs.size, _, I2, rfl, ⟨_, x, y, rfl, hn, rfl, fun xs' hx' => by rw [I.list_inj hx' hq1]; exact hx, fun ys' hy' => by rw [I.list_inj hy' hq2]; exact hy⟩, ?_, fun b hb => ?_⟩
    · exact ⟨b1, (sb.2 _ D.TIz).trans (hk _ _ D.TIz D.TITO D.TIi1 D.TIi2 h2), ⟨_, _, (sb.2 _ D.TOz).trans a2⟩, a3.at fun o e => (sb.2 _ D.i1z).trans e, a4.at fun o e => (sb.2 _ D.i2z).trans e⟩
    · have hb' : b = z ∨ b = TI ∨ b = TO ∨ b = i1 ∨ b = i2 := by simpa using hb
      have ne : b ≠ s.heap.objs.size := by
        obtain ⟨o4, e4, _⟩ := h4
        obtain ⟨o5, e5, _⟩ := h5
        rcases hb' with e | e | e | e | e <;> subst e
        · exact lt h1
        · exact lt h2
        · exact lt h3
        · exact lt e4
        · exact lt e5
      rw [upd_ne ne]
      exact (hf b hb).1
  done := by
    intro X hP hw hK hc i pins s σ H E I hf st hg
    subst hP hw hK
    obtain ⟨xs, ys, hq1, hq2, hend⟩ := hg
    obtain ⟨its1, rv1, p1, hz1⟩ := I.list hq1
    obtain ⟨its2, rv2, p2, hz2⟩ := I.list hq2
    obtain ⟨h1, h2, ⟨a, b, h3⟩, h4, h5⟩ := st
    have l1 := rv1.length
    have l2 := rv2.length
    refine wpAny_pyNext_zip_end (I.ok.hd hc) D h1 h2 h3 h4 h5 p1.isList p2.isList (by
      rcases hend with e | e
      · exact .inl (by simp; omega)
      · exact .inr (by simp; omega)) fun h' hk => ⟨rfl, I.turnedL (t' := s.toks) (fun b o hb e => ?_) hf⟩
    simp only [List.mem_cons, List.not_mem_nil, or_false, not_or] at hb
    exact hk b o hb.1 hb.2.2.1 hb.2.2.2.1 hb.2.2.2.2 e
  self := fun A i s Q E st h => wpAny_pyIter_zip st.1 h
theorem ne_nat {a b : Nat} (h : a < b ∨ b < a) : a ≠ b := by omega
theorem apart_of (n a b : Nat) (h1 : a < n) (h2 : b < n) : ZipApart (n + 4) (n + 2) (n + 3) n (n + 1) a b := by
  constructor <;> (refine ne_nat ?_; omega)
def iZip (K : PySem.W.Frag) (ta : TA) : TI := fun σ H R => ta σ H fun vs H1 => ∃ a b, vs = [.ref a, .ref b] ∧ (∃ xs, SqL K H1 a xs) ∧ (∃ ys, SqL K H1 b ys) ∧ R (Itz K a b) H1
theorem pi_zip {X : Cx} {a b : Expr} {ta : TA} {p pos : Pos} {elts : List Expr} {k : Nat} {tp : Pos} (hg : Gl X "zip") (hm : X.mg "zip" = none) (hz : bootBuiltins "zip" = some (.type "zip")) (ha : PA X [a, b] ta) (hs : starEach [a, b] X.env = [(false, eval a X.env), (false, eval b X.env)] := by rfl) (hs2 : starEach [b] X.env = [(false, eval b X.env)] := by rfl) :
    PI X (.Tuple elts k tp) (.Call (.Name "zip" p) [a, b] [] pos) (iZip X.K ta) := by
  intro pins s σ H R I h
  refine Call_ (ld_blt I hg hm hz (PyProof.Rows.callWith_type1 (thn (ha pos pins s σ H _ I h) fun us s1 ⟨vs, H1, I1, r1, q1⟩ => ?_) (by rw [hs, hs2]) (by rw [hs2]; rfl)))
  obtain ⟨a1, a2, e, ⟨xs, hx⟩, ⟨ys, hy⟩, q⟩ := q1
  subst e
  obtain ⟨u1, u2, rfl, ra, rb⟩ := vals2 r1
  cases ra
  cases rb
  obtain ⟨its1, rv1, p1, _⟩ := I1.list hx
  obtain ⟨its2, rv2, p2, _⟩ := I1.list hy
  have lt1 : a1 < s1.heap.objs.size := by obtain ⟨o, n, e, _⟩ := p1; exact Heap.lt_size e
  have lt2 : a2 < s1.heap.objs.size := by obtain ⟨o, n, e, _⟩ := p2; exact Heap.lt_size e
  refine call_zip_2 p1.isList p2.isList fun h' z1 z2 z3 z4 z5 hsz hk => ?_
  refine wpAny_pyIter_zip z1 ?_
  refine ⟨s1.heap.objs.size + 4, [s1.heap.objs.size + 4, s1.heap.objs.size + 2, s1.heap.objs.size + 3, s1.heap.objs.size, s1.heap.objs.size + 1], _, _, H1, rfl, I1.kept (t' := s1.toks) fun b o e => hk b o e,
    turn_zip _ _ _ _ _ a1 a2 ?_, ⟨z1, z2, ⟨_, _, z3⟩, z4, z5⟩, fun b hb => ?_, q⟩
  · exact apart_of _ _ _ lt1 lt2
  · have hle : s1.heap.objs.size ≤ b := by
      have hb' : b = s1.heap.objs.size + 4 ∨ b = s1.heap.objs.size + 2 ∨ b = s1.heap.objs.size + 3 ∨ b = s1.heap.objs.size ∨ b = s1.heap.objs.size + 1 := by simpa using hb
      rcases hb' with rfl | rfl | rfl | rfl | rfl <;> simp
    exact I1.fpOk hle (I1.hok.fresh hle)
end L2
namespace L2
open PySem PySem.Spec PyProof.Rows
structure LcS (esc scope : Scope) : Prop where
  kind : scope.kind = .function
  cell : ∀ y ∈ scope.names, y.2 ≠ .cell
  names : ∀ y ∈ scope.names, y.2 = .local → scope.names.lookup y.1 = some .local
  free : ∀ y ∈ scope.names, y.2 = .free → esc.names.lookup y.1 = some .cell ∨ esc.names.lookup y.1 = some .free
theorem lcOk {X : Cx} {scope : Scope} {fv : List (Nat × Str)} (esc : Scope) (he : X.env.scope = esc) (hc : X.calm = true) (h : LcS esc scope) (hf : FvOk X (relabel scope X.env) fv) : LcOk X scope fv :=
  ⟨hc, h.kind, h.cell, h.names, fun y hy hk => by subst he; exact h.free y hy hk, hf⟩
end L2
namespace PV
open PySem L2 PySem.Spec PyProof.Rows
structure Zc where
  K : PySem.W.Frag
  P : Program
  w : World
abbrev _root_.L2.Cx.z (X : Cx) : Zc := ⟨X.K, X.prog, X.w⟩
inductive D where
  | non | bl (b : Bool) | int (i : Int) | str (x : Str) | tup (ds : List D) | lst (ds : List D) | dct (ks vs : List D) | set (ds : List D) | ref (k : Nat)
noncomputable instance : DecidableEq D := fun a b => Classical.propDecidable (a = b)
inductive MO where
  | lst (ds : List D) | dct (ks ds : List D)
abbrev Sto := List MO
abbrev Rs (α : Type) := Option (α × Sto)
abbrev Ro := List (Option D)
abbrev Ex := Ro → Sto → Rs D
abbrev Exs := Ro → Sto → Rs (List D)
abbrev Tx := Ro → Sto → Rs Bool
inductive Fl where
  | nx | bk | ct | rt (d : D)
abbrev Sx := Ro → Sto → Rs (Fl × Ro)
abbrev Fn := List D → Sto → Rs D
def bM {α β : Type} (r : Rs α) (f : α → Sto → Rs β) : Rs β := match r with
  | none => none
  | some (a, m) => f a m
theorem bM_some {α β : Type} {a : α} {m : Sto} {f : α → Sto → Rs β} : bM (some (a, m)) f = f a m := rfl
theorem bM_inv {α β : Type} {r : Rs α} {f : α → Sto → Rs β} {b : β} {m' : Sto} (h : bM r f = some (b, m')) : ∃ a m, r = some (a, m) ∧ f a m = some (b, m') := by
  cases r with
  | none => cases h
  | some p => exact ⟨p.1, p.2, rfl, h⟩
mutual
def hashD (w : World) : D → Int
  | .non => reduceHash 0xFCA86420
  | .int i => hashInt i
  | .str x => hashStr w x
  | .tup ds => reduceHash (Builtin.Tuple.tupleHashOf (hashDs w ds))
  | _ => 0
def hashDs (w : World) : List D → List Int
  | [] => []
  | d :: ds => hashD w d :: hashDs w ds
end
mutual
def dpt : D → Nat
  | .tup ds => dpts ds + 1
  | _ => 0
def dpts : List D → Nat
  | [] => 0
  | d :: ds => max (dpt d) (dpts ds)
end
mutual
def hsh : D → Bool
  | .non => true
  | .int _ => true
  | .str _ => true
  | .tup ds => hshs ds
  | _ => false
def hshs : List D → Bool
  | [] => true
  | d :: ds => hsh d && hshs ds
end
def hasK (d : D) : Bool := hsh d && decide (dpt d ≤ 8)
structure KeysOk (ks : List D) : Prop where
  len : ks.length ≤ sizeLine
  nd : ks.Nodup
  ok : ∀ k ∈ ks, hasK k = true
theorem hashDs_map (w : World) (ds : List D) : hashDs w ds = ds.map (hashD w) := by induction ds with
  | nil => rfl
  | cons d ds ih => rw [hashDs, ih]; rfl
def dicP (a : Addr) (xs : List (Int × V × V)) (h : Heap) : Prop := (a == sysModules) = false ∧ ∃ o es ep, h.get? a = some o ∧ o.ExactDict ∧ o.data = .dict es ep ∧ Paired (fun (x : Int × V × V) (e : DictEntry) => e.hash = x.1 ∧ RelV x.2.1 e.key ∧ RelV x.2.2 e.val) xs es.toList
def DicO (a : Addr) (xs : List (Int × V × V)) : HO := .ext (dicP a xs)
def setP (w : World) (a : Addr) (us : List V) (h : Heap) : Prop := ∃ o es ep t, h.get? a = some o ∧ o.ExactSet ∧ o.data = .set es ep t ∧ es.size < scanBound ∧ t.fits es.size = true ∧ Vals us (es.toList.map (·.2)) ∧
  (w.params.followText "set-order" = true ∨ t.led = true ∧ (t.plain = false ∨ es.size ≤ 1))
def SetO (w : World) (a : Addr) (us : List V) : HO := .ext (setP w a us)
def FzL (K : Zc) (th : List Addr) (H : Hp) (a : Addr) (vs : List V) : Prop := (a ∉ th ∧ Rd H a (.lst vs)) ∨
  ∃ (o : Obj) (its : Array Value) (n : Nat), K.K.lookup a = some o ∧ o.cls = .type "list" ∧ o.dict = none ∧ o.data = .seq its n ∧ its.size ≤ sizeLine ∧ Vals vs its.toList
theorem FzL.sq {K : Zc} {th : List Addr} {H : Hp} {a : Addr} {vs : List V} (h : FzL K th H a vs) : SqL K.K H a vs := h.elim (fun h => .inl h.2) .inr
mutual
def Rep (K : Zc) (th : List Addr) (H : Hp) : D → V → Prop
  | .non, v => v = .non
  | .bl b, v => v = .bl b
  | .int i, v => v = .int i
  | .str x, v => v = .str x ∧ x.length ≤ sizeLine ∧ PyData.strOk x = true
  | .tup ds, v => ∃ a vs, v = .ref a ∧ SqT K.K H a vs ∧ RepL K th H ds vs ∧ ds.length ≤ sizeLine
  | .lst ds, v => ∃ a vs, v = .ref a ∧ FzL K th H a vs ∧ RepL K th H ds vs ∧ ds.length ≤ sizeLine
  | .dct ks ds, v => ∃ a xs, v = .ref a ∧ a ∉ th ∧ H a = some (DicO a xs) ∧ xs.map (·.1) = hashDs K.w ks ∧ RepL K th H ks (xs.map (·.2.1)) ∧ RepL K th H ds (xs.map (·.2.2)) ∧ KeysOk ks
  | .set ds, v => ∃ a us vs, v = .ref a ∧ a ∉ th ∧ H a = some (SetO K.w a us) ∧ us.Perm vs ∧ RepL K th H ds vs ∧ ds.Nodup
  | .ref k, v => ∃ a, v = .ref a ∧ th[k]? = some a
def RepL (K : Zc) (th : List Addr) (H : Hp) : List D → List V → Prop
  | [], vs => vs = []
  | d :: ds, vs => ∃ v r, vs = v :: r ∧ Rep K th H d v ∧ RepL K th H ds r
end
section
variable {K : Zc} {th th' : List Addr} {H H' : Hp}
theorem RepL.nil : RepL K th H [] [] := by unfold RepL; rfl
theorem RepL.cons {d : D} {ds : List D} {v : V} {r : List V} (h : Rep K th H d v) (t : RepL K th H ds r) : RepL K th H (d :: ds) (v :: r) := by unfold RepL; exact ⟨v, r, rfl, h, t⟩
theorem RepL.inv {d : D} {ds : List D} {vs : List V} (h : RepL K th H (d :: ds) vs) : ∃ v r, vs = v :: r ∧ Rep K th H d v ∧ RepL K th H ds r := by unfold RepL at h; exact h
theorem RepL.inv0 {vs : List V} (h : RepL K th H [] vs) : vs = [] := by unfold RepL at h; exact h
theorem RepL.len : ∀ {ds : List D} {vs : List V}, RepL K th H ds vs → vs.length = ds.length
  | [], _, h => by rw [h.inv0]; rfl
  | d :: ds, _, h => by obtain ⟨v, r, rfl, _, t⟩ := h.inv; simp [RepL.len t]
theorem RepL.get : ∀ {ds : List D} {vs : List V} {i : Nat} {d : D}, RepL K th H ds vs → ds[i]? = some d → ∃ v, vs[i]? = some v ∧ Rep K th H d v
  | [], _, _, _, _, e => by simp at e
  | d :: ds, _, 0, d', h, e => by obtain ⟨v, r, rfl, h1, _⟩ := h.inv; simp at e; subst e; exact ⟨v, rfl, h1⟩
  | d :: ds, _, i + 1, d', h, e => by
    obtain ⟨v, r, rfl, _, t⟩ := h.inv
    obtain ⟨u, e1, e2⟩ := RepL.get (i := i) t (by simpa using e)
    exact ⟨u, by simpa using e1, e2⟩
theorem RepL.app : ∀ {ds es : List D} {vs us : List V}, RepL K th H ds vs → RepL K th H es us → RepL K th H (ds ++ es) (vs ++ us)
  | [], _, _, _, h, t => by rw [h.inv0]; exact t
  | d :: ds, _, _, _, h, t => by obtain ⟨v, r, rfl, h1, h2⟩ := h.inv; exact .cons h1 (RepL.app h2 t)
theorem RepL.take : ∀ {ds : List D} {vs : List V} (n : Nat), RepL K th H ds vs → RepL K th H (ds.take n) (vs.take n)
  | _, _, 0, _ => by simp only [List.take_zero]; exact .nil
  | [], _, n + 1, h => by rw [h.inv0]; exact .nil
  | d :: ds, _, n + 1, h => by obtain ⟨v, r, rfl, h1, h2⟩ := h.inv; exact .cons h1 (RepL.take n h2)
theorem RepL.drop : ∀ {ds : List D} {vs : List V} (n : Nat), RepL K th H ds vs → RepL K th H (ds.drop n) (vs.drop n)
  | _, _, 0, h => h
  | [], _, n + 1, h => by rw [h.inv0]; exact .nil
  | d :: ds, _, n + 1, h => by obtain ⟨v, r, rfl, h1, h2⟩ := h.inv; exact RepL.drop n h2
theorem RepL.setAt : ∀ {ds : List D} {vs : List V} (i : Nat) {d : D} {v : V}, RepL K th H ds vs → Rep K th H d v → RepL K th H (ds.set i d) (vs.set i v)
  | [], _, _, _, _, h, _ => by rw [h.inv0]; exact .nil
  | d :: ds, _, 0, _, _, h, g => by obtain ⟨v, r, rfl, h1, h2⟩ := h.inv; exact .cons g h2
  | d :: ds, _, i + 1, _, _, h, g => by obtain ⟨v, r, rfl, h1, h2⟩ := h.inv; exact .cons h1 (RepL.setAt i h2 g)
structure Ext (th : List Addr) (H : Hp) (th' : List Addr) (H' : Hp) : Prop where
  pre : ∃ more, th' = th ++ more
  out : ∀ a o, a ∉ th → H a = some o → a ∉ th'
  keep : ∀ a o, a ∉ th → H a = some o → H' a = some o
theorem Ext.refl (th : List Addr) (H : Hp) : Ext th H th H := ⟨⟨[], by simp⟩, fun _ _ n _ => n, fun _ _ _ h => h⟩
theorem Ext.trans {th2 : List Addr} {H2 : Hp} (a : Ext th H th' H') (b : Ext th' H' th2 H2) : Ext th H th2 H2 := by
  obtain ⟨m1, e1⟩ := a.pre
  obtain ⟨m2, e2⟩ := b.pre
  exact ⟨⟨m1 ++ m2, by rw [e2, e1, List.append_assoc]⟩, fun x o n h => b.out x o (a.out x o n h) (a.keep x o n h), fun x o n h => b.keep x o (a.out x o n h) (a.keep x o n h)⟩
theorem Ext.at (e : Ext th H th' H') {k : Nat} {a : Addr} (h : th[k]? = some a) : th'[k]? = some a := by
  obtain ⟨m, rfl⟩ := e.pre
  rw [List.getElem?_append_left (List.getElem?_eq_some_iff.mp h).1]
  exact h
theorem Ext.new {p : Addr} (h : H p = none) (o : HO) : Ext th H th (upd H p o) := ⟨⟨[], by simp⟩, fun _ _ n _ => n, fun a u _ e => by rw [upd_ne (ne_of_none e h)]; exact e⟩
theorem Ext.newM {p : Addr} (h : H p = none) (o : HO) : Ext th H (th ++ [p]) (upd H p o) := ⟨⟨[p], rfl⟩, fun a u n e z => (List.mem_append.mp z).elim n fun z => (by rw [List.mem_singleton.mp z, h] at e; cases e),
  fun a u _ e => by rw [upd_ne (ne_of_none e h)]; exact e⟩
theorem Ext.mut {p : Addr} (h : p ∈ th) (o : HO) : Ext th H th (upd H p o) := ⟨⟨[], by simp⟩, fun _ _ n _ => n, fun a u n e => by rw [upd_ne (fun z => n (by rw [z]; exact h))]; exact e⟩
theorem Ext.rd (e : Ext th H th' H') {a : Addr} {u : HO} (n : a ∉ th) (h : Rd H a u) : a ∉ th' ∧ Rd H' a u := by
  rcases h with h | ⟨o, h⟩
  · exact ⟨e.out _ _ n h, .inl (e.keep _ _ n h)⟩
  · exact ⟨e.out _ _ n h, .inr ⟨o, e.keep _ _ n h⟩⟩
theorem Ext.fz (e : Ext th H th' H') {a : Addr} {vs : List V} (h : FzL K th H a vs) : FzL K th' H' a vs := h.elim (fun h => .inl (e.rd h.1 h.2)) .inr
def TupOut (th : List Addr) (H : Hp) : Prop := ∀ a, a ∈ th → ∃ o, H a = some o ∧ ((∃ xs, o = .lst xs) ∨ ∃ φ, o = .ext φ)
theorem Ext.sqT (e : Ext th H th' H') (t : TupOut th H) {a : Addr} {xs : List V} (h : SqT K.K H a xs) : SqT K.K H' a xs := by
  rcases h with h | h
  · refine .inl (e.rd (fun z => ?_) h).2
    obtain ⟨o', q, q2⟩ := t a z
    rcases h with h | ⟨o, h⟩
    · rcases q2 with ⟨_, rfl⟩ | ⟨_, rfl⟩ <;> (rw [q] at h; cases h)
    · rcases q2 with ⟨_, rfl⟩ | ⟨_, rfl⟩ <;> (rw [q] at h; cases h)
  · exact .inr h
mutual
theorem Rep.ext (e : Ext th H th' H') (t : TupOut th H) : ∀ {d : D} {v : V}, Rep K th H d v → Rep K th' H' d v
  | .non, _, h => h
  | .bl _, _, h => h
  | .int _, _, h => h
  | .str _, _, h => h
  | .tup ds, _, h => by
    unfold Rep at h ⊢
    obtain ⟨a, vs, q, h1, h2, z⟩ := h
    exact ⟨a, vs, q, e.sqT t h1, RepL.ext e t h2, z⟩
  | .lst ds, _, h => by
    unfold Rep at h ⊢
    obtain ⟨a, vs, q, h1, h2, z⟩ := h
    exact ⟨a, vs, q, e.fz h1, RepL.ext e t h2, z⟩
  | .dct ks ds, _, h => by
    unfold Rep at h ⊢
    obtain ⟨a, xs, q, n, h1, h2, h3, h4, h5⟩ := h
    exact ⟨a, xs, q, e.out _ _ n h1, e.keep _ _ n h1, h2, RepL.ext e t h3, RepL.ext e t h4, h5⟩
  | .set ds, _, h => by
    unfold Rep at h ⊢
    obtain ⟨a, us, vs, q, n, h1, h2, h3, h4⟩ := h
    exact ⟨a, us, vs, q, e.out _ _ n h1, e.keep _ _ n h1, h2, RepL.ext e t h3, h4⟩
  | .ref k, _, h => by
    unfold Rep at h ⊢
    obtain ⟨a, q, h1⟩ := h
    exact ⟨a, q, e.at h1⟩
theorem RepL.ext (e : Ext th H th' H') (t : TupOut th H) : ∀ {ds : List D} {vs : List V}, RepL K th H ds vs → RepL K th' H' ds vs
  | [], _, h => by rw [h.inv0]; exact .nil
  | _ :: _, _, h => by
    obtain ⟨v, r, rfl, h1, h2⟩ := h.inv
    exact .cons (Rep.ext e t h1) (RepL.ext e t h2)
end
theorem nd_ix {N : List Addr} (hN : N.Nodup) {i j : Nat} {x : Addr} (a : N[i]? = some x) (b : N[j]? = some x) : i = j := by
  obtain ⟨hi, ei⟩ := List.getElem?_eq_some_iff.mp a
  obtain ⟨hj, ej⟩ := List.getElem?_eq_some_iff.mp b
  have := List.pairwise_iff_getElem.mp hN
  rcases Nat.lt_trichotomy i j with h | h | h
  · exact absurd (ei.trans ej.symm) (this i j hi hj h)
  · exact h
  · exact absurd (ej.trans ei.symm) (this j i hj hi h)
def MRep (K : Zc) (th : List Addr) (H : Hp) (a : Addr) : MO → Prop
  | .lst ds => ∃ vs, H a = some (.lst vs) ∧ RepL K th H ds vs ∧ ds.length ≤ sizeLine
  | .dct ks ds => ∃ xs, H a = some (DicO a xs) ∧ xs.map (·.1) = hashDs K.w ks ∧ RepL K th H ks (xs.map (·.2.1)) ∧ RepL K th H ds (xs.map (·.2.2)) ∧ KeysOk ks
theorem MRep.ext (e : Ext th H th' H') (t : TupOut th H) {a : Addr} {o : MO} (ha : ∀ u, H a = some u → H' a = some u) (h : MRep K th H a o) : MRep K th' H' a o := by
  cases o with
  | lst ds => obtain ⟨vs, q1, q2, z⟩ := h; exact ⟨vs, ha _ q1, q2.ext e t, z⟩
  | dct ks ds => obtain ⟨xs, q1, q2, q3, q4, z⟩ := h; exact ⟨xs, ha _ q1, q2, q3.ext e t, q4.ext e t, z⟩
structure StoOk (K : Zc) (th : List Addr) (mu : Sto) (H : Hp) : Prop where
  len : th.length = mu.length
  nd : th.Nodup
  at' : ∀ (k : Nat) (a : Addr) (o : MO), th[k]? = some a → mu[k]? = some o → MRep K th H a o
theorem StoOk.out {mu : Sto} (s : StoOk K th mu H) : TupOut th H := fun a ha => by
  obtain ⟨k, hk, rfl⟩ := List.mem_iff_getElem.mp ha
  have hk' : k < mu.length := by rw [← s.len]; exact hk
  have q := s.at' k th[k] mu[k] (by simp) (by simp)
  cases e : mu[k] with
  | lst ds => rw [e] at q; obtain ⟨vs, q, _⟩ := q; exact ⟨_, q, .inl ⟨_, rfl⟩⟩
  | dct ks ds => rw [e] at q; obtain ⟨vs, q, _⟩ := q; exact ⟨_, q, .inr ⟨_, rfl⟩⟩
theorem StoOk.new {mu : Sto} (s : StoOk K th mu H) {p : Addr} (h : H p = none) (o : HO) : StoOk K th mu (upd H p o) :=
  ⟨s.len, s.nd, fun k a o' e1 e2 => (s.at' k a o' e1 e2).ext (.new h o) s.out fun u q => by rw [upd_ne (ne_of_none q h)]; exact q⟩
theorem StoOk.newG {mu : Sto} (s : StoOk K th mu H) {p : Addr} (h : H p = none) (o : HO) (mo : MO) (r : MRep K (th ++ [p]) (upd H p o) p mo) : StoOk K (th ++ [p]) (mu ++ [mo]) (upd H p o) := by
  have ex : Ext th H (th ++ [p]) (upd H p o) := .newM h _
  refine ⟨by simp [s.len], ?_, fun k a o' e1 e2 => ?_⟩
  · refine List.nodup_append.mpr ⟨s.nd, by simp, fun x hx y hy => ?_⟩
    rw [List.mem_singleton.mp hy]
    obtain ⟨xs, q, _⟩ := s.out x hx
    exact ne_of_none q h
  · by_cases hk : k < th.length
    · rw [List.getElem?_append_left hk] at e1
      rw [List.getElem?_append_left (by rw [← s.len]; exact hk)] at e2
      exact (s.at' k a o' e1 e2).ext ex s.out fun u q => by rw [upd_ne (ne_of_none q h)]; exact q
    · have hk2 : k = th.length := by
        have := (List.getElem?_eq_some_iff.mp e1).1
        simp at this
        omega
      subst hk2
      have e1' : a = p := by simpa using e1.symm
      have e2' : o' = mo := by rw [s.len] at e2; simpa using e2.symm
      subst e1' e2'
      exact r
theorem StoOk.newM {mu : Sto} (s : StoOk K th mu H) {p : Addr} (h : H p = none) {ds : List D} {vs : List V} (r : RepL K th H ds vs) (hz : ds.length ≤ sizeLine) : StoOk K (th ++ [p]) (mu ++ [.lst ds]) (upd H p (.lst vs)) :=
  s.newG h _ _ ⟨vs, upd_same, r.ext (.newM h _) s.out, hz⟩
theorem StoOk.putG {mu : Sto} (s : StoOk K th mu H) {k : Nat} {a : Addr} (hk : th[k]? = some a) (o : HO) (mo : MO) (r : MRep K th (upd H a o) a mo) : StoOk K th (mu.set k mo) (upd H a o) := by
  have ex : Ext th H th (upd H a o) := .mut (List.mem_of_getElem? hk) _
  refine ⟨by simp [s.len], s.nd, fun j b o' e1 e2 => ?_⟩
  by_cases hj : j = k
  · subst hj
    rw [hk] at e1
    cases e1
    have : j < mu.length := by rw [← s.len]; exact (List.getElem?_eq_some_iff.mp hk).1
    have e2' : o' = mo := by simpa [this] using e2.symm
    subst e2'
    exact r
  · rw [List.getElem?_set_ne (Ne.symm hj)] at e2
    have nb : b ≠ a := fun z => by
      subst z
      exact hj (nd_ix s.nd e1 hk)
    exact (s.at' j b o' e1 e2).ext ex s.out fun u q => by rw [upd_ne nb]; exact q
theorem StoOk.put {mu : Sto} (s : StoOk K th mu H) {k : Nat} {a : Addr} (hk : th[k]? = some a) {ds : List D} {vs : List V} (r : RepL K th H ds vs) (hz : ds.length ≤ sizeLine) : StoOk K th (mu.set k (.lst ds)) (upd H a (.lst vs)) :=
  s.putG hk _ _ ⟨vs, upd_same, r.ext (.mut (List.mem_of_getElem? hk) _) s.out, hz⟩
theorem KeysOk.nil : KeysOk [] := ⟨Nat.zero_le _, List.nodup_nil, fun _ h => nomatch h⟩
theorem StoOk.newD {mu : Sto} (s : StoOk K th mu H) {p : Addr} (h : H p = none) : StoOk K (th ++ [p]) (mu ++ [.dct [] []]) (upd H p (DicO p [])) :=
  s.newG h _ _ ⟨[], upd_same, rfl, .nil, .nil, .nil⟩
def Tr (K : Zc) {A : Type} (th : List Addr) (H : Hp) (r : Rs A) (k : A → List Addr → Sto → Hp → Prop) : Prop :=
  ∃ a mu', r = some (a, mu') ∧ ∀ th' H', Ext th H th' H' → StoOk K th' mu' H' → k a th' mu' H'
theorem Tr.mono {A : Type} {r : Rs A} {k k' : A → List Addr → Sto → Hp → Prop} (h : Tr K th H r k) (f : ∀ a th' mu' H', Ext th H th' H' → StoOk K th' mu' H' → k a th' mu' H' → k' a th' mu' H') : Tr K th H r k' := by
  obtain ⟨a, mu', e, q⟩ := h
  exact ⟨a, mu', e, fun th' H' x s => f a th' mu' H' x s (q th' H' x s)⟩
theorem Tr.ahead {A : Type} {r : Rs A} {k : A → List Addr → Sto → Hp → Prop} (h : Tr K th H r k) (x : Ext th H th' H') : Tr K th' H' r k := by
  obtain ⟨a, mu', e, q⟩ := h
  exact ⟨a, mu', e, fun th2 H2 y s => q th2 H2 (x.trans y) s⟩
theorem Tr.bind {A B : Type} {r : Rs A} {f : A → Sto → Rs B} {k : B → List Addr → Sto → Hp → Prop} (h : Tr K th H (bM r f) k) : Tr K th H r fun a th1 mu1 H1 => Tr K th1 H1 (f a mu1) k := by
  obtain ⟨b, mu', e, q⟩ := h
  obtain ⟨a, m, e1, e2⟩ := bM_inv e
  exact ⟨a, m, e1, fun th1 H1 x1 s1 => ⟨b, mu', e2, fun th' H' x s => q th' H' (x1.trans x) s⟩⟩
theorem Tr.bindE {A B : Type} {r : Rs A} {f : A → Sto → Rs B} {k : B → List Addr → Sto → Hp → Prop} (h : Tr K th H (bM r f) k) : Tr K th H r fun a th1 mu1 H1 => r = some (a, mu1) ∧ Tr K th1 H1 (f a mu1) k := by
  obtain ⟨b, mu', e, q⟩ := h
  obtain ⟨a, m, e1, e2⟩ := bM_inv e
  exact ⟨a, m, e1, fun th1 H1 x1 s1 => ⟨e1, b, mu', e2, fun th' H' x s => q th' H' (x1.trans x) s⟩⟩
theorem Tr.ret {A : Type} {a : A} {mu : Sto} {k : A → List Addr → Sto → Hp → Prop} (h : Tr K th H (some (a, mu)) k) (s : StoOk K th mu H) : k a th mu H := by
  obtain ⟨b, mu', e, q⟩ := h
  cases e
  exact q th H (.refl _ _) s
theorem Tr.retX {A : Type} {a : A} {mu : Sto} {k : A → List Addr → Sto → Hp → Prop} (h : Tr K th H (some (a, mu)) k) (x : Ext th H th' H') (s : StoOk K th' mu H') : k a th' mu H' := by
  obtain ⟨b, mu', e, q⟩ := h
  cases e
  exact q th' H' x s
theorem Tr.no {A : Type} {k : A → List Addr → Sto → Hp → Prop} (h : Tr K th H (none : Rs A) k) : False := by
  obtain ⟨b, mu', e, q⟩ := h
  cases e
def EnvOk (K : Zc) (th : List Addr) (H : Hp) (ro : Ro) (st : L2.St) : Prop := ro.length = st.length ∧ ∀ (i : Nat) (d : D), ro[i]? = some (some d) → ∃ v, st[i]? = some (some v) ∧ Rep K th H d v
theorem EnvOk.ext {ro : Ro} {st : L2.St} (h : EnvOk K th H ro st) (e : Ext th H th' H') (t : TupOut th H) : EnvOk K th' H' ro st := ⟨h.1, fun i d q => by
  obtain ⟨v, a, b⟩ := h.2 i d q
  exact ⟨v, a, b.ext e t⟩⟩
theorem EnvOk.set {ro : Ro} {st : L2.St} (h : EnvOk K th H ro st) (i : Nat) {d : D} {v : V} (r : Rep K th H d v) : EnvOk K th H (ro.set i (some d)) (st.set i (some v)) := by
  refine ⟨by simp [h.1], fun j d' q => ?_⟩
  by_cases hj : j = i
  · subst hj
    have hl : j < ro.length := by
      have := (List.getElem?_eq_some_iff.mp q).1
      simpa using this
    have : d' = d := by simpa [hl] using q.symm
    subst this
    exact ⟨v, by simp [← h.1, hl], r⟩
  · rw [List.getElem?_set_ne (Ne.symm hj)] at q ⊢
    exact h.2 j d' q
abbrev KV' (K : Zc) (Q : VK) : D → List Addr → Sto → Hp → Prop := fun d th' _ H' => ∀ v, Rep K th' H' d v → Q v H'
def rdE (K : Zc) (m : Ex) : TE := fun st H Q => ∃ th mu ro, StoOk K th mu H ∧ EnvOk K th H ro st ∧ Tr K th H (m ro mu) (KV' K Q)
def rdA (K : Zc) (m : Exs) : TA := fun st H Q => ∃ th mu ro, StoOk K th mu H ∧ EnvOk K th H ro st ∧ Tr K th H (m ro mu) fun ds th' _ H' => ∀ vs, RepL K th' H' ds vs → Q vs H'
def rdT (K : Zc) (m : Tx) : TT := fun st H Q => ∃ th mu ro, StoOk K th mu H ∧ EnvOk K th H ro st ∧ Tr K th H (m ro mu) fun b _ _ H' => Q b H'
def endK (K : Zc) (E : Ends) (p : Fl × Ro) (th : List Addr) (_ : Sto) (H : Hp) : Prop := ∀ st', EnvOk K th H p.2 st' → match p.1 with
  | .nx => E.nx st' H
  | .bk => E.bk st' H
  | .ct => E.ct st' H
  | .rt d => ∀ v, Rep K th H d v → E.rt v H
def rdS (K : Zc) (m : Sx) : TS := fun E st H => ∃ th mu ro, StoOk K th mu H ∧ EnvOk K th H ro st ∧ Tr K th H (m ro mu) (endK K E)
def r2 (K : Zc) (op : D → D → Sto → Rs D) : R2 := fun x y H Q => ∃ th mu d e, StoOk K th mu H ∧ Rep K th H d x ∧ Rep K th H e y ∧ Tr K th H (op d e mu) (KV' K Q)
def rL (K : Zc) (f : Fn) : List V → Hp → VK → Prop := fun xs H Q => ∃ th mu ds, StoOk K th mu H ∧ RepL K th H ds xs ∧ Tr K th H (f ds mu) (KV' K Q)
end
structure SV (X : Cx) (e : Expr) (m : Ex) : Prop where
  r : PE X e (rdE X.z m)
structure SVT (X : Cx) (e : Expr) (m : Tx) : Prop where
  r : PT X e (rdT X.z m)
structure SVW (X : Cx) (e : Expr) (m : Tx) : Prop where
  r : PW X e (rdT X.z m)
def SVA (X : Cx) (es : List Expr) (m : Exs) : Prop := PA X es (rdA X.z m) ∧ ∀ ro mu ds mu', m ro mu = some (ds, mu') → ds.length = es.length
structure SVS (X : Cx) (s : Stmt) (m : Sx) : Prop where
  r : PS X s (rdS X.z m)
structure SVB (X : Cx) (b : List Stmt) (m : Sx) : Prop where
  r : PSs X b (rdS X.z m)
def OpV (X : Cx) (f : Value → Value → Sem Value) (op : D → D → Sto → Rs D) : Prop := OpR X f (r2 X.z op)
def CallV (X : Cx) (f : Value) (g : Fn) : Prop := CallR X f (rL X.z g)
theorem PE.weak {X : Cx} {e : Expr} {t t' : TE} (h : PE X e t) (f : ∀ st H Q, t' st H Q → t st H Q) : PE X e t' := fun pins s st H Q I q => h pins s st H Q I (f st H Q q)
theorem PT.weak {X : Cx} {e : Expr} {t t' : TT} (h : PT X e t) (f : ∀ st H Q, t' st H Q → t st H Q) : PT X e t' := fun pins s st H Q I q => h pins s st H Q I (f st H Q q)
theorem PW.weak {X : Cx} {e : Expr} {t t' : TT} (h : PW X e t) (f : ∀ st H Q, t' st H Q → t st H Q) : PW X e t' := fun wh pins s st H Q I q => h wh pins s st H Q I (f st H Q q)
theorem PA.weak {X : Cx} {e : List Expr} {t t' : TA} (h : PA X e t) (f : ∀ st H Q, t' st H Q → t st H Q) : PA X e t' := fun pos pins s st H Q I q => h pos pins s st H Q I (f st H Q q)
theorem PS.weak {X : Cx} {e : Stmt} {t t' : TS} (h : PS X e t) (f : ∀ E st H, t' E st H → t E st H) : PS X e t' := fun pins s st H E I q => h pins s st H E I (f E st H q)
theorem PSs.weak {X : Cx} {e : List Stmt} {t t' : TS} (h : PSs X e t) (f : ∀ E st H, t' E st H → t E st H) : PSs X e t' := fun pins s st H E I q => h pins s st H E I (f E st H q)
end PV
namespace PV
open PySem L2 PySem.Spec PyProof.Rows
section
variable {X : Cx} {K : Zc} {th : List Addr} {mu : Sto} {H : Hp}
def eVar (i : Nat) : Ex := fun ro mu => match ro[i]? with
  | some (some d) => some (d, mu)
  | _ => none
def eC (d : D) : Ex := fun _ mu => some (d, mu)
theorem sv_var (i : Nat) {x : Str} {pos : Pos} (hN : X.N[i]? = some x := by rfl) (hv : Vis X.env.scope x := by first | exact Or.inl rfl | exact Or.inr (Or.inl rfl) | exact Or.inr (Or.inr rfl)) (hd : (x == ("__debug__" : Str)) = false := by decide)
    (hcd : (x == ("__classdict__" : Str)) = false := by decide) : SV X (.Name x pos) (eVar i) := ⟨PE.weak (pe_var hN hv hd hcd) fun st H Q h => by
  obtain ⟨th, mu, ro, so, en, t⟩ := h
  unfold eVar at t
  cases e : ro[i]? with
  | none => rw [e] at t; exact t.no.elim
  | some o =>
    cases o with
    | none => rw [e] at t; exact t.no.elim
    | some d =>
      rw [e] at t
      obtain ⟨v, ev, rv⟩ := en.2 i d e
      exact ⟨v, ev, t.ret so v rv⟩⟩
theorem sv_const {e : Expr} {d : D} {v : V} (h : PE X e (tC v)) (r : ∀ K th H, Rep K th H d v) : SV X e (eC d) := ⟨PE.weak h fun st H Q q => by
  obtain ⟨th, mu, ro, so, en, t⟩ := q
  exact t.ret so v (r _ _ _)⟩
theorem sv_int {i j pos} : SV X (.Constant (.int i) j pos) (eC (.int i)) := sv_const pe_int fun _ _ _ => by unfold Rep; rfl
theorem sv_bl {i j pos} : SV X (.Constant (.bool i) j pos) (eC (.bl i)) := sv_const pe_bl fun _ _ _ => by unfold Rep; rfl
theorem sv_non {j pos} : SV X (.Constant .none j pos) (eC .non) := sv_const pe_non fun _ _ _ => by unfold Rep; rfl
theorem sv_str {i j pos} (h : i.length ≤ sizeLine ∧ PyData.strOk i = true := by decide +kernel) : SV X (.Constant (.str i) j pos) (eC (.str i)) := sv_const pe_str fun _ _ _ => by unfold Rep; exact ⟨rfl, h⟩
def eBin (g : D → D → Sto → Rs D) (a b : Ex) : Ex := fun ro mu => bM (a ro mu) fun x m1 => bM (b ro m1) fun y m2 => g x y m2
theorem tOp_rd {a b : Ex} {g : D → D → Sto → Rs D} {st : L2.St} {Q : VK} (h : rdE K (eBin g a b) st H Q) : tOp (r2 K g) (rdE K a) (rdE K b) st H Q := by
  obtain ⟨th, mu, ro, so, en, t⟩ := h
  refine ⟨th, mu, ro, so, en, t.bind.mono fun x th1 mu1 H1 e1 s1 t1 v rv => ?_⟩
  exact ⟨th1, mu1, ro, s1, en.ext e1 so.out, t1.bind.mono fun y th2 mu2 H2 e2 s2 t2 u ru => ⟨th2, mu2, x, y, s2, rv.ext e2 s1.out, ru, t2⟩⟩
theorem sv_bin {a b : Expr} {op : Operator} {g : D → D → Sto → Rs D} {ma mb : Ex} {pos : Pos} (ho : OpV X (binaryOp op) g) (ha : SV X a ma) (hb : SV X b mb) : SV X (.BinOp a op b pos) (eBin g ma mb) :=
  ⟨PE.weak (pe_op ho ha.r hb.r) fun _ _ _ h => tOp_rd h⟩
theorem sv_cmp {a b : Expr} {op : CmpOp} {g : D → D → Sto → Rs D} {ma mb : Ex} {pos : Pos} (ho : OpV X (compareOp op) g) (ha : SV X a ma) (hb : SV X b mb) (hm : behindInMarks op b = false := by first | exact nomark _ | with_unfolding_all rfl) : SV X (.Compare a [op] [b] pos) (eBin g ma mb) :=
  ⟨PE.weak (pe_cmpR ho ha.r hb.r hm) fun _ _ _ h => tOp_rd h⟩
theorem sv_ix {a b : Expr} {g : D → D → Sto → Rs D} {ma mb : Ex} {pos : Pos} (ho : IxR X (r2 X.z g)) (ha : SV X a ma) (hb : SV X b mb) (hs : PlainIx b := by intro _ _; rfl) : SV X (.Subscript a b pos) (eBin g ma mb) :=
  ⟨PE.weak (pe_ix ho ha.r hb.r hs) fun _ _ _ h => tOp_rd h⟩
def e1 (g : D → Sto → Rs D) (a : Ex) : Ex := fun ro mu => bM (a ro mu) fun x m1 => g x m1
def asB : D → Option Bool
  | .bl b => some b
  | _ => none
def tV (a : Ex) : Tx := fun ro mu => bM (a ro mu) fun x m1 => (asB x).map fun b => (b, m1)
theorem asB_inv {d : D} {b : Bool} {v : V} (h : asB d = some b) (r : Rep K th H d v) : v = .bl b := by
  cases d with
  | bl c => cases h; exact r
  | _ => cases h
theorem tB_rd {a : Ex} {st : L2.St} {Q : Bool → Hp → Prop} (h : rdT K (tV a) st H Q) : tTest (rdE K a) st H Q := by
  obtain ⟨th, mu, ro, so, en, t⟩ := h
  refine ⟨th, mu, ro, so, en, t.bind.mono fun x th1 mu1 H1 e1 s1 t1 v rv => ?_⟩
  cases e : asB x with
  | none => rw [e] at t1; exact t1.no.elim
  | some b => rw [e] at t1; exact ⟨b, asB_inv e rv, t1.ret s1⟩
theorem svt_cmp {a b : Expr} {op : CmpOp} {g : D → D → Sto → Rs D} {ma mb : Ex} {pos : Pos} (ho : OpV X (compareOp op) g) (ha : SV X a ma) (hb : SV X b mb) (hm : behindInMarks op b = false := by first | exact nomark _ | with_unfolding_all rfl) : SVT X (.Compare a [op] [b] pos) (tV (eBin g ma mb)) :=
  ⟨PT.weak (pt_cmpR ho ha.r hb.r hm) fun _ _ _ h => by
    obtain ⟨th, mu, ro, so, en, t⟩ := tB_rd h
    exact tOp_rd ⟨th, mu, ro, so, en, t⟩⟩
def tAn (a b : Tx) : Tx := fun ro mu => bM (a ro mu) fun x m1 => if x = true then b ro m1 else some (false, m1)
theorem svw_and1 {a : Expr} {m : Tx} {pos : Pos} (ha : SVT X a m) : SVW X (.BoolOp .And [a] pos) m := ⟨pw_and1 ha.r⟩
theorem svw_and {a b : Expr} {rest : List Expr} {m n : Tx} {pos : Pos} (ha : SVT X a m) (hb : SVW X (.BoolOp .And (b :: rest) pos) n) : SVW X (.BoolOp .And (a :: b :: rest) pos) (tAn m n) := ⟨PW.weak (pw_and ha.r hb.r) fun st H Q h => by
  obtain ⟨th, mu, ro, so, en, t⟩ := h
  refine ⟨th, mu, ro, so, en, t.bind.mono fun b th1 mu1 H1 e1 s1 t1 => ?_⟩
  cases b with
  | true => exact ⟨th1, mu1, ro, s1, en.ext e1 so.out, t1⟩
  | false => exact t1.ret s1⟩
theorem SVW.t {e : Expr} {m : Tx} (h : SVW X e m) : SVT X e m := ⟨PW.pt h.r⟩
def eAn (a b : Ex) : Ex := fun ro mu => bM (a ro mu) fun x m1 => match asB x with
  | none => none
  | some c => if c = true then b ro m1 else some (.bl false, m1)
theorem sv_one {a : Expr} {op} {m : Ex} {pos : Pos} (h : SV X a m) : SV X (.BoolOp op [a] pos) m := ⟨pe_one h.r⟩
theorem sv_and {a b : Expr} {rest : List Expr} {m n : Ex} {pos : Pos} (ha : SV X a m) (hb : SV X (.BoolOp .And (b :: rest) pos) n) : SV X (.BoolOp .And (a :: b :: rest) pos) (eAn m n) := ⟨PE.weak (pe_and ha.r hb.r) fun st H Q h => by
  obtain ⟨th, mu, ro, so, en, t⟩ := h
  refine ⟨th, mu, ro, so, en, t.bind.mono fun x th1 mu1 H1 e1 s1 t1 v rv => ?_⟩
  cases e : asB x with
  | none => rw [e] at t1; exact t1.no.elim
  | some c =>
    rw [e] at t1
    refine ⟨c, asB_inv e rv, ?_⟩
    cases c with
    | true => exact ⟨th1, mu1, ro, s1, en.ext e1 so.out, t1⟩
    | false => exact t1.ret s1 _ (by unfold Rep; rfl)⟩
def eIf (c : Tx) (a b : Ex) : Ex := fun ro mu => bM (c ro mu) fun x m1 => if x = true then a ro m1 else b ro m1
theorem sv_ifExp {c a b : Expr} {mc : Tx} {ma mb : Ex} {pos : Pos} (hc : SVT X c mc) (ha : SV X a ma) (hb : SV X b mb) : SV X (.IfExp c a b pos) (eIf mc ma mb) := ⟨PE.weak (pe_ifExp hc.r ha.r hb.r) fun st H Q h => by
  obtain ⟨th, mu, ro, so, en, t⟩ := h
  refine ⟨th, mu, ro, so, en, t.bind.mono fun b th1 mu1 H1 e1 s1 t1 => ?_⟩
  cases b with
  | true => exact ⟨th1, mu1, ro, s1, en.ext e1 so.out, t1⟩
  | false => exact ⟨th1, mu1, ro, s1, en.ext e1 so.out, t1⟩⟩
def aNil : Exs := fun _ mu => some ([], mu)
def aCons (a : Ex) (r : Exs) : Exs := fun ro mu => bM (a ro mu) fun x m1 => bM (r ro m1) fun xs m2 => some (x :: xs, m2)
theorem sva_nil : SVA X [] aNil := by
  refine ⟨PA.weak pa_nil fun st H Q h => ?_, fun ro mu ds mu' h => by cases h; rfl⟩
  obtain ⟨th, mu, ro, so, en, t⟩ := h
  exact t.ret so [] .nil
theorem sva_cons {e : Expr} {es : List Expr} {m : Ex} {n : Exs} (ha : SV X e m) (hr : SVA X es n) (hs : starEach (e :: es) X.env = (false, eval e X.env) :: starEach es X.env := by rfl) : SVA X (e :: es) (aCons m n) := by
  refine ⟨PA.weak (pa_cons ha.r hr.1 hs) fun st H Q h => ?_, fun ro mu ds mu' h => ?_⟩
  · obtain ⟨th, mu, ro, so, en, t⟩ := h
    refine ⟨th, mu, ro, so, en, t.bind.mono fun x th1 mu1 H1 e1 s1 t1 v rv => ?_⟩
    exact ⟨th1, mu1, ro, s1, en.ext e1 so.out, t1.bind.mono fun xs th2 mu2 H2 e2 s2 t2 vs rvs => t2.ret s2 _ (.cons (rv.ext e2 s1.out) rvs)⟩
  · obtain ⟨x, m1, _, h⟩ := bM_inv h
    obtain ⟨xs, m2, h1, h⟩ := bM_inv h
    cases h
    rw [List.length_cons, List.length_cons, hr.2 _ _ _ _ h1]
def eTup (a : Exs) : Ex := fun ro mu => bM (a ro mu) fun xs m1 => some (.tup xs, m1)
def eLst (a : Exs) : Ex := fun ro mu => bM (a ro mu) fun xs m1 => some (.lst xs, m1)
def eLstM (a : Exs) : Ex := fun ro mu => bM (a ro mu) fun xs m1 => some (.ref m1.length, m1 ++ [.lst xs])
theorem Rep.newTup (so : StoOk K th mu H) {p : Addr} (h : H p = none) {ds : List D} {vs : List V} (r : RepL K th H ds vs) (hz : ds.length ≤ sizeLine) : Rep K th (upd H p (.tup vs)) (.tup ds) (.ref p) := by
  unfold Rep
  exact ⟨p, vs, rfl, SqT.of upd_same, r.ext (.new h _) so.out, hz⟩
theorem StoOk.notin (so : StoOk K th mu H) {p : Addr} (h : H p = none) : p ∉ th := fun z => by
  obtain ⟨xs, e, _⟩ := so.out p z
  rw [h] at e
  cases e
theorem Rep.newLst (so : StoOk K th mu H) {p : Addr} (h : H p = none) {ds : List D} {vs : List V} (r : RepL K th H ds vs) (hz : ds.length ≤ sizeLine) : Rep K th (upd H p (.lst vs)) (.lst ds) (.ref p) := by
  unfold Rep
  exact ⟨p, vs, rfl, .inl ⟨so.notin h, .inl upd_same⟩, r.ext (.new h _) so.out, hz⟩
theorem sv_tup {es : List Expr} {m : Exs} {x1} {pos : Pos} (h : SVA X es m) (hl : es.length ≤ 1000 := by decide) : SV X (.Tuple es x1 pos) (eTup m) := ⟨PE.weak (pe_tup h.1) fun st H Q q => by
  obtain ⟨th, mu, ro, so, en, t⟩ := q
  obtain ⟨d, mu', e, _⟩ := id t
  obtain ⟨xs0, m0, e0, _⟩ := bM_inv e
  have hn := h.2 _ _ _ _ e0
  have tb : Tr X.z th H (m ro mu) fun ds th' mu' H' => ds.length ≤ 1000 ∧ Tr X.z th' H' (some (D.tup ds, mu')) (KV' X.z Q) := by
    obtain ⟨a, mu1, e1, q1⟩ := t.bind
    exact ⟨a, mu1, e1, fun th' H' x s => ⟨by rw [h.2 _ _ _ _ e1]; exact hl, q1 th' H' x s⟩⟩
  refine ⟨th, mu, ro, so, en, tb.mono fun xs th1 mu1 H1 e1 s1 t1 vs rvs => ⟨?_, fun p hp => ?_⟩⟩
  · rw [rvs.len]; exact Nat.le_trans t1.1 (by decide)
  · exact t1.2.retX (.new hp _) (s1.new hp _) _ (Rep.newTup s1 hp rvs (Nat.le_trans t1.1 (by decide)))⟩
theorem lst_tb {es : List Expr} {m : Exs} {C : List D → Sto → Rs D} {st : L2.St} {ro : Ro} {k : D → List Addr → Sto → Hp → Prop} (h : SVA X es m) (hl : es.length ≤ 1000) (t : Tr K th H (bM (m ro mu) C) k) :
    Tr K th H (m ro mu) fun ds th' mu' H' => ds.length ≤ 1000 ∧ Tr K th' H' (C ds mu') k := by
  obtain ⟨a, mu1, e1, q1⟩ := t.bind
  exact ⟨a, mu1, e1, fun th' H' x s => ⟨by rw [h.2 _ _ _ _ e1]; exact hl, q1 th' H' x s⟩⟩
theorem sv_lst {es : List Expr} {m : Exs} {pos : Pos} (h : SVA X es m) (hl : es.length ≤ 1000 := by decide) : SV X (.List es pos) (eLst m) := ⟨PE.weak (pe_lst h.1) fun st H Q q => by
  obtain ⟨th, mu, ro, so, en, t⟩ := q
  refine ⟨th, mu, ro, so, en, (lst_tb (st := st) h hl t).mono fun xs th1 mu1 H1 e1 s1 t1 vs rvs => ⟨?_, fun p hp => ?_⟩⟩
  · rw [rvs.len]; exact Nat.le_trans t1.1 (by decide)
  · exact t1.2.retX (.new hp _) (s1.new hp _) _ (Rep.newLst s1 hp rvs (Nat.le_trans t1.1 (by decide)))⟩
theorem sv_lstM {es : List Expr} {m : Exs} {pos : Pos} (h : SVA X es m) (hl : es.length ≤ 1000 := by decide) : SV X (.List es pos) (eLstM m) := ⟨PE.weak (pe_lst h.1) fun st H Q q => by
  obtain ⟨th, mu, ro, so, en, t⟩ := q
  refine ⟨th, mu, ro, so, en, (lst_tb (st := st) h hl t).mono fun xs th1 mu1 H1 e1 s1 t1 vs rvs => ⟨?_, fun p hp => ?_⟩⟩
  · rw [rvs.len]; exact Nat.le_trans t1.1 (by decide)
  · refine t1.2.retX (.newM hp _) (s1.newM hp rvs (Nat.le_trans t1.1 (by decide))) _ ?_
    unfold Rep
    exact ⟨p, rfl, by rw [← s1.len]; simp⟩⟩
def eCall (f : Fn) (a : Exs) : Ex := fun ro mu => bM (a ro mu) fun xs m1 => f xs m1
theorem tCB_rd {f : Fn} {a : Exs} {st : L2.St} {Q : VK} (h : rdE K (eCall f a) st H Q) : tCB (rL K f) (rdA K a) st H Q := by
  obtain ⟨th, mu, ro, so, en, t⟩ := h
  exact ⟨th, mu, ro, so, en, t.bind.mono fun xs th1 mu1 H1 e1 s1 t1 vs rvs => ⟨th1, mu1, xs, s1, rvs, t1⟩⟩
theorem sv_callB {x : Str} {id : String} {g : Fn} {e : Expr} {es : List Expr} {m : Exs} {p pos : Pos} (hc : CallV X (.builtin id) g) (hm : X.mg x = none) (hv : bootBuiltins x = some (.builtin id)) (ha : SVA X (e :: es) m) (hg : Gl X x := by rfl)
    (hn : x ≠ "__name__" := by decide) (hdb : (x == ("__debug__" : Str)) = false := by decide) (hs1 : starEach (e :: es) X.env = (false, eval e X.env) :: starEach es X.env := by rfl) (hs2 : (backTo pos (starEach es X.env)).any (·.1) = false := by rfl) : SV X (.Call (.Name x p) (e :: es) [] pos) (eCall g m) :=
  ⟨PE.weak (pe_callB hc hg hm hv ha.1 hn hdb hs1 hs2) fun _ _ _ h => tCB_rd h⟩
theorem sv_callTy {x : Str} {T : String} {g : Fn} {e : Expr} {es : List Expr} {m : Exs} {p pos : Pos} (hc : CallV X (.type T) g) (hm : X.mg x = none) (hv : bootBuiltins x = some (.type T)) (ha : SVA X (e :: es) m) (hg : Gl X x := by rfl)
    (hn : x ≠ "__name__" := by decide) (hdb : (x == ("__debug__" : Str)) = false := by decide) (hs1 : starEach (e :: es) X.env = (false, eval e X.env) :: starEach es X.env := by rfl) (hs2 : (backTo pos (starEach es X.env)).any (·.1) = false := by rfl) : SV X (.Call (.Name x p) (e :: es) [] pos) (eCall g m) :=
  ⟨PE.weak (pe_callTy hc hg hm hv ha.1 hn hdb hs1 hs2) fun _ _ _ h => tCB_rd h⟩
def spF (K : Zc) (f : Fn) (n : Nat) : Sp := fun vs H Q _ => ∃ th mu ds, StoOk K th mu H ∧ RepL K th H ds vs ∧ ds.length = n ∧ Tr K th H (f ds mu) (KV' K Q)
structure Cal (P : Program) (w : World) (K : PySem.W.Frag) (mg : Str → Option Value) (base : Heap) (k : Nat) (x : Str) (f : Fn) (n : Nat) : Prop where
  ex : ∃ (ps : List Str) (a : Addr) (fd : FuncData), ps.length = n ∧ FnOk P w K mg base CX0 k a fd ps (spF ⟨K, P, w⟩ f n) ∧ Binds K fd ps [] ∧ PySem.W.keepIn K (.ref a) = true ∧ mg x = some (.ref a)
theorem sv_call {x : Str} {k : Nat} {f : Fn} {n : Nat} {e : Expr} {es : List Expr} {m : Exs} {p pos : Pos} (C : Cal X.prog X.w X.K X.mg X.base k x f n) (hr : Room k X.A) (ha : SVA X (e :: es) m) (hl : (e :: es).length = n := by rfl) (hg : Gl X x := by rfl)
    (hdb : (x == ("__debug__" : Str)) = false := by decide) (he : starEach (e :: es) X.env = (false, eval e X.env) :: starEach es X.env := by rfl) (hpl : (backTo pos (starEach es X.env)).any (·.1) = false := by rfl) : SV X (.Call (.Name x p) (e :: es) [] pos) (eCall f m) := ⟨by
  obtain ⟨ps, a, fd, hn, F, b, kp, mm⟩ := C.ex
  refine PE.weak (pe_call F hr hg mm kp b .nil pass0 ha.1 hdb he hpl) fun st H Q h => ?_
  obtain ⟨th, mu, ro, so, en, t⟩ := h
  have tb : Tr X.z th H (m ro mu) fun ds th' mu' H' => ds.length = n ∧ Tr X.z th' H' (f ds mu') (KV' X.z Q) := by
    obtain ⟨a, mu1, e1, q1⟩ := t.bind
    exact ⟨a, mu1, e1, fun th' H' x s => ⟨by rw [ha.2 _ _ _ _ e1]; exact hl, q1 th' H' x s⟩⟩
  exact ⟨th, mu, ro, so, en, tb.mono fun xs th1 mu1 H1 e1 s1 t1 vs rvs => ⟨th1, mu1, xs, s1, by simpa using rvs, t1.1, t1.2⟩⟩⟩
end
end PV
namespace PV
open PySem L2 PySem.Spec PyProof.Rows
section
variable {X : Cx} {K : Zc} {th : List Addr} {mu : Sto} {H : Hp}
def sNx : Sx := fun ro mu => some ((.nx, ro), mu)
def sSeq (a b : Sx) : Sx := fun ro mu => bM (a ro mu) fun p m1 => match p.1 with
  | .nx => b p.2 m1
  | _ => some (p, m1)
theorem svb_nil : SVB X [] sNx := ⟨PSs.weak pss_nil fun E st H h => by
  obtain ⟨th, mu, ro, so, en, t⟩ := h
  exact t.ret so st en⟩
theorem svb_one {s : Stmt} {m : Sx} (h : SVS X s m) : SVB X [s] m := ⟨pss_one h.r⟩
theorem svb_cons {s : Stmt} {r : List Stmt} {m n : Sx} (h1 : SVS X s m) (h2 : SVB X r n) : SVB X (s :: r) (sSeq m n) := ⟨PSs.weak (pss_cons h1.r h2.r) fun E st H h => by
  obtain ⟨th, mu, ro, so, en, t⟩ := h
  refine ⟨th, mu, ro, so, en, t.bind.mono fun p th1 mu1 H1 e1 s1 t1 st' en' => ?_⟩
  obtain ⟨fl, ro'⟩ := p
  cases fl with
  | nx => exact ⟨th1, mu1, ro', s1, en', t1⟩
  | bk => exact t1.ret s1 st' en'
  | ct => exact t1.ret s1 st' en'
  | rt d => exact t1.ret s1 st' en'⟩
def sRt (a : Ex) : Sx := fun ro mu => bM (a ro mu) fun d m1 => some ((.rt d, ro), m1)
theorem svs_ret {e : Expr} {m : Ex} {pos : Pos} (h : SV X e m) : SVS X (.Return (some e) pos) (sRt m) := ⟨PS.weak (ps_ret h.r) fun E st H h => by
  obtain ⟨th, mu, ro, so, en, t⟩ := h
  exact ⟨th, mu, ro, so, en, t.bind.mono fun d th1 mu1 H1 e1 s1 t1 v rv => t1.ret s1 st (en.ext e1 so.out) v rv⟩⟩
def sEx (a : Ex) : Sx := fun ro mu => bM (a ro mu) fun _ m1 => some ((.nx, ro), m1)
theorem svs_expr {e : Expr} {m : Ex} {pos : Pos} (h : SV X e m) (hs : swapsWith e none pos.line X.env = pure false := by rfl) : SVS X (.Expr e pos) (sEx m) := ⟨PS.weak (ps_expr h.r hs) fun E st H h => by
  obtain ⟨th, mu, ro, so, en, t⟩ := h
  exact ⟨th, mu, ro, so, en, t.bind.mono fun d th1 mu1 H1 e1 s1 t1 v rv => t1.ret s1 st (en.ext e1 so.out)⟩⟩
def sIf (c : Tx) (a b : Sx) : Sx := fun ro mu => bM (c ro mu) fun x m1 => if x = true then a ro m1 else b ro m1
theorem svs_if {c : Expr} {a b : List Stmt} {mc : Tx} {ma mb : Sx} {pos : Pos} (hc : SVT X c mc) (ha : SVB X a ma) (hb : SVB X b mb) : SVS X (.If c a b pos) (sIf mc ma mb) := ⟨PS.weak (ps_if hc.r ha.r hb.r) fun E st H h => by
  obtain ⟨th, mu, ro, so, en, t⟩ := h
  refine ⟨th, mu, ro, so, en, t.bind.mono fun b th1 mu1 H1 e1 s1 t1 => ?_⟩
  cases b with
  | true => exact ⟨th1, mu1, ro, s1, en.ext e1 so.out, t1⟩
  | false => exact ⟨th1, mu1, ro, s1, en.ext e1 so.out, t1⟩⟩
abbrev Gx := D → Ro → Sto → Rs Ro
abbrev Gxs := List D → Ro → Sto → Rs Ro
def rdG (K : Zc) (g : Gx) : TG := fun v st H Q => ∃ th mu ro d, StoOk K th mu H ∧ EnvOk K th H ro st ∧ Rep K th H d v ∧ Tr K th H (g d ro mu) fun ro' th' _ H' => ∀ st', EnvOk K th' H' ro' st' → Q st' H'
def rdGs (K : Zc) (g : Gxs) : TGs := fun vs st H Q => ∃ th mu ro ds, StoOk K th mu H ∧ EnvOk K th H ro st ∧ RepL K th H ds vs ∧ Tr K th H (g ds ro mu) fun ro' th' _ H' => ∀ st', EnvOk K th' H' ro' st' → Q st' H'
structure SVG (X : Cx) (e : Expr) (g : Gx) : Prop where
  r : PG X e (rdG X.z g)
structure SVGs (X : Cx) (es : List Expr) (g : Gxs) : Prop where
  r : PGs X es (rdGs X.z g)
theorem PG.weak {e : Expr} {t t' : TG} (h : PG X e t) (f : ∀ v st H Q, t' v st H Q → t v st H Q) : PG X e t' := fun pins s st H v u Q I r q => h pins s st H v u Q I r (f v st H Q q)
theorem PGs.weak {e : List Expr} {t t' : TGs} (h : PGs X e t) (f : ∀ v st H Q, t' v st H Q → t v st H Q) : PGs X e t' := fun pins s st H v u Q I r q => h pins s st H v u Q I r (f v st H Q q)
def gNm (i : Nat) : Gx := fun d ro mu => some (ro.set i (some d), mu)
theorem svg_name (i : Nat) {x : Str} {pos : Pos} (hN : X.N.Nodup) (hi : X.N[i]? = some x := by rfl) (hx : Loc X.env.scope x := by first | exact Or.inl rfl | exact Or.inr rfl) (hf : X.fn x = true ∨ X.env.scope.names.lookup x = some .local := by first | exact .inl rfl | exact .inr rfl) : SVG X (.Name x pos) (gNm i) :=
  ⟨PG.weak (pg_name hN hi hx hf) fun v st H Q h => by
    obtain ⟨th, mu, ro, d, so, en, r, t⟩ := h
    exact t.ret so _ (en.set i r)⟩
def gsNil : Gxs := fun ds ro mu => match ds with
  | [] => some (ro, mu)
  | _ => none
def gsCons (g : Gx) (r : Gxs) : Gxs := fun ds ro mu => match ds with
  | d :: ds => bM (g d ro mu) fun ro' m1 => r ds ro' m1
  | [] => none
theorem svgs_nil : SVGs X [] gsNil := ⟨PGs.weak pgs_nil fun v st H Q h => by
  obtain ⟨th, mu, ro, ds, so, en, r, t⟩ := h
  cases ds with
  | nil => exact ⟨r.inv0, t.ret so _ en⟩
  | cons d ds => exact t.no.elim⟩
theorem svgs_cons {e : Expr} {es : List Expr} {g : Gx} {gs : Gxs} (h1 : SVG X e g) (h2 : SVGs X es gs) (hs : (assignEach (e :: es) X.env).map (·.2) = assign e X.env :: (assignEach es X.env).map (·.2) := by rfl) : SVGs X (e :: es) (gsCons g gs) := ⟨PGs.weak (pgs_cons h1.r h2.r hs) fun v st H Q h => by
  obtain ⟨th, mu, ro, ds, so, en, r, t⟩ := h
  cases ds with
  | nil => exact t.no.elim
  | cons d ds =>
    obtain ⟨v, vr, rfl, r1, r2⟩ := r.inv
    refine ⟨v, vr, rfl, th, mu, ro, d, so, en, r1, ?_⟩
    exact Tr.mono (Tr.bind t) fun ro' th1 mu1 H1 e1 s1 t1 st' en' => ⟨th1, mu1, ro', ds, s1, en', r2.ext e1 so.out, t1⟩⟩
def gTp (n : Nat) (g : Gxs) : Gx := fun d ro mu => match d with
  | .tup ds => if ds.length = n then g ds ro mu else none
  | _ => none
theorem svg_tup {es : List Expr} {k n : Nat} {g : Gxs} {pos : Pos} (hc : X.calm = true) (h : SVGs X es g) (hn : (assignEach es X.env).length = n := by rfl) (hst : (assignEach es X.env).findIdx? (·.1) = none := by rfl) : SVG X (.Tuple es k pos) (gTp n g) :=
  ⟨PG.weak (pg_tup hc h.r hn hst) fun v st H Q q => by
    obtain ⟨th, mu, ro, d, so, en, r, t⟩ := q
    cases d with
    | tup ds =>
      unfold Rep at r
      obtain ⟨a, vs, rfl, hs, rl, _⟩ := r
      unfold gTp at t; dsimp only at t
      by_cases e : ds.length = n
      · rw [if_pos e] at t
        exact ⟨a, vs, rfl, hs, by rw [rl.len]; exact e, th, mu, ro, ds, so, en, rl, t⟩
      · rw [if_neg e] at t; exact t.no.elim
    | _ => exact t.no.elim⟩
def sSet (a : Ex) (g : Gx) : Sx := fun ro mu => bM (a ro mu) fun d m1 => bM (g d ro m1) fun ro' m2 => some ((.nx, ro'), m2)
theorem tAsg_rd {a : Ex} {g : Gx} {st : L2.St} {E : Ends} (h : rdS K (sSet a g) E st H) : tAsg (rdE K a) (rdG K g) E st H := by
  obtain ⟨th, mu, ro, so, en, t⟩ := h
  refine ⟨th, mu, ro, so, en, t.bind.mono fun d th1 mu1 H1 e1 s1 t1 v rv => ?_⟩
  refine ⟨th1, mu1, ro, d, s1, en.ext e1 so.out, rv, t1.bind.mono fun ro' th2 mu2 H2 e2 s2 t2 st' en' => ?_⟩
  exact t2.ret s2 st' en'
theorem svs_asg {tg e : Expr} {m : Ex} {g : Gx} {pos : Pos} (he : SV X e m) (hg : SVG X tg g) (hs : swapsWithSole [tg] e pos.line X.env = pure false := by rfl) (hw : swappedStores [tg] e X.env = pure none := by rfl)
    (h1 : (assignEach [tg] X.env).map (·.2) = [assign tg X.env] := by rfl) : SVS X (.Assign [tg] e pos) (sSet m g) := ⟨PS.weak (ps_asg he.r hg.r hs hw h1) fun _ _ _ h => tAsg_rd h⟩
theorem svs_set (i : Nat) {x : Str} {e : Expr} {m : Ex} {pos pos' : Pos} (hN : X.N.Nodup) (he : SV X e m) (hi : X.N[i]? = some x := by rfl) (hx : Loc X.env.scope x := by first | exact Or.inl rfl | exact Or.inr rfl) (hs : swapsWith e (some (.Name x pos')) pos.line X.env = pure false := by rfl)
    (hf : X.fn x = true ∨ X.env.scope.names.lookup x = some .local := by first | exact .inl rfl | exact .inr rfl) : SVS X (.Assign [.Name x pos'] e pos) (sSet m (gNm i)) := ⟨PS.weak (ps_set hN hi hx he.r hs hf) fun E st H h => by
  obtain ⟨th, mu, ro, so, en, t⟩ := h
  refine ⟨th, mu, ro, so, en, t.bind.mono fun d th1 mu1 H1 e1 s1 t1 v rv => ?_⟩
  exact t1.ret s1 _ ((en.ext e1 so.out).set i rv)⟩
def fnB (n : Nat) (m : Sx) : Fn := fun ds mu => bM (m (ds.map some ++ List.replicate (n - ds.length) none) mu) fun p m1 => match p.1 with
  | .rt d => some (d, m1)
  | .nx => some (.non, m1)
  | _ => none
theorem envOk_start {N : List Str} {ds : List D} {vs : List V} (r : RepL K th H ds vs) : EnvOk K th H (ds.map some ++ List.replicate (N.length - ds.length) none) (L2.start N vs) := by
  unfold L2.start
  refine ⟨by simp [r.len], fun i d e => ?_⟩
  by_cases hi : i < ds.length
  · rw [List.getElem?_append_left (by simpa using hi), List.getElem?_map] at e
    cases q : ds[i]? with
    | none => rw [q] at e; cases e
    | some d' =>
      rw [q] at e
      have : d' = d := by simpa using e
      subst this
      obtain ⟨v, ev, rv⟩ := r.get q
      exact ⟨v, by rw [List.getElem?_append_left (by simpa [r.len] using hi), List.getElem?_map, ev]; rfl, rv⟩
  · rw [List.getElem?_append_right (by simpa using hi), List.getElem?_replicate] at e
    split at e <;> cases e
theorem fn_sv {P : Program} {w : World} {K : PySem.W.Frag} {mg : Str → Option Value} {base : Heap} {x qual : Str} {st : Stmt} {f : Addr} {fd : FuncData} {N ps : List Str} {k : Nat} {m : Sx} (F : Fun K x qual st f fd) (S : FnScope N ps (defScope st))
    (hbody : ∀ (cdv : Value) (A : Around) (outer : List Env) (s : Shared) (H : Hp) (E : XK), Room k (A.deeper (envOfC qual (defScope st) s.heap.objs.size f cdv)) →
      SVB (cxOf CX0 P w K mg base N qual (defScope st) f cdv A outer s H E).nox (defBody st) m) : FnOk P w K mg base CX0 (k + 1) f fd ps (spF ⟨K, P, w⟩ (fnB N.length m) ps.length) := by
  refine F.ok S (fun vs H Q E h => ?_) (fun cdv A outer s H vs Q E hr h => ?_)
  · obtain ⟨th, mu, ds, _, r, hl, _⟩ := h
    rw [r.len]
    exact hl
  · obtain ⟨th, mu, ds, so, r, hl, t⟩ := h
    refine ⟨_, (hbody cdv A outer s H E hr).r, ?_⟩
    refine ⟨th, mu, _, so, envOk_start r, t.bind.mono fun p th1 mu1 H1 e1 s1 t1 st' en' => ?_⟩
    obtain ⟨fl, ro'⟩ := p
    cases fl with
    | nx => exact t1.ret s1 _ (by unfold Rep; rfl)
    | bk => exact t1.no.elim
    | ct => exact t1.no.elim
    | rt d => exact fun v rv => t1.ret s1 v rv
theorem fn_svn (n np : Nat) {P : Program} {w : World} {K : PySem.W.Frag} {mg : Str → Option Value} {base : Heap} {x qual : Str} {st : Stmt} {f : Addr} {fd : FuncData} {N ps : List Str} {k : Nat} {m : Sx} (F : Fun K x qual st f fd) (S : FnScope N ps (defScope st)) (hn : N.length = n) (hp : ps.length = np)
    (hbody : ∀ (cdv : Value) (A : Around) (outer : List Env) (s : Shared) (H : Hp) (E : XK), Room k (A.deeper (envOfC qual (defScope st) s.heap.objs.size f cdv)) →
      SVB (cxOf CX0 P w K mg base N qual (defScope st) f cdv A outer s H E).nox (defBody st) m) : FnOk P w K mg base CX0 (k + 1) f fd ps (spF ⟨K, P, w⟩ (fnB n m) np) := by
  subst hn hp
  exact fn_sv F S hbody
theorem cal_mk {P : Program} {w : World} {K : PySem.W.Frag} {mg : Str → Option Value} {base : Heap} {x : Str} {st : Stmt} {f : Addr} {fd : FuncData} {ps : List Str} {k n : Nat} {g : Fn} (F : Fun K x x st f fd) (hm : mg x = some (.ref f)) (h : FnOk P w K mg base CX0 k f fd ps (spF ⟨K, P, w⟩ g n)) (hb : Binds K fd ps []) (hn : ps.length = n := by rfl) : Cal P w K mg base k x g n :=
  ⟨ps, f, fd, hn, h, hb, F.kp, hm⟩
abbrev Ix := Ro → Sto → Rs (List D × Option Nat)
def gOk (g : Option Nat) (m0 m : Sto) : Prop := match g with
  | none => True
  | some k => m0[k]? = m[k]?
structure ItOk (K : Zc) (J : It) (th : List Addr) (mu : Sto) (H : Hp) (ds : List D) (g : Option Nat) : Prop where
  sz : ds.length ≤ sizeLine
  go : ∀ th' mu' H', Ext th H th' H' → StoOk K th' mu' H' → gOk g mu mu' → ∀ (i : Nat) (d : D), ds[i]? = some d → J.go i H' ∧ ∀ x H2, J.yld i H' x H2 → Ext th' H' th' H2 ∧ StoOk K th' mu' H2 ∧ Rep K th' H2 d x
  stop : ∀ th' mu' H', Ext th H th' H' → StoOk K th' mu' H' → gOk g mu mu' → J.stop ds.length H'
def rdI (K : Zc) (m : Ix) : TI := fun st H R => ∃ th mu ro, StoOk K th mu H ∧ EnvOk K th H ro st ∧ Tr K th H (m ro mu) fun p th' mu' H' => ∀ J, ItOk K J th' mu' H' p.1 p.2 → R J H'
structure SVI (X : Cx) (tg iter : Expr) (m : Ix) : Prop where
  r : PI X tg iter (rdI X.z m)
theorem PI.weak {tg e : Expr} {t t' : TI} (h : PI X tg e t) (f : ∀ st H R, t' st H R → t st H R) : PI X tg e t' := fun pins s st H R I q => h pins s st H R I (f st H R q)
open Classical in
noncomputable def guard' {A : Type} (g : Option Nat) (m0 m : Sto) (r : Rs A) : Rs A := if gOk g m0 m then r else none
theorem guard_inv {A : Type} {g : Option Nat} {m0 m : Sto} {r : Rs A} {p : A × Sto} (h : guard' g m0 m r = some p) : gOk g m0 m ∧ r = some p := by
  unfold guard' at h
  by_cases e : gOk g m0 m
  · rw [if_pos e] at h; exact ⟨e, h⟩
  · rw [if_neg e] at h; cases h
noncomputable def forGo (g : Option Nat) (m0 : Sto) (tg : Gx) (body : Sx) : List D → Ro → Sto → Rs (Fl × Ro)
  | [], ro, mu => some ((.nx, ro), mu)
  | d :: ds, ro, mu => bM (tg d ro mu) fun ro1 m1 => bM (body ro1 m1) fun p m2 => match p.1 with
    | .nx => guard' g m0 m2 (forGo g m0 tg body ds p.2 m2)
    | .ct => guard' g m0 m2 (forGo g m0 tg body ds p.2 m2)
    | .bk => some ((.nx, p.2), m2)
    | .rt d => some ((.rt d, p.2), m2)
noncomputable def sFor (i : Ix) (tg : Gx) (body : Sx) : Sx := fun ro mu => bM (i ro mu) fun p m1 => forGo p.2 m1 tg body p.1 ro m1
theorem svs_for {tg iter : Expr} {body : List Stmt} {i : Ix} {g : Gx} {m : Sx} {pos : Pos} (hp : PassesOwn (model X.prog X.w) X.A X.env X.xe) (hc : X.calm = true) (hi : SVI X tg iter i) (hg : SVG X tg g) (hb : SVB X body m)
    (hs : ∀ x, foldedSetIterable iter X.env x = pure x := by intro _; rfl) : SVS X (.For tg iter body [] pos) (sFor i g m) := ⟨PS.weak (ps_for hp hc hi.r hg.r hb.r hs) fun E st H h => by
  obtain ⟨th, mu, ro, so, en, t⟩ := h
  refine ⟨th, mu, ro, so, en, t.bind.mono fun p th1 mu1 H1 e1 s1 t1 J ok => ?_⟩
  obtain ⟨ds, gd⟩ := p
  have en1 := en.ext e1 so.out
  refine ⟨fun k n st' H' => n = ds.length - k ∧ k ≤ ds.length ∧ ∃ th' mu' ro', StoOk X.z th' mu' H' ∧ EnvOk X.z th' H' ro' st' ∧ Ext th1 H1 th' H' ∧ gOk gd mu1 mu' ∧ Tr X.z th' H' (forGo gd mu1 g m (ds.drop k) ro' mu') (endK X.z E), ⟨_, rfl, Nat.zero_le _, th1, mu1, ro, s1, en1, .refl _ _, ?_, t1⟩, ?_⟩
  · cases gd with
    | none => exact True.intro
    | some k => exact rfl
  rintro k n st2 H2 ⟨rfl, hk, th2, mu2, ro2, s2, en2, e2, g2, t2⟩
  by_cases lt : k < ds.length
  · refine .inr ?_
    have ek : ds[k]? = some ds[k] := by simp
    obtain ⟨a1, a2⟩ := ok.go th2 mu2 H2 e2 s2 g2 k ds[k] ek
    refine ⟨a1, fun st' H' => k + 1 ≤ ds.length ∧ ∃ th' mu' ro', StoOk X.z th' mu' H' ∧ EnvOk X.z th' H' ro' st' ∧ Ext th1 H1 th' H' ∧ gOk gd mu1 mu' ∧ Tr X.z th' H' (forGo gd mu1 g m (ds.drop (k + 1)) ro' mu') (endK X.z E), fun st' H' q => ⟨ds.length - (k + 1), by omega, rfl, q⟩, fun x H3 y => ?_⟩
    obtain ⟨e3, s3, r3⟩ := a2 x H3 y
    rw [List.drop_eq_getElem_cons lt] at t2
    unfold forGo at t2
    refine ⟨th2, mu2, ro2, ds[k], s3, en2.ext e3 s2.out, r3, ?_⟩
    refine (t2.ahead e3).bind.mono fun ro4 th4 mu4 H4 e4 s4 t4 st4 en4 => ?_
    refine ⟨th4, mu4, ro4, s4, en4, t4.bind.mono fun p th5 mu5 H5 e5 s5 t5 st5 en5 => ?_⟩
    obtain ⟨fl, ro5⟩ := p
    have e15 : Ext th1 H1 th5 H5 := ((e2.trans e3).trans e4).trans e5
    cases fl with
    | nx =>
      obtain ⟨a, mu', q1, q2⟩ := t5
      obtain ⟨go5, q1⟩ := guard_inv q1
      exact ⟨lt, th5, mu5, ro5, s5, en5, e15, go5, a, mu', q1, q2⟩
    | ct =>
      obtain ⟨a, mu', q1, q2⟩ := t5
      obtain ⟨go5, q1⟩ := guard_inv q1
      exact ⟨lt, th5, mu5, ro5, s5, en5, e15, go5, a, mu', q1, q2⟩
    | bk => exact t5.ret s5 st5 en5
    | rt d => exact t5.ret s5 st5 en5
  · have e : k = ds.length := by omega
    subst e
    rw [List.drop_length] at t2
    unfold forGo at t2
    exact .inl ⟨ok.stop th2 mu2 H2 e2 s2 g2, t2.ret s2 st2 en2⟩⟩
end
end PV
namespace PV
open PySem L2 PySem.Spec PyProof.Rows
section
variable {X : Cx} {K : Zc} {th : List Addr} {mu : Sto} {H : Hp}
noncomputable def lcGo (g : Option Nat) (m0 : Sto) (tg : Gx) (tt : Tx) (el : Ex) (ro : Ro) : List D → Sto → Rs (List D)
  | [], mu => some ([], mu)
  | d :: ds, mu => bM (tg d ro mu) fun ro1 m1 => bM (tt ro1 m1) fun b m2 =>
    if b = true then bM (el ro1 m2) fun y m3 => guard' g m0 m3 (bM (lcGo g m0 tg tt el ro ds m3) fun ys m4 => some (y :: ys, m4)) else guard' g m0 m2 (lcGo g m0 tg tt el ro ds m2)
def r0 (nc : Nat) (fvs : List Nat) (ro : Ro) : Ro := List.replicate nc none ++ fvs.map fun k => ro.getD k none
noncomputable def eLC (i : Ix) (nc : Nat) (fvs : List Nat) (tg : Gx) (tt : Tx) (el : Ex) : Ex := fun ro mu => bM (i ro mu) fun p m1 => bM (lcGo p.2 m1 tg tt el (r0 nc fvs ro) p.1 m1) fun ys m2 => some (.lst ys, m2)
def GOwn (nc : Nat) (tg : Gx) : Prop := ∀ d ro mu ro' mu', tg d ro mu = some (ro', mu') → ro'.length = ro.length ∧ ∀ i, nc ≤ i → ro'[i]? = ro[i]?
def GsOwn (nc : Nat) (tg : Gxs) : Prop := ∀ d ro mu ro' mu', tg d ro mu = some (ro', mu') → ro'.length = ro.length ∧ ∀ i, nc ≤ i → ro'[i]? = ro[i]?
theorem gown_name {nc i : Nat} (h : i < nc := by decide) : GOwn nc (gNm i) := fun d ro mu ro' mu' e => by
  cases e
  exact ⟨by simp, fun j hj => List.getElem?_set_ne (by omega)⟩
theorem gsown_nil {nc : Nat} : GsOwn nc gsNil := fun ds ro mu ro' mu' e => by
  cases ds with
  | nil => cases e; exact ⟨rfl, fun _ _ => rfl⟩
  | cons d ds => cases e
theorem gsown_cons {nc : Nat} {g : Gx} {gs : Gxs} (h1 : GOwn nc g) (h2 : GsOwn nc gs) : GsOwn nc (gsCons g gs) := fun ds ro mu ro' mu' e => by
  cases ds with
  | nil => cases e
  | cons d ds =>
    obtain ⟨ro1, m1, e1, e2⟩ := bM_inv e
    obtain ⟨a1, a2⟩ := h1 _ _ _ _ _ e1
    obtain ⟨b1, b2⟩ := h2 _ _ _ _ _ e2
    exact ⟨b1.trans a1, fun i hi => (b2 i hi).trans (a2 i hi)⟩
theorem gown_tup {nc n : Nat} {g : Gxs} (h : GsOwn nc g) : GOwn nc (gTp n g) := fun d ro mu ro' mu' e => by
  cases d with
  | tup ds =>
    unfold gTp at e
    dsimp only at e
    by_cases q : ds.length = n
    · rw [if_pos q] at e; exact h _ _ _ _ _ e
    · rw [if_neg q] at e; cases e
  | _ => cases e
theorem envOk_r0 {nc : Nat} {fv : List (Nat × Str)} {ro : Ro} {st : L2.St} (en : EnvOk K th H ro st) : EnvOk K th H (r0 nc (fv.map (·.1)) ro) (st0 nc fv st) := by
  unfold r0 st0
  refine ⟨by simp, fun i d e => ?_⟩
  by_cases hi : i < nc
  · rw [List.getElem?_append_left (by simpa using hi), List.getElem?_replicate] at e
    split at e <;> cases e
  · rw [List.getElem?_append_right (by simpa using hi)] at e ⊢
    simp only [List.length_replicate, List.map_map, List.getElem?_map] at e ⊢
    cases q : fv[i - nc]? with
    | none => rw [q] at e; cases e
    | some p =>
      rw [q] at e
      have e' : ro.getD p.1 none = some d := by simpa using e
      rw [List.getD_eq_getElem?_getD] at e'
      have e2 : ro[p.1]? = some (some d) := by
        cases w : ro[p.1]? with
        | none => rw [w] at e'; cases e'
        | some o => rw [w] at e'; exact congrArg some e'
      obtain ⟨v, ev, rv⟩ := en.2 _ _ e2
      exact ⟨v, by simp [List.getD_eq_getElem?_getD, ev], rv⟩
theorem own_none {nc : Nat} {fvs : List Nat} {ro : Ro} {i : Nat} {d : D} (e : (r0 nc fvs ro)[i]? = some (some d)) : nc ≤ i := by
  rcases Nat.lt_or_ge i nc with h | h
  · unfold r0 at e
    rw [List.getElem?_append_left (by simpa using h), List.getElem?_replicate] at e
    split at e <;> cases e
  · exact h
theorem tLC_rd {i : Ix} {nc : Nat} {fv : List (Nat × Str)} {tg : Gx} {tt : Tx} {el : Ex} {st : L2.St} {Q : VK} (ow : GOwn nc tg) (h : rdE K (eLC i nc (fv.map (·.1)) tg tt el) st H Q) : tLC (rdI K i) nc fv (rdG K tg) (rdT K tt) (rdE K el) st H Q := by
  obtain ⟨th, mu, ro, so, en, t⟩ := h
  refine ⟨th, mu, ro, so, en, t.bind.mono fun p th1 mu1 H1 e1 s1 t1 J ok => ?_⟩
  obtain ⟨ds, gd⟩ := p
  have en1 := envOk_r0 (nc := nc) (fv := fv) (en.ext e1 so.out)
  generalize hro : r0 nc (fv.map (·.1)) ro = ro0 at t1 en1
  have own : ∀ i d, ro0[i]? = some (some d) → nc ≤ i := fun i d e => by subst hro; exact own_none e
  refine ⟨fun k n ys st' H' => n = ds.length - k ∧ k ≤ ds.length ∧ ∃ th' mu' zs, StoOk K th' mu' H' ∧ EnvOk K th' H' ro0 st' ∧ Ext th1 H1 th' H' ∧ gOk gd mu1 mu' ∧ RepL K th' H' zs ys ∧ zs.length ≤ k ∧
    Tr K th' H' (lcGo gd mu1 tg tt el ro0 (ds.drop k) mu') fun rest th'' mu'' H'' => ∀ th3 H3 v, Ext th'' H'' th3 H3 → StoOk K th3 mu'' H3 → Rep K th3 H3 (.lst (zs ++ rest)) v → Q v H3, ⟨_, rfl, Nat.zero_le _, th1, mu1, [], s1, en1, .refl _ _, ?_, .nil, Nat.zero_le _, ?_⟩, ?_⟩
  · cases gd with
    | none => exact True.intro
    | some k => exact rfl
  · exact t1.bind.mono fun rest th2 mu2 H2 e2 s2 t2 th3 H3 v e3 s3 rv => t2.retX e3 s3 v rv
  rintro k n ys st2 H2 ⟨rfl, hk, th2, mu2, zs, s2, en2, e2, g2, rz, hz, t2⟩
  have hsz := ok.sz
  dsimp only at hsz
  refine ⟨by rw [rz.len]; omega, ?_⟩
  by_cases lt : k < ds.length
  · refine .inr ?_
    have ek : ds[k]? = some ds[k] := by simp
    obtain ⟨a1, a2⟩ := ok.go th2 mu2 H2 e2 s2 g2 k ds[k] ek
    refine ⟨a1, fun x H3 y => ?_⟩
    obtain ⟨e3, s3, r3⟩ := a2 x H3 y
    rw [List.drop_eq_getElem_cons lt] at t2
    unfold lcGo at t2
    refine ⟨th2, mu2, ro0, ds[k], s3, en2.ext e3 s2.out, r3, ?_⟩
    refine (t2.ahead e3).bindE.mono fun ro1 th4 mu4 H4 e4 s4 t4 st4 en4 => ?_
    obtain ⟨eq4, t4⟩ := t4
    obtain ⟨ol, ow'⟩ := ow _ _ _ _ _ eq4
    have back : ∀ {th' H'}, Ext th4 H4 th' H' → EnvOk K th' H' ro0 st4 := fun {th' H'} ex => by
      have en' := en4.ext ex s4.out
      refine ⟨by rw [← ol]; exact en'.1, fun i d e => ?_⟩
      exact en'.2 i d (by rw [ow' i (own i d e)]; exact e)
    refine ⟨th4, mu4, ro1, s4, en4, t4.bind.mono fun b th5 mu5 H5 e5 s5 t5 => ?_⟩
    have e14 : Ext th1 H1 th5 H5 := ((e2.trans e3).trans e4).trans e5
    cases b with
    | false =>
      obtain ⟨a, mu', q1, q2⟩ := t5
      obtain ⟨go5, q1⟩ := guard_inv q1
      refine ⟨ds.length - (k + 1), by omega, rfl, lt, th5, mu5, zs, s5, back e5, e14, go5, rz.ext ((e3.trans e4).trans e5) s2.out, by omega, a, mu', q1, q2⟩
    | true =>
      refine ⟨th5, mu5, ro1, s5, en4.ext e5 s4.out, Tr.mono (Tr.bind t5) fun y th6 mu6 H6 e6 s6 t6 v rv => ?_⟩
      obtain ⟨a, mu', q1, q2⟩ := t6
      obtain ⟨go6, q1⟩ := guard_inv q1
      obtain ⟨rest, m7, q3, q4⟩ := bM_inv q1
      cases q4
      refine ⟨ds.length - (k + 1), by omega, rfl, lt, th6, mu6, zs ++ [y], s6, back (e5.trans e6), e14.trans e6, go6, (rz.ext (((e3.trans e4).trans e5).trans e6) s2.out).app (.cons rv .nil), by rw [List.length_append]; exact Nat.add_le_add_right hz 1, rest, mu', q3, fun th7 H7 e7 s7 th8 H8 v' e8 s8 rv' => ?_⟩
      rw [List.append_assoc] at rv'
      exact q2 th7 H7 e7 s7 th8 H8 v' e8 s8 rv'
  · have e : k = ds.length := by omega
    subst e
    rw [List.drop_length] at t2
    unfold lcGo at t2
    refine .inl ⟨ok.stop th2 mu2 H2 e2 s2 g2, fun p hp => ?_⟩
    refine t2.ret s2 th2 _ _ (.new hp _) (s2.new hp _) ?_
    rw [List.append_nil]
    exact Rep.newLst s2 hp rz (by omega)
def tY : Tx := fun _ mu => some (true, mu)
structure SVF (X : Cx) (ifs : List Expr) (m : Tx) : Prop where
  r : PF X ifs (rdT X.z m)
theorem svf_nil : SVF X [] tY := ⟨fun pins s st H Q I h => pf_nil pins s st H Q I (by
  obtain ⟨th, mu, ro, so, en, t⟩ := h
  exact t.ret so)⟩
theorem svf_one {c : Expr} {m : Tx} (h : SVT X c m) : SVF X [c] m := ⟨pf_one h.r⟩
section
variable {tg iter elt : Expr} {ifs : List Expr} {scope : Scope} {pos : Pos} {i : Ix} {g : Gx} {tt : Tx} {el : Ex}
theorem sv_lc (own : List Str) (fv : List (Nat × Str)) (L : LcOk X scope fv) (hi : SVI X tg iter i) (ow : GOwn own.length g)
    (hg : ∀ cl C s₁ H₁ fp, SVG (compCx X scope (own ++ fv.map (·.2)) cl C s₁ H₁ fp) tg g)
    (ht : ∀ cl C s₁ H₁ fp, SVF (compCx X scope (own ++ fv.map (·.2)) cl C s₁ H₁ fp) ifs tt)
    (he : ∀ cl C s₁ H₁ fp, SV (compCx X scope (own ++ fv.map (·.2)) cl C s₁ H₁ fp) elt el)
    (hs : ∀ x, foldedSetIterable iter X.env x = pure x := by intro _; rfl) : SV X (.ListComp elt [⟨tg, iter, ifs, 0⟩] scope pos) (eLC i own.length (fv.map (·.1)) g tt el) :=
  ⟨PE.weak (pe_lc (own := own) (g := rdG X.z g) (tt := rdT X.z tt) (te := rdE X.z el) L hi.r (fun cl C s₁ H₁ fp => (hg cl C s₁ H₁ fp).r) (fun cl C s₁ H₁ fp => (ht cl C s₁ H₁ fp).r) (fun cl C s₁ H₁ fp => (he cl C s₁ H₁ fp).r) hs) fun _ _ _ h => tLC_rd ow h⟩
end
def chars (x : Str) : List D := x.cps.toList.map fun c => .str ⟨#[c]⟩
def iVal (a : Ex) : Ix := fun ro mu => bM (a ro mu) fun d m1 => match d with
  | .tup ds => some ((ds, none), m1)
  | .lst ds => some ((ds, none), m1)
  | .str x => some ((chars x, none), m1)
  | .ref k => match m1[k]? with
    | some (.lst ds) => some ((ds, some k), m1)
    | _ => none
  | _ => none
theorem itok_list {a : Addr} {ds : List D} {g : Option Nat} (hz : ds.length ≤ sizeLine) (h : ∀ th' mu' H', Ext th H th' H' → StoOk K th' mu' H' → gOk g mu mu' → ∃ vs, SqL K.K H' a vs ∧ RepL K th' H' ds vs) : ItOk K (Itl K.K a) th mu H ds g where
  sz := hz
  go := fun th' mu' H' e s go i d ed => by
    obtain ⟨vs, h1, h2⟩ := h th' mu' H' e s go
    obtain ⟨v, ev, rv⟩ := h2.get ed
    refine ⟨⟨vs, v, h1, ev⟩, fun x H2 y => ?_⟩
    obtain ⟨rfl, y⟩ := y
    have ex := y vs h1
    rw [ev] at ex
    cases ex
    exact ⟨.refl _ _, s, rv⟩
  stop := fun th' mu' H' e s go => by
    obtain ⟨vs, h1, h2⟩ := h th' mu' H' e s go
    exact ⟨vs, h1, by rw [h2.len]; exact Nat.le_refl _⟩
theorem itok_tup {a : Addr} {ds : List D} {vs : List V} (so : StoOk K th mu H) (hz : ds.length ≤ sizeLine) (h : SqT K.K H a vs) (r : RepL K th H ds vs) : ItOk K (Itt K.K a) th mu H ds none where
  sz := hz
  go := fun th' mu' H' e s go i d ed => by
    have h1 := e.sqT so.out h
    obtain ⟨v, ev, rv⟩ := (r.ext e so.out).get ed
    refine ⟨⟨vs, v, h1, ev⟩, fun x H2 y => ?_⟩
    obtain ⟨rfl, y⟩ := y
    have ex := y vs h1
    rw [ev] at ex
    cases ex
    exact ⟨.refl _ _, s, rv⟩
  stop := fun th' mu' H' e s go => ⟨vs, e.sqT so.out h, by rw [r.len]; exact Nat.le_refl _⟩
theorem rep_char {x : Str} {c : Nat} (ok : PyData.strOk x = true) (h : c ∈ x.cps.toList) : Rep K th H (.str ⟨#[c]⟩) (.str ⟨#[c]⟩) := by
  unfold Rep
  refine ⟨rfl, by show 1 ≤ sizeLine; decide, ?_⟩
  unfold PyData.strOk at ok ⊢
  rw [← Array.all_toList] at ok ⊢
  simpa using List.all_eq_true.mp ok c h
theorem itok_str {x : Str} (hz : x.length ≤ sizeLine) (ok : PyData.strOk x = true) : ItOk K (Its x) th mu H (chars x) none where
  sz := by unfold chars; rw [List.length_map, Array.length_toList]; exact hz
  go := fun th' mu' H' e s go i d ed => by
    unfold chars at ed
    rw [List.getElem?_map] at ed
    cases q : x.cps.toList[i]? with
    | none => rw [q] at ed; cases ed
    | some c =>
      rw [q] at ed
      have hd : D.str ⟨#[c]⟩ = d := by simpa using ed
      subst hd
      have hlt := (List.getElem?_eq_some_iff.mp q).1
      refine ⟨by show i < x.cps.size; simpa using hlt, fun v H2 y => ?_⟩
      obtain ⟨rfl, c', hc', rfl⟩ := y
      have : c' = c := by
        rw [← Array.getElem?_toList, q] at hc'
        exact (Option.some.inj hc').symm
      subst this
      exact ⟨.refl _ _, s, rep_char ok (List.mem_of_getElem? q)⟩
  stop := fun th' mu' H' e s go => by show (chars x).length = x.cps.size; unfold chars; simp
theorem svi_val {tg e : Expr} {m : Ex} (h : SV X e m) : SVI X tg e (iVal m) := ⟨by
  intro pins s st H R I q
  obtain ⟨th, mu, ro, so, en, t⟩ := q
  obtain ⟨p, mu', e1, q1⟩ := id t
  obtain ⟨d, m1, e2, e3⟩ := bM_inv e1
  have t' := t.bindE
  cases d with
  | tup ds =>
    refine pi_tup h.r pins s st H R I ⟨th, mu, ro, so, en, t'.mono fun d th1 mu1 H1 x1 s1 t1 v rv => ?_⟩
    obtain ⟨eq, t1⟩ := t1
    rw [e2] at eq
    cases eq
    unfold Rep at rv
    obtain ⟨a, vs, rfl, hs, rl, hz⟩ := rv
    exact ⟨a, rfl, ⟨vs, hs⟩, t1.ret s1 _ (itok_tup s1 hz hs rl)⟩
  | lst ds =>
    refine pi_list h.r pins s st H R I ⟨th, mu, ro, so, en, t'.mono fun d th1 mu1 H1 x1 s1 t1 v rv => ?_⟩
    obtain ⟨eq, t1⟩ := t1
    rw [e2] at eq
    cases eq
    unfold Rep at rv
    obtain ⟨a, vs, rfl, hs, rl, hz⟩ := rv
    exact ⟨a, rfl, ⟨vs, hs.sq⟩, t1.ret s1 _ (itok_list hz fun th' mu' H' e s' _ => ⟨vs, (e.fz hs).sq, rl.ext e s1.out⟩)⟩
  | str x =>
    refine pi_str h.r pins s st H R I ⟨th, mu, ro, so, en, t'.mono fun d th1 mu1 H1 x1 s1 t1 v rv => ?_⟩
    obtain ⟨eq, t1⟩ := t1
    rw [e2] at eq
    cases eq
    unfold Rep at rv
    obtain ⟨rfl, hz, ok⟩ := rv
    exact ⟨x, rfl, t1.ret s1 _ (itok_str hz ok)⟩
  | ref k =>
    refine pi_list h.r pins s st H R I ⟨th, mu, ro, so, en, t'.mono fun d th1 mu1 H1 x1 s1 t1 v rv => ?_⟩
    obtain ⟨eq, t1⟩ := t1
    rw [e2] at eq
    cases eq
    unfold Rep at rv
    obtain ⟨a, rfl, ha⟩ := rv
    dsimp only at t1
    cases em : m1[k]? with
    | none => rw [em] at t1; exact t1.no.elim
    | some o =>
      cases o with
      | dct _ _ => rw [em] at t1; exact t1.no.elim
      | lst ds =>
        rw [em] at t1
        obtain ⟨vs, h1, h2, hz⟩ := s1.at' k a _ ha em
        refine ⟨a, rfl, ⟨vs, .inl (.inl h1)⟩, t1.ret s1 _ (itok_list hz fun th' mu' H' e s' go => ?_)⟩
        have em' : mu'[k]? = some (.lst ds) := by rw [← em]; exact (show m1[k]? = mu'[k]? from go).symm
        obtain ⟨vs', h1', h2', _⟩ := s'.at' k a _ (e.at ha) em'
        exact ⟨vs', .inl (.inl h1'), h2'⟩
  | non => cases e3
  | bl b => cases e3
  | int b => cases e3
  | dct _ _ => cases e3
  | set _ => cases e3⟩
end
end PV
namespace PV
open PySem L2 PySem.Spec PyProof.Rows
mutual
def toPy : D → PyData
  | .non => .none
  | .bl b => .bool b
  | .int i => .int i
  | .str x => .str x
  | .tup ds => .tuple (toPys ds)
  | .lst ds => .list (toPys ds)
  | .dct _ _ => .none
  | .set _ => .none
  | .ref _ => .none
def toPys : List D → List PyData
  | [] => []
  | d :: ds => toPy d :: toPys ds
end
mutual
def pureD : D → Bool
  | .tup ds => pureL ds
  | .lst ds => pureL ds
  | .dct _ _ => false
  | .set _ => false
  | .ref _ => false
  | _ => true
def pureL : List D → Bool
  | [] => true
  | d :: ds => pureD d && pureL ds
end
def seen (mu : Sto) : D → D
  | .ref k => match mu[k]? with
    | some (.lst ds) => .lst ds
    | _ => .ref k
  | d => d
def eqB (mu : Sto) (d e : D) : Option Bool := if pureD (seen mu d) && pureD (seen mu e) && decide (min (toPy (seen mu d)).depth (toPy (seen mu e)).depth ≤ 60) then some (PyData.eqv (toPy (seen mu d)) (toPy (seen mu e))) else none
def eqD (d e : D) (mu : Sto) : Rs D := (eqB mu d e).map fun b => (.bl b, mu)
def neD (d e : D) (mu : Sto) : Rs D := (eqB mu d e).map fun b => (.bl (!b), mu)
section
variable {X : Cx} {K : Zc} {th : List Addr} {mu : Sto} {H : Hp}
mutual
theorem reads_of {pins : List (Addr × Obj)} {st : L2.St} {s : Shared} (I : L2.Inv X pins st H s) : ∀ (d : D) (v : V) (u : Value), pureD d = true → Rep X.z th H d v → RelV v u → ∃ as, Reads s.heap u (toPy d) as ∧ (toPy d).canLay0 = true
  | .non, _, _, _, r, q => by cases (show _ = _ from r); cases q; exact ⟨_, .none, rfl⟩
  | .bl b, _, _, _, r, q => by cases (show _ = _ from r); cases q; exact ⟨_, .bool b, rfl⟩
  | .int i, _, _, _, r, q => by cases (show _ = _ from r); obtain ⟨t, rfl⟩ := q; exact ⟨_, .int i t, rfl⟩
  | .str x, _, _, _, r, q => by obtain ⟨rfl, hz, ok⟩ := (show _ ∧ _ ∧ _ from r); obtain ⟨t, rfl⟩ := q; exact ⟨_, .str x t, ok⟩
  | .tup ds, _, _, p, r, q => by
    unfold Rep at r
    obtain ⟨a, vs, rfl, hs, rl, _⟩ := r
    cases q
    obtain ⟨its, rv, ⟨o, h1, h2, n, h3⟩, _⟩ := I.tuple hs
    unfold pureD at p
    obtain ⟨as, h4, h5⟩ := readsAll_of I ds vs its p rl rv
    exact ⟨as, by unfold toPy; exact .tuple h1 h2 h3 (by simpa using h4), by unfold toPy PyData.canLay0; exact h5⟩
  | .lst ds, _, _, p, r, q => by
    unfold Rep at r
    obtain ⟨a, vs, rfl, hs, rl, _⟩ := r
    cases q
    obtain ⟨its, rv, ⟨o, n, h1, h2, _, h3⟩, _⟩ := I.list hs.sq
    unfold pureD at p
    obtain ⟨as, h4, h5⟩ := readsAll_of I ds vs its p rl rv
    exact ⟨_, by unfold toPy; exact .list h1 h2 h3 (by simpa using h4), by unfold toPy PyData.canLay0; exact h5⟩
  | .dct _ _, _, _, p, _, _ => by cases p
  | .set _, _, _, p, _, _ => by cases p
  | .ref k, _, _, p, _, _ => by cases p
theorem readsAll_of {pins : List (Addr × Obj)} {st : L2.St} {s : Shared} (I : L2.Inv X pins st H s) : ∀ (ds : List D) (vs : List V) (us : List Value), pureL ds = true → RepL X.z th H ds vs → Vals vs us → ∃ as, ReadsAll s.heap us (toPys ds) as ∧ PyData.canLayAll0 (toPys ds) = true
  | [], _, _, _, r, q => by cases r.inv0; cases q; exact ⟨_, .nil, rfl⟩
  | d :: ds, _, _, p, r, q => by
    obtain ⟨v, r', rfl, r1, r2⟩ := r.inv
    unfold pureL at p
    rw [Bool.and_eq_true] at p
    cases q with
    | cons q1 q2 =>
      obtain ⟨as, a1, a2⟩ := reads_of I d v _ p.1 r1 q1
      obtain ⟨bs, b1, b2⟩ := readsAll_of I ds r' _ p.2 r2 q2
      exact ⟨_, .cons a1 b1, by unfold toPys PyData.canLayAll0; rw [a2, b2]; rfl⟩
end
theorem reads_seen {pins : List (Addr × Obj)} {st : L2.St} {s : Shared} (I : L2.Inv X pins st H s) (so : StoOk X.z th mu H) {d : D} {v : V} {u : Value} (p : pureD (seen mu d) = true) (r : Rep X.z th H d v) (q : RelV v u) : ∃ as, Reads s.heap u (toPy (seen mu d)) as ∧ (toPy (seen mu d)).canLay0 = true := by
  cases d with
  | ref k =>
    unfold seen at p ⊢
    dsimp only at p ⊢
    cases e : mu[k]? with
    | none => rw [e] at p; cases p
    | some o =>
      cases o with
      | dct _ _ => rw [e] at p; cases p
      | lst ds =>
        rw [e] at p
        dsimp only at p ⊢
        unfold Rep at r
        obtain ⟨a, rfl, ha⟩ := r
        obtain ⟨vs, h1, rl, hz⟩ := so.at' k a _ ha e
        cases q
        obtain ⟨its, rv, ⟨o, n, h2, h3, _, h4⟩, _⟩ := I.list (.inl (.inl h1))
        unfold pureD at p
        obtain ⟨as, h5, h6⟩ := readsAll_of I ds vs its p rl rv
        exact ⟨_, by unfold toPy; exact .list h2 h3 h4 (by simpa using h5), by unfold toPy PyData.canLay0; exact h6⟩
  | _ => exact reads_of I _ v u p r q
theorem op_eqD (hu : X.A.units + 64 < cLine) : OpV X (compareOp .Eq) eqD := by
  intro pins s st H x y v u Q I rx ry h
  obtain ⟨th, mu, d, e, so, r1, r2, t⟩ := h
  unfold eqD eqB at t
  by_cases hc : (pureD (seen mu d) && pureD (seen mu e) && decide (min (toPy (seen mu d)).depth (toPy (seen mu e)).depth ≤ 60)) = true
  · rw [if_pos hc] at t
    rw [Bool.and_eq_true, Bool.and_eq_true, decide_eq_true_eq] at hc
    obtain ⟨as, a1, a2⟩ := reads_seen I so hc.1.1 r1 rx
    obtain ⟨bs, b1, b2⟩ := reads_seen I so hc.1.2 r2 ry
    exact SeqAt.rcAt_reads a1 b1 a2 b2 (by omega) _ _ _ _ ⟨.bl _, H, I, rfl, t.ret so _ rfl⟩
  · rw [if_neg hc] at t
    exact t.no.elim
theorem op_neD (hu : X.A.units + 64 < cLine) : OpV X (compareOp .NotEq) neD := by
  intro pins s st H x y v u Q I rx ry h
  obtain ⟨th, mu, d, e, so, r1, r2, t⟩ := h
  unfold neD eqB at t
  by_cases hc : (pureD (seen mu d) && pureD (seen mu e) && decide (min (toPy (seen mu d)).depth (toPy (seen mu e)).depth ≤ 60)) = true
  · rw [if_pos hc] at t
    rw [Bool.and_eq_true, Bool.and_eq_true, decide_eq_true_eq] at hc
    obtain ⟨as, a1, a2⟩ := reads_seen I so hc.1.1 r1 rx
    obtain ⟨bs, b1, b2⟩ := reads_seen I so hc.1.2 r2 ry
    exact SeqAt.rcNeAt_reads a1 b1 a2 b2 (by omega) _ _ _ _ ⟨.bl _, H, I, rfl, t.ret so _ rfl⟩
  · rw [if_neg hc] at t
    exact t.no.elim
end
end PV
namespace PV
open PySem L2 PySem.Spec PyProof.Rows
section
variable {X : Cx} {K : Zc} {th : List Addr} {mu : Sto} {H : Hp}
def subD (d e : D) (mu : Sto) : Rs D := match d, e with
  | .int i, .int j => some (.int (i - j), mu)
  | _, _ => none
theorem op_subD : OpV X (binaryOp .Sub) subD := by
  intro pins s st H x y v u Q I rx ry h
  obtain ⟨th, mu, d, e, so, r1, r2, t⟩ := h
  cases d with
  | int i =>
    cases e with
    | int j => exact op_sub pins s st H x y v u Q I rx ry ⟨i, j, r1, r2, t.ret so _ rfl⟩
    | _ => exact t.no.elim
  | _ => exact t.no.elim
instance (i j : Int) : Decidable (CMul i j) := by unfold CMul; infer_instance
instance (i j : Int) : Decidable (CDiv i j) := by unfold CDiv; infer_instance
instance (i j : Int) : Decidable (CPow i j) := by unfold CPow; infer_instance
theorem strOk_app {x y : Str} (hx : PyData.strOk x = true) (hy : PyData.strOk y = true) : PyData.strOk (x ++ y) = true := by
  unfold PyData.strOk at *
  show (Array.all (x.cps ++ y.cps) _) = true
  rw [← Array.all_toList] at *
  rw [Array.toList_append, List.all_append, hx, hy]
  rfl
theorem len_app (x y : Str) : (x ++ y).length = x.length + y.length := by
  show (x.cps ++ y.cps).size = _
  rw [Array.size_append]
  rfl
def modD (d e : D) (mu : Sto) : Rs D := match d, e with
  | .int i, .int j => if 0 < j then some (.int (i % j), mu) else none
  | _, _ => none
theorem op_modD : OpV X (binaryOp .Mod) modD := by
  intro pins s st H x y v u Q I rx ry h
  obtain ⟨th, mu, d, e, so, r1, r2, t⟩ := h
  cases d with
  | int i =>
    cases e with
    | int j =>
      unfold modD at t; dsimp only at t
      by_cases c : 0 < j
      · rw [if_pos c] at t; exact op_mod pins s st H x y v u Q I rx ry ⟨i, j, r1, r2, c, t.ret so _ rfl⟩
      · rw [if_neg c] at t; exact t.no.elim
    | _ => exact t.no.elim
  | _ => exact t.no.elim
def fdivD (d e : D) (mu : Sto) : Rs D := match d, e with
  | .int i, .int j => if CDiv i j then some (.int (i / j), mu) else none
  | _, _ => none
theorem op_fdivD : OpV X (binaryOp .FloorDiv) fdivD := by
  intro pins s st H x y v u Q I rx ry h
  obtain ⟨th, mu, d, e, so, r1, r2, t⟩ := h
  cases d with
  | int i =>
    cases e with
    | int j =>
      unfold fdivD at t; dsimp only at t
      by_cases c : CDiv i j
      · rw [if_pos c] at t; exact op_fdiv pins s st H x y v u Q I rx ry ⟨i, j, r1, r2, c, t.ret so _ rfl⟩
      · rw [if_neg c] at t; exact t.no.elim
    | _ => exact t.no.elim
  | _ => exact t.no.elim
def powD (d e : D) (mu : Sto) : Rs D := match d, e with
  | .int i, .int j => if CPow i j then some (.int (i ^ j.toNat), mu) else none
  | _, _ => none
theorem op_powD : OpV X (binaryOp .Pow) powD := by
  intro pins s st H x y v u Q I rx ry h
  obtain ⟨th, mu, d, e, so, r1, r2, t⟩ := h
  cases d with
  | int i =>
    cases e with
    | int j =>
      unfold powD at t; dsimp only at t
      by_cases c : CPow i j
      · rw [if_pos c] at t; exact op_pow pins s st H x y v u Q I rx ry ⟨i, j, r1, r2, c, t.ret so _ rfl⟩
      · rw [if_neg c] at t; exact t.no.elim
    | _ => exact t.no.elim
  | _ => exact t.no.elim
instance (z : Str) (n : Int) : Decidable (MulOk z n) := by unfold MulOk; infer_instance
def mulD (d e : D) (mu : Sto) : Rs D := match d, e with
  | .int i, .int j => if CMul i j then some (.int (i * j), mu) else none
  | .str z, .int n => if MulOk z n ∧ (Txt.mul z n).length ≤ sizeLine ∧ PyData.strOk (Txt.mul z n) = true then some (.str (Txt.mul z n), mu) else none
  | _, _ => none
theorem op_mulD : OpV X (binaryOp .Mult) mulD := by
  intro pins s st H x y v u Q I rx ry h
  obtain ⟨th, mu, d, e, so, r1, r2, t⟩ := h
  cases d with
  | int i =>
    cases e with
    | int j =>
      unfold mulD at t; dsimp only at t
      by_cases c : CMul i j
      · rw [if_pos c] at t; exact op_mul pins s st H x y v u Q I rx ry ⟨i, j, r1, r2, c, t.ret so _ rfl⟩
      · rw [if_neg c] at t; exact t.no.elim
    | _ => exact t.no.elim
  | str z =>
    cases e with
    | int j =>
      unfold mulD at t; dsimp only at t
      by_cases c : MulOk z j ∧ (Txt.mul z j).length ≤ sizeLine ∧ PyData.strOk (Txt.mul z j) = true
      · rw [if_pos c] at t; exact op_mul_str pins s st H x y v u Q I rx ry ⟨z, j, r1.1, r2, c.1, t.ret so _ ⟨rfl, c.2⟩⟩
      · rw [if_neg c] at t; exact t.no.elim
    | _ => exact t.no.elim
  | _ => exact t.no.elim
theorem op_catT0 {a b : Addr} {ys : List V} {pins : List (Addr × Obj)} {st : L2.St} {s : Shared} {Q : VK} (I : L2.Inv X pins st H s) (ha : SqT X.K H a []) (hb : SqT X.K H b ys) (q : Q (.ref b) H) : wpAny (model X.prog X.w) X.A (binaryOp .Add (.ref a) (.ref b)) (EP X pins st Q) X.xe s := by
  obtain ⟨its, r1, p1, _⟩ := I.tuple ha
  obtain ⟨its2, r2, p2, _⟩ := I.tuple hb
  have e : its = [] := by cases r1; rfl
  subst e
  obtain ⟨⟨cls, dd, data, sl⟩, ho, hc, n, hd⟩ := id p1
  obtain ⟨⟨cls2, dd2, data2, sl2⟩, ho2, hc2, n2, hd2⟩ := id p2
  simp only at hc hd hc2 hd2
  subst hc hd hc2 hd2
  exact concat_meets ⟨_, ho, rfl⟩ ⟨_, ho2, rfl⟩ noFill_tuple_add seq_tuple_add PySem.F.slot_tuple_add PySem.F.entry_tuple_add (PySem.F.args_tuple_add_2 _ _)
      (tuple_addW0 a b _ its2.toArray n n2 dd dd2 sl sl2 (by simp)) ⟨ho, ho2, ⟨.ref b, H, I, rfl, q⟩⟩
theorem op_catL {a b : Addr} {xs ys : List V} {pins : List (Addr × Obj)} {st : L2.St} {s : Shared} {Q : VK} (I : L2.Inv X pins st H s) (ha : SqL X.K H a xs) (hb : SqL X.K H b ys) (hz : xs.length + ys.length ≤ sizeLine) (q : ∀ p, H p = none → Q (.ref p) (upd H p (.lst (xs ++ ys)))) : wpAny (model X.prog X.w) X.A (binaryOp .Add (.ref a) (.ref b)) (EP X pins st Q) X.xe s := by
  obtain ⟨its, r1, ⟨o1, n1, p1, c1, d1, e1⟩, _⟩ := I.list ha
  obtain ⟨its2, r2, ⟨o2, n2, p2, c2, d2, e2⟩, _⟩ := I.list hb
  obtain ⟨cls, dd, data, sl⟩ := o1
  obtain ⟨cls2, dd2, data2, sl2⟩ := o2
  simp only at c1 d1 e1 c2 d2 e2
  subst c1 d1 e1 c2 d2 e2
  refine concat_meets ⟨_, p1, rfl⟩ ⟨_, p2, rfl⟩ noFill_list_add seq_list_add PySem.F.slot_list_add PySem.F.entry_list_add (PySem.F.args_list_add_2 _ _)
      (list_addW a b _ its2.toArray n1 n2 _ _ sl sl2 (by rw [List.size_toArray, List.size_toArray, ← r1.length, ← r2.length]; exact hz)) ⟨p1, p2, ?_⟩
  refine ⟨.ref s.heap.objs.size, _, I.laid (t' := s.toks) (o := .lst (xs ++ ys)) (fun b ob q => Heap.get?_push_of_some _ q) (Nat.le_refl _) ?_, rfl, q _ (I.hok.fresh (Nat.le_refl _))⟩
  exact ⟨by rw [List.length_append]; exact hz, its ++ its2, 0, r1.append r2, by simpa using Heap.get?_push_size _ rfl⟩
def lstOf (mu : Sto) : D → Option (List D)
  | .lst ds => some ds
  | .ref k => match mu[k]? with
    | some (.lst ds) => some ds
    | _ => none
  | _ => none
theorem lstOf_rep (so : StoOk K th mu H) {d : D} {ds : List D} {v : V} (h : lstOf mu d = some ds) (r : Rep K th H d v) : ∃ a vs, v = .ref a ∧ SqL K.K H a vs ∧ RepL K th H ds vs ∧ ds.length ≤ sizeLine := by
  cases d with
  | lst es => cases h; unfold Rep at r; obtain ⟨a, vs, rfl, h1, h2, h3⟩ := r; exact ⟨a, vs, rfl, h1.sq, h2, h3⟩
  | ref k =>
    unfold lstOf at h
    dsimp only at h
    cases e : mu[k]? with
    | none => rw [e] at h; cases h
    | some o =>
      cases o with
      | dct _ _ => rw [e] at h; cases h
      | lst es =>
        rw [e] at h
        cases h
        unfold Rep at r
        obtain ⟨a, rfl, ha⟩ := r
        obtain ⟨vs, h1, h2, h3⟩ := so.at' k a _ ha e
        exact ⟨a, vs, rfl, .inl (.inl h1), h2, h3⟩
  | _ => cases h
def addD (d e : D) (mu : Sto) : Rs D := match d, e with
  | .int i, .int j => some (.int (i + j), mu)
  | .str x, .str y => if x.length + y.length ≤ sizeLine then some (.str (x ++ y), mu) else none
  | .tup xs, .tup ys => if xs.length + ys.length ≤ sizeLine then some (.tup (xs ++ ys), mu) else none
  | d, e => match lstOf mu d, lstOf mu e with
    | some xs, some ys => if xs.length + ys.length ≤ sizeLine then some (.lst (xs ++ ys), mu) else none
    | _, _ => none
theorem op_addD : OpV X (binaryOp .Add) addD := by
  intro pins s st H x y v u Q I rx ry h
  obtain ⟨th, mu, d, e, so, r1, r2, t⟩ := h
  have lists : ∀ (t : Tr X.z th H (match lstOf mu d, lstOf mu e with
    | some xs, some ys => if xs.length + ys.length ≤ sizeLine then some (D.lst (xs ++ ys), mu) else none
    | _, _ => none) (KV' X.z Q)), wpAny (model X.prog X.w) X.A (binaryOp .Add v u) (EP X pins st Q) X.xe s := fun t => by
    cases e1 : lstOf mu d with
    | none => rw [e1] at t; exact t.no.elim
    | some xs =>
      cases e2 : lstOf mu e with
      | none => rw [e1, e2] at t; exact t.no.elim
      | some ys =>
        rw [e1, e2] at t
        dsimp only at t
        by_cases c : xs.length + ys.length ≤ sizeLine
        · rw [if_pos c] at t
          obtain ⟨a, vs, rfl, h1, h2, h3⟩ := lstOf_rep so e1 r1
          obtain ⟨b, us, rfl, k1, k2, k3⟩ := lstOf_rep so e2 r2
          cases rx
          cases ry
          refine op_catL I h1 k1 (by rw [h2.len, k2.len]; exact c) fun p hp => t.retX (.new hp _) (so.new hp _) _ (Rep.newLst so hp (h2.app k2) (by rw [List.length_append]; exact c))
        · rw [if_neg c] at t; exact t.no.elim
  cases d with
  | int i =>
    cases e with
    | int j => exact op_add pins s st H x y v u Q I rx ry ⟨i, j, r1, r2, t.ret so _ rfl⟩
    | _ => exact lists t
  | str i =>
    cases e with
    | str j =>
      unfold addD at t; dsimp only at t
      by_cases c : i.length + j.length ≤ sizeLine
      · rw [if_pos c] at t
        exact op_add_str pins s st H x y v u Q I rx ry ⟨i, j, r1.1, r2.1, c, t.ret so _ ⟨rfl, by rw [len_app]; exact c, strOk_app r1.2.2 r2.2.2⟩⟩
      · rw [if_neg c] at t; exact t.no.elim
    | _ => exact lists t
  | tup xs =>
    cases e with
    | tup ys =>
      unfold addD at t; dsimp only at t
      by_cases c : xs.length + ys.length ≤ sizeLine
      · rw [if_pos c] at t
        unfold Rep at r1 r2
        obtain ⟨a, vs, rfl, h1, h2, h3⟩ := r1
        obtain ⟨b, us, rfl, k1, k2, k3⟩ := r2
        cases rx
        cases ry
        cases xs with
        | nil =>
          cases h2.inv0
          exact op_catT0 I h1 k1 (t.ret so _ (by unfold Rep; exact ⟨b, us, rfl, k1, k2, k3⟩))
        | cons x0 xs0 =>
          obtain ⟨v0, vr, rfl, _, _⟩ := h2.inv
          refine op_catT pins s st H (.ref a) (.ref b) _ _ Q I rfl rfl ⟨a, b, v0 :: vr, us, rfl, rfl, h1, k1, by simp, by rw [h2.len, k2.len]; exact c, fun hu => ?_, fun _ p hp => t.retX (.new hp _) (so.new hp _) _ (Rep.newTup so hp (h2.app k2) (by rw [List.length_append]; exact c))⟩
          subst hu
          have : ys = [] := List.length_eq_zero_iff.mp (by rw [← k2.len]; rfl)
          subst this
          rw [List.append_nil] at t
          exact t.ret so _ (by unfold Rep; exact ⟨a, _, rfl, h1, h2, h3⟩)
      · rw [if_neg c] at t; exact t.no.elim
    | _ => exact lists t
  | _ => exact lists t
def ordD (f : Int → Int → Bool) (g : Str → Str → Bool) (d e : D) (mu : Sto) : Rs D := match d, e with
  | .int i, .int j => some (.bl (f i j), mu)
  | .str i, .str j => some (.bl (g i j), mu)
  | _, _ => none
def gtD := ordD (fun i j => decide (j < i)) fun i j => decide (j.cps.toList < i.cps.toList)
def geD := ordD (fun i j => decide (j ≤ i)) fun i j => !decide (i.cps.toList < j.cps.toList)
theorem op_ordD {op : CmpOp} {f : Int → Int → Bool} {g : Str → Str → Bool} (h1 : OpR X (compareOp op) (rI0 fun i j => .bl (f i j)))
    (h2 : ∀ (i j : Str) (t t' : Tok) (s : Shared) (Q : Value → Shared → Prop), Q (.bool (g i j)) s → wpAny (model X.prog X.w) X.A (compareOp op (.str i t) (.str j t')) Q X.xe s) : OpV X (compareOp op) (ordD f g) := by
  intro pins s st H x y v u Q I rx ry h
  obtain ⟨th, mu, d, e, so, r1, r2, t⟩ := h
  cases d with
  | int i =>
    cases e with
    | int j => exact h1 pins s st H x y v u Q I rx ry ⟨i, j, r1, r2, t.ret so _ rfl⟩
    | _ => exact t.no.elim
  | str i =>
    cases e with
    | str j =>
      obtain ⟨rfl, _⟩ := (show _ ∧ _ from r1)
      obtain ⟨rfl, _⟩ := (show _ ∧ _ from r2)
      obtain ⟨t1, rfl⟩ := rx
      obtain ⟨t2, rfl⟩ := ry
      exact h2 i j t1 t2 s _ ⟨.bl _, H, I, rfl, t.ret so _ rfl⟩
    | _ => exact t.no.elim
  | _ => exact t.no.elim
theorem op_gtD : OpV X (compareOp .Gt) gtD := op_ordD op_gt fun i j t t' s Q h => PySem.P.gt_str h
theorem op_geD : OpV X (compareOp .GtE) geD := op_ordD op_ge fun i j t t' s Q h => PySem.P.ge_str h
def isB : D → D → Option Bool
  | .non, .non => some true
  | .bl a, .bl b => some (a == b)
  | .non, .bl _ => none
  | .ref _, .non => some false
  | .tup _, .non => some false
  | .lst _, .non => some false
  | .str _, .non => some false
  | .int _, .non => some false
  | .bl _, .non => some false
  | .dct _ _, .non => some false
  | .set _, .non => some false
  | _, _ => none
def isD (d e : D) (mu : Sto) : Rs D := (isB d e).map fun b => (.bl b, mu)
theorem op_isD : OpV X (compareOp .Is) isD := by
  intro pins s st H x y v u Q I rx ry h
  obtain ⟨th, mu, d, e, so, r1, r2, t⟩ := h
  cases e with
  | non =>
    have go : ∀ b, isB d .non = some b → (b = decide (x = .non)) → wpAny (model X.prog X.w) X.A (compareOp .Is v u) (EP X pins st Q) X.xe s := fun b eb ex => by
      unfold isD at t
      rw [eb] at t
      have q : Q (.bl b) H := t.ret so _ rfl
      exact op_isN pins s st H x y v u Q I rx ry ⟨r2, by rw [← ex]; exact q⟩
    cases d with
    | non => exact go _ rfl (by rw [show x = _ from r1]; rfl)
    | bl b => exact go _ rfl (by rw [show x = _ from r1]; rfl)
    | int b => exact go _ rfl (by rw [show x = _ from r1]; rfl)
    | str b => exact go _ rfl (by rw [r1.1]; rfl)
    | tup b => exact go _ rfl (by unfold Rep at r1; obtain ⟨a, vs, rfl, _⟩ := r1; rfl)
    | lst b => exact go _ rfl (by unfold Rep at r1; obtain ⟨a, vs, rfl, _⟩ := r1; rfl)
    | dct _ _ => exact go _ rfl (by unfold Rep at r1; obtain ⟨a, xs, rfl, _⟩ := r1; rfl)
    | set _ => exact go _ rfl (by unfold Rep at r1; obtain ⟨a, us, vs, rfl, _⟩ := r1; rfl)
    | ref b => exact go _ rfl (by unfold Rep at r1; obtain ⟨a, rfl, _⟩ := r1; rfl)
  | bl b =>
    cases d with
    | bl a => exact op_is_bl pins s st H x y v u Q I rx ry ⟨a, b, r1, r2, t.ret so _ rfl⟩
    | _ => exact t.no.elim
  | _ => cases d <;> exact t.no.elim
def ixD (d e : D) (mu : Sto) : Rs D := match e with
  | .int i => match d with
    | .tup ds => (atI ds i).map fun x => (x, mu)
    | .str z => (atI z.cps.toList i).map fun c => (.str ⟨#[c]⟩, mu)
    | d => match lstOf mu d with
      | some ds => (atI ds i).map fun x => (x, mu)
      | none => none
  | _ => none
theorem atI_rep {ds : List D} {vs : List V} {i : Int} {d : D} (r : RepL K th H ds vs) (h : atI ds i = some d) : ∃ v, atI vs i = some v ∧ Rep K th H d v := by
  unfold atI at h ⊢
  rw [r.len]
  cases e : ixN ds.length i with
  | none => rw [e] at h; cases h
  | some j =>
    rw [e] at h
    obtain ⟨v, e1, e2⟩ := r.get (show ds[j]? = some d from h)
    exact ⟨v, e1, e2⟩
theorem atI_mem {α : Type} {xs : List α} {i : Int} {v : α} (h : atI xs i = some v) : v ∈ xs := by
  obtain ⟨j, _, e, _⟩ := atI_get h
  exact List.mem_of_getElem? e
theorem ix_D : IxR X (r2 X.z ixD) := by
  intro value slice pins s st H x y v u Q I rx ry h hsub
  obtain ⟨th, mu, d, e, so, r1, r2, t⟩ := h
  cases e with
  | int i =>
    have lists : ∀ (t : Tr X.z th H (match lstOf mu d with
      | some ds => (atI ds i).map fun x => (x, mu)
      | none => none) (KV' X.z Q)), rIxL X.K x y H Q := fun t => by
      cases e1 : lstOf mu d with
      | none => rw [e1] at t; exact t.no.elim
      | some ds =>
        rw [e1] at t
        dsimp only at t
        cases e2 : atI ds i with
        | none => rw [e2] at t; exact t.no.elim
        | some x' =>
          rw [e2] at t
          obtain ⟨a, vs, rfl, h1, h2, h3⟩ := lstOf_rep so e1 r1
          obtain ⟨v', w1, w2⟩ := atI_rep h2 e2
          exact ⟨a, vs, i, v', rfl, r2, h1, w1, t.ret so _ w2⟩
    refine ix_seq value slice pins s st H x y v u Q I rx ry ?_ hsub
    cases d with
    | tup ds =>
      unfold ixD at t; dsimp only at t
      cases e2 : atI ds i with
      | none => rw [e2] at t; exact t.no.elim
      | some x' =>
        rw [e2] at t
        unfold Rep at r1
        obtain ⟨a, vs, rfl, h1, h2, h3⟩ := r1
        obtain ⟨v', w1, w2⟩ := atI_rep h2 e2
        exact .inr (.inl ⟨a, vs, i, v', rfl, r2, h1, w1, t.ret so _ w2⟩)
    | str z =>
      unfold ixD at t; dsimp only at t
      cases e2 : atI z.cps.toList i with
      | none => rw [e2] at t; exact t.no.elim
      | some c =>
        rw [e2] at t
        exact .inr (.inr ⟨z, i, c, r1.1, r2, r1.2.1, e2, t.ret so _ (rep_char r1.2.2 (atI_mem e2))⟩)
    | _ => exact .inl (lists t)
  | _ => exact t.no.elim
abbrev Px := Ro → Sto → Rs (Option Int)
def pNo : Px := fun _ mu => some (none, mu)
def pSome (a : Ex) : Px := fun ro mu => bM (a ro mu) fun d m1 => match d with
  | .int i => some (some i, m1)
  | _ => none
def rdP (K : Zc) (m : Px) : TO := fun st H Q => ∃ th mu ro, StoOk K th mu H ∧ EnvOk K th H ro st ∧ Tr K th H (m ro mu) fun o _ _ H' => Q o H'
structure SVP (X : Cx) (e : Option Expr) (m : Px) : Prop where
  r : PO X e (rdP X.z m)
theorem PO.weak {e : Option Expr} {t t' : TO} (h : PO X e t) (f : ∀ st H Q, t' st H Q → t st H Q) : PO X e t' := fun pins s st H Q I q => h pins s st H Q I (f st H Q q)
theorem svp_none : SVP X none pNo := ⟨PO.weak po_none fun st H Q h => by
  obtain ⟨th, mu, ro, so, en, t⟩ := h
  exact t.ret so⟩
theorem svp_some {e : Expr} {m : Ex} (h : SV X e m) : SVP X (some e) (pSome m) := ⟨PO.weak (po_some h.r) fun st H Q h => by
  obtain ⟨th, mu, ro, so, en, t⟩ := h
  refine ⟨th, mu, ro, so, en, t.bind.mono fun d th1 mu1 H1 e1 s1 t1 v rv => ?_⟩
  cases d with
  | int i => exact ⟨i, rv, t1.ret s1⟩
  | _ => exact t1.no.elim⟩
def cutD {α : Type} (xs : List α) (lo hi : Option Int) : List α := (xs.drop (HT.sIx xs.length 0 lo)).take (HT.sIx xs.length xs.length hi - HT.sIx xs.length 0 lo)
theorem cut_rep {ds : List D} {vs : List V} (r : RepL K th H ds vs) (lo hi : Option Int) : RepL K th H (cutD ds lo hi) (cutV vs lo hi) := by
  unfold cutD cutV
  rw [r.len]
  exact (r.drop _).take _
theorem cutD_len {α : Type} (xs : List α) (lo hi : Option Int) : (cutD xs lo hi).length ≤ xs.length := by
  unfold cutD
  rw [List.length_take, List.length_drop]
  omega
def slD (d : D) (lo hi : Option Int) (mu : Sto) : Rs D := match d with
  | .tup ds => some (.tup (cutD ds lo hi), mu)
  | .str z => if PyData.strOk (Txt.slice z lo hi) = true then some (.str (Txt.slice z lo hi), mu) else none
  | d => match lstOf mu d with
    | some ds => some (.lst (cutD ds lo hi), mu)
    | none => none
def r3 (K : Zc) (op : D → Option Int → Option Int → Sto → Rs D) : V → Option Int → Option Int → Hp → VK → Prop := fun x lo hi H Q => ∃ th mu d, StoOk K th mu H ∧ Rep K th H d x ∧ Tr K th H (op d lo hi mu) (KV' K Q)
def eSl (a : Ex) (p q : Px) : Ex := fun ro mu => bM (a ro mu) fun d m1 => bM (p ro m1) fun lo m2 => bM (q ro m2) fun hi m3 => slD d lo hi m3
theorem getItem_tuple_whole {prog : Program} {w : World} {A : Around} {E : Value → Shared → Prop} {s : Shared} {t sl : Addr} {items : Array Value} {vl vu : Value} {lo hi : Option Int} {Q : Value → Shared → Prop} (ht : IsTup s.heap t items) (hs : s.heap.IsSliceOf sl vl vu .none) (pl : IsPart vl lo) (pu : IsPart vu hi)
    (h1 : HT.sIx items.size 0 lo = 0) (h2 : HT.sIx items.size items.size hi = items.size) (h : Q (.ref t) s) : wpAny (model prog w) A (getItem (.ref t) (.ref sl)) Q E s := by
  obtain ⟨os, hos, hcs, hds⟩ := id hs
  have hTs : s.TypeIs (.ref sl) "slice" := ⟨os, hos, hcs⟩
  unfold getItem
  try with_reducible refine wpAny_holding ?_
  first | refine wpAny_bind (wpAny_pure ?_) | skip
  refine wpAny_bind (wpAny_sequenceKey ht.typeIs (by decide) ?_)
  refine wpAny_bind (wpAny_callSpecial?_slot (name := Str.ofString "__getitem__") ht.typeIs PyProof.Rows.slot_tuple_getitem
    (wpAny_call_entry PyProof.Rows.slot_tuple_getitem ht.typeIs entry_tuple_getitem ?_ (args_tuple_getitem _ _)))
  show wpAny _ _ (Builtin.Tuple.tupleItemsOf (.ref t) >>= _) _ _ s
  refine wpAny_bind (tupleItemsOf_ ht ?_)
  refine wpAny_bind (wpAny_typeOf hTs ?_)
  rw [if_pos (by decide)]
  refine wpAny_bind (HT.sliceApplied_gen hs pl pu ?_)
  rw [h1, h2]
  dsimp only
  rw [if_pos (by simp)]
  unfold Builtin.Tuple.tupleIsExact
  refine wpAny_bind (wpAny_bind (wpAny_typeOf ht.typeIs (wpAny_pure ?_)))
  rw [if_pos (by decide)]
  exact wpAny_bind (wpAny_rule (wpAny_pure ⟨_, rfl, wpAny_pure h⟩))
theorem sl_D : SlR X (r3 X.z slD) := by
  intro pins s st H x v vl vu lo hi sl Q I rx hs pl pu h
  obtain ⟨th, mu, d, so, r, t⟩ := h
  have lists : ∀ (t : Tr X.z th H (match lstOf mu d with
      | some ds => some (D.lst (cutD ds lo hi), mu)
      | none => none) (KV' X.z Q)), rSlL X.K x lo hi H Q := fun t => by
      cases e1 : lstOf mu d with
      | none => rw [e1] at t; exact t.no.elim
      | some ds =>
        rw [e1] at t
        obtain ⟨a, vs, rfl, h1, h2, h3⟩ := lstOf_rep so e1 r
        exact ⟨a, vs, rfl, h1, fun p hp => t.retX (.new hp _) (so.new hp _) _ (Rep.newLst so hp (cut_rep h2 lo hi) (Nat.le_trans (cutD_len ds lo hi) h3))⟩
  cases d with
  | tup ds =>
    unfold Rep at r
    obtain ⟨a, vs, rfl, h1, h2, h3⟩ := r
    by_cases c : HT.sIx vs.length 0 lo = 0 ∧ HT.sIx vs.length vs.length hi = vs.length
    · cases rx
      obtain ⟨its, rv, ht, hz⟩ := I.tuple h1
      have hlen : its.toArray.size = vs.length := by rw [List.size_toArray]; exact rv.length.symm
      refine ⟨"tuple", _, PyProof.Rows.slot_tuple_getitem.lookup, ht.typeIs, ?_⟩
      refine getItem_tuple_whole ht hs pl pu (by rw [hlen]; exact c.1) (by rw [hlen]; exact c.2) ⟨.ref a, H, I, rfl, t.ret so _ ?_⟩
      have e : cutD ds lo hi = ds := by
        unfold cutD
        rw [← h2.len, c.1, c.2, h2.len]
        simp
      rw [e]
      unfold Rep
      exact ⟨a, vs, rfl, h1, h2, h3⟩
    · exact sl_tup pins s st H _ v vl vu lo hi sl Q I rx hs pl pu ⟨a, vs, rfl, h1, c, fun p hp => t.retX (.new hp _) (so.new hp _) _ (Rep.newTup so hp (cut_rep h2 lo hi) (Nat.le_trans (cutD_len ds lo hi) h3))⟩
  | str z =>
    unfold slD at t; dsimp only at t
    by_cases c : PyData.strOk (Txt.slice z lo hi) = true
    · rw [if_pos c] at t
      exact sl_str pins s st H _ v vl vu lo hi sl Q I rx hs pl pu ⟨z, r.1, r.2.1, t.ret so _ ⟨rfl, Nat.le_trans (Txt.slice_le z _ _) r.2.1, c⟩⟩
    · rw [if_neg c] at t; exact t.no.elim
  | _ => exact sl_list pins s st H _ v vl vu lo hi sl Q I rx hs pl pu (lists t)
theorem sv_slice {e : Expr} {lo hi : Option Expr} {m : Ex} {p q : Px} {p2 pos : Pos} (he : SV X e m) (hl : SVP X lo p) (hh : SVP X hi q) : SV X (.Subscript e (.Slice lo hi none p2) pos) (eSl m p q) := ⟨PE.weak (pe_slice sl_D he.r hl.r hh.r) fun st H Q h => by
  obtain ⟨th, mu, ro, so, en, t⟩ := h
  refine ⟨th, mu, ro, so, en, t.bind.mono fun d th1 mu1 H1 e1 s1 t1 v rv => ?_⟩
  refine ⟨th1, mu1, ro, s1, en.ext e1 so.out, t1.bind.mono fun lo' th2 mu2 H2 e2 s2 t2 => ?_⟩
  refine ⟨th2, mu2, ro, s2, (en.ext e1 so.out).ext e2 s1.out, t2.bind.mono fun hi' th3 mu3 H3 e3 s3 t3 => ?_⟩
  exact ⟨th3, mu3, d, s3, (rv.ext e2 s1.out).ext e3 s2.out, t3⟩⟩
end
end PV
namespace PV
open PySem L2 PySem.Spec PyProof.Rows
section
variable {X : Cx} {K : Zc} {th : List Addr} {mu : Sto} {H : Hp}
def okRef (mu : Sto) : D → Bool
  | .ref k => match mu[k]? with
    | some (.lst _) => true
    | _ => false
  | _ => true
theorem okRef_inv {mu : Sto} {k : Nat} (h : okRef mu (.ref k) = true) : ∃ ds, mu[k]? = some (.lst ds) := by
  unfold okRef at h
  dsimp only at h
  split at h
  · rename_i ds e; exact ⟨ds, e⟩
  · cases h
def lenN (mu : Sto) : D → Option Nat
  | .str x => some x.length
  | .tup ds => some ds.length
  | .lst ds => some ds.length
  | .ref k => (lstOf mu (.ref k)).map (·.length)
  | _ => none
def lenF : Fn := fun ds mu => match ds with
  | [d] => (lenN mu d).map fun n => (.int n, mu)
  | _ => none
theorem one_arg {xs : List V} {d : D} (r : RepL K th H [d] xs) : ∃ x, xs = [x] ∧ Rep K th H d x := by
  obtain ⟨v, r', rfl, h1, h2⟩ := r.inv
  cases h2.inv0
  exact ⟨v, rfl, h1⟩
theorem two_arg {xs : List V} {d e : D} (r : RepL K th H [d, e] xs) : ∃ x y, xs = [x, y] ∧ Rep K th H d x ∧ Rep K th H e y := by
  obtain ⟨v, r', rfl, h1, h2⟩ := r.inv
  obtain ⟨u, rfl, h3⟩ := one_arg h2
  exact ⟨v, u, rfl, h1, h3⟩
theorem call_lenD : CallV X (.builtin "len") lenF := by
  intro pins s st H xs us Q I r h
  obtain ⟨th, mu, ds, so, rd, t⟩ := h
  match ds, t, rd with
  | [d], t, rd =>
    obtain ⟨x, rfl, rx⟩ := one_arg rd
    cases d with
    | str z => exact call_len_str pins s st H _ us Q I r ⟨z, by rw [rx.1], rx.2.1, t.ret so _ rfl⟩
    | tup es =>
      unfold Rep at rx
      obtain ⟨a, vs, rfl, h1, h2, _⟩ := rx
      exact call_len_seq pins s st H _ us Q I r ⟨a, vs, rfl, .inr h1, by rw [h2.len]; exact t.ret so _ rfl⟩
    | lst es =>
      unfold Rep at rx
      obtain ⟨a, vs, rfl, h1, h2, _⟩ := rx
      exact call_len_seq pins s st H _ us Q I r ⟨a, vs, rfl, .inl h1.sq, by rw [h2.len]; exact t.ret so _ rfl⟩
    | ref k =>
      unfold lenF lenN at t
      dsimp only at t
      cases e1 : lstOf mu (.ref k) with
      | none => rw [e1] at t; exact t.no.elim
      | some es =>
        rw [e1] at t
        obtain ⟨a, vs, rfl, h1, h2, h3⟩ := lstOf_rep so e1 rx
        exact call_len_seq pins s st H _ us Q I r ⟨a, vs, rfl, .inl h1, by rw [h2.len]; exact t.ret so _ rfl⟩
    | _ => exact t.no.elim
  | [], t, _ => exact t.no.elim
  | _ :: _ :: _, t, _ => exact t.no.elim
def ints2 (ds : List D) : Option (Int × Int) := match ds with
  | [.int i, .int j] => some (i, j)
  | _ => none
theorem ints2_inv {ds : List D} {p : Int × Int} (h : ints2 ds = some p) : ds = [.int p.1, .int p.2] := by
  unfold ints2 at h
  split at h
  · cases h; rfl
  · cases h
def minF : Fn := fun ds mu => (ints2 ds).map fun p => (.int (if p.2 < p.1 then p.2 else p.1), mu)
def maxF : Fn := fun ds mu => (ints2 ds).map fun p => (.int (if p.2 > p.1 then p.2 else p.1), mu)
def intOf (ds : List D) : Option Int := match ds with
  | [.int i] => some i
  | [.bl b] => some (if b then 1 else 0)
  | _ => none
theorem intOf_inv {ds : List D} {i : Int} (h : intOf ds = some i) : ds = [.int i] ∨ ∃ b, ds = [.bl b] ∧ i = if b then 1 else 0 := by
  unfold intOf at h
  split at h
  · cases h; exact .inl rfl
  · cases h; exact .inr ⟨_, rfl, rfl⟩
  · cases h
def intF : Fn := fun ds mu => (intOf ds).map fun i => (.int i, mu)
def int1 (ds : List D) : Option Int := match ds with
  | [.int i] => some i
  | _ => none
theorem int1_inv {ds : List D} {i : Int} (h : int1 ds = some i) : ds = [.int i] := by
  unfold int1 at h
  split at h
  · cases h; rfl
  · cases h
theorem call_minD (hc : X.calm = true) : CallV X (.builtin "min") minF := by
  intro pins s st H xs us Q I r h
  obtain ⟨th, mu, ds, so, rd, t⟩ := h
  unfold minF at t
  cases e : ints2 ds with
  | none => rw [e] at t; exact t.no.elim
  | some p =>
    rw [e] at t
    rw [ints2_inv e] at rd
    obtain ⟨x, y, rfl, rx, ry⟩ := two_arg rd
    exact call_min2 hc pins s st H _ us Q I r ⟨p.1, p.2, by rw [show x = _ from rx, show y = _ from ry], t.ret so _ rfl⟩
theorem call_maxD (hc : X.calm = true) : CallV X (.builtin "max") maxF := by
  intro pins s st H xs us Q I r h
  obtain ⟨th, mu, ds, so, rd, t⟩ := h
  unfold maxF at t
  cases e : ints2 ds with
  | none => rw [e] at t; exact t.no.elim
  | some p =>
    rw [e] at t
    rw [ints2_inv e] at rd
    obtain ⟨x, y, rfl, rx, ry⟩ := two_arg rd
    exact call_max2 hc pins s st H _ us Q I r ⟨p.1, p.2, by rw [show x = _ from rx, show y = _ from ry], t.ret so _ rfl⟩
theorem call_intD : CallV X (.type "int") intF := by
  intro pins s st H xs us Q I r h
  obtain ⟨th, mu, ds, so, rd, t⟩ := h
  unfold intF at t
  cases e : intOf ds with
  | none => rw [e] at t; exact t.no.elim
  | some i =>
    rw [e] at t
    rcases intOf_inv e with h | ⟨b, h, hb⟩
    · rw [h] at rd
      obtain ⟨x, rfl, rx⟩ := one_arg rd
      exact call_int1 pins s st H _ us Q I r (.inl ⟨i, by rw [show x = _ from rx], t.ret so _ rfl⟩)
    · rw [h] at rd
      obtain ⟨x, rfl, rx⟩ := one_arg rd
      exact call_int1 pins s st H _ us Q I r (.inr ⟨b, by rw [show x = _ from rx], by rw [← hb]; exact t.ret so _ rfl⟩)
def seqOf (mu : Sto) : D → Option (List D)
  | .tup ds => some ds
  | d => lstOf mu d
theorem seqOf_rep (so : StoOk K th mu H) {d : D} {ds : List D} {v : V} (h : seqOf mu d = some ds) (r : Rep K th H d v) : ∃ a vs, v = .ref a ∧ (SqL K.K H a vs ∨ SqT K.K H a vs ∧ d = .tup ds) ∧ RepL K th H ds vs ∧ ds.length ≤ sizeLine := by
  cases d with
  | tup es => cases h; unfold Rep at r; obtain ⟨a, vs, rfl, h1, h2, h3⟩ := r; exact ⟨a, vs, rfl, .inr ⟨h1, rfl⟩, h2, h3⟩
  | lst es => obtain ⟨a, vs, rfl, h1, h2, h3⟩ := lstOf_rep so (d := .lst es) h r; exact ⟨a, vs, rfl, .inl h1, h2, h3⟩
  | ref k => obtain ⟨a, vs, rfl, h1, h2, h3⟩ := lstOf_rep so (d := .ref k) h r; exact ⟨a, vs, rfl, .inl h1, h2, h3⟩
  | _ => cases h
def arg1 (ds : List D) : Option D := match ds with
  | [d] => some d
  | _ => none
theorem arg1_inv {ds : List D} {d : D} (h : arg1 ds = some d) : ds = [d] := by
  unfold arg1 at h
  split at h
  · cases h; rfl
  · cases h
def sq1 (ds : List D) (mu : Sto) : Option (List D) := match arg1 ds with
  | some d => seqOf mu d
  | none => none
def tupF : Fn := fun ds mu => (sq1 ds mu).map fun es => (.tup es, mu)
theorem sq1_inv {ds es : List D} (h : sq1 ds mu = some es) : ∃ d, ds = [d] ∧ seqOf mu d = some es := by
  unfold sq1 at h
  cases e : arg1 ds with
  | none => rw [e] at h; cases h
  | some d => rw [e] at h; exact ⟨d, arg1_inv e, h⟩
theorem call_tupD : CallV X (.type "tuple") tupF := by
  intro pins s st H xs us Q I r h
  obtain ⟨th, mu, ds, so, rd, t⟩ := h
  unfold tupF at t
  cases e : sq1 ds mu with
  | none => rw [e] at t; exact t.no.elim
  | some es =>
    rw [e] at t
    obtain ⟨d, rfl, e2⟩ := sq1_inv e
    obtain ⟨x, rfl, rx⟩ := one_arg rd
    obtain ⟨a, vs, rfl, h1, h2, h3⟩ := seqOf_rep so e2 rx
    refine call_tuple_of pins s st H _ us Q I r ⟨a, vs, rfl, ?_⟩
    rcases h1 with h1 | ⟨h1, rfl⟩
    · exact .inl ⟨h1, fun p hp => t.retX (.new hp _) (so.new hp _) _ (Rep.newTup so hp h2 h3)⟩
    · exact .inr ⟨h1, t.ret so _ rx⟩
def eApp (o : Ex) (a : Exs) : Ex := fun ro mu => bM (o ro mu) fun d m1 => match d with
  | .ref k => if okRef m1 (.ref k) = true then bM (a ro m1) fun xs m2 => match arg1 xs, m2[k]? with
    | some y, some (.lst ds) => if ds.length < sizeLine then some (.non, m2.set k (.lst (ds ++ [y]))) else none
    | _, _ => none
    else none
  | _ => none
theorem sv_append {o e : Expr} {m : Ex} {n : Exs} {apos cpos : Pos} (ho : SV X o m) (ha : SVA X [e] n) (hbase : attributeBase o "append" X.env (eval o X.env) = eval o X.env := by rfl)
    (hfew : ((backTo cpos (starEach [e] X.env)).all (fun x => !x.1) && (backToKw cpos (keywordEach [] X.env)).all (fun x => x.1.isSome)
      && decide ([e].length + ([] : List Keyword).length + (if ([] : List Keyword).isEmpty then 0 else 1) < 30)) = true := by rfl)
    (hline : (apos.endLine == cpos.line) = true := by rfl) (hs : starEach [e] X.env = (false, eval e X.env) :: starEach [] X.env := by rfl) (hplain : (backTo cpos (starEach [] X.env)).any (·.1) = false := by rfl) :
    SV X (.Call (.Attribute o "append" apos) [e] [] cpos) (eApp m n) :=
  ⟨PE.weak (pe_bm PySem.F.plainAttrs_list PySem.F.slot_list_append PySem.F.type_list_append mt_append ho.r ha.1 hbase hfew hline hs hplain) fun st H Q h => by
    obtain ⟨th, mu, ro, so, en, t⟩ := h
    refine ⟨th, mu, ro, so, en, t.bind.mono fun d th1 mu1 H1 e1 s1 t1 v rv => ?_⟩
    cases d with
    | ref k =>
      unfold Rep at rv
      obtain ⟨a, rfl, ha'⟩ := rv
      by_cases cr : okRef mu1 (.ref k) = true
      case neg => dsimp only at t1; rw [if_neg cr] at t1; exact t1.no.elim
      dsimp only at t1
      rw [if_pos cr] at t1
      obtain ⟨ds0, em⟩ := okRef_inv cr
      obtain ⟨vs, h2, _⟩ := s1.at' k a _ ha' em
      refine ⟨.inl ⟨rfl, vs, SqL.of h2⟩, th1, mu1, ro, s1, en.ext e1 so.out, ?_⟩
      refine Tr.mono (Tr.bind t1) fun xs th2 mu2 H2 e2 s2 t2 ws rws => ?_
      cases q1 : arg1 xs with
      | none => rw [q1] at t2; exact t2.no.elim
      | some y =>
        cases q2 : mu2[k]? with
        | none => rw [q1, q2] at t2; exact t2.no.elim
        | some o =>
          cases o with
          | dct _ _ => rw [q1, q2] at t2; exact t2.no.elim
          | lst ds =>
            rw [q1, q2] at t2
            dsimp only at t2
            by_cases c : ds.length < sizeLine
            · rw [if_pos c] at t2
              rw [arg1_inv q1] at rws
              obtain ⟨y', rfl, ry⟩ := one_arg rws
              have hk := e2.at ha'
              obtain ⟨us, g1, g2, g3⟩ := s2.at' k a _ hk q2
              exact ⟨a, us, y', rfl, rfl, g1, by rw [g2.len]; exact c, t2.retX (.mut (List.mem_of_getElem? hk) _) (s2.put hk (g2.app (.cons ry .nil)) (by rw [List.length_append]; exact c)) _ rfl⟩
            · rw [if_neg c] at t2; exact t2.no.elim
    | _ => exact t1.no.elim⟩
end
end PV
namespace PV
open PySem L2 PySem.Spec PyProof.Rows
mutual
theorem hsh_pure : ∀ {d : D}, hsh d = true → pureD d = true
  | .non, _ => rfl
  | .int _, _ => rfl
  | .str _, _ => rfl
  | .tup ds, h => by unfold hsh at h; unfold pureD; exact hshs_pure h
  | .bl _, h => nomatch h
  | .lst _, h => nomatch h
  | .dct _ _, h => nomatch h
  | .set _, h => nomatch h
  | .ref _, h => nomatch h
theorem hshs_pure : ∀ {ds : List D}, hshs ds = true → pureL ds = true
  | [], _ => rfl
  | d :: ds, h => by
    unfold hshs at h
    rw [Bool.and_eq_true] at h
    unfold pureL
    rw [hsh_pure h.1, hshs_pure h.2]
    rfl
end
mutual
theorem dpt_py : ∀ {d : D}, hsh d = true → (toPy d).depth = dpt d
  | .non, _ => rfl
  | .int _, _ => rfl
  | .str _, _ => rfl
  | .tup ds, h => by unfold hsh at h; unfold toPy PyData.depth dpt; rw [dpts_py h]
  | .bl _, h => nomatch h
  | .lst _, h => nomatch h
  | .dct _ _, h => nomatch h
  | .set _, h => nomatch h
  | .ref _, h => nomatch h
theorem dpts_py : ∀ {ds : List D}, hshs ds = true → PyData.depthAll (toPys ds) = dpts ds
  | [], _ => rfl
  | d :: ds, h => by
    unfold hshs at h
    rw [Bool.and_eq_true] at h
    unfold toPys PyData.depthAll dpts
    rw [dpt_py h.1, dpts_py h.2]
end
mutual
theorem eqv_iff : ∀ {d e : D}, hsh d = true → hsh e = true → PyData.eqv (toPy d) (toPy e) = decide (d = e)
  | .tup ds, .tup es, h, g => by
    unfold hsh at h g
    unfold toPy PyData.eqv
    rw [eqvs_iff h g]
    simp
  | .non, e, _, g => by cases e <;> first | rfl | (simp [toPy, PyData.eqv]; done) | cases g
  | .int i, .int j, _, _ => by by_cases c : i = j <;> simp [toPy, PyData.eqv, c]
  | .str i, .str j, _, _ => by by_cases c : i = j <;> simp [toPy, PyData.eqv, c]
  | .int _, .non, _, g => by simp [toPy, PyData.eqv]
  | .int _, .str _, _, g => by simp [toPy, PyData.eqv]
  | .int _, .tup _, _, g => by simp [toPy, PyData.eqv]
  | .str _, .non, _, g => by simp [toPy, PyData.eqv]
  | .str _, .int _, _, g => by simp [toPy, PyData.eqv]
  | .str _, .tup _, _, g => by simp [toPy, PyData.eqv]
  | .int _, .bl _, _, g => nomatch g
  | .int _, .lst _, _, g => nomatch g
  | .int _, .dct _ _, _, g => nomatch g
  | .int _, .set _, _, g => nomatch g
  | .int _, .ref _, _, g => nomatch g
  | .str _, .bl _, _, g => nomatch g
  | .str _, .lst _, _, g => nomatch g
  | .str _, .dct _ _, _, g => nomatch g
  | .str _, .set _, _, g => nomatch g
  | .str _, .ref _, _, g => nomatch g
  | .tup _, .non, _, _ => by simp [toPy, PyData.eqv]
  | .tup _, .int _, _, _ => by simp [toPy, PyData.eqv]
  | .tup _, .str _, _, _ => by simp [toPy, PyData.eqv]
  | .tup _, .bl _, _, g => nomatch g
  | .tup _, .lst _, _, g => nomatch g
  | .tup _, .dct _ _, _, g => nomatch g
  | .tup _, .set _, _, g => nomatch g
  | .tup _, .ref _, _, g => nomatch g
  | .bl _, _, h, _ => nomatch h
  | .lst _, _, h, _ => nomatch h
  | .dct _ _, _, h, _ => nomatch h
  | .set _, _, h, _ => nomatch h
  | .ref _, _, h, _ => nomatch h
theorem eqvs_iff : ∀ {ds es : List D}, hshs ds = true → hshs es = true → PyData.eqvAll (toPys ds) (toPys es) = decide (ds = es)
  | [], [], _, _ => by simp [toPys, PyData.eqvAll]
  | [], _ :: _, _, _ => by simp [toPys, PyData.eqvAll]
  | _ :: _, [], _, _ => by simp [toPys, PyData.eqvAll]
  | d :: ds, e :: es, h, g => by
    unfold hshs at h g
    rw [Bool.and_eq_true] at h g
    unfold toPys PyData.eqvAll
    rw [eqv_iff h.1 g.1, eqvs_iff h.2 g.2]
    by_cases c : d = e <;> by_cases c' : ds = es <;> simp [c, c']
end
theorem hasK_inv {d : D} (h : hasK d = true) : hsh d = true ∧ dpt d ≤ 8 := by
  unfold hasK at h
  rw [Bool.and_eq_true, decide_eq_true_eq] at h
  exact h
structure Hd (h : Heap) (d : D) (u : Value) : Prop where
  k : hasK d = true
  ok : (toPy d).canLay0 = true
  rd : ∃ as, Reads h u (toPy d) as
theorem hd_of {X : Cx} {th : List Addr} {H : Hp} {pins : List (Addr × Obj)} {st : L2.St} {s : Shared} (I : L2.Inv X pins st H s) {d : D} {v : V} {u : Value} (k : hasK d = true) (r : Rep X.z th H d v) (q : RelV v u) : Hd s.heap d u := by
  obtain ⟨as, h1, h2⟩ := reads_of I d v u (hsh_pure (hasK_inv k).1) r q
  exact ⟨k, h2, as, h1⟩
section variable {prog : Program} {w : World} {E : Value → Shared → Prop}
mutual
theorem hash_D : ∀ (d : D) (u : Value) (as : List Addr) (A : Around) (s : Shared) (Q : Int → Shared → Prop), hsh d = true → Reads s.heap u (toPy d) as → A.units + dpt d < cLine → (∀ tk, Q (hashD w d) { s with toks := tk }) → wpAny (model prog w) A (pyHash u) Q E s
  | .non, _, as, A, s, Q, _, x, hu, h => by
    cases x
    exact PySem.W.pyHash_slot (T := "NoneType") rfl F.slot_NoneType_hash F.entry_NoneType_hash (F.args_NoneType_hash_1 _) (beq_builtin_none _) (.inr (by unfold dpt at hu; omega)) (wpAny_bind (wpAny_pure (wpAny_bind (wpAny_mkInt (wpAny_pure ⟨_, _, rfl, h _⟩)))))
  | .int i, _, as, A, s, Q, _, x, _, h => by cases x; exact wpAny_pyHash_int (h _)
  | .str y, _, as, A, s, Q, _, x, _, h => by cases x; exact wpAny_pyHash_str (h _)
  | .tup ds, _, as, A, s, Q, hk, x, hu, h => by
    unfold toPy at x
    cases x with
    | @tuple a o vs n _ _ g1 g2 g3 hw =>
      unfold dpt at hu
      refine PySem.W.pyHash_slot (T := "tuple") ⟨_, g1, g2⟩ F.slot_tuple_hash F.entry_tuple_hash (F.args_tuple_hash_1 _) (beq_builtin_none _) (.inr (by omega)) ?_
      refine (?_ : wpAny _ _ (Builtin.Tuple.tupleItemsOf (.ref a) >>= _) _ _ s)
      refine wpAny_bind (wpAny_tupleItemsOf g1 g3 (wpAny_bind ?_))
      rw [← Array.forIn_toList]
      refine hash_Ds ds vs.toList as A.in1 s #[] _ (by unfold hsh at hk; exact hk) hw (by rw [Around.in1_units]; omega) fun tk b hb => ?_
      refine (?_ : wpAny _ _ (retInt (Builtin.Tuple.tupleHashOf b.toList)) _ _ _)
      rw [hb]
      (exact wpAny_bind (wpAny_mkInt (wpAny_pure ⟨_, _, rfl, h _⟩)))
  | .bl _, _, _, _, _, _, h, _, _, _ => nomatch h
  | .lst _, _, _, _, _, _, h, _, _, _ => nomatch h
  | .dct _ _, _, _, _, _, _, h, _, _, _ => nomatch h
  | .set _, _, _, _, _, _, h, _, _, _ => nomatch h
  | .ref _, _, _, _, _, _, h, _, _, _ => nomatch h
theorem hash_Ds : ∀ (ds : List D) (vs : List Value) (as : List Addr) (A : Around) (s : Shared) (b : Array Int) (Q : Array Int → Shared → Prop), hshs ds = true → ReadsAll s.heap vs (toPys ds) as → A.units + dpts ds < cLine →
    (∀ tk b', b'.toList = b.toList ++ hashDs w ds → Q b' { s with toks := tk }) → wpAny (model prog w) A (forIn vs b fun x r => do let h ← pyHash x; pure PUnit.unit; pure (ForInStep.yield (r.push h))) Q E s
  | [], _, as, A, s, b, Q, _, x, _, h => by unfold toPys at x; cases x; exact wpAny_pure (h s.toks b (by simp [hashDs]))
  | d :: ds, _, as, A, s, b, Q, hk, x, hu, h => by
    unfold toPys at x
    cases x with
    | cons x1 x2 =>
      unfold hshs at hk
      rw [Bool.and_eq_true] at hk
      unfold dpts at hu
      rw [List.forIn_cons]
      refine wpAny_bind (wpAny_bind (hash_D d _ _ A s _ hk.1 x1 (by omega) fun tk => wpAny_bind (wpAny_pure (wpAny_pure ?_))))
      exact hash_Ds ds _ _ A { s with toks := tk } _ Q hk.2 x2 (by omega) fun tk' b' hb => h tk' b' (by simp [hb, hashDs])
end
theorem Hd.hash {A : Around} {s : Shared} {d : D} {u : Value} {Q : Int → Shared → Prop} (x : Hd s.heap d u) (hu : A.units + 8 < cLine) (h : ∀ tk, Q (hashD w d) { s with toks := tk }) : wpAny (model prog w) A (pyHash u) Q E s := by
  obtain ⟨as, r⟩ := x.rd
  have := hasK_inv x.k
  exact hash_D d u as A s Q this.1 r (by omega) h
theorem Hd.eq {A : Around} {s : Shared} {d e : D} {u v : Value} {Q : Bool → Shared → Prop} (x : Hd s.heap d u) (y : Hd s.heap e v) (hu : A.units + 8 < cLine) (h : Q (decide (d = e)) s) : wpAny (model prog w) A (eqBool u v) Q E s := by
  obtain ⟨as, r⟩ := x.rd
  obtain ⟨bs, r'⟩ := y.rd
  have k1 := hasK_inv x.k
  have k2 := hasK_inv y.k
  refine SeqAt.eqAt_reads _ _ A s u v as bs r r' x.ok y.ok (by rw [dpt_py k1.1, dpt_py k2.1]; omega) prog w E Q ?_
  rw [eqv_iff k1.1 k2.1]
  exact h
mutual
theorem quiet_D : ∀ (n : Nat) (d : D) (u : Value) (as : List Addr) (A : Around) (s : Shared) (Q : Bool → Shared → Prop), hsh d = true → dpt d ≤ n → Reads s.heap u (toPy d) as → Q true s → wpAny (model prog w) A (eqIsQuiet n u) Q E s
  | n, .non, _, as, A, s, Q, _, _, x, h => by cases x; rw [eqIsQuiet_byValue n rfl]; exact wpAny_pure h
  | n, .int _, _, as, A, s, Q, _, _, x, h => by cases x; rw [eqIsQuiet_byValue n rfl]; exact wpAny_pure h
  | n, .str _, _, as, A, s, Q, _, _, x, h => by cases x; rw [eqIsQuiet_byValue n rfl]; exact wpAny_pure h
  | n, .tup ds, _, as, A, s, Q, hk, hn, x, h => by
    unfold toPy at x
    cases x with
    | @tuple a o vs k _ _ g1 g2 g3 hw =>
      unfold dpt at hn
      obtain ⟨m, rfl⟩ : ∃ m, n = m + 1 := ⟨n - 1, by omega⟩
      have hT : s.TypeIs (.ref a) "tuple" := ⟨o, g1, g2⟩
      unfold eqIsQuiet
      (refine wpAny_bind (wpAny_specialOf hT F.slot_tuple_eq.lookup ?_))
      refine (?_ : wpAny _ _ (isInstance (.ref a) (.type "tuple") >>= _) _ _ s)
      (refine wpAny_bind (wpAny_isInstance hT isSubtype_tuple_tuple ?_))
      (simp only [Bool.not_true, Bool.false_eq_true, if_false])
      refine wpAny_bind (wpAny_seqItems g1 g3 (wpAny_bind ?_))
      refine (?_ : wpAny _ _ (forIn vs _ _) _ _ s)
      rw [← Array.forIn_toList]
      exact quiet_Ds m ds vs.toList as A s _ (by unfold hsh at hk; exact hk) (by omega) hw (wpAny_pure h)
  | _, .bl _, _, _, _, _, _, h, _, _, _ => nomatch h
  | _, .lst _, _, _, _, _, _, h, _, _, _ => nomatch h
  | _, .dct _ _, _, _, _, _, _, h, _, _, _ => nomatch h
  | _, .set _, _, _, _, _, _, h, _, _, _ => nomatch h
  | _, .ref _, _, _, _, _, _, h, _, _, _ => nomatch h
theorem quiet_Ds : ∀ (m : Nat) (ds : List D) (vs : List Value) (as : List Addr) (A : Around) (s : Shared) (Q : Option Bool × PUnit → Shared → Prop), hshs ds = true → dpts ds ≤ m → ReadsAll s.heap vs (toPys ds) as → Q (none, PUnit.unit) s →
    wpAny (model prog w) A (forIn vs ((none, PUnit.unit) : Option Bool × PUnit) fun y r => do
        let q ← eqIsQuiet m y
        if (!q) = true then pure (ForInStep.done (some false, PUnit.unit)) else pure (ForInStep.yield (none, PUnit.unit))) Q E s
  | m, [], _, as, A, s, Q, _, _, x, h => by unfold toPys at x; cases x; exact wpAny_pure h
  | m, d :: ds, _, as, A, s, Q, hk, hn, x, h => by
    unfold toPys at x
    cases x with
    | cons x1 x2 =>
      unfold hshs at hk
      rw [Bool.and_eq_true] at hk
      unfold dpts at hn
      rw [List.forIn_cons]
      refine wpAny_bind (wpAny_bind (quiet_D m d _ _ A s _ hk.1 (by omega) x1 ?_))
      (simp only [Bool.not_true, Bool.false_eq_true, if_false])
      exact wpAny_pure (quiet_Ds m ds _ _ A s Q hk.2 (by omega) x2 h)
end
theorem Hd.quiet {A : Around} {s : Shared} {d : D} {u : Value} {Q : Bool → Shared → Prop} (x : Hd s.heap d u) (h : Q true s) : wpAny (model prog w) A (eqIsQuiet 8 u) Q E s := by
  obtain ⟨as, r⟩ := x.rd
  have k := hasK_inv x.k
  exact quiet_D 8 d u as A s Q k.1 k.2 r h
end
end PV
namespace PV
open PySem L2 PySem.Spec PyProof.Rows
def EnK (w : World) (h : Heap) (k : D) (e : DictEntry) : Prop := e.hash = hashD w k ∧ Hd h k e.key
theorem pair_at {α β : Type} {F : α → β → Prop} : ∀ {xs : List α} {ys : List β}, Paired F xs ys → ∀ j : Nat, (∀ x, xs[j]? = some x → ∃ y, ys[j]? = some y ∧ F x y) ∧ (∀ y, ys[j]? = some y → ∃ x, xs[j]? = some x ∧ F x y)
  | _, _, .nil, j => ⟨fun x e => by simp at e, fun y e => by simp at e⟩
  | _, _, .cons r t, 0 => ⟨fun x e => by simp at e; subst e; exact ⟨_, rfl, r⟩, fun y e => by simp at e; subst e; exact ⟨_, rfl, r⟩⟩
  | _, _, .cons r t, j + 1 => by simpa using pair_at t j
theorem pair_len {α β : Type} {F : α → β → Prop} : ∀ {xs : List α} {ys : List β}, Paired F xs ys → xs.length = ys.length
  | _, _, .nil => rfl
  | _, _, .cons _ t => by simp [pair_len t]
theorem hd_str {h : Heap} {k : D} {y : Str} {t : Tok} (x : Hd h k (.str y t)) : k = .str y := by
  obtain ⟨as, r⟩ := x.rd
  have hk := (hasK_inv x.k).1
  cases k <;> first | (cases hk; done) | (unfold toPy at r; cases r; done) | (unfold toPy at r; cases r; rfl)
theorem hd_inj {h : Heap} {k k' : D} {u : Value} (x : Hd h k u) (y : Hd h k' u) : k = k' := by
  obtain ⟨as, r⟩ := x.rd
  obtain ⟨bs, r'⟩ := y.rd
  have hk := (hasK_inv x.k).1
  have hk' := (hasK_inv y.k).1
  have e : toPy k = toPy k' := SeqAt.Reads.unique _ _ _ _ _ x.ok r r'
  have := eqv_iff hk hk'
  rw [← e, eqv_iff hk hk] at this
  simpa using this
theorem nd_at {ks : List D} (hn : ks.Nodup) {i j : Nat} {k : D} (a : ks[i]? = some k) (b : ks[j]? = some k) : i = j := by
  obtain ⟨hi, ei⟩ := List.getElem?_eq_some_iff.mp a
  exact (List.getElem?_inj hi hn).mp (a.trans b.symm)
section
variable {prog : Program} {w : World} {A : Around} {E : Value → Shared → Prop} {s : Shared}
theorem iteS {α : Type} {M : Model} {c : Prop} [Decidable c] {x y : Sem α} {Q : α → Shared → Prop} (h1 : c → wpAny M A x Q E s) (h2 : ¬ c → wpAny M A y Q E s) : wpAny M A (if c then x else y) Q E s := by
  by_cases h : c
  · rw [if_pos h]; exact h1 h
  · rw [if_neg h]; exact h2 h
theorem tells_D {k : D} {u : Value} {stored : List Value} {Q : Bool → Shared → Prop} (hk : Hd s.heap k u) (hst : ∀ v ∈ stored, ∃ k', Hd s.heap k' v) (h : Q false s) : wpAny (model prog w) A (tableMayTell u stored) Q E s := by
  unfold tableMayTell
  split
  · exact wpAny_pure h
  · refine wpAny_bind (hk.quiet ?_)
    (simp only [Bool.not_true, Bool.false_eq_true, if_false])
    refine wpAny_bind (wpAny_forIn_list _ (fun rest r s' => s' = s ∧ r = (none, PUnit.unit) ∧ ∀ v ∈ rest, ∃ k', Hd s.heap k' v) _ ?_ ?_ _ _ ⟨rfl, rfl, hst⟩)
    · (rintro x rest r s' ⟨rfl, rfl, hr⟩)
      obtain ⟨k', hb⟩ := hr x List.mem_cons_self
      refine wpAny_bind (hb.quiet ?_)
      (simp only [Bool.not_true, Bool.false_eq_true, if_false])
      (exact wpAny_pure ⟨rfl, rfl, fun v hv => hr v (List.mem_cons_of_mem _ hv)⟩)
    · rintro r s' ⟨rfl, rfl, _⟩; exact wpAny_pure h
theorem find_D {a : Addr} {o : Obj} {es : Array DictEntry} {ep : Nat} {ks : List D} {k : D} {u : Value} {Q : Option Nat → Shared → Prop} (hu : A.units + 8 < cLine) (hk : Hd s.heap k u) (ho : s.heap.get? a = some o) (hd : o.data = .dict es ep)
    (he : Paired (EnK w s.heap) ks es.toList) (hn : ks.Nodup) (h0 : k ∉ ks → Q none s) (h1 : ∀ j, ks[j]? = some k → Q (some j) s) : wpAny (model prog w) A (dictFind a u (hashD w k)) Q E s := by
  have hat : ∀ j e, es[j]? = some e → ∃ k', ks[j]? = some k' ∧ EnK w s.heap k' e := fun j e q => (pair_at he j).2 e (by rw [Array.getElem?_toList]; exact q)
  have hto : ∀ j k', ks[j]? = some k' → ∃ e, es[j]? = some e ∧ EnK w s.heap k' e := fun j k' q => by
    obtain ⟨e, e1, e2⟩ := (pair_at he j).1 k' q
    exact ⟨e, by rw [← Array.getElem?_toList]; exact e1, e2⟩
  have hsz : es.size = ks.length := by rw [pair_len he, Array.length_toList]
  have hno : (∀ j, ks[j]? ≠ some k) → k ∉ ks := fun q z => by obtain ⟨j, e⟩ := List.mem_iff_getElem?.mp z; exact q j e
  unfold dictFind
  try with_reducible refine wpAny_holding ?_
  (refine wpAny_bind (wpAny_dictEntries ho hd ?_))
  have hp : ∀ j, ks[j]? = some k → (es[j]?.map (fun e : DictEntry => e.hash) == some (hashD w k)) = true := fun j q => by
    obtain ⟨e, e1, e2, _⟩ := hto j k q
    rw [e1]; simp [e2]
  have walk : wpAny (model prog w) A (dictWalkPlain a u (hashD w k) es (placesWithHash es.size (fun i => es[i]?.map (fun e : DictEntry => e.hash)) (hashD w k))) Q E s := by
    unfold dictWalkPlain
    refine wpAny_bind (wpAny_forIn_list _ (fun rest b s' => s' = s ∧ b = (none, PUnit.unit) ∧ ∃ i, rest = (List.range' i (es.size - i)).filter (fun i => es[i]?.map (fun e : DictEntry => e.hash) == some (hashD w k)) ∧ i ≤ es.size ∧ ∀ j, j < i → ks[j]? ≠ some k) _ ?_ ?_ _ _
      ⟨rfl, rfl, 0, by rw [placesWithHash, List.range_eq_range', Nat.sub_zero], Nat.zero_le _, fun j z => absurd z (Nat.not_lt_zero _)⟩)
    · rintro x rest b s' ⟨rfl, rfl, i, hr, hi, hH⟩
      (obtain ⟨hix, hxn, hpx, hskip, hrest⟩ := filter_range'_cons _ _ _ _ _ hr.symm)
      (have hlt : x < es.size := by omega)
      have ex : es[x]? = some es[x] := Array.getElem?_eq_getElem hlt
      obtain ⟨k', e1, e2, e3⟩ := hat x _ ex
      rw [ex] at hpx ⊢
      have hh : es[x].hash = hashD w k := by simpa using hpx
      have hh' : (es[x].hash == hashD w k) = true := by simpa using hh
      have nx : ∀ j, j < x → ks[j]? ≠ some k := fun j hj q => by
        rcases Nat.lt_or_ge j i with z | z
        · exact hH j z q
        · have := hskip j z hj; rw [hp j q] at this; cases this
      dsimp only
      rw [if_pos hh']
      refine wpAny_bind (wpAny_dictEpoch ho hd (wpAny_bind (e3.eq hk hu (wpAny_bind (wpAny_dictEpoch ho hd ?_)))))
      rw [if_neg (by simp)]
      by_cases c : k' = k
      · rw [decide_eq_true c]
        subst c
        exact wpAny_bind (wpAny_rule (wpAny_pure (wpAny_pure (h1 x e1))))
      · rw [decide_eq_false c]
        refine wpAny_bind (wpAny_rule (wpAny_pure ⟨rfl, rfl, x + 1, by rw [hrest]; congr 2; omega, hlt, fun j hj q => ?_⟩))
        rcases Nat.lt_or_ge j x with z | z
        · exact nx j z q
        · have : j = x := by omega
          subst this
          rw [e1] at q
          exact c (Option.some.inj q)
    · rintro b s' ⟨rfl, rfl, i, hr, hi, hH⟩
      refine wpAny_pure (h0 (hno fun j q => ?_))
      rcases Nat.lt_or_ge j i with z | z
      · exact hH j z q
      · have hj : j < es.size := by rw [hsz]; exact (List.getElem?_eq_some_iff.mp q).1
        have := List.filter_eq_nil_iff.mp hr.symm j (List.mem_range'_1.mpr ⟨z, by omega⟩)
        exact this (hp j q)
  have hst : ∀ v ∈ (placesWithHash es.size (fun i => es[i]?.map (fun e : DictEntry => e.hash)) (hashD w k)).filterMap (fun i => es[i]?.map (fun e : DictEntry => e.key)), ∃ k', Hd s.heap k' v := fun v hv => by
    (obtain ⟨i, _, hi⟩ := List.mem_filterMap.mp hv)
    cases ei : es[i]? with
    | none => rw [ei] at hi; cases hi
    | some e =>
      rw [ei] at hi
      (obtain rfl : e.key = v := by simpa using hi)
      obtain ⟨k', _, _, q⟩ := hat i e ei
      exact ⟨k', q⟩
  have hany : ∀ b, u = .ref b → ¬ (es.any fun e => e.key == u && e.hash != hashD w k) = true := fun b hb => by
    (rw [← Array.any_toList, List.any_eq_true])
    rintro ⟨e, hin, hc⟩
    obtain ⟨j, ej⟩ := List.mem_iff_getElem?.mp hin
    obtain ⟨k', _, q1, q2⟩ := hat j e (by rw [← Array.getElem?_toList]; exact ej)
    rw [Bool.and_eq_true, bne_iff_ne] at hc
    have ek : e.key = u := eq_of_beq hc.1
    rw [ek] at q2
    exact hc.2 (by rw [q1, hd_inj q2 hk])
  have c4 : u = .none ∨ (∃ i t, u = .int i t) ∨ (∃ x t, u = .str x t) ∨ ∃ b, u = .ref b := by
    obtain ⟨as, r⟩ := hk.rd
    have := (hasK_inv hk.k).1
    cases k <;> first | (cases this; done) | (unfold toPy at r; cases r; simp)
  have str : ∀ x t, u = .str x t → (es.all fun e => isExactStrKey e.key) = true → wpAny (model prog w) A (foundByValue a u es x) Q E s := fun x t hux hall => by
    subst hux
    have kx := hd_str hk
    subst kx
    have hiff : ∀ e ∈ es.toList, ∀ k', Hd s.heap k' e.key → (e.key.isStr x = true ↔ k' = .str x) := fun e hm k' q => by
      rw [← Array.all_toList, List.all_eq_true] at hall
      have := hall e hm
      cases ek : e.key <;> rw [ek] at this q <;> first | (cases this; done) | skip
      rename_i y ty
      rw [hd_str q]
      show (y == x) = true ↔ _
      simp
    have hidx : es.findIdx? (fun e => e.key.isStr x) = es.toList.findIdx? (fun e => e.key.isStr x) := by cases es; simp
    unfold foundByValue
    rw [hidx]
    cases hr : es.toList.findIdx? (fun e => e.key.isStr x) with
    | none =>
      refine wpAny_pure (h0 (hno fun j q => ?_))
      obtain ⟨e, e1, e2, e3⟩ := hto j _ q
      have hm : e ∈ es.toList := List.mem_of_getElem? (by rw [Array.getElem?_toList]; exact e1)
      have := List.findIdx?_eq_none_iff.mp hr e hm
      rw [(hiff e hm _ e3).mpr rfl] at this
      cases this
    | some j =>
      (obtain ⟨hj, hpj, _⟩ := List.findIdx?_eq_some_iff_getElem.mp hr)
      have he' : es[j]? = some es.toList[j] := by rw [← Array.getElem?_toList]; exact List.getElem?_eq_getElem hj
      obtain ⟨k', e1, e2, e3⟩ := hat j _ he'
      have kk := (hiff _ (List.getElem_mem hj) _ e3).mp hpj
      subst kk
      dsimp only
      rw [he']
      dsimp only
      refine wpAny_bind (wpAny_dictEpoch ho hd (wpAny_bind (e3.eq hk hu (wpAny_bind (wpAny_dictEpoch ho hd ?_)))))
      rw [if_neg (by simp), decide_eq_true rfl]
      exact wpAny_bind (wpAny_rule (wpAny_pure (h1 j e1)))
  rcases c4 with rfl | ⟨i, t, rfl⟩ | ⟨x, t, rfl⟩ | ⟨b, rfl⟩
  case' inl => refine iteS (fun _ => walk) fun _ => ?_
  case' inr.inl => refine iteS (fun _ => walk) fun _ => ?_
  case' inr.inr.inl => refine iteS (fun hall => str x t rfl hall) fun _ => iteS (fun _ => walk) fun _ => ?_
  case' inr.inr.inr => refine iteS (fun _ => walk) fun _ => ?_
  case' inr.inr.inr => refine iteS (fun z => absurd z (hany b rfl)) fun _ => ?_
  all_goals
    refine iteS (fun _ => wpAny_bind (wpAny_pure ?_)) (fun _ => wpAny_bind (tells_D hk hst ?_)) <;> (
      refine iteS (fun z => absurd z (by simp)) fun _ => ?_
      refine wpAny_bind (wpAny_forIn_list _ (fun rest b s' => s' = s ∧ ∃ i hit, b = (none, hit) ∧ rest = (List.range' i (es.size - i)).filter (fun i => es[i]?.map (fun e : DictEntry => e.hash) == some (hashD w k)) ∧ i ≤ es.size ∧
          ((hit = none ∧ ∀ j, j < i → ks[j]? ≠ some k) ∨ ∃ j, hit = some j ∧ j < i ∧ ks[j]? = some k)) _ ?_ ?_ _ _
        ⟨rfl, 0, none, rfl, by rw [placesWithHash, List.range_eq_range', Nat.sub_zero], Nat.zero_le _, .inl ⟨rfl, fun j z => absurd z (Nat.not_lt_zero _)⟩⟩)
      · (rintro x rest b s' ⟨rfl, i, hit, rfl, hr, hi, hH⟩)
        (obtain ⟨hix, hxn, hpx, hskip, hrest⟩ := filter_range'_cons _ _ _ _ _ hr.symm)
        (have hlt : x < es.size := by omega)
        have hrest' : rest = (List.range' (x + 1) (es.size - (x + 1))).filter (fun i => es[i]?.map (fun e : DictEntry => e.hash) == some (hashD w k)) := by rw [hrest]; congr 2; omega
        have ex : es[x]? = some es[x] := Array.getElem?_eq_getElem hlt
        obtain ⟨k', e1, e2, e3⟩ := hat x _ ex
        rw [ex] at hpx ⊢
        have hh : es[x].hash = hashD w k := by simpa using hpx
        have hh' : (es[x].hash == hashD w k) = true := by simpa using hh
        have hx : (hit = none ∧ ∀ j, j < x → ks[j]? ≠ some k) ∨ ∃ j, hit = some j ∧ j < x ∧ ks[j]? = some k := by
          rcases hH with ⟨z0, hno'⟩ | ⟨j, z1, hji, hj⟩
          · refine .inl ⟨z0, fun j hj q => ?_⟩
            rcases Nat.lt_or_ge j i with z | z
            · exact hno' j z q
            · have := hskip j z hj; rw [hp j q] at this; cases this
          · exact .inr ⟨j, z1, by omega, hj⟩
        dsimp only
        rw [if_pos hh']
        refine wpAny_bind (wpAny_dictEpoch ho hd (wpAny_bind (e3.eq hk hu (wpAny_bind (wpAny_dictEpoch ho hd ?_)))))
        rw [if_neg (by simp)]
        by_cases c : k' = k
        · rw [decide_eq_true c]
          subst c
          rcases hx with ⟨rfl, _⟩ | ⟨j, _, hjx, hj⟩
          · simp only [Option.isSome_none, Bool.false_eq_true, if_false, if_true]
            refine wpAny_bind (wpAny_rule ?_)
            split
            · exact wpAny_pure (wpAny_pure (h1 x e1))
            · exact wpAny_pure ⟨rfl, x + 1, some x, rfl, hrest', hlt, .inr ⟨x, rfl, Nat.lt_succ_self x, e1⟩⟩
          · exact absurd (nd_at hn hj e1) (by omega)
        · rw [decide_eq_false c]
          simp only [Bool.false_eq_true, if_false, Bool.false_and]
          refine wpAny_bind (wpAny_rule (wpAny_pure ⟨rfl, x + 1, hit, rfl, hrest', hlt, ?_⟩))
          rcases hx with ⟨z0, hno'⟩ | ⟨j, z1, hji, hj⟩
          · refine .inl ⟨z0, fun j hj q => ?_⟩
            rcases Nat.lt_or_ge j x with z | z
            · exact hno' j z q
            · have : j = x := by omega
              subst this
              rw [e1] at q
              exact c (Option.some.inj q)
          · exact .inr ⟨j, z1, by omega, hj⟩
      · (rintro b s' ⟨rfl, i, hit, rfl, hr, hi, hH⟩)
        rcases hH with ⟨rfl, hno'⟩ | ⟨j, rfl, _, hj⟩
        · refine wpAny_pure (h0 (hno fun j q => ?_))
          rcases Nat.lt_or_ge j i with z | z
          · exact hno' j z q
          · have hj : j < es.size := by rw [hsz]; exact (List.getElem?_eq_some_iff.mp q).1
            exact List.filter_eq_nil_iff.mp hr.symm j (List.mem_range'_1.mpr ⟨z, by omega⟩) (hp j q)
        · exact wpAny_pure (h1 j hj))
end
end PV
namespace L2
open PySem PySem.Spec PyProof.Rows
theorem vals3' {x y z : V} {us : List Value} (r : Vals [x, y, z] us) : ∃ u v w', us = [u, v, w'] ∧ RelV x u ∧ RelV y v ∧ RelV z w' := by
  cases r with
  | cons r1 r2 =>
    obtain ⟨v, w', rfl, a, b⟩ := vals2 r2
    exact ⟨_, v, w', rfl, r1, a, b⟩
def tPar3 (i j k : Nat) (ta : TA) : TS := fun D σ H => ta σ H fun vs H1 => ∃ u v w, vs = [u, v, w] ∧ D.nx (((σ.set i (some u)).set j (some v)).set k (some w)) H1
theorem ps_par3 {X : Cx} {pos : Pos} {i j k : Nat} {x y z : Str} {a b c : Expr} {ta : TA} {px py pz pt : Pos} {kt k2 pt2} (hc : X.calm = true) (hN : X.N.Nodup) (hi : X.N[i]? = some x) (hj : X.N[j]? = some y) (hk : X.N[k]? = some z) (hij : i ≠ j) (hik : i ≠ k) (hjk : j ≠ k)
    (hx : X.env.scope.names.lookup x = some .local) (hy : X.env.scope.names.lookup y = some .local) (hz : X.env.scope.names.lookup z = some .local) (ha : PA X [a, b, c] ta)
    (hw : swappedStores [.Tuple [.Name x px, .Name y py, .Name z pz] kt pt] (.Tuple [a, b, c] k2 pt2) X.env = pure (some [x, y, z]))
    (hs : swapsWithSole [.Tuple [.Name x px, .Name y py, .Name z pz] kt pt] (.Tuple [a, b, c] k2 pt2) pos.line X.env = pure false := by rfl) :
    PS X (.Assign [.Tuple [.Name x px, .Name y py, .Name z pz] kt pt] (.Tuple [a, b, c] k2 pt2) pos) (tPar3 i j k ta) := by
  intro pins s σ H D I h
  rw [exec_Assign_arm]
  refine wpAny_bind (wpAny_standAt ?_)
  rw [hs]
  refine wpAny_bind (wpAny_pure ?_)
  rw [if_neg (by decide)]
  refine wpAny_bind (Tuple_ (thn (ha _ pins s σ H _ I h) fun us s1 ⟨vs, H1, I1, r1, q1⟩ => ?_))
  obtain ⟨v1, v2, v3, e1, q1⟩ := q1
  subst e1
  obtain ⟨u1, u2, u3, rfl, ra, rb, rc⟩ := vals3' r1
  refine wpAny_newObj_type ?_ (by show 3 ≤ sizeLine; decide)
  have I2 : Inv X pins σ H1 { s1 with heap := s1.heap.push { cls := .type "tuple", data := .seq [u1, u2, u3].toArray } } := I1.kept (t' := s1.toks) fun b o e => Heap.get?_push_of_some _ e
  rw [hw]
  refine wpAny_bind (wpAny_pure ?_)
  show wpAny (model X.prog X.w) X.A (do rule "assign.swapped-stores"; let items ← unpackItems (.ref s1.heap.objs.size) 3 none; assignInOrder [fun v => bindName X.env z v, fun v => bindName X.env y v, fun v => bindName X.env x v] items.reverse; pure Flow.next) _ _ _
  refine wpAny_bind (wpAny_rule (wpAny_bind (unpackItems_tuple (items := #[u1, u2, u3]) (I.ok.hd hc) (IsTup.new s1.heap _) fun h' hx' => ?_)))
  have I3 := I2.kept (h' := h') (t' := s1.toks) fun b o e => hx' b o (Nat.ne_of_lt (Heap.lt_size e)) e
  show wpAny _ _ (assignInOrder [fun v => bindName X.env z v, fun v => bindName X.env y v, fun v => bindName X.env x v] [u3, u2, u1] >>= fun _ => pure Flow.next) _ _ _
  refine wpAny_bind (assignInOrder_cons (wpAny_bindName (store_ok I3 hN hk (.inl hz) rc (fun s2 I4 => ?_) (.inr hz))))
  refine assignInOrder_cons (wpAny_bindName (store_ok I4 hN hj (.inl hy) rb (fun s3 I5 => ?_) (.inr hy)))
  refine assignInOrder_cons (wpAny_bindName (store_ok I5 hN hi (.inl hx) ra (fun s4 I6 => assignInOrder_nil (wpAny_pure ?_)) (.inr hx)))
  rw [List.set_comm _ _ (Ne.symm hjk), List.set_comm _ _ (Ne.symm hik), List.set_comm (i := j) (j := i) _ _ (Ne.symm hij)] at I6
  exact ⟨_, H1, I6, q1⟩
end L2
namespace PV
open PySem L2 PySem.Spec PyProof.Rows
section
variable {X : Cx} {K : Zc} {th : List Addr} {mu : Sto} {H : Hp}
def sPar3 (i j k : Nat) (a : Exs) : Sx := fun ro mu => bM (a ro mu) fun ds m1 => match ds with
  | [x, y, z] => some ((.nx, ((ro.set i (some x)).set j (some y)).set k (some z)), m1)
  | _ => none
theorem svs_par3 (i j k : Nat) {x y z : Str} {a b c : Expr} {m : Exs} {px py pz pt : Pos} {kt k2 pt2} {pos : Pos} (hc : X.calm = true) (hN : X.N.Nodup) (ha : SVA X [a, b, c] m)
    (hw : swappedStores [.Tuple [.Name x px, .Name y py, .Name z pz] kt pt] (.Tuple [a, b, c] k2 pt2) X.env = pure (some [x, y, z]))
    (hi : X.N[i]? = some x := by rfl) (hj : X.N[j]? = some y := by rfl) (hk : X.N[k]? = some z := by rfl) (hij : i ≠ j := by decide) (hik : i ≠ k := by decide) (hjk : j ≠ k := by decide)
    (hx : X.env.scope.names.lookup x = some .local := by rfl) (hy : X.env.scope.names.lookup y = some .local := by rfl) (hz : X.env.scope.names.lookup z = some .local := by rfl)
    (hs : swapsWithSole [.Tuple [.Name x px, .Name y py, .Name z pz] kt pt] (.Tuple [a, b, c] k2 pt2) pos.line X.env = pure false := by rfl) :
    SVS X (.Assign [.Tuple [.Name x px, .Name y py, .Name z pz] kt pt] (.Tuple [a, b, c] k2 pt2) pos) (sPar3 i j k m) := ⟨PS.weak (ps_par3 hc hN hi hj hk hij hik hjk hx hy hz ha.1 hw hs) fun E st H h => by
  obtain ⟨th, mu, ro, so, en, t⟩ := h
  refine ⟨th, mu, ro, so, en, t.bind.mono fun ds th1 mu1 H1 e1 s1 t1 vs rvs => ?_⟩
  match ds, t1, rvs with
  | [d, d', d''], t1, rvs =>
    obtain ⟨v, r, rfl, r1, r2⟩ := rvs.inv
    obtain ⟨u, w, rfl, r3, r4⟩ := two_arg r2
    exact ⟨v, u, w, rfl, t1.ret s1 _ ((((en.ext e1 so.out).set i r1).set j r3).set k r4)⟩
  | [], t1, _ => exact t1.no.elim
  | [_], t1, _ => exact t1.no.elim
  | [_, _], t1, _ => exact t1.no.elim
  | _ :: _ :: _ :: _ :: _, t1, _ => exact t1.no.elim⟩
def putM (d e v : D) (mu : Sto) : Rs Unit := match d, e with
  | .ref k, .int i => match mu[k]? with
    | some (.lst ds) => match ixN ds.length i with
      | some j => some ((), mu.set k (.lst (ds.set j v)))
      | none => none
    | _ => none
  | _, _ => none
def rPut (K : Zc) : TSet := fun o i v H Q => ∃ th mu d e w, StoOk K th mu H ∧ Rep K th H d o ∧ Rep K th H e i ∧ Rep K th H w v ∧ Tr K th H (putM d e w mu) fun _ _ _ H' => Q H'
theorem set_D : PSet X (rPut X.z) := by
  intro pins s st H o i v ov iv u Q I ro ri rv h
  obtain ⟨th, mu, d, e, w, so, r1, r2, r3, t⟩ := h
  cases d with
  | ref k =>
    cases e with
    | int j =>
      unfold putM at t
      dsimp only at t
      cases q : mu[k]? with
      | none => rw [q] at t; exact t.no.elim
      | some o' =>
        cases o' with
        | dct _ _ => rw [q] at t; exact t.no.elim
        | lst ds =>
          rw [q] at t
          dsimp only at t
          cases q2 : ixN ds.length j with
          | none => rw [q2] at t; exact t.no.elim
          | some n =>
            rw [q2] at t
            unfold Rep at r1
            obtain ⟨a, rfl, ha⟩ := r1
            obtain ⟨vs, h1, h2, h3⟩ := so.at' k a _ ha q
            exact set_list pins s st H _ i v ov iv u Q I ro ri rv ⟨a, vs, j, n, rfl, r2, h1, by rw [h2.len]; exact q2, t.retX (.mut (List.mem_of_getElem? ha) _) (so.put ha (h2.setAt n r3) (by rw [List.length_set]; exact h3))⟩
    | _ => exact t.no.elim
  | _ => exact t.no.elim
def rngD (lo : Int) (n : Nat) : List D := (List.range n).map fun k : Nat => .int (lo + k)
theorem itok_rng {lo : Int} {n : Nat} (hn : n ≤ sizeLine) : ItOk K (Itr lo n) th mu H (rngD lo n) none where
  sz := by unfold rngD; simpa using hn
  go := fun th' mu' H' e s go i d ed => by
    unfold rngD at ed
    rw [List.getElem?_map] at ed
    cases q : (List.range n)[i]? with
    | none => rw [q] at ed; cases ed
    | some k =>
      rw [q] at ed
      have hd : D.int (lo + k) = d := by simpa using ed
      obtain ⟨hi, hk⟩ := List.getElem?_eq_some_iff.mp q
      rw [List.length_range] at hi
      rw [List.getElem_range] at hk
      subst hk hd
      refine ⟨hi, fun v H2 y => ?_⟩
      obtain ⟨rfl, rfl⟩ := y
      exact ⟨.refl _ _, s, by unfold Rep; rfl⟩
  stop := fun th' mu' H' e s go => by show n ≤ (rngD lo n).length; unfold rngD; simp
def iRg (a : Exs) : Ix := fun ro mu => bM (a ro mu) fun ds m1 => match int1 ds with
  | some j => if -(2 ^ 62) ≤ j ∧ j ≤ (sizeLine : Int) then some ((rngD 0 j.toNat, none), m1) else none
  | none => none
theorem svi_range {tg a : Expr} {m : Exs} {p pos : Pos} (hm : X.mg "range" = none) (ha : SVA X [a] m) (hg : Gl X "range" := by rfl) (hs : starEach [a] X.env = [(false, eval a X.env)] := by rfl) : SVI X tg (.Call (.Name "range" p) [a] [] pos) (iRg m) :=
  ⟨PI.weak (pi_range1 hg hm ha.1 hs) fun st H R h => by
    obtain ⟨th, mu, ro, so, en, t⟩ := h
    refine ⟨th, mu, ro, so, en, t.bind.mono fun ds th1 mu1 H1 e1 s1 t1 vs rvs => ?_⟩
    cases q : int1 ds with
    | none => rw [q] at t1; exact t1.no.elim
    | some j =>
      rw [q] at t1
      dsimp only at t1
      by_cases c : -(2 ^ 62) ≤ j ∧ j ≤ (sizeLine : Int)
      · rw [if_pos c] at t1
        rw [int1_inv q] at rvs
        obtain ⟨x, rfl, rx⟩ := one_arg rvs
        refine ⟨j, by rw [show x = _ from rx], c.1, ?_, t1.ret s1 _ (itok_rng (by omega))⟩
        have := c.2
        rw [sizeLine_eq] at this
        omega
      · rw [if_neg c] at t1; exact t1.no.elim⟩
def lst2 (ds : List D) : Option (List D × List D) := match ds with
  | [.lst xs, .lst ys] => some (xs, ys)
  | _ => none
theorem lst2_inv {ds : List D} {p : List D × List D} (h : lst2 ds = some p) : ds = [.lst p.1, .lst p.2] := by
  unfold lst2 at h
  split at h
  · cases h; rfl
  · cases h
def zipD (xs ys : List D) : List D := (xs.zip ys).map fun p => .tup [p.1, p.2]
def iZp (a : Exs) : Ix := fun ro mu => bM (a ro mu) fun ds m1 => (lst2 ds).map fun p => ((zipD p.1 p.2, none), m1)
theorem svi_zip {a b : Expr} {m : Exs} {p pos : Pos} {elts : List Expr} {k : Nat} {tp : Pos} (hm : X.mg "zip" = none) (ha : SVA X [a, b] m) (hg : Gl X "zip" := by rfl) (hs : starEach [a, b] X.env = [(false, eval a X.env), (false, eval b X.env)] := by rfl) (hs2 : starEach [b] X.env = [(false, eval b X.env)] := by rfl) :
    SVI X (.Tuple elts k tp) (.Call (.Name "zip" p) [a, b] [] pos) (iZp m) := ⟨PI.weak (pi_zip hg hm PyProof.Rows.boot_zip ha.1 hs hs2) fun st H R h => by
  obtain ⟨th, mu, ro, so, en, t⟩ := h
  refine ⟨th, mu, ro, so, en, t.bind.mono fun ds th1 mu1 H1 e1 s1 t1 vs rvs => ?_⟩
  cases q : lst2 ds with
  | none => rw [q] at t1; exact t1.no.elim
  | some pr =>
    rw [q] at t1
    rw [lst2_inv q] at rvs
    obtain ⟨xs, ys⟩ := pr
    obtain ⟨x, y, rfl, rx, ry⟩ := two_arg rvs
    unfold Rep at rx ry
    obtain ⟨a1, us, rfl, h1, l1, z1⟩ := rx
    obtain ⟨a2, ws, rfl, h2, l2, z2⟩ := ry
    refine ⟨a1, a2, rfl, ⟨us, h1.sq⟩, ⟨ws, h2.sq⟩, t1.ret s1 _ ⟨?_, fun th' mu' H' e s' go i d ed => ?_, fun th' mu' H' e s' go => ?_⟩⟩
    · show (zipD xs ys).length ≤ sizeLine
      unfold zipD
      rw [List.length_map, List.length_zip]
      exact Nat.le_trans (Nat.min_le_left _ _) z1
    · have g1 := (e.fz h1).sq
      have g2 := (e.fz h2).sq
      have ed' : (zipD xs ys)[i]? = some d := ed
      unfold zipD at ed'
      rw [List.getElem?_map] at ed'
      cases q3 : (xs.zip ys)[i]? with
      | none => rw [q3] at ed'; cases ed'
      | some pq =>
        rw [q3] at ed'
        have hd : D.tup [pq.1, pq.2] = d := by simpa using ed'
        subst hd
        obtain ⟨hx, hy⟩ := List.getElem?_zip_eq_some.mp q3
        obtain ⟨v1, ev1, rv1⟩ := (l1.ext e s1.out).get hx
        obtain ⟨v2, ev2, rv2⟩ := (l2.ext e s1.out).get hy
        refine ⟨⟨us, ws, v1, v2, g1, g2, ev1, ev2⟩, fun v H2 y => ?_⟩
        obtain ⟨T, x', y', rfl, hT, rfl, f1, f2⟩ := y
        have ex := f1 us g1
        have ey := f2 ws g2
        rw [ev1] at ex
        rw [ev2] at ey
        cases ex
        cases ey
        exact ⟨.new hT _, s'.new hT _, Rep.newTup s' hT (.cons rv1 (.cons rv2 .nil)) (by show 2 ≤ sizeLine; decide)⟩
    · have g1 := (e.fz h1).sq
      have g2 := (e.fz h2).sq
      refine ⟨us, ws, g1, g2, ?_⟩
      show us.length ≤ (zipD xs ys).length ∨ ws.length ≤ (zipD xs ys).length
      unfold zipD
      rw [List.length_map, List.length_zip, l1.len, l2.len]
      dsimp only
      omega⟩
theorem cps_inj {a b : Str} (h : a.cps.toList = b.cps.toList) : a = b := by
  obtain ⟨x⟩ := a
  obtain ⟨y⟩ := b
  have : x = y := Array.toList_inj.mp h
  rw [this]
end
end PV
namespace PV
open PySem L2 PySem.Spec PyProof.Rows
def LtAt (A : Around) (s : Shared) (y x : Value) (b : Bool) : Prop :=
  ∀ (prog : Program) (w : World) (E : Value → Shared → Prop) (Q : Value → Shared → Prop), Q (.bool b) s → wpAny (model prog w) A (richCompare .Lt y x) Q E s
def LexAt (A : Around) (s : Shared) : List Value → List Value → Bool → Prop
  | [], [], b => b = false
  | [], _ :: _, b => b = true
  | _ :: _, [], b => b = false
  | y :: vs, x :: ws, b => ∃ e, SeqAt.EqAt A s y x e ∧ if e = true then LexAt A s vs ws b else LtAt A s y x b
section
open PySem.SeqAt
open PySem.AutoSeq1 (wpAny_loadPart')
open PySem.MeetsSeq PySem.MeetsSeq2 PySem.MeetsSeq3
theorem tuple_lt_lex (l b : Addr) (items items2 : Array Value) (n n2 : Nat) (dd dd2 : Option Addr) (sl sl2 : Array (Option Value)) (r : Bool) :
    Meets (Builtin.«tuple.__lt__» ⟨[.ref l, .ref b], []⟩) (fun A R s => s.heap.get? l = some { cls := .type "tuple", dict := dd, data := .seq items n, slots := sl } ∧ s.heap.get? b = some { cls := .type "tuple", dict := dd2, data := .seq items2 n2, slots := sl2 } ∧
        LexAt A.in1 s items.toList items2.toList r ∧ R (.ok (.ret (.bool r))) s) :=
  .of_wp fun prog w A R s h => by
    obtain ⟨hp, g, d, tk, os⟩ := s; obtain ⟨hl, hb, hx, h⟩ := h
    have f2 := AutoSeq1.sub_tuple_tuple
    wp_walk using wpAny_loadPart' hl, wpAny_loadPart' hb, wpAny_forIn_list _ (fun rest b s' => b.1 = none ∧ s' = ⟨hp, g, d, tk, os⟩ ∧ ∃ (vs ws : List Value), rest = vs.zip ws ∧
      LexAt A.in1 ⟨hp, g, d, tk, os⟩ vs ws r ∧ vs.length + items2.size = ws.length + items.size) _
    case turn =>
      rintro ⟨y, x⟩ rest b s' ⟨hb', rfl, vs, ws, hz, hlx, hlen⟩
      cases vs with
      | nil => rw [List.zip_nil_left] at hz; cases hz
      | cons a vs' =>
        cases ws with
        | nil => rw [List.zip_nil_right] at hz; cases hz
        | cons c ws' =>
          rw [List.zip_cons_cons] at hz
          injection hz with hyx hrest
          injection hyx with hy hx
          subst hy hx
          simp only [List.length_cons] at hlen
          obtain ⟨e, he, hiff⟩ := hlx
          refine wpAny_bind (he prog w _ _ ?_)
          cases e with
          | true =>
            rw [if_pos rfl] at hiff
            wp_walk
            exact ⟨rfl, rfl, _, _, hrest, hiff, by omega⟩
          | false =>
            rw [if_neg Bool.false_ne_true] at hiff
            have hri := hiff prog w
            wp_walk using hri
            (exact ⟨_, rfl, by simpa using h⟩)
    case fin =>
      rintro ⟨b1, b2⟩ s' ⟨hb', rfl, vs, ws, hz, hlx, hlen⟩
      simp only at hb'
      subst hb'
      have hv : r = decide (items.size < items2.size) := by
        cases vs with
        | nil =>
          cases ws with
          | nil =>
            simp only [List.length_nil] at hlen
            rw [show r = false from hlx]
            exact (decide_eq_false (by omega)).symm
          | cons c ws' =>
            simp only [List.length_nil, List.length_cons] at hlen
            rw [show r = true from hlx]
            exact (decide_eq_true (by omega)).symm
        | cons a vs' =>
          cases ws with
          | nil =>
            simp only [List.length_nil, List.length_cons] at hlen
            rw [show r = false from hlx]
            exact (decide_eq_false (by omega)).symm
          | cons c ws' =>
            rw [List.zip_cons_cons] at hz
            cases hz
      rw [hv] at h
      wp_walk
      exact ⟨_, rfl, by simpa [Builtin.Tuple.tupleCompareSizes] using h⟩
    case h =>
      exact ⟨rfl, rfl, items.toList, items2.toList, rfl, hx, by simp; omega⟩
end
theorem LtAt.tuples {A : Around} {s : Shared} {l b : Addr} {items items2 : Array Value} {r : Bool} (hl : IsTup s.heap l items) (hb : IsTup s.heap b items2) (hu : A.units < cLine) (hx : LexAt A.in1 s items.toList items2.toList r) : LtAt A s (.ref l) (.ref b) r := fun prog w E Q h => by
  obtain ⟨⟨cls, dd, data, sl⟩, ho, hc, n, hd⟩ := id hl
  obtain ⟨⟨cls2, dd2, data2, sl2⟩, ho2, hc2, n2, hd2⟩ := id hb
  simp only at hc hd hc2 hd2
  subst hc hd hc2 hd2
  exact richCompare_meets_room (op := .Lt) ⟨_, ho, rfl⟩ ⟨_, ho2, rfl⟩ PySem.F.slot_tuple_lt PySem.F.entry_tuple_lt (PySem.F.args_tuple_lt_2 _ _) (tuple_lt_lex l b items items2 n n2 dd dd2 sl sl2 r)
    ⟨ho, ho2, hx, show Value.bool r ≠ Value.notImplemented ∧ Q (.bool r) s from ⟨(fun x => nomatch x), h⟩⟩ hu
mutual
def ltB : D → D → Option Bool
  | .int i, .int j => some (decide (i < j))
  | .str i, .str j => some (decide (i.cps.toList < j.cps.toList))
  | .tup xs, .tup ys => lexB xs ys
  | _, _ => none
def lexB : List D → List D → Option Bool
  | [], [] => some false
  | [], _ :: _ => some true
  | _ :: _, [] => some false
  | x :: xs, y :: ys => if pureD x && pureD y then (if PyData.eqv (toPy x) (toPy y) then lexB xs ys else ltB x y) else none
end
section
variable {X : Cx} {K : Zc} {th : List Addr} {mu : Sto} {H : Hp}
mutual
theorem ltB_at {pins : List (Addr × Obj)} {st : L2.St} {s : Shared} (I : L2.Inv X pins st H s) : ∀ (d e : D) (b : Bool) (v u : V) (vv uu : Value) (A : Around), ltB d e = some b → Rep X.z th H d v → Rep X.z th H e u → RelV v vv → RelV u uu → A.units + (toPy d).depth + 1 < cLine → LtAt A s vv uu b
  | .int i, e, b, v, u, vv, uu, A, h, r1, r2, q1, q2, hu => by
    cases e with
    | int j =>
      unfold ltB at h
      cases h
      cases (show _ = _ from r1)
      cases (show _ = _ from r2)
      obtain ⟨t1, rfl⟩ := q1
      obtain ⟨t2, rfl⟩ := q2
      exact fun prog w E Q hq => (PyProof.Rows.lt_int hq : wpAny (model prog w) A (compareOp .Lt (.int i t1) (.int j t2)) Q E s)
    | _ => unfold ltB at h; cases h
  | .str i, e, b, v, u, vv, uu, A, h, r1, r2, q1, q2, hu => by
    cases e with
    | str j =>
      unfold ltB at h
      cases h
      obtain ⟨rfl, _⟩ := (show _ ∧ _ from r1)
      obtain ⟨rfl, _⟩ := (show _ ∧ _ from r2)
      obtain ⟨t1, rfl⟩ := q1
      obtain ⟨t2, rfl⟩ := q2
      exact fun prog w E Q hq => (PyProof.Rows.lt_str hq : wpAny (model prog w) A (compareOp .Lt (.str i t1) (.str j t2)) Q E s)
    | _ => unfold ltB at h; cases h
  | .tup xs, e, b, v, u, vv, uu, A, h, r1, r2, q1, q2, hu => by
    cases e with
    | tup ys =>
      unfold ltB at h
      unfold Rep at r1 r2
      obtain ⟨a, vs, rfl, h1, l1, _⟩ := r1
      obtain ⟨c, us, rfl, h2, l2, _⟩ := r2
      cases q1
      cases q2
      obtain ⟨its, rv, p1, _⟩ := I.tuple h1
      obtain ⟨its2, rv2, p2, _⟩ := I.tuple h2
      have hd : (toPy (.tup xs)).depth = PyData.depthAll (toPys xs) + 1 := by unfold toPy PyData.depth; rfl
      rw [hd] at hu
      refine LtAt.tuples p1 p2 (by omega) ?_
      have := lexB_at I xs ys b vs us its its2 A.in1 h l1 l2 rv rv2 (by show A.units + 1 + PyData.depthAll (toPys xs) + 1 < cLine; omega)
      simpa using this
    | _ => unfold ltB at h; cases h
  | .non, e, b, _, _, _, _, _, h, _, _, _, _, _ => by cases e <;> (unfold ltB at h; cases h)
  | .bl _, e, b, _, _, _, _, _, h, _, _, _, _, _ => by cases e <;> (unfold ltB at h; cases h)
  | .lst _, e, b, _, _, _, _, _, h, _, _, _, _, _ => by cases e <;> (unfold ltB at h; cases h)
  | .dct _ _, e, b, _, _, _, _, _, h, _, _, _, _, _ => by cases e <;> (unfold ltB at h; cases h)
  | .set _, e, b, _, _, _, _, _, h, _, _, _, _, _ => by cases e <;> (unfold ltB at h; cases h)
  | .ref _, e, b, _, _, _, _, _, h, _, _, _, _, _ => by cases e <;> (unfold ltB at h; cases h)
theorem lexB_at {pins : List (Addr × Obj)} {st : L2.St} {s : Shared} (I : L2.Inv X pins st H s) : ∀ (xs ys : List D) (b : Bool) (vs us : List V) (vvs uus : List Value) (A : Around), lexB xs ys = some b → RepL X.z th H xs vs → RepL X.z th H ys us → Vals vs vvs → Vals us uus → A.units + PyData.depthAll (toPys xs) + 1 < cLine → LexAt A s vvs uus b
  | [], [], b, _, _, _, _, A, h, r1, r2, q1, q2, hu => by
    cases r1.inv0; cases r2.inv0; cases q1; cases q2
    unfold lexB at h
    cases h
    rfl
  | [], y :: ys, b, _, _, _, _, A, h, r1, r2, q1, q2, hu => by
    cases r1.inv0
    obtain ⟨v, r, rfl, _, _⟩ := r2.inv
    cases q1
    cases q2
    unfold lexB at h
    cases h
    rfl
  | x :: xs, [], b, _, _, _, _, A, h, r1, r2, q1, q2, hu => by
    cases r2.inv0
    obtain ⟨v, r, rfl, _, _⟩ := r1.inv
    cases q1
    cases q2
    unfold lexB at h
    cases h
    rfl
  | x :: xs, y :: ys, b, _, _, _, _, A, h, r1, r2, q1, q2, hu => by
    obtain ⟨v, r, rfl, a1, a2⟩ := r1.inv
    obtain ⟨u, r', rfl, b1, b2⟩ := r2.inv
    cases q1 with
    | cons g1 g2 =>
      cases q2 with
      | cons k1 k2 =>
        unfold lexB at h
        have hd : PyData.depthAll (toPys (x :: xs)) = max (toPy x).depth (PyData.depthAll (toPys xs)) := by rw [toPys, PyData.depthAll]
        rw [hd] at hu
        by_cases c : (pureD x && pureD y) = true
        · rw [if_pos c] at h
          rw [Bool.and_eq_true] at c
          obtain ⟨as, w1, w2⟩ := reads_of I x v _ c.1 a1 g1
          obtain ⟨bs, w3, w4⟩ := reads_of I y u _ c.2 b1 k1
          refine ⟨_, SeqAt.eqAt_reads _ _ A s _ _ as bs w1 w3 w2 w4 (by omega), ?_⟩
          cases e : PyData.eqv (toPy x) (toPy y) with
          | true => rw [e] at h; rw [if_pos rfl] at h ⊢; exact lexB_at I xs ys b _ _ _ _ A h a2 b2 g2 k2 (by omega)
          | false => rw [e] at h; rw [if_neg Bool.false_ne_true] at h ⊢; exact ltB_at I x y b _ _ _ _ A h a1 b1 g1 k1 (by omega)
        · rw [if_neg c] at h; cases h
end
def ltG (d e : D) (mu : Sto) : Rs D := if (toPy d).depth ≤ 60 then (ltB d e).map fun b => (.bl b, mu) else none
theorem op_ltG (hu : X.A.units + 64 < cLine) : OpV X (compareOp .Lt) ltG := by
  intro pins s st H x y v u Q I rx ry h
  obtain ⟨th, mu, d, e, so, r1, r2, t⟩ := h
  unfold ltG at t
  by_cases c : (toPy d).depth ≤ 60
  · rw [if_pos c] at t
    cases e1 : ltB d e with
    | none => rw [e1] at t; exact t.no.elim
    | some b =>
      rw [e1] at t
      exact ltB_at I d e b x y v u X.A e1 r1 r2 rx ry (by omega) _ _ _ _ ⟨.bl b, H, I, rfl, t.ret so _ rfl⟩
  · rw [if_neg c] at t; exact t.no.elim
end
end PV
namespace PV
open PySem L2 PySem.Spec PyProof.Rows
section
variable {X : Cx} {K : Zc} {th : List Addr} {mu : Sto} {H : Hp}
theorem big_of {pins : List (Addr × Obj)} {st : L2.St} {s : Shared} (I : L2.Inv X pins st H s) : sysModules < s.heap.objs.size := by
  obtain ⟨o, _, _, ho, _⟩ := I.mod.glob
  exact Nat.lt_of_lt_of_le (show sysModules < mainGlobals + 1 by decide) (Heap.lt_size (I.bk _ _ ho))
theorem dic_ok {P : Program} {w : World} {H : Hp} {h : Heap} {a : Addr} {xs : List (Int × V × V)} (x : dicP a xs h) : ObjOk P w H h a (DicO a xs) := by
  refine ⟨x, ?_, fun h1 h2 ⟨z, o, es, ep, ho, r⟩ k => ⟨z, o, es, ep, k o ho, r⟩⟩
  obtain ⟨_, o, es, ep, ho, r⟩ := x
  exact ⟨o, ho⟩
def eDctM : Ex := fun _ mu => some (.ref mu.length, mu ++ [.dct [] []])
theorem dic_new {pins : List (Addr × Obj)} {st : L2.St} {s : Shared} (I : L2.Inv X pins st H s) : dicP s.heap.objs.size [] (s.heap.push { cls := .type "dict", data := .dict #[] }) :=
  ⟨beq_eq_false_iff_ne.mpr (Ne.symm (Nat.ne_of_lt (big_of I))), _, #[], 0, Heap.get?_push_size _ rfl, ⟨rfl, rfl, rfl⟩, rfl, .nil⟩
theorem sv_dctM {pos : Pos} : SV X (.Dict [] [] pos) eDctM := ⟨fun pins s st H Q I h => by
  obtain ⟨th, mu, ro, so, en, t⟩ := h
  have hp : H s.heap.objs.size = none := I.hok.fresh (Nat.le_refl _)
  refine wpAny_Dict_empty ⟨.ref s.heap.objs.size, _, I.laid (a := s.heap.objs.size) (o := DicO s.heap.objs.size []) (t' := s.toks) (fun _ _ q => Heap.get?_push_of_some _ q) (Nat.le_refl _) (dic_ok (dic_new I)), rfl, t.retX (.newM hp _) (so.newD hp) _ ?_⟩
  unfold Rep
  exact ⟨_, rfl, by rw [← so.len]; simp⟩⟩
def tBMT (K : PySem.W.Frag) (r : V → List V → Hp → VK → Prop) (to : TE) (t : TA) : TE := fun st H Q => to st H fun x H1 => (∃ a xs, x = .ref a ∧ SqT K H1 a xs) ∧ t st H1 fun xs H2 => r x xs H2 Q
theorem pe_bmT {o e : Expr} {es : List Expr} {to : TE} {t : TA} {name : Str} {apos cpos : Pos} {id : String} {r : V → List V → Hp → VK → Prop} (pa : PlainAttrs "tuple") (slot : Slot "tuple" name id) (hty : typeOf (.builtin id) = pure (.type "method_descriptor")) (hm : MtR X id r) (ho : PE X o to) (ha : PA X (e :: es) t)
    (hbase : attributeBase o name X.env (eval o X.env) = eval o X.env)
    (hfew : ((backTo cpos (starEach (e :: es) X.env)).all (fun x => !x.1) && (backToKw cpos (keywordEach [] X.env)).all (fun x => x.1.isSome)
      && decide ((e :: es).length + ([] : List Keyword).length + (if ([] : List Keyword).isEmpty then 0 else 1) < 30)) = true)
    (hline : (apos.endLine == cpos.line) = true) (hs : starEach (e :: es) X.env = (false, eval e X.env) :: starEach es X.env) (hplain : (backTo cpos (starEach es X.env)).any (·.1) = false) :
    PE X (.Call (.Attribute o name apos) (e :: es) [] cpos) (tBMT X.K r to t) := by
  intro pins s st H Q I h
  refine wpAny_Call_method_late hbase hfew hline rfl (thn (ho pins s st H _ I h) fun v s1 ⟨x, H1, I1, r1, ty, q1⟩ => ?_)
  obtain ⟨a, xs, rfl, hq⟩ := ty
  cases r1
  obtain ⟨ob, g1, g2, g3⟩ := I1.tupleD hq
  refine ⟨"tuple", id, pa, slot, hty, ⟨ob, g1, g3⟩, fun b e => by cases e; exact ⟨ob, g1, g2⟩, ?_⟩
  have hA := ha cpos pins s1 st H1 _ I1 q1
  rw [hs] at hA ⊢
  refine Calls.callWith_builtin (by show (false || (backTo cpos (starEach es X.env)).any (·.1)) = false; rw [hplain] <;> rfl) (Calls.evalArgs_plain ?_)
  exact thn hA fun us s2 ⟨vs, H2, I2, r2, q2⟩ => hm pins s2 st H2 (.ref a) vs (.ref a) us Q I2 rfl r2 q2
end
end PV
namespace PV
open PySem L2 PySem.Spec PyProof.Rows
noncomputable def dGet (k : D) : List D → List D → Option D
  | k' :: ks, d :: ds => if k' = k then some d else dGet k ks ds
  | _, _ => none
noncomputable def dRep (k v : D) : List D → List D → List D
  | k' :: ks, d :: ds => (if k' = k then v else d) :: dRep k v ks ds
  | _, ds => ds
noncomputable def dPut (k v : D) (ks ds : List D) : List D × List D := if k ∈ ks then (ks, dRep k v ks ds) else (ks ++ [k], ds ++ [v])
theorem dGet_none {k : D} : ∀ {ks ds : List D}, k ∉ ks → dGet k ks ds = none
  | [], _, _ => rfl
  | _ :: _, [], _ => rfl
  | k' :: ks, d :: ds, h => by
    (rw [List.mem_cons, not_or] at h)
    rw [dGet, if_neg (fun e => h.1 e.symm), dGet_none h.2]
theorem dGet_at {k : D} : ∀ {ks ds : List D} {j : Nat}, ks.Nodup → ks[j]? = some k → dGet k ks ds = ds[j]?
  | [], _, _, _, e => by simp at e
  | _ :: _, [], _, _, _ => by simp [dGet]
  | k' :: ks, d :: ds, 0, n, e => by simp at e; subst e; simp [dGet]
  | k' :: ks, d :: ds, j + 1, n, e => by
    rw [List.nodup_cons] at n
    simp at e
    have : k' ≠ k := fun z => n.1 (by rw [z]; exact List.mem_of_getElem? e)
    rw [dGet, if_neg this, dGet_at n.2 e]
    rfl
theorem dRep_not {k v : D} : ∀ {ks ds : List D}, k ∉ ks → dRep k v ks ds = ds
  | [], _, _ => rfl
  | _ :: _, [], _ => rfl
  | k' :: ks, d :: ds, h => by
    (rw [List.mem_cons, not_or] at h)
    rw [dRep, if_neg (fun e => h.1 e.symm), dRep_not h.2]
theorem dRep_at {k v : D} : ∀ {ks ds : List D} {j : Nat}, ks.Nodup → ks[j]? = some k → dRep k v ks ds = ds.set j v
  | [], _, _, _, e => by simp at e
  | _ :: _, [], _, _, _ => by simp [dRep]
  | k' :: ks, d :: ds, 0, n, e => by
    simp at e
    subst e
    rw [List.nodup_cons] at n
    rw [dRep, if_pos rfl, dRep_not n.1]
    rfl
  | k' :: ks, d :: ds, j + 1, n, e => by
    rw [List.nodup_cons] at n
    simp at e
    have : k' ≠ k := fun z => n.1 (by rw [z]; exact List.mem_of_getElem? e)
    rw [dRep, if_neg this, dRep_at n.2 e]
    rfl
def DcAt (K : Zc) (th : List Addr) (H : Hp) (a : Addr) (ks ds : List D) : Prop := ∃ xs, H a = some (DicO a xs) ∧ xs.map (·.1) = hashDs K.w ks ∧ RepL K th H ks (xs.map (·.2.1)) ∧ RepL K th H ds (xs.map (·.2.2)) ∧ KeysOk ks
def dctOf (mu : Sto) : D → Option (List D × List D)
  | .dct ks ds => some (ks, ds)
  | .ref k => match mu[k]? with
    | some (.dct ks ds) => some (ks, ds)
    | _ => none
  | _ => none
section
variable {X : Cx} {K : Zc} {th : List Addr} {mu : Sto} {H : Hp} {pins : List (Addr × Obj)} {st : L2.St} {s : Shared} {A : Around} {E : Value → Shared → Prop}
theorem dctOf_rep (so : StoOk K th mu H) {d : D} {p : List D × List D} {v : V} (h : dctOf mu d = some p) (r : Rep K th H d v) : ∃ a, v = .ref a ∧ DcAt K th H a p.1 p.2 := by
  unfold dctOf at h
  split at h
  · cases h; unfold Rep at r; obtain ⟨a, xs, rfl, _, h1⟩ := r; exact ⟨a, rfl, xs, h1⟩
  · split at h
    · rename_i k _ ks ds e
      cases h
      unfold Rep at r
      obtain ⟨a, rfl, ha⟩ := r
      exact ⟨a, rfl, so.at' k a _ ha e⟩
    · cases h
  · cases h
structure DcO (X : Cx) (th : List Addr) (H : Hp) (s : Shared) (a : Addr) (ks ds : List D) (xs : List (Int × V × V)) (o : Obj) (es : Array DictEntry) (ep : Nat) : Prop where
  ns : (a == sysModules) = false
  at' : s.heap.get? a = some o
  ex : o.ExactDict
  dt : o.data = .dict es ep
  pr : Paired (fun (x : Int × V × V) (e : DictEntry) => e.hash = x.1 ∧ RelV x.2.1 e.key ∧ RelV x.2.2 e.val) xs es.toList
  en : Paired (EnK X.w s.heap) ks es.toList
  xl : xs.length = ks.length
  dl : ds.length = ks.length
theorem pair_mk {α β : Type} {F : α → β → Prop} : ∀ {xs : List α} {ys : List β}, xs.length = ys.length → (∀ (j : Nat) x y, xs[j]? = some x → ys[j]? = some y → F x y) → Paired F xs ys
  | [], [], _, _ => .nil
  | [], _ :: _, h, _ => (by simp at h)
  | _ :: _, [], h, _ => (by simp at h)
  | x :: xs, y :: ys, h, f => .cons (f 0 x y rfl rfl) (pair_mk (by simpa using h) fun j a b e1 e2 => f (j + 1) a b (by simpa using e1) (by simpa using e2))
theorem dc_open (I : L2.Inv X pins st H s) {a : Addr} {ks ds : List D} (h : DcAt X.z th H a ks ds) : ∃ xs o es ep, H a = some (DicO a xs) ∧ DcO X th H s a ks ds xs o es ep := by
  obtain ⟨xs, h1, h2, h3, h4, h5⟩ := h
  obtain ⟨⟨z, o, es, ep, g1, g2, g3, g4⟩, _⟩ := (show ObjOk X.prog X.w H s.heap a (DicO a xs) from I.hok a _ h1)
  have xl : xs.length = ks.length := by have := h3.len; simpa using this
  refine ⟨xs, o, es, ep, h1, z, g1, g2, g3, g4, ?_, xl, by have := h4.len; rw [List.length_map] at this; omega⟩
  refine pair_mk (by rw [← pair_len g4, xl]) fun j k e e1 e2 => ?_
  obtain ⟨x, q1, q2, q3, q4⟩ := (pair_at g4 j).2 e e2
  have hh : (xs.map (·.1))[j]? = (hashDs X.w ks)[j]? := by rw [h2]
  rw [hashDs_map, List.getElem?_map, List.getElem?_map, q1, e1] at hh
  obtain ⟨v, v1, v2⟩ := h3.get e1
  rw [List.getElem?_map, q1] at v1
  have v1' : x.2.1 = v := by simpa using v1
  refine ⟨by rw [q2]; simpa using hh, hd_of I (h5.ok k (List.mem_of_getElem? e1)) v2 (by rw [← v1']; exact q3)⟩
theorem pair_set {α β : Type} {F : α → β → Prop} : ∀ {xs : List α} {ys : List β} (j : Nat) {x : α} {y : β}, Paired F xs ys → F x y → Paired F (xs.set j x) (ys.set j y)
  | _, _, _, _, _, .nil, _ => .nil
  | _, _, 0, _, _, .cons _ t, f => .cons f t
  | _, _, j + 1, _, _, .cons r t, f => .cons r (pair_set j t f)
theorem pair_app {α β : Type} {F : α → β → Prop} : ∀ {xs xs' : List α} {ys ys' : List β}, Paired F xs ys → Paired F xs' ys' → Paired F (xs ++ xs') (ys ++ ys')
  | _, _, _, _, .nil, t => t
  | _, _, _, _, .cons r t, t' => .cons r (pair_app t t')
theorem dc_set (I : L2.Inv X pins st H s) {a : Addr} {ks ds : List D} (h : DcAt X.z th H a ks ds) (ext : ∀ xs, Ext th H th (upd H a (DicO a xs))) (so : StoOk X.z th mu H) {k v : D} {kv vv : V} {u r : Value} (hk : hasK k = true) (rk : Rep X.z th H k kv) (ru : RelV kv u) (rv : Rep X.z th H v vv) (rr : RelV vv r) (lt : ks.length < sizeLine) (hu : A.units + 8 < cLine)
    {Q : Unit → Shared → Prop} (q : ∀ s' xs', L2.Inv X pins st (upd H a (DicO a xs')) s' → DcAt X.z th (upd H a (DicO a xs')) a (dPut k v ks ds).1 (dPut k v ks ds).2 → Q () s') : wpAny (model X.prog X.w) A (dictSet a u r) Q E s := by
  have hd := hd_of I hk rk ru
  obtain ⟨xs', h1', h2, h3, h4, h5⟩ := id h
  obtain ⟨⟨z', o, es, ep, g1, g2, g3, g4⟩, _⟩ := (show ObjOk X.prog X.w H s.heap a (DicO a xs') from I.hok a _ h1')
  obtain ⟨xs, o', es', ep', h1, g⟩ := dc_open I h
  have g1' := g.at'
  rw [g1] at g1'
  cases g1'
  have g3' := g.dt
  rw [g3] at g3'
  cases g3'
  have mu1 : Mut (H a) := by rw [h1']; exact True.intro
  unfold dictSet
  refine wpAny_holding (wpAny_bind (hd.hash hu fun tk => ?_))
  unfold dictSetHashed
  refine wpAny_holding (wpAny_bind (find_D (s := { s with toks := tk }) hu hd g1 g3 g.en h5.nd (fun z => ?_) fun j ej => ?_))
  · have hz0 : es.size ≤ sizeLine := by rw [← Array.length_toList, ← pair_len g.en]; omega
    refine wpAny_bind (wpAny_rule (wpAny_updateDictKeys (s := { s with toks := tk }) g1 g3 (hz := hz0) ?_))
    have e1 : (dPut k v ks ds).1 = ks ++ [k] := by unfold dPut; rw [if_neg z]
    have e2 : (dPut k v ks ds).2 = ds ++ [v] := by unfold dPut; rw [if_neg z]
    have so1 := Heap.get?_update_self (Obj.mapDictKeys (·.push ⟨hashD X.w k, u, r⟩)) g1 (Obj.isFreed_of_dict (Obj.data_mapDictKeys g3 _))
    refine q _ (xs' ++ [(hashD X.w k, kv, vv)]) (I.write (x := a) (e := a) (t' := tk) mu1 (.inl rfl) (fun b ob hb e => ((Heap.SameBut.update ..).2 b hb).trans e) ⟨_, so1⟩ (dic_ok ⟨z', _, _, ep + 1, so1, g2.mapDictKeys _, Obj.data_mapDictKeys g3 _, ?_⟩)) ?_
    · rw [Array.toList_push]
      exact pair_app g4 (.cons ⟨rfl, ru, rr⟩ .nil)
    · rw [e1, e2]
      have ex := ext (xs' ++ [(hashD X.w k, kv, vv)])
      refine ⟨_, upd_same, ?_, ?_, ?_, ?_⟩
      · rw [List.map_append, h2, hashDs_map, hashDs_map, List.map_append]; rfl
      · rw [List.map_append]; exact (h3.ext ex so.out).app (.cons (rk.ext ex so.out) .nil)
      · rw [List.map_append]; exact (h4.ext ex so.out).app (.cons (rv.ext ex so.out) .nil)
      · refine ⟨by rw [List.length_append]; exact lt, ?_, fun k' hk' => ?_⟩
        · refine List.nodup_append.mpr ⟨h5.nd, by simp, fun x hx y hy => ?_⟩
          rw [List.mem_singleton.mp hy]
          exact fun e => z (e ▸ hx)
        · rcases List.mem_append.mp hk' with w' | w'
          · exact h5.ok k' w'
          · rw [List.mem_singleton.mp w']; exact hk
  · have mem : k ∈ ks := List.mem_of_getElem? ej
    have e1 : (dPut k v ks ds).1 = ks := by unfold dPut; rw [if_pos mem]
    have e2 : (dPut k v ks ds).2 = ds.set j v := by unfold dPut; rw [if_pos mem]; exact dRep_at h5.nd ej
    have hj : j < xs'.length := by
      have := (List.getElem?_eq_some_iff.mp ej).1
      have l2 := h3.len
      rw [List.length_map] at l2
      omega
    have hje : j < es.size := by rw [← Array.length_toList, ← pair_len g4]; exact hj
    obtain ⟨y, y1, y2, y3, y4⟩ := (pair_at g4 j).1 xs'[j] (List.getElem?_eq_getElem hj)
    rw [Array.getElem?_toList] at y1
    have ye : es[j] = y := by rw [Array.getElem?_eq_getElem hje] at y1; exact Option.some.inj y1
    refine wpAny_bind (wpAny_rule (wpAny_bind (wpAny_updateDict (s := { s with toks := tk }) g1 g3 (wpAny_point ?_))))
    have so1 := Heap.get?_update_self (Obj.mapDict (·.modify j fun e => { e with val := r })) g1 (Obj.isFreed_of_dict (Obj.data_mapDict g3 _))
    refine q _ (xs'.set j (xs'[j].1, xs'[j].2.1, vv)) (I.write (x := a) (e := a) (t' := tk) mu1 (.inl rfl) (fun b ob hb e => ((Heap.SameBut.update ..).2 b hb).trans e) ⟨_, so1⟩ (dic_ok ⟨z', _, _, ep, so1, g2.mapDict _, Obj.data_mapDict g3 _, ?_⟩)) ?_
    · have em : (es.modify j fun e => { e with val := r }).toList = es.toList.set j { y with val := r } := by
        have yl : es.toList[j]? = some y := by rw [Array.getElem?_toList]; exact y1
        rw [Array.toList_modify]
        refine List.ext_getElem? fun i => ?_
        rw [List.getElem?_modify]
        by_cases c : j = i
        · subst c
          rw [yl, List.getElem?_set_self (by simpa using hje)]
          simp
        · rw [List.getElem?_set_ne c]
          simp [c]
      rw [em]
      exact pair_set j g4 ⟨y2, y3, rr⟩
    · rw [e1, e2]
      have ex := ext (xs'.set j (xs'[j].1, xs'[j].2.1, vv))
      refine ⟨_, upd_same, ?_, ?_, ?_, h5⟩
      · rw [← h2, List.map_set]
        refine List.ext_getElem? fun i => ?_
        by_cases c : i = j
        · subst c; simp [hj]
        · rw [List.getElem?_set_ne (Ne.symm c)]
      · have : (xs'.set j (xs'[j].1, xs'[j].2.1, vv)).map (·.2.1) = xs'.map (·.2.1) := by
          rw [List.map_set]
          refine List.ext_getElem? fun i => ?_
          by_cases c : i = j
          · subst c; simp [hj]
          · rw [List.getElem?_set_ne (Ne.symm c)]
        rw [this]
        exact h3.ext ex so.out
      · rw [List.map_set]
        exact (h4.ext ex so.out).setAt j (rv.ext ex so.out)
end
end PV
namespace PV
open PySem L2 PySem.Spec PyProof.Rows
section
variable {X : Cx} {K : Zc} {th : List Addr} {mu : Sto} {H : Hp} {pins : List (Addr × Obj)} {st : L2.St} {s : Shared} {A : Around} {E : Value → Shared → Prop}
theorem dc_hit (I : L2.Inv X pins st H s) {a : Addr} {ks ds : List D} (h : DcAt X.z th H a ks ds) {k d : D} {u : Value} (hk : Hd s.heap k u) (e : dGet k ks ds = some d) : ∃ v r, Rep X.z th H d v ∧ RelV v r ∧
    ∀ {A : Around} {E : Value → Shared → Prop} {Q : Option Value → Shared → Prop}, A.units + 8 < cLine → (∀ tk, Q (some r) { s with toks := tk }) → wpAny (model X.prog X.w) A (dictGet a u) Q E s := by
  obtain ⟨xs', h1', h2, h3, h4, h5⟩ := id h
  obtain ⟨xs, o, es, ep, h1, g⟩ := dc_open I h
  obtain ⟨⟨z', o', es', ep', g1, g2, g3, g4⟩, _⟩ := (show ObjOk X.prog X.w H s.heap a (DicO a xs') from I.hok a _ h1')
  have g1' := g.at'
  rw [g1] at g1'
  cases g1'
  have g3' := g.dt
  rw [g3] at g3'
  cases g3'
  have mem : k ∈ ks := by
    refine Classical.byContradiction fun z => ?_
    rw [dGet_none z] at e
    cases e
  obtain ⟨j, ej⟩ := List.mem_iff_getElem?.mp mem
  rw [dGet_at h5.nd ej] at e
  obtain ⟨v, v1, v2⟩ := h4.get e
  obtain ⟨en, e1, e2⟩ := (pair_at g.en j).1 k ej
  obtain ⟨x, x1, x2, x3, x4⟩ := (pair_at g4 j).2 en e1
  rw [List.getElem?_map, x1] at v1
  have v1' : x.2.2 = v := by simpa using v1
  rw [Array.getElem?_toList] at e1
  refine ⟨v, en.val, v2, v1' ▸ x4, fun hu q => ?_⟩
  unfold dictGet
  refine wpAny_holding (wpAny_bind (hk.hash hu fun tk => wpAny_bind (find_D (s := { s with toks := tk }) hu hk g1 g3 g.en h5.nd (fun z => absurd mem z) fun j' ej' => ?_)))
  cases nd_at h5.nd ej ej'
  refine wpAny_bind (wpAny_dictEntries (s := { s with toks := tk }) g1 g3 ?_)
  rw [e1]
  exact wpAny_pure (q tk)
theorem dc_ty (I : L2.Inv X pins st H s) {a : Addr} {ks ds : List D} (h : DcAt X.z th H a ks ds) : s.TypeIs (.ref a) "dict" ∧ (a == sysModules) = false ∧ ∃ o, s.heap.get? a = some o ∧ o.dict = none := by
  obtain ⟨xs, o, es, ep, h1, g⟩ := dc_open I h
  exact ⟨⟨o, g.at', g.ex.1⟩, g.ns, o, g.at', g.ex.2.1⟩
theorem dGet_mem {k : D} {ks ds : List D} (n : ks.Nodup) (l : ds.length = ks.length) : (dGet k ks ds).isSome = decide (k ∈ ks) := by
  by_cases c : k ∈ ks
  · obtain ⟨j, ej⟩ := List.mem_iff_getElem?.mp c
    rw [dGet_at n ej, decide_eq_true c]
    have := (List.getElem?_eq_some_iff.mp ej).1
    rw [List.getElem?_eq_getElem (by omega)]
    rfl
  · rw [dGet_none c, decide_eq_false c]; rfl
theorem dc_len {a : Addr} {ks ds : List D} (h : DcAt K th H a ks ds) : ds.length = ks.length ∧ KeysOk ks := by
  obtain ⟨xs, _, _, h3, h4, h5⟩ := h
  have a := h3.len
  have b := h4.len
  rw [List.length_map] at a b
  exact ⟨by omega, h5⟩
noncomputable def ixC (d e : D) (mu : Sto) : Rs D := match dctOf mu d with
  | some p => if hasK e = true then (dGet e p.1 p.2).map fun v => (v, mu) else none
  | none => none
theorem ixC_inv {d e : D} {r : D × Sto} (h : ixC d e mu = some r) : ∃ p, dctOf mu d = some p ∧ hasK e = true ∧ ∃ v, dGet e p.1 p.2 = some v ∧ r = (v, mu) := by
  unfold ixC at h
  split at h
  · rename_i p e1
    split at h
    · rename_i c
      cases q : dGet e p.1 p.2 with
      | none => rw [q] at h; cases h
      | some v => rw [q] at h; cases h; exact ⟨p, e1, c, v, q, rfl⟩
    · cases h
  · cases h
theorem ix_C (hu : X.A.units + 64 < cLine) : IxR X (r2 X.z ixC) := by
  intro value slice pins s st H x y v u Q I rx ry h hs
  obtain ⟨th, mu, d, e, so, r1, r2, t⟩ := h
  obtain ⟨a0, mu0, e0, _⟩ := id t
  obtain ⟨p, e1, hk, w', e2, er⟩ := ixC_inv e0
  rw [e0] at t
  cases er
  obtain ⟨a, rfl, dc⟩ := dctOf_rep so e1 r1
  cases rx
  obtain ⟨v', r', q1, q2, q3⟩ := dc_hit I dc (hd_of I hk r2 ry) e2
  obtain ⟨ty, _⟩ := dc_ty I dc
  refine subscriptTail_builtinR (x := r') ty slot_dict_getitem.lookup ?_ hs
  unfold getItem
  refine wpAny_holding (wpAny_bind (wpAny_sequenceKey ty (by decide) (wpAny_bind (wpAny_callSpecial?_slot (name := Str.ofString "__getitem__") ty slot_dict_getitem (wpAny_call_entry slot_dict_getitem ty entry_dict_getitem ?_ (args_dict_getitem _ _))))))
  refine (?_ : wpAny _ _ (dictGet a u >>= _) _ _ s)
  exact wpAny_bind (q3 (by rw [Around.in1_units]; omega) fun tk => wpAny_pure ⟨r', rfl, wpAny_pure ⟨rfl, v', H, I.tok _, q2, t.ret so _ q1⟩⟩)
theorem IxR.or {g g' : D → D → Sto → Rs D} (h : IxR X (r2 X.z g)) (h' : IxR X (r2 X.z g')) : IxR X (r2 X.z fun d e mu => match g d e mu with | some r => some r | none => g' d e mu) := by
  intro value slice pins s st H x y v u Q I rx ry q hs
  obtain ⟨th, mu, d, e, so, r1, r2, t⟩ := q
  dsimp only at t
  cases c : g d e mu with
  | some r => rw [c] at t; exact h value slice pins s st H x y v u Q I rx ry ⟨th, mu, d, e, so, r1, r2, by rw [c]; exact t⟩ hs
  | none => rw [c] at t; exact h' value slice pins s st H x y v u Q I rx ry ⟨th, mu, d, e, so, r1, r2, t⟩ hs
noncomputable def ixG (d e : D) (mu : Sto) : Rs D := match ixD d e mu with
  | some r => some r
  | none => ixC d e mu
theorem ix_G (hu : X.A.units + 64 < cLine) : IxR X (r2 X.z ixG) := IxR.or ix_D (ix_C hu)
noncomputable def putG (d e v : D) (mu : Sto) : Rs Unit := match d with
  | .ref k => match mu[k]? with
    | some (.dct ks ds) => if hasK e = true ∧ ks.length < sizeLine then some ((), mu.set k (.dct (dPut e v ks ds).1 (dPut e v ks ds).2)) else none
    | _ => putM d e v mu
  | _ => none
def rPutG (K : Zc) : TSet := fun o i v H Q => ∃ th mu d e w, StoOk K th mu H ∧ Rep K th H d o ∧ Rep K th H e i ∧ Rep K th H w v ∧ Tr K th H (putG d e w mu) fun _ _ _ H' => Q H'
theorem set_G (hu : X.A.units + 64 < cLine) : PSet X (rPutG X.z) := by
  intro pins s st H o i v ov iv u Q I ro ri rv h
  obtain ⟨th, mu, d, e, w, so, r1, r2, r3, t⟩ := h
  unfold putG at t
  split at t
  · rename_i k
    split at t
    · rename_i ks ds em
      split at t
      · rename_i c
        unfold Rep at r1
        obtain ⟨a, rfl, ha⟩ := r1
        have dc : DcAt X.z th H a ks ds := so.at' k a _ ha em
        obtain ⟨ty, ns, _⟩ := dc_ty I dc
        cases ro
        unfold setItem
        refine wpAny_holding (wpAny_bind (wpAny_sequenceKey ty (by decide) (wpAny_bind (wpAny_callSpecial?_slot (name := Str.ofString "__setitem__") ty slot_dict_setitem (wpAny_call_entry slot_dict_setitem ty entry_dict_setitem ?_ (args_dict_setitem _ _ _))))))
        refine (?_ : wpAny _ _ (Builtin.Dict.notOrdered "__setitem__" ⟨[.ref a, iv, u], []⟩ >>= _) _ _ s)
        refine wpAny_bind (wpAny_notOrdered_dict ty (?_ : wpAny _ _ (dictSet a iv u >>= _) _ _ s))
        refine wpAny_bind (dc_set I dc (fun xs => .mut (List.mem_of_getElem? ha) _) so c.1 r2 ri r3 rv c.2 (by rw [Around.in1_units]; omega) fun s' xs' I' dc' => wpAny_pure ⟨.none, rfl, wpAny_pure ⟨_, I', ?_⟩⟩)
        exact t.retX (.mut (List.mem_of_getElem? ha) _) (so.putG ha _ _ dc')
      · exact t.no.elim
    · exact set_D pins s st H o i v ov iv u Q I ro ri rv ⟨th, mu, .ref k, e, w, so, r1, r2, r3, t⟩
  · exact t.no.elim
noncomputable def gIx (o i : Ex) : Gx := fun v ro mu => bM (o ro mu) fun d m1 => bM (i ro m1) fun e m2 => bM (putG d e v m2) fun _ m3 => some (ro, m3)
theorem svg_ix (hu : X.A.units + 64 < cLine) {o i : Expr} {mo mi : Ex} {pos : Pos} (ho : SV X o mo) (hi : SV X i mi)
    (ha : ∀ v, assign (.Subscript o i pos) X.env v = (do
      let ov ← holding [v] (eval o X.env)
      let iv ← holding [v, ov] (eval i X.env)
      standAt pos
      holding [v, ov, iv] (setItem ov iv v)
      release [v, ov, iv] []) := by intro _; rfl) : SVG X (.Subscript o i pos) (gIx mo mi) := ⟨PG.weak (pg_sub ho.r hi.r (set_G hu) ha) fun v st H Q h => by
  obtain ⟨th, mu, ro, d, so, en, r, t⟩ := h
  refine ⟨th, mu, ro, so, en, t.bind.mono fun x th1 mu1 H1 e1 s1 t1 xv rx => ?_⟩
  refine ⟨th1, mu1, ro, s1, en.ext e1 so.out, t1.bind.mono fun y th2 mu2 H2 e2 s2 t2 yv ry => ?_⟩
  refine ⟨th2, mu2, x, y, d, s2, rx.ext e2 s1.out, ry, (r.ext e1 so.out).ext e2 s1.out, t2.bind.mono fun _ th3 mu3 H3 e3 s3 t3 => ?_⟩
  exact t3.ret s3 _ (((en.ext e1 so.out).ext e2 s1.out).ext e3 s2.out)⟩
end
end PV
namespace PV
open PySem L2 PySem.Spec PyProof.Rows
def kasRun {α : Type} (ask : Nat → Nat → Option Bool) : PySem.W.KasT α → Option α
  | .ret a => some a
  | .ask i j k => match ask i j with
    | none => none
    | some b => kasRun ask (k b)
theorem kasRun_wp {α : Type} {ask : Nat → Nat → Option Bool} {cmp : Nat → Nat → (Bool → Shared → Prop) → Shared → Prop} {s : Shared} (hc : ∀ i j b C, ask i j = some b → C b s → cmp i j C s) : ∀ (t : PySem.W.KasT α) (a : α) (Q : α → Shared → Prop), kasRun ask t = some a → Q a s → t.kasWp cmp Q s
  | .ret a, _, Q, e, q => by cases e; exact q
  | .ask i j k, a, Q, e, q => by
    unfold kasRun at e
    cases e1 : ask i j with
    | none => rw [e1] at e; cases e
    | some b =>
      rw [e1] at e
      exact hc i j b _ e1 (kasRun_wp hc (k b) a Q e q)
section
variable {X : Cx} {K : Zc} {th : List Addr} {mu : Sto} {H : Hp}
def tupS : D → Bool
  | .tup (.str x :: r) => pureL r && decide (PyData.depthAll (toPys r) ≤ 50)
  | _ => false
theorem tupS_inv {d : D} (h : tupS d = true) : ∃ x r, d = .tup (.str x :: r) ∧ pureL r = true ∧ PyData.depthAll (toPys r) ≤ 50 := by
  unfold tupS at h
  split at h
  · rename_i x r
    rw [Bool.and_eq_true, decide_eq_true_eq] at h
    exact ⟨x, r, rfl, h.1, h.2⟩
  · cases h
theorem katlex_of {pins : List (Addr × Obj)} {st : L2.St} {s : Shared} (I : L2.Inv X pins st H s) {A : Around} {fin : Bool} {Q : Bool → Shared → Prop} :
    ∀ (xs ys : List D) (b : Bool) (vs us : List V) (vvs uus : List Value) (i : Nat), lexB xs ys = some b → RepL X.z th H xs vs → RepL X.z th H ys us → Vals vs vvs → Vals us uus → A.units + PyData.depthAll (toPys xs) + 1 < cLine →
      (i = 0 → ∃ x r y r', xs = .str x :: r ∧ ys = .str y :: r') → (fin = decide (xs.length < ys.length)) → Q b s → PySem.W.KatLex X.prog X.w A true fin Q (vvs.zip uus) i s
  | [], [], b, _, _, _, _, i, h, r1, r2, q1, q2, hu, h0, hf, q => by
    cases r1.inv0; cases r2.inv0; cases q1; cases q2
    unfold lexB at h
    cases h
    exact PySem.W.kat_nil (by rw [hf]; exact q)
  | [], y :: ys, b, _, _, _, _, i, h, r1, r2, q1, q2, hu, h0, hf, q => by
    cases r1.inv0
    obtain ⟨v, r, rfl, _, _⟩ := r2.inv
    cases q1
    cases q2
    unfold lexB at h
    cases h
    exact PySem.W.kat_nil (by rw [hf, decide_eq_true (by simp)]; exact q)
  | x :: xs, [], b, _, _, _, _, i, h, r1, r2, q1, q2, hu, h0, hf, q => by
    cases r2.inv0
    obtain ⟨v, r, rfl, _, _⟩ := r1.inv
    cases q1
    cases q2
    unfold lexB at h
    cases h
    exact PySem.W.kat_nil (by rw [hf, decide_eq_false (by simp)]; exact q)
  | x :: xs, y :: ys, b, _, _, _, _, i, h, r1, r2, q1, q2, hu, h0, hf, q => by
    obtain ⟨v, r, rfl, a1, a2⟩ := r1.inv
    obtain ⟨u, r', rfl, b1, b2⟩ := r2.inv
    cases q1 with
    | cons g1 g2 =>
      cases q2 with
      | cons k1 k2 =>
        unfold lexB at h
        have hd : PyData.depthAll (toPys (x :: xs)) = max (toPy x).depth (PyData.depthAll (toPys xs)) := by rw [toPys, PyData.depthAll]
        rw [hd] at hu
        by_cases c : (pureD x && pureD y) = true
        · rw [if_pos c] at h
          rw [Bool.and_eq_true] at c
          obtain ⟨as, w1, w2⟩ := reads_of I x v _ c.1 a1 g1
          obtain ⟨bs, w3, w4⟩ := reads_of I y u _ c.2 b1 k1
          refine PySem.W.kat_cons (SeqAt.eqAt_reads _ _ A s _ _ as bs w1 w3 w2 w4 (by omega) _ _ _ _ ?_)
          cases e : PyData.eqv (toPy x) (toPy y) with
          | true =>
            rw [e, if_pos rfl] at h
            refine PySem.W.kat_yes (katlex_of I xs ys b _ _ _ _ (i + 1) h a2 b2 g2 k2 (by omega) (fun z => by omega) (by rw [hf]; simp) q)
          | false =>
            rw [e, if_neg Bool.false_ne_true] at h
            refine PySem.W.kat_no ?_
            by_cases hi : i = 0
            · subst hi
              obtain ⟨x', _, y', _, e1, e2⟩ := h0 rfl
              cases e1
              cases e2
              obtain ⟨rfl, _⟩ := (show _ ∧ _ from a1)
              obtain ⟨rfl, _⟩ := (show _ ∧ _ from b1)
              obtain ⟨t1, rfl⟩ := g1
              obtain ⟨t2, rfl⟩ := k1
              unfold ltB at h
              cases h
              exact oneLt_str q
            · rw [show (true && i == 0) = false by simp [hi]]
              exact PySem.W.kat_one _ _ (ltB_at I x y b _ _ _ _ A h a1 b1 g1 k1 (by omega) _ _ _ _ q)
        · rw [if_neg c] at h; cases h
def askD (ds : List D) (i j : Nat) : Option Bool := match ds[i]?, ds[j]? with
  | some d, some e => ltB d e
  | _, _ => none
theorem katTups_of {pins : List (Addr × Obj)} {st : L2.St} {s : Shared} (I : L2.Inv X pins st H s) : ∀ {ds : List D} {vs : List V} {us : List Value}, ds.all tupS = true → RepL X.z th H ds vs → Vals vs us → ∃ fs, PySem.W.KatTups s.heap us fs ∧ fs.length = ds.length ∧ ∀ v ∈ fs, ∃ x t, v = .str x t
  | [], _, _, _, r, q => by cases r.inv0; cases q; exact ⟨[], .nil, rfl, fun _ h => nomatch h⟩
  | d :: ds, _, _, h, r, q => by
    obtain ⟨v, r', rfl, a1, a2⟩ := r.inv
    (rw [List.all_cons, Bool.and_eq_true] at h)
    cases q with
    | cons q1 q2 =>
      obtain ⟨x, es, rfl, _, _⟩ := tupS_inv h.1
      obtain ⟨fs, f1, f2, f3⟩ := katTups_of I h.2 a2 q2
      unfold Rep at a1
      obtain ⟨a, ws, rfl, h1, l1, _⟩ := a1
      obtain ⟨w0, wr, rfl, l2, _⟩ := RepL.inv l1
      obtain ⟨rfl, _⟩ := (show _ ∧ _ from l2)
      cases q1
      obtain ⟨its, rv, ⟨o, g1, g2, n, g3⟩, _⟩ := I.tuple h1
      cases rv with
      | cons k1 k2 =>
        obtain ⟨t, rfl⟩ := k1
        exact ⟨_ :: fs, .cons g1 g2 g3 rfl f1, by simp [f2], fun z hz => (List.mem_cons.mp hz).elim (fun e => ⟨x, t, e⟩) (f3 z)⟩
theorem ask_at {pins : List (Addr × Obj)} {st : L2.St} {s : Shared} (I : L2.Inv X pins st H s) {ds : List D} {vs : List V} {us : List Value} (hd : ds.all tupS = true) (r : RepL X.z th H ds vs) (q : Vals vs us) {A : Around} (hu : A.units + 60 < cLine) :
    ∀ i j b C, askD ds i j = some b → C b s → PySem.W.kas_ask X.prog X.w A (tuples' true) us i j C s := fun i j b C e hC => by
  unfold askD at e
  cases e1 : ds[i]? with
  | none => rw [e1] at e; cases e
  | some d =>
    cases e2 : ds[j]? with
    | none => rw [e1, e2] at e; cases e
    | some d' =>
      rw [e1, e2] at e
      have m1 := List.all_eq_true.mp hd d (List.mem_of_getElem? e1)
      have m2 := List.all_eq_true.mp hd d' (List.mem_of_getElem? e2)
      obtain ⟨x, xs, rfl, _, dx⟩ := tupS_inv m1
      obtain ⟨y, ys, rfl, _, dy⟩ := tupS_inv m2
      obtain ⟨v, ev, rv⟩ := r.get e1
      obtain ⟨v', ev', rv'⟩ := r.get e2
      obtain ⟨u, eu, ru⟩ := q.get ev
      obtain ⟨u', eu', ru'⟩ := q.get ev'
      unfold PySem.W.kas_ask
      rw [show us.getD i Value.none = u by rw [List.getD_eq_getElem?_getD, eu]; rfl, show us.getD j Value.none = u' by rw [List.getD_eq_getElem?_getD, eu']; rfl]
      unfold Rep at rv rv'
      obtain ⟨a, ws, rfl, h1, l1, _⟩ := rv
      obtain ⟨a', ws', rfl, h1', l1', _⟩ := rv'
      cases ru
      cases ru'
      obtain ⟨its, rw1, ⟨o, g1, g2, n, g3⟩, _⟩ := I.tuple h1
      obtain ⟨its', rw2, ⟨o', g1', g2', n', g3'⟩, _⟩ := I.tuple h1'
      unfold ltB at e
      refine PySem.W.kat_lt g1 g3 g1' g3' ?_
      have hx : PyData.depthAll (toPys (.str x :: xs)) ≤ 50 := by
        rw [toPys, PyData.depthAll]
        show max 0 _ ≤ 50
        omega
      have := katlex_of I (A := A) (fin := decide (its.toArray.size < its'.toArray.size)) (Q := C) (.str x :: xs) (.str y :: ys) b ws ws' its its' 0 e l1 l1' rw1 rw2 (by omega) (fun _ => ⟨x, xs, y, ys, rfl, rfl⟩) (by rw [List.size_toArray, List.size_toArray, ← rw1.length, ← rw2.length, l1.len, l1'.len]) hC
      simpa using this
end
end PV
namespace PV
open PySem L2 PySem.Spec PyProof.Rows
section
variable {prog : Program} {w : World} {A : Around} {E : Value → Shared → Prop} {s : Shared}
theorem gather_seq {T : String} (hT : T = "list" ∨ T = "tuple") {l : Addr} {ob : Obj} {zs : List Value} {n : Nat} {Q : List Value → Shared → Prop} (ho : s.heap.get? l = some ob) (hc : ob.cls = .type T) (hd : ob.data = .seq zs.toArray n)
    (h : Q zs { s with heap := (s.heap.push (seqObj "list" #[] 0)).update s.heap.objs.size (Obj.mapSeq (· ++ zs.toArray)) }) (hz : zs.length ≤ sizeLine) : wpAny (model prog w) A (collect (.ref l)) Q E s := by
  unfold collect
  (refine wpAny_bind (wpAny_runValue (codeAny_builtin entry_proto_collect' ?_)))
  (show wpAny _ _ (do again (.builtin "list.__iadd__" ⟨[← newList [], .ref l], []⟩)) _ _ s)
  refine wpAny_bind (wpAny_newList (wpAny_pure (And.intro (Code.quiet_builtin _ (by decide +kernel)) (codeAny_builtin entry_list_iadd' ?_))))
  (show wpAny _ _ (Builtin.List.listExtendWith (.ref s.heap.objs.size) (.ref l) (.ref s.heap.objs.size)) _ _ { s with heap := s.heap.push (seqObj "list" #[] 0) })
  have g : (s.heap.push (seqObj "list" #[] 0)).get? l = some ob := Heap.get?_push_of_some _ ho
  (unfold Builtin.List.listExtendWith)
  refine wpAny_bind (wpAny_typeOf (T := T) ⟨ob, g, hc⟩ ?_)
  rw [if_pos (by rcases hT with rfl | rfl <;> simp)]
  refine wpAny_bind (listItems_at g hd (wpAny_bind (listItems_at (xs := #[]) (n := 0) (Heap.get?_push_size _ rfl) rfl ?_)))
  rw [if_neg (by simp)]
  refine wpAny_bind (listUpdate_at (xs := #[]) (n := 0) (Heap.get?_push_size _ rfl) rfl (wpAny_pure ?_) (Nat.zero_le _) (by
    show ((#[] : Array Value) ++ zs.toArray).size ≤ sizeLine + 1
    simp only [Array.size_append, List.size_toArray, List.length_nil]
    omega))
  show wpAny (model prog w) A (load s.heap.objs.size >>= fun o => match o.data with
      | .seq xs _ => pure xs.toList
      | _ => unsupported "internal:collect") Q E { s with heap := (s.heap.push (seqObj "list" #[] 0)).update s.heap.objs.size (Obj.mapSeq (· ++ zs.toArray)) }
  (refine wpAny_bind (wpAny_load (get?_update_seq (Heap.get?_push_size _ rfl) _) ?_))
  show wpAny _ _ (pure ((#[] : Array Value) ++ zs.toArray).toList) Q E _
  have e0 : ((#[] : Array Value) ++ zs.toArray).toList = zs := by simp
  rw [e0]
  exact wpAny_pure h
theorem sort_by {a : Addr} {zs : List Value} {n : Nat} {P : PySem.Fin → Shared → Prop} {kd : SortKind} (p : Array Nat) (hp : p.size = zs.length) (ho : s.heap.get? a = some (seqObj "list" zs.toArray n)) (h2 : 2 ≤ zs.length) (h64 : zs.length < 64)
    (hk : ∀ (Q : SortKind → Shared → Prop) (E' : Value → Shared → Prop), Q kd { s with heap := ((s.heap.update a (Obj.mapSeq fun _ => #[])).push (seqObj "tuple" zs.toArray 0)).push (seqObj "list" #[] 0) } → wpAny (model prog w) A (keyKind' zs.toArray) Q E' { s with heap := ((s.heap.update a (Obj.mapSeq fun _ => #[])).push (seqObj "tuple" zs.toArray 0)).push (seqObj "list" #[] 0) })
    (hr : ∀ G : Array Nat → Shared → Prop, G p { s with heap := ((s.heap.update a (Obj.mapSeq fun _ => #[])).push (seqObj "tuple" zs.toArray 0)).push (seqObj "list" #[] 0) } → (PySem.W.kas_sort zs.length).kasWp (PySem.W.kas_ask prog w A kd zs) G { s with heap := ((s.heap.update a (Obj.mapSeq fun _ => #[])).push (seqObj "tuple" zs.toArray 0)).push (seqObj "list" #[] 0) })
    (h : P (.done (.ret .none)) { s with heap := sortedHeap s.heap a zs (p.toList.map fun i => zs.getD i Value.none).toArray }) : wpAny (model prog w) A (Builtin.«list.sort» ⟨[.ref a], []⟩) P E s := by
  have la : a < s.heap.objs.size := Heap.lt_size ho
  rw [list_sort_plain]
  refine wpAny_bind (listItems_at ho rfl (wpAny_bind (listUpdate_at ho rfl ?_ (by rw [List.size_toArray, sizeLine_eq]; omega) (Nat.zero_le _))))
  obtain ⟨n1, ho1⟩ : ∃ n1, (s.heap.update a (Obj.mapSeq fun _ => #[])).get? a = some (seqObj "list" #[] n1) := ⟨_, get?_update_seq ho fun _ => #[]⟩
  refine wpAny_bind (seqEpoch_at ho1 rfl (wpAny_bind (wpAny_newTuple (wpAny_bind (wpAny_newList (wpAny_holding ?_) (Nat.zero_le _))) (by show zs.length ≤ _; rw [sizeLine_eq]; omega))))
  have ho2 : (((s.heap.update a (Obj.mapSeq fun _ => #[])).push (seqObj "tuple" zs.toArray 0)).push (seqObj "list" #[] 0)).get? a = some (seqObj "list" #[] n1) := Heap.get?_push_of_some _ (Heap.get?_push_of_some _ ho1)
  show wpAny (model prog w) A _ P E { s with heap := ((s.heap.update a (Obj.mapSeq fun _ => #[])).push (seqObj "tuple" zs.toArray 0)).push (seqObj "list" #[] 0) }
  dsimp only
  have n2 : ¬ zs.toArray.size < 2 := by rw [List.size_toArray]; omega
  rw [if_neg n2, if_neg n2]
  refine wpAny_bind (hk _ _ ?_)
  refine wpAny_bind (wpAny_mono (PySem.W.kat_run (E := E) (Q := fun st' s' => arrOf st' = p.map (PySem.W.kas_item (zs.toArray.zip zs.toArray)) ∧ failedOf st' = none ∧ s' = { s with heap := ((s.heap.update a (Obj.mapSeq fun _ => #[])).push (seqObj "tuple" zs.toArray 0)).push (seqObj "list" #[] 0) }) rfl h2 h64
    (G := fun p' s' => p' = p ∧ s' = { s with heap := ((s.heap.update a (Obj.mapSeq fun _ => #[])).push (seqObj "tuple" zs.toArray 0)).push (seqObj "list" #[] 0) }) (fun p' st' s' _ a2 a3 a4 => ⟨by rw [← a4.1]; exact a2, a3, a4.2⟩) (hr _ ⟨rfl, rfl⟩)) ?_ fun _ _ e => e)
  rintro ⟨⟨⟩, st'⟩ s' ⟨ha, hf, rfl⟩
  dsimp only
  rw [PySem.W.kat_snds rfl ha]
  refine wpAny_bind (seqEpoch_at ho2 rfl (wpAny_bind (listUpdate_at ho2 rfl ?_ (Nat.zero_le _) (by
    show (List.toArray (p.toList.map fun i => zs.getD i Value.none)).size ≤ sizeLine + 1
    rw [List.size_toArray, List.length_map, Array.length_toList, hp, sizeLine_eq]
    omega))))
  rw [hf]
  (simp only [bne_self_eq_false, Bool.false_eq_true, if_false])
  exact wpAny_pure h
theorem sort_few {a : Addr} {zs : List Value} {n : Nat} {P : PySem.Fin → Shared → Prop} (ho : s.heap.get? a = some (seqObj "list" zs.toArray n)) (h2 : zs.length < 2)
    (h : P (.done (.ret .none)) { s with heap := sortedHeap s.heap a zs zs.toArray }) : wpAny (model prog w) A (Builtin.«list.sort» ⟨[.ref a], []⟩) P E s := by
  rw [list_sort_plain]
  refine wpAny_bind (listItems_at ho rfl (wpAny_bind (listUpdate_at ho rfl ?_ (by rw [List.size_toArray, sizeLine_eq]; omega) (Nat.zero_le _))))
  obtain ⟨n1, ho1⟩ : ∃ n1, (s.heap.update a (Obj.mapSeq fun _ => #[])).get? a = some (seqObj "list" #[] n1) := ⟨_, get?_update_seq ho fun _ => #[]⟩
  refine wpAny_bind (seqEpoch_at ho1 rfl (wpAny_bind (wpAny_newTuple (wpAny_bind (wpAny_newList (wpAny_holding ?_) (Nat.zero_le _))) (by show zs.length ≤ _; rw [sizeLine_eq]; omega))))
  have ho2 : (((s.heap.update a (Obj.mapSeq fun _ => #[])).push (seqObj "tuple" zs.toArray 0)).push (seqObj "list" #[] 0)).get? a = some (seqObj "list" #[] n1) := Heap.get?_push_of_some _ (Heap.get?_push_of_some _ ho1)
  show wpAny (model prog w) A _ P E { s with heap := ((s.heap.update a (Obj.mapSeq fun _ => #[])).push (seqObj "tuple" zs.toArray 0)).push (seqObj "list" #[] 0) }
  dsimp only
  have n2 : zs.toArray.size < 2 := by rw [List.size_toArray]; exact h2
  rw [if_pos n2, if_pos n2]
  refine wpAny_bind (wpAny_pure ?_)
  rw [StateT.run_pure]
  refine wpAny_bind (wpAny_pure ?_)
  dsimp only
  have e0 : (arrOf (SortSt.mk' general' (zs.toArray.zip zs.toArray) #[] 7 none)).map (·.2) = zs.toArray := by
    show (zs.toArray.zip zs.toArray).map (·.2) = zs.toArray
    rw [show zs.toArray.zip zs.toArray = (zs.zip zs).toArray by simp, List.map_toArray, List.map_snd_zip (Nat.le_refl _)]
  rw [e0]
  refine wpAny_bind (seqEpoch_at ho2 rfl (wpAny_bind (listUpdate_at ho2 rfl ?_ (Nat.zero_le _) (by
    show zs.toArray.size ≤ sizeLine + 1
    rw [List.size_toArray, sizeLine_eq]
    omega))))
  (simp only [bne_self_eq_false, Bool.false_eq_true, if_false])
  exact wpAny_pure h
end
end PV
namespace PV
open PySem PyProof.Rows
theorem kasRun_bind {α β : Type} (ask : Nat → Nat → Option Bool) : ∀ (t : PySem.W.KasT α) (f : α → PySem.W.KasT β), kasRun ask (t.bind f) = (kasRun ask t).bind fun a => kasRun ask (f a)
  | .ret a, f => rfl
  | .ask i j k, f => by
    have ih := fun b => kasRun_bind ask (k b) f
    simp only [PySem.W.KasT.bind, kasRun]
    cases ask i j with
    | none => rfl
    | some b => exact ih b
structure Pre (n : Nat) (ask : Nat → Nat → Option Bool) (lt : Nat → Nat → Bool) : Prop where
  tot : ∀ i j, i < n → j < n → ask i j = some (lt i j)
  asym : ∀ i j, i < n → j < n → lt i j = true → lt j i = false
  trans : ∀ i j k, i < n → j < n → k < n → lt j i = false → lt k j = false → lt k i = false
def gi (p : Array Nat) (k : Nat) : Nat := p.getD k 0
structure Ix' (n : Nat) (p : Array Nat) : Prop where
  pm : p.toList.Perm (List.range n)
theorem Ix'.size {n : Nat} {p : Array Nat} (h : Ix' n p) : p.size = n := by rw [← Array.length_toList, h.pm.length_eq, List.length_range]
theorem gi_at {p : Array Nat} {k : Nat} (h : k < p.size) : gi p k = p[k] := by unfold gi; simp [Array.getD, h]
theorem Ix'.lt {n : Nat} {p : Array Nat} (h : Ix' n p) {k : Nat} (hk : k < n) : gi p k < n := by
  have hs : k < p.size := by rw [h.size]; exact hk
  rw [gi_at hs]
  exact List.mem_range.mp (h.pm.mem_iff.mp (by simpa using Array.getElem_mem hs))
theorem gi_of {p q : Array Nat} {k j : Nat} (h : p[k]? = q[j]?) : gi p k = gi q j := by
  unfold gi
  rw [Array.getD_eq_getD_getElem?, Array.getD_eq_getD_getElem?, h]
theorem Ix'.rev {n : Nat} {p : Array Nat} (h : Ix' n p) (i j : Nat) : Ix' n (PySem.W.kas_rev p i j) := ⟨(Array.perm_iff_toList_perm.mp (mirror_perm p i j _)).trans h.pm⟩
theorem Ix'.bub {n : Nat} {p : Array Nat} (h : Ix' n p) (i j : Nat) : Ix' n (bubble p i j) := ⟨(Array.perm_iff_toList_perm.mp (bubble_perm p i j)).trans h.pm⟩
theorem gi_rev {p : Array Nat} {i j : Nat} (hj : j ≤ p.size) (k : Nat) : gi (PySem.W.kas_rev p i j) k = if i ≤ k ∧ k < j then gi p (i + j - 1 - k) else gi p k := by
  unfold PySem.W.kas_rev
  have e := getElem?_mirror (xs := p) (i := i) hj ((j - i) / 2) (by omega) k
  by_cases c : (i ≤ k ∧ k < i + (j - i) / 2) ∨ (j - (j - i) / 2 ≤ k ∧ k < j)
  · rw [if_pos c] at e
    rw [if_pos (by omega)]
    exact gi_of e
  · rw [if_neg c] at e
    by_cases c2 : i ≤ k ∧ k < j
    · rw [if_pos c2, show i + j - 1 - k = k by omega]
      exact gi_of e
    · rw [if_neg c2]
      exact gi_of e
theorem gi_bub {p : Array Nat} {src d : Nat} (hs : src < p.size) (hd : d ≤ src) (k : Nat) : gi (bubble p src d) k = if k = src - d then gi p src else if src - d < k ∧ k ≤ src then gi p (k - 1) else gi p k := by
  (have e := getElem?_bubble hs d hd k)
  by_cases c : k = src - d
  · rw [if_pos c] at e ⊢; exact gi_of e
  · rw [if_neg c] at e ⊢
    by_cases c2 : src - d < k ∧ k ≤ src
    · rw [if_pos c2] at e ⊢; exact gi_of e
    · rw [if_neg c2] at e ⊢; exact gi_of e
section
variable {n : Nat} {ask : Nat → Nat → Option Bool} {lt : Nat → Nat → Bool}
def Up' (lt : Nat → Nat → Bool) (p : Array Nat) (m : Nat) : Prop := ∀ a b, a ≤ b → b < m → lt (gi p b) (gi p a) = false
def Dn' (lt : Nat → Nat → Bool) (p : Array Nat) (m : Nat) : Prop := ∀ a b, a ≤ b → b < m → lt (gi p a) (gi p b) = false
theorem Pre.irr (O : Pre n ask lt) {i : Nat} (h : i < n) : lt i i = false := by
  cases e : lt i i with
  | false => rfl
  | true => rw [← e]; exact O.asym i i h h e
theorem Up'.more (O : Pre n ask lt) {p : Array Nat} {m : Nat} (I : Ix' n p) (h : Up' lt p m) (hm : m < n) (h1 : m = 0 ∨ lt (gi p m) (gi p (m - 1)) = false) : Up' lt p (m + 1) := fun a b hab hb => by
  by_cases e : b < m
  · exact h a b hab e
  · have : b = m := by omega
    subst this
    by_cases ea : a = b
    · subst ea; exact O.irr (I.lt hm)
    · rcases h1 with h1 | h1
      · omega
      · exact O.trans (gi p a) (gi p (b - 1)) (gi p b) (I.lt (by omega)) (I.lt (by omega)) (I.lt hm) (h a (b - 1) (by omega) (by omega)) h1
theorem asc_ok (O : Pre n ask lt) {p : Array Nat} (I : Ix' n p) : ∀ (f m : Nat), 1 ≤ m → m + f ≤ n → Up' lt p m → ∃ k, kasRun ask (PySem.W.kas_asc p f m) = some k ∧ m ≤ k ∧ k ≤ m + f ∧ Up' lt p k ∧ (k < m + f → lt (gi p k) (gi p (k - 1)) = true)
  | 0, m, _, _, h => ⟨m, rfl, Nat.le_refl _, Nat.le_refl _, h, fun z => by omega⟩
  | f + 1, m, h1, hm, h => by
    have e : ask (p.getD m 0) (p.getD (m - 1) 0) = some (lt (gi p m) (gi p (m - 1))) := O.tot _ _ (I.lt (by omega)) (I.lt (by omega))
    unfold PySem.W.kas_asc kasRun
    rw [e]
    dsimp only
    cases c : lt (gi p m) (gi p (m - 1)) with
    | true =>
      rw [if_pos rfl]
      exact ⟨m, rfl, Nat.le_refl _, by omega, h, fun _ => c⟩
    | false =>
      rw [if_neg Bool.false_ne_true]
      obtain ⟨k, a1, a2, a3, a4, a5⟩ := asc_ok O I f (m + 1) (by omega) (by omega) (h.more O I (by omega) (.inr c))
      exact ⟨k, a1, by omega, by omega, a4, fun z => a5 (by omega)⟩
def Like (lt : Nat → Nat → Bool) (n : Nat) (p q : Array Nat) : Prop := ∀ k, k < n → lt (gi p k) (gi q k) = false ∧ lt (gi q k) (gi p k) = false
theorem Dn'.more (O : Pre n ask lt) {p : Array Nat} {m : Nat} (I : Ix' n p) (h : Dn' lt p m) (hm : m < n) (h0 : 0 < m) (h1 : lt (gi p (m - 1)) (gi p m) = false) : Dn' lt p (m + 1) := fun a b hab hb => by
  by_cases e : b < m
  · exact h a b hab e
  · have : b = m := by omega
    subst this
    by_cases ea : a = b
    · subst ea; exact O.irr (I.lt hm)
    · exact O.trans (gi p b) (gi p (b - 1)) (gi p a) (I.lt hm) (I.lt (by omega)) (I.lt (by omega)) h1 (h a (b - 1) (by omega) (by omega))
theorem Dn'.like (O : Pre n ask lt) {p q : Array Nat} {m : Nat} (I : Ix' n p) (J : Ix' n q) (hm : m ≤ n) (h : Dn' lt p m) (l : Like lt n p q) : Dn' lt q m := fun a b hab hb =>
  O.trans (gi q b) (gi p a) (gi q a) (J.lt (by omega)) (I.lt (by omega)) (J.lt (by omega)) (O.trans (gi q b) (gi p b) (gi p a) (J.lt (by omega)) (I.lt (by omega)) (I.lt (by omega)) (l b (by omega)).1 (h a b hab hb)) (l a (by omega)).2
theorem like_rev (O : Pre n ask lt) {p : Array Nat} (I : Ix' n p) {i j : Nat} (hj : j ≤ n) (eq : ∀ a b, i ≤ a → a < j → i ≤ b → b < j → lt (gi p a) (gi p b) = false) : Like lt n p (PySem.W.kas_rev p i j) := fun k hk => by
  rw [gi_rev (by rw [I.size]; exact hj)]
  by_cases c : i ≤ k ∧ k < j
  · rw [if_pos c]
    exact ⟨eq _ _ (by omega) (by omega) (by omega) (by omega), eq _ _ (by omega) (by omega) (by omega) (by omega)⟩
  · rw [if_neg c]
    exact ⟨O.irr (I.lt hk), O.irr (I.lt hk)⟩
theorem desc_ok (O : Pre n ask lt) : ∀ (f : Nat) (p : Array Nat) (m q : Nat), Ix' n p → 1 ≤ m → m + f ≤ n → q + 1 ≤ m → Dn' lt p m → (∀ a b, m - (q + 1) ≤ a → a < m → m - (q + 1) ≤ b → b < m → lt (gi p a) (gi p b) = false) →
    ∃ r, kasRun ask (PySem.W.kas_desc f p m q) = some r ∧ Ix' n r.1 ∧ m ≤ r.2.1 ∧ r.2.1 ≤ m + f ∧ r.2.2 + 1 ≤ r.2.1 ∧ Dn' lt r.1 r.2.1 ∧ ∀ a b, r.2.1 - (r.2.2 + 1) ≤ a → a < r.2.1 → r.2.1 - (r.2.2 + 1) ≤ b → b < r.2.1 → lt (gi r.1 a) (gi r.1 b) = false
  | 0, p, m, q, I, h1, hm, hq, hd, he => ⟨(p, m, q), rfl, I, Nat.le_refl _, Nat.le_refl _, hq, hd, he⟩
  | f + 1, p, m, q, I, h1, hm, hq, hd, he => by
    have e : ask (p.getD m 0) (p.getD (m - 1) 0) = some (lt (gi p m) (gi p (m - 1))) := O.tot _ _ (I.lt (by omega)) (I.lt (by omega))
    have e' : ask (p.getD (m - 1) 0) (p.getD m 0) = some (lt (gi p (m - 1)) (gi p m)) := O.tot _ _ (I.lt (by omega)) (I.lt (by omega))
    unfold PySem.W.kas_desc kasRun
    rw [e]
    dsimp only
    have one : ∀ p' : Array Nat, Ix' n p' → ∀ a b, m + 1 - (0 + 1) ≤ a → a < m + 1 → m + 1 - (0 + 1) ≤ b → b < m + 1 → lt (gi p' a) (gi p' b) = false := fun p' J a b a1 a2 b1 b2 => by
      have : a = b := by omega
      subst this
      exact O.irr (J.lt (by omega))
    cases c : lt (gi p m) (gi p (m - 1)) with
    | true =>
      rw [if_pos rfl]
      have hd1 := hd.more O I (by omega) (by omega) (O.asym _ _ (I.lt (by omega)) (I.lt (by omega)) c)
      by_cases hq0 : q > 0
      · rw [if_pos hq0]
        have J := I.rev (m - (q + 1)) m
        have lk := like_rev O I (i := m - (q + 1)) (j := m) (by omega) he
        obtain ⟨r, a1, a2, a3, a4, a5⟩ := desc_ok O f (PySem.W.kas_rev p (m - (q + 1)) m) (m + 1) 0 J (by omega) (by omega) (by omega) (hd1.like O I J (by omega) lk) (one _ J)
        exact ⟨r, a1, a2, by omega, by omega, a5⟩
      · rw [if_neg hq0]
        obtain ⟨r, a1, a2, a3, a4, a5⟩ := desc_ok O f p (m + 1) 0 I (by omega) (by omega) (by omega) hd1 (one _ I)
        exact ⟨r, a1, a2, by omega, by omega, a5⟩
    | false =>
      rw [if_neg Bool.false_ne_true]
      unfold kasRun
      rw [e']
      dsimp only
      cases c2 : lt (gi p (m - 1)) (gi p m) with
      | true =>
        rw [if_pos rfl]
        exact ⟨(p, m, q), rfl, I, Nat.le_refl _, by show m ≤ _; omega, hq, hd, he⟩
      | false =>
        rw [if_neg Bool.false_ne_true]
        have hd1 := hd.more O I (by omega) (by omega) c2
        obtain ⟨r, a1, a2, a3, a4, a5⟩ := desc_ok O f p (m + 1) (q + 1) I (by omega) (by omega) (by omega) hd1 fun a b z1 z2 z3 z4 => by
          have key : ∀ x, m + 1 - (q + 1 + 1) ≤ x → x < m + 1 → lt (gi p x) (gi p (m - 1)) = false ∧ lt (gi p (m - 1)) (gi p x) = false := fun x x1 x2 => by
            by_cases hx : x = m
            · subst hx; exact ⟨c, c2⟩
            · exact ⟨he _ _ (by omega) (by omega) (by omega) (by omega), he _ _ (by omega) (by omega) (by omega) (by omega)⟩
          exact O.trans (gi p b) (gi p (m - 1)) (gi p a) (I.lt (by omega)) (I.lt (by omega)) (I.lt (by omega)) (key b z3 z4).2 (key a z1 z2).1
        exact ⟨r, a1, a2, by omega, by omega, a5⟩
theorem tail_ok (O : Pre n ask lt) {p : Array Nat} (I : Ix' n p) {m : Nat} (h1 : 1 ≤ m) (hm : m ≤ n) (hd : Dn' lt p m) : ∃ r, kasRun ask (PySem.W.kas_tail3 m n p) = some r ∧ Ix' n r.2 ∧ 1 ≤ r.1 ∧ r.1 ≤ n ∧ Up' lt r.2 r.1 := by
  have J := I.rev 0 m
  have up : Up' lt (PySem.W.kas_rev p 0 m) m := fun a b hab hb => by
    rw [gi_rev (by rw [I.size]; exact hm), gi_rev (by rw [I.size]; exact hm), if_pos (by omega), if_pos (by omega)]
    exact hd _ _ (by omega) (by omega)
  obtain ⟨k, a1, a2, a3, a4, _⟩ := asc_ok O J (n - m) m h1 (by omega) up
  refine ⟨(k, PySem.W.kas_rev p 0 m), ?_, J, by show 1 ≤ k; omega, by show k ≤ n; omega, a4⟩
  unfold PySem.W.kas_tail3
  rw [kasRun_bind, a1]
  rfl
theorem descPart_ok (O : Pre n ask lt) {p : Array Nat} (I : Ix' n p) {m : Nat} (h1 : 1 ≤ m) (hm : m < n) (eq : ∀ a b, a < m → b < m → lt (gi p a) (gi p b) = false) (hl : lt (gi p m) (gi p (m - 1)) = true) :
    ∃ r, kasRun ask (PySem.W.kas_descPart m n p) = some r ∧ Ix' n r.2 ∧ 1 ≤ r.1 ∧ r.1 ≤ n ∧ Up' lt r.2 r.1 := by
  have hd : Dn' lt p m := fun a b _ hb => eq a b (by omega) hb
  have hd1 := hd.more O I hm (by omega) (O.asym _ _ (I.lt hm) (I.lt (by omega)) hl)
  obtain ⟨r, a1, a2, a3, a4, a5, a6, a7⟩ := desc_ok O (n - (m + 1)) p (m + 1) 0 I (by omega) (by omega) (by omega) hd1 fun a b z1 z2 z3 z4 => by
    have : a = b := by omega
    subst this
    exact O.irr (I.lt (by omega))
  unfold PySem.W.kas_descPart
  rw [kasRun_bind, a1]
  show ∃ r', kasRun ask (if r.2.2 > 0 then _ else _) = some r' ∧ _
  by_cases hq : r.2.2 > 0
  · rw [if_pos hq]
    have J := a2.rev (r.2.1 - (r.2.2 + 1)) r.2.1
    exact tail_ok O J (by omega) (by omega) (a6.like O a2 J (by omega) (like_rev O a2 (by omega) a7))
  · rw [if_neg hq]
    exact tail_ok O a2 (by omega) (by omega) a6
theorem count_ok (O : Pre n ask lt) {p : Array Nat} (I : Ix' n p) (hn : 1 ≤ n) : ∃ r, kasRun ask (PySem.W.kas_count n p) = some r ∧ Ix' n r.2 ∧ 1 ≤ r.1 ∧ r.1 ≤ n ∧ Up' lt r.2 r.1 := by
  obtain ⟨k, a1, a2, a3, a4, a5⟩ := asc_ok O I (n - 1) 1 (Nat.le_refl _) (by omega) (fun a b _ hb => by
    have : a = 0 := by omega
    have : b = 0 := by omega
    subst a b
    exact O.irr (I.lt (by omega)))
  unfold PySem.W.kas_count
  rw [kasRun_bind, a1]
  show ∃ r', kasRun ask (if (k == n) = true then _ else _) = some r' ∧ _
  by_cases hk : k = n
  · rw [if_pos (by simpa using hk)]
    exact ⟨(k, p), rfl, I, a2, by show k ≤ n; omega, a4⟩
  · rw [if_neg (by simpa using hk)]
    have lk := a5 (by omega)
    by_cases h1 : k > 1
    · rw [if_pos h1]
      have e : ask (p.getD 0 0) (p.getD (k - 1) 0) = some (lt (gi p 0) (gi p (k - 1))) := O.tot _ _ (I.lt (by omega)) (I.lt (by omega))
      unfold kasRun
      rw [e]
      dsimp only
      cases c : lt (gi p 0) (gi p (k - 1)) with
      | true =>
        rw [if_pos rfl]
        exact ⟨(k, p), rfl, I, a2, by show k ≤ n; omega, a4⟩
      | false =>
        rw [if_neg Bool.false_ne_true]
        have J := I.rev 0 k
        have eqp : ∀ a b, a < k → b < k → lt (gi p a) (gi p b) = false := fun a b ha hb => by
          exact O.trans (gi p b) (gi p 0) (gi p a) (I.lt (by omega)) (I.lt (by omega)) (I.lt (by omega)) (O.trans (gi p b) (gi p (k - 1)) (gi p 0) (I.lt (by omega)) (I.lt (by omega)) (I.lt (by omega)) (a4 b (k - 1) (by omega) (by omega)) c) (a4 0 a (by omega) ha)
        refine descPart_ok O J (by omega) (by omega) (fun a b ha hb => ?_) ?_
        · rw [gi_rev (by rw [I.size]; omega), gi_rev (by rw [I.size]; omega), if_pos (by omega), if_pos (by omega)]
          exact eqp _ _ (by omega) (by omega)
        · rw [gi_rev (by rw [I.size]; omega), gi_rev (by rw [I.size]; omega), if_neg (by omega), if_pos (by omega)]
          cases z : lt (gi p k) (gi p (0 + k - 1 - (k - 1))) with
          | true => rfl
          | false =>
            have := O.trans (gi p (k - 1)) (gi p (0 + k - 1 - (k - 1))) (gi p k) (I.lt (by omega)) (I.lt (by omega)) (I.lt (by omega)) (eqp _ _ (by omega) (by omega)) z
            rw [lk] at this
            cases this
    · rw [if_neg h1]
      exact descPart_ok O I a2 (by omega) (fun a b ha hb => by
        have : a = 0 := by omega
        have : b = 0 := by omega
        subst a b
        exact O.irr (I.lt (by omega))) lk
theorem place_ok (O : Pre n ask lt) {p : Array Nat} (I : Ix' n p) {k : Nat} (hk : k < n) (up : Up' lt p k) : ∀ (f l r : Nat), l ≤ r → r ≤ k → r - l ≤ f → (∀ j, j < l → lt (gi p k) (gi p j) = false) → (∀ j, r ≤ j → j < k → lt (gi p k) (gi p j) = true) →
    ∃ m, kasRun ask (PySem.W.kas_place p k f l r) = some m ∧ m ≤ k ∧ (∀ j, j < m → lt (gi p k) (gi p j) = false) ∧ ∀ j, m ≤ j → j < k → lt (gi p k) (gi p j) = true
  | 0, l, r, h1, h2, h3, hl, hr => ⟨l, rfl, by omega, hl, fun j a b => hr j (by omega) b⟩
  | f + 1, l, r, h1, h2, h3, hl, hr => by
    unfold PySem.W.kas_place
    by_cases c : l ≥ r
    · rw [if_pos c]
      exact ⟨l, rfl, by omega, hl, fun j a b => hr j (by omega) b⟩
    · rw [if_neg c]
      have e : ask (p.getD k 0) (p.getD ((l + r) / 2) 0) = some (lt (gi p k) (gi p ((l + r) / 2))) := O.tot _ _ (I.lt hk) (I.lt (by omega))
      unfold kasRun
      rw [e]
      dsimp only
      cases c2 : lt (gi p k) (gi p ((l + r) / 2)) with
      | true =>
        rw [if_pos rfl]
        refine place_ok O I hk up f l ((l + r) / 2) (by omega) (by omega) (by omega) hl fun j a b => ?_
        cases z : lt (gi p k) (gi p j) with
        | true => rfl
        | false =>
          have := O.trans (gi p ((l + r) / 2)) (gi p j) (gi p k) (I.lt (by omega)) (I.lt (by omega)) (I.lt hk) (up _ _ a b) z
          rw [c2] at this
          cases this
      | false =>
        rw [if_neg Bool.false_ne_true]
        refine place_ok O I hk up f ((l + r) / 2 + 1) r (by omega) (by omega) (by omega) (fun j a => ?_) hr
        exact O.trans (gi p j) (gi p ((l + r) / 2)) (gi p k) (I.lt (by omega)) (I.lt (by omega)) (I.lt hk) (up _ _ (by omega) (by omega)) c2
theorem bin_ok (O : Pre n ask lt) : ∀ (f : Nat) (p : Array Nat) (k : Nat), Ix' n p → 1 ≤ k → k + f = n → Up' lt p k → ∃ r, kasRun ask (PySem.W.kas_bin f p k) = some r ∧ Ix' n r ∧ Up' lt r n
  | 0, p, k, I, _, h, up => ⟨p, rfl, I, by have : k = n := by omega
                                           subst this; exact up⟩
  | f + 1, p, k, I, h1, h, up => by
    obtain ⟨m, a1, a2, a3, a4⟩ := place_ok O I (k := k) (by omega) up k 0 k (by omega) (by omega) (by omega) (fun j hj => by omega) (fun j a b => by omega)
    unfold PySem.W.kas_bin
    rw [kasRun_bind, a1]
    show ∃ r, kasRun ask (PySem.W.kas_bin f (bubble p k (k - m)) (k + 1)) = some r ∧ _
    have hs : k < p.size := by rw [I.size]; omega
    have J := I.bub k (k - m)
    have g : ∀ j, gi (bubble p k (k - m)) j = if j = m then gi p k else if m < j ∧ j ≤ k then gi p (j - 1) else gi p j := fun j => by
      have := gi_bub hs (d := k - m) (by omega) j
      rw [show k - (k - m) = m by omega] at this
      exact this
    refine bin_ok O f _ (k + 1) J (by omega) (by omega) fun a b hab hb => ?_
    rw [g a, g b]
    by_cases ea : a = m
    · rw [if_pos ea]
      by_cases eb : b = m
      · rw [if_pos eb]; exact O.irr (I.lt (by omega))
      · rw [if_neg eb, if_pos (by omega)]
        exact O.asym _ _ (I.lt (by omega)) (I.lt (by omega)) (a4 (b - 1) (by omega) (by omega))
    · rw [if_neg ea]
      by_cases eb : b = m
      · rw [if_pos eb, if_neg (by omega)]
        exact a3 a (by omega)
      · rw [if_neg eb]
        by_cases ca : m < a ∧ a ≤ k
        · rw [if_pos ca, if_pos (by omega)]; exact up _ _ (by omega) (by omega)
        · rw [if_neg ca]
          by_cases cb : m < b ∧ b ≤ k
          · rw [if_pos cb]; exact up _ _ (by omega) (by omega)
          · rw [if_neg cb]; exact up _ _ (by omega) (by omega)
theorem sort_ok (O : Pre n ask lt) (hn : 1 ≤ n) : ∃ p, kasRun ask (PySem.W.kas_sort n) = some p ∧ p.toList.Perm (List.range n) ∧ Up' lt p n := by
  have I : Ix' n (List.toArray (List.range n)) := ⟨by simp⟩
  obtain ⟨r, a1, a2, a3, a4, a5⟩ := count_ok O I hn
  unfold PySem.W.kas_sort
  rw [kasRun_bind, a1]
  show ∃ p, kasRun ask (if r.1 < n then _ else _) = some p ∧ _
  by_cases c : r.1 < n
  · rw [if_pos c]
    obtain ⟨q, b1, b2, b3⟩ := bin_ok O (n - max r.1 1) r.2 (max r.1 1) a2 (by omega) (by omega) (by rw [show max r.1 1 = r.1 by omega]; exact a5)
    exact ⟨q, b1, b2.pm, b3⟩
  · rw [if_neg c]
    exact ⟨r.2, rfl, a2.pm, by rw [show n = r.1 by omega]; exact a5⟩
end
end PV
namespace PV
open PySem L2 PySem.Spec PyProof.Rows
section
variable {X : Cx} {K : Zc} {th : List Addr} {mu : Sto} {H : Hp}
theorem Vals.pick {zs : List V} {us : List Value} (q : Vals zs us) (f : Nat → V) (g : Nat → Value) : ∀ (p : List Nat), (∀ i ∈ p, RelV (f i) (g i)) → Vals (p.map f) (p.map g)
  | [], _ => .nil
  | i :: p, h => .cons (h i (.head _)) (Vals.pick q f g p fun j hj => h j (.tail _ hj))
theorem RepL.pick {ds : List D} {vs : List V} (f : Nat → D) (g : Nat → V) : ∀ (p : List Nat), (∀ i ∈ p, Rep K th H (f i) (g i)) → RepL K th H (p.map f) (p.map g)
  | [], _ => .nil
  | i :: p, h => .cons (h i (.head _)) (RepL.pick (ds := ds) (vs := vs) f g p fun j hj => h j (.tail _ hj))
theorem CallV.or {f : Value} {g g' : Fn} (h : CallV X f g) (h' : CallV X f g') : CallV X f fun ds mu => match g ds mu with | some r => some r | none => g' ds mu := by
  intro pins s st H xs us Q I r q
  obtain ⟨th, mu, ds, so, rd, t⟩ := q
  cases e : g ds mu with
  | some p =>
    refine h pins s st H xs us Q I r ⟨th, mu, ds, so, rd, ?_⟩
    rw [e]; simpa only [e] using t
  | none =>
    refine h' pins s st H xs us Q I r ⟨th, mu, ds, so, rd, ?_⟩
    simpa only [e] using t
end
end PV
namespace PV
open PySem L2 PySem.Spec PyProof.Rows
section
variable {prog : Program} {w : World} {A : Around} {E : Value → Shared → Prop} {s : Shared}
theorem tuNext {i t : Addr} {k : Nat} {its : Array Value} {x : Value} {Q : Value → Shared → Prop} (g : s.heap.IsTupleIter i t k) (p : s.heap.IsTuple t its) (e : its[k]? = some x)
    (q : ∀ h', h'.IsTupleIter i t (k + 1) → Heap.SameBut i s.heap h' → Q x { s with heap := h' }) : wpAny (model prog w) A (Builtin.SmallTypes.nextOf (.ref i)) Q E s := by
  obtain ⟨ob, g1, g2, g3⟩ := id g
  obtain ⟨tb, p1, p2, n, p3⟩ := p
  (unfold Builtin.SmallTypes.nextOf)
  refine wpAny_bind (wpAny_callSpecial?_slot (name := Str.ofString "__next__") g.typeIs F.slot_tuple_iterator_next (wpAny_call_entry F.slot_tuple_iterator_next g.typeIs F.entry_tuple_iterator_next (?_ : wpAny _ _ (field (.ref i) 0 >>= _) _ _ _) (F.args_tuple_iterator_next_1 _)))
  refine wpAny_bind (wpAny_field g1 g3 (x := .ref t) rfl (?_ : wpAny _ _ (if (Value.ref t == Value.none) = true then _ else _) _ _ _))
  have nn : ¬ ((Value.ref t == Value.none) = true) := Bool.false_ne_true
  rw [if_neg nn]
  refine wpAny_bind (m := field (.ref i) 1) (wpAny_field g1 g3 (x := .int k 0) rfl (?_ : wpAny _ _ (seqItems? (.ref t) >>= _) _ _ _))
  refine wpAny_bind (wpAny_seqItems p1 p3 ?_)
  simp only [Int.toNat_natCast, e]
  refine wpAny_bind (wpAny_setField g1 g3 (by simp) (wpAny_pure ⟨x, rfl, wpAny_pure (q _ ⟨_, Heap.get?_update_self _ g1 (Obj.isFreed_of_fields (Obj.data_mapFields g3 _)), (Obj.cls_mapFields ..).trans g2, ?_⟩ (Heap.SameBut.update ..))⟩))
  rw [Obj.data_mapFields g3]
  simp [rawInt]
theorem tuStop {i t : Addr} {k : Nat} {its : Array Value} {Q : Value → Shared → Prop} (hh : A.handled = none) (g : s.heap.IsTupleIter i t k) (p : s.heap.IsTuple t its) (e : its[k]? = none)
    (q : ∀ h' b, Heap.ExtBut i s.heap h' → (∃ o, h'.get? b = some o ∧ o.cls = .type "StopIteration") → E (.ref b) { s with heap := h' }) : wpAny (model prog w) A (Builtin.SmallTypes.nextOf (.ref i)) Q E s := by
  obtain ⟨ob, g1, g2, g3⟩ := id g
  obtain ⟨tb, p1, p2, n, p3⟩ := p
  (unfold Builtin.SmallTypes.nextOf)
  refine wpAny_bind (wpAny_callSpecial?_slot (name := Str.ofString "__next__") g.typeIs F.slot_tuple_iterator_next (wpAny_call_entry F.slot_tuple_iterator_next g.typeIs F.entry_tuple_iterator_next (?_ : wpAny _ _ (field (.ref i) 0 >>= _) _ _ _) (F.args_tuple_iterator_next_1 _)))
  refine wpAny_bind (wpAny_field g1 g3 (x := .ref t) rfl (?_ : wpAny _ _ (if (Value.ref t == Value.none) = true then _ else _) _ _ _))
  have nn : ¬ ((Value.ref t == Value.none) = true) := Bool.false_ne_true
  rw [if_neg nn]
  refine wpAny_bind (m := field (.ref i) 1) (wpAny_field g1 g3 (x := .int k 0) rfl (?_ : wpAny _ _ (seqItems? (.ref t) >>= _) _ _ _))
  refine wpAny_bind (wpAny_seqItems p1 p3 ?_)
  simp only [Int.toNat_natCast, e]
  refine wpAny_bind (wpAny_rule (wpAny_bind (wpAny_setField g1 g3 (by simp) (?_ : wpAny _ _ (newExc (.type "StopIteration") [] >>= _) _ _ _))))
  refine wpAny_bind ?_
  simp only [newExc, newTuple]
  refine wpAny_bind (wpAny_newObj_type (wpAny_bind (m := firstArgMember _ _) (wpAny_of_eq (a := Value.none) (by first | rfl | (simp only [firstArgMember]; rfl)) (wpAny_newObj_type ?_ (by size_fits)))) (by size_fits))
  simp only [raiseNew]
  (refine wpAny_bind (wpAny_handled ?_))
  (first | rw [show A.in1.handled = none from hh] | rw [hh])
  exact wpAny_bind (wpAny_pure (wpAny_throw (q _ _ (((Heap.SameBut.update ..).extBut.push _).push _) ⟨_, Heap.get?_push_size _ rfl, rfl⟩)))
def zTu (z TI TO i1 i2 l1 l2 : Addr) (k : Nat) (h : Heap) : Prop :=
  IsZip h z TI TO .none ∧ IsPair h TI (.ref i1) (.ref i2) ∧ (∃ a b, IsPair h TO a b) ∧ h.IsTupleIter i1 l1 k ∧ h.IsTupleIter i2 l2 k
theorem zTu_next {z TI TO i1 i2 l1 l2 : Addr} {k : Nat} {xs ys : Array Value} {x y : Value} {Q : Value → Shared → Prop} (D : ZipApart z TI TO i1 i2 l1 l2) (g : zTu z TI TO i1 i2 l1 l2 k s.heap)
    (p1 : s.heap.IsTuple l1 xs) (p2 : s.heap.IsTuple l2 ys) (ex : xs[k]? = some x) (ey : ys[k]? = some y)
    (q : ∀ h', IsZip h' z TI TO (rawInt s.heap.objs.size) → IsPair h' TO x y → h'.IsTupleIter i1 l1 (k + 1) → h'.IsTupleIter i2 l2 (k + 1) → IsPair h' s.heap.objs.size x y → (∀ c o, c ≠ z → c ≠ TO → c ≠ i1 → c ≠ i2 → s.heap.get? c = some o → h'.get? c = some o) → Q (.ref s.heap.objs.size) { s with heap := h' }) : wpAny (model prog w) A (Builtin.«zip.__next__» ⟨[.ref z], []⟩) (fun fin s' => ∃ v, fin = .done (.ret v) ∧ Q v s') E s := by
  obtain ⟨g1, g2, ⟨a, b, g3⟩, g4, g5⟩ := g
  refine (?_ : wpAny _ _ (field (.ref z) 2 >>= _) _ _ _)
  refine wpAny_bind (wpAny_field g1 rfl (x := .bool false) rfl (?_ : wpAny _ _ (field (.ref z) 3 >>= _) _ _ _))
  refine wpAny_bind (wpAny_field g1 rfl (x := .ref TI) rfl (wpAny_bind (wpAny_seqItems g2 rfl (?_ : wpAny _ _ (Builtin.SmallTypes.ownedTupleIsFree (.ref z) >>= _) _ _ _))))
  refine wpAny_bind ?_
  (unfold Builtin.SmallTypes.ownedTupleIsFree)
  refine wpAny_bind (wpAny_field g1 rfl (x := .none) rfl (wpAny_pure ?_))
  simp only [if_true]
  refine wpAny_bind (wpAny_rule (wpAny_bind (wpAny_field g1 rfl (x := .ref TO) rfl (wpAny_bind (wpAny_setField_rec g1 (by simp) fun q1 z1 b1 => ?_)))))
  replace z1 : IsZip q1 z TI TO .ellipsis := z1
  refine wpAny_bind ?_
  (simp only [List.zipIdx_cons, List.zipIdx_nil, List.forIn_cons, List.forIn_nil])
  refine wpAny_bind (wpAny_bind (wpAny_onRaise (?_ : wpAny _ _ (Builtin.SmallTypes.nextOf (.ref i1) >>= _) _ _ _)))
  refine wpAny_bind (tuNext (g4.extBut b1.extBut D.i1z) (p1.extBut b1.extBut D.l1z) ex fun q2 n1 b2 => wpAny_pure ?_)
  have o2 : IsPair q2 TO a b := b2.extBut _ _ D.TOi1 (b1.extBut _ _ D.TOz g3)
  refine wpAny_bind (wpAny_seqItems o2 rfl (wpAny_bind (wpAny_updateSeq_pair o2 fun q3 o3 b3 => wpAny_bind (wpAny_letGo (wpAny_pure ?_)))))
  replace o3 : IsPair q3 TO x b := o3
  refine wpAny_bind (wpAny_bind (wpAny_onRaise (?_ : wpAny _ _ (Builtin.SmallTypes.nextOf (.ref i2) >>= _) _ _ _)))
  refine wpAny_bind (tuNext (((g5.extBut b1.extBut D.i2z).extBut b2.extBut D.i12.symm).extBut b3.extBut D.TOi2.symm) (((p2.extBut b1.extBut D.l2z).extBut b2.extBut D.l2i1).extBut b3.extBut D.l2TO) ey fun q4 n2 b4 => wpAny_pure ?_)
  have o4 : IsPair q4 TO x b := b4.extBut _ _ D.TOi2 o3
  refine wpAny_bind (wpAny_seqItems o4 rfl (wpAny_bind (wpAny_updateSeq_pair o4 fun q5 o5 b5 => wpAny_bind (wpAny_letGo (wpAny_pure (wpAny_pure ?_))))))
  replace o5 : IsPair q5 TO x y := o5
  refine wpAny_bind (wpAny_seqItems o5 rfl (wpAny_bind (wpAny_newTuple ?_)))
  have sz : q5.objs.size = s.heap.objs.size := by rw [b5.1, b4.1, b3.1, b2.1, b1.1]
  have z5 : IsZip q5 z TI TO .ellipsis := b5.extBut _ _ D.TOz.symm (b4.extBut _ _ D.i2z.symm (b3.extBut _ _ D.TOz.symm (b2.extBut _ _ D.i1z.symm z1)))
  have k5 : ∀ c o, c ≠ z → c ≠ TO → c ≠ i1 → c ≠ i2 → s.heap.get? c = some o → q5.get? c = some o := fun c o d1 d2 d3 d4 e => b5.extBut _ _ d2 (b4.extBut _ _ d4 (b3.extBut _ _ d2 (b2.extBut _ _ d3 (b1.extBut _ _ d1 e))))
  have m1 : q5.IsTupleIter i1 l1 (k + 1) := ((n1.extBut b3.extBut D.TOi1.symm).extBut b4.extBut D.i12).extBut b5.extBut D.TOi1.symm
  have m2 : q5.IsTupleIter i2 l2 (k + 1) := n2.extBut b5.extBut D.TOi2.symm
  have zl : q5.objs.size ≠ z := Nat.ne_of_gt (Heap.lt_size z5)
  refine (?_ : wpAny _ _ (Builtin.SmallTypes.ownedTupleHandOut (.ref z) (.ref q5.objs.size) >>= _) _ _ _)
  refine wpAny_bind ?_
  (unfold Builtin.SmallTypes.ownedTupleHandOut)
  have z6 : IsZip (q5.push { cls := .type "tuple", data := .seq #[x, y] }) z TI TO .ellipsis := Heap.get?_push_of_some _ z5
  refine wpAny_bind (wpAny_setField_rec z6 (by simp) fun q7 z7 b7 => ?_)
  replace z7 : IsZip q7 z TI TO (rawInt q5.objs.size) := z7
  refine wpAny_setField_rec z7 (by simp) fun q8 z8 b8 => ?_
  replace z8 : IsZip q8 z TI TO (rawInt q5.objs.size) := z8
  have up : ∀ c o, c ≠ z → q5.get? c = some o → q8.get? c = some o := fun c o d e => b8.extBut _ _ d (b7.extBut _ _ d (Heap.get?_push_of_some _ e))
  have nw : IsPair q8 q5.objs.size x y := b8.extBut _ _ zl (b7.extBut _ _ zl (Heap.get?_push_size _ rfl))
  rw [sz] at z8 nw
  (refine wpAny_pure ⟨_, rfl, ?_⟩)
  rw [sz]
  exact q q8 z8 (up _ _ D.TOz o5) (m1.at fun o e => up _ o D.i1z e) (m2.at fun o e => up _ o D.i2z e) nw fun c o d1 d2 d3 d4 e => up c o d1 (k5 c o d1 d2 d3 d4 e)
theorem zTu_stop {z TI TO i1 i2 l1 l2 : Addr} {k : Nat} {xs ys : Array Value} {Q : PySem.Fin → Shared → Prop} (hh : A.handled = none) (D : ZipApart z TI TO i1 i2 l1 l2) (g : zTu z TI TO i1 i2 l1 l2 k s.heap)
    (p1 : s.heap.IsTuple l1 xs) (p2 : s.heap.IsTuple l2 ys) (en : xs[k]? = none ∨ ys[k]? = none)
    (q : ∀ h' e, (∀ c o, c ≠ z → c ≠ TO → c ≠ i1 → c ≠ i2 → s.heap.get? c = some o → h'.get? c = some o) → (∃ o, h'.get? e = some o ∧ o.cls = .type "StopIteration") → E (.ref e) { s with heap := h' }) : wpAny (model prog w) A (Builtin.«zip.__next__» ⟨[.ref z], []⟩) Q E s := by
  obtain ⟨g1, g2, ⟨a, b, g3⟩, g4, g5⟩ := g
  refine (?_ : wpAny _ _ (field (.ref z) 2 >>= _) _ _ _)
  refine wpAny_bind (wpAny_field g1 rfl (x := .bool false) rfl (?_ : wpAny _ _ (field (.ref z) 3 >>= _) _ _ _))
  refine wpAny_bind (wpAny_field g1 rfl (x := .ref TI) rfl (wpAny_bind (wpAny_seqItems g2 rfl (?_ : wpAny _ _ (Builtin.SmallTypes.ownedTupleIsFree (.ref z) >>= _) _ _ _))))
  refine wpAny_bind ?_
  (unfold Builtin.SmallTypes.ownedTupleIsFree)
  refine wpAny_bind (wpAny_field g1 rfl (x := .none) rfl (wpAny_pure ?_))
  simp only [if_true]
  refine wpAny_bind (wpAny_rule (wpAny_bind (wpAny_field g1 rfl (x := .ref TO) rfl (wpAny_bind (wpAny_setField_rec g1 (by simp) fun q1 z1 b1 => ?_)))))
  replace z1 : IsZip q1 z TI TO .ellipsis := z1
  refine wpAny_bind ?_
  (simp only [List.zipIdx_cons, List.zipIdx_nil, List.forIn_cons, List.forIn_nil])
  refine wpAny_bind (wpAny_bind (wpAny_onRaise (?_ : wpAny _ _ (Builtin.SmallTypes.nextOf (.ref i1) >>= _) _ _ _)))
  cases ex : xs[k]? with
  | none =>
    refine wpAny_bind (tuStop hh (g4.extBut b1.extBut D.i1z) (p1.extBut b1.extBut D.l1z) ex fun q2 e b2 he => ?_)
    obtain ⟨oe, he1, he2⟩ := he
    have z2 : IsZip q2 z TI TO .ellipsis := b2 _ _ D.i1z.symm z1
    have ne : e ≠ z := fun u => by subst u; rw [z2] at he1; cases he1; simp at he2
    exact wpAny_setField_rec z2 (by simp) fun q3 _ b3 => q q3 e (fun c o d1 _ d3 _ u => b3.extBut _ _ d1 (b2 _ _ d3 (b1.extBut _ _ d1 u))) ⟨oe, b3.extBut _ _ ne he1, he2⟩
  | some x =>
    have ey : ys[k]? = none := en.resolve_left fun u => by rw [ex] at u; cases u
    refine wpAny_bind (tuNext (g4.extBut b1.extBut D.i1z) (p1.extBut b1.extBut D.l1z) ex fun q2 n1 b2 => wpAny_pure ?_)
    have o2 : IsPair q2 TO a b := b2.extBut _ _ D.TOi1 (b1.extBut _ _ D.TOz g3)
    refine wpAny_bind (wpAny_seqItems o2 rfl (wpAny_bind (wpAny_updateSeq_pair o2 fun q3 o3 b3 => wpAny_bind (wpAny_letGo (wpAny_pure ?_)))))
    refine wpAny_bind (wpAny_bind (wpAny_onRaise (?_ : wpAny _ _ (Builtin.SmallTypes.nextOf (.ref i2) >>= _) _ _ _)))
    refine wpAny_bind (tuStop hh (((g5.extBut b1.extBut D.i2z).extBut b2.extBut D.i12.symm).extBut b3.extBut D.TOi2.symm) (((p2.extBut b1.extBut D.l2z).extBut b2.extBut D.l2i1).extBut b3.extBut D.l2TO) ey fun q4 e b4 he => ?_)
    obtain ⟨oe, he1, he2⟩ := he
    have z4 : IsZip q4 z TI TO .ellipsis := b4 _ _ D.i2z.symm (b3.extBut _ _ D.TOz.symm (b2.extBut _ _ D.i1z.symm z1))
    have ne : e ≠ z := fun u => by subst u; rw [z4] at he1; cases he1; simp at he2
    exact wpAny_setField_rec z4 (by simp) fun q5 _ b5 => q q5 e (fun c o d1 d2 d3 d4 u => b5.extBut _ _ d1 (b4 _ _ d4 (b3.extBut _ _ d2 (b2.extBut _ _ d3 (b1.extBut _ _ d1 u))))) ⟨oe, b5.extBut _ _ ne he1, he2⟩
theorem zTu_pyNext {z TI TO i1 i2 l1 l2 : Addr} {k : Nat} {xs ys : Array Value} {x y : Value} {Q : Option Value → Shared → Prop} (D : ZipApart z TI TO i1 i2 l1 l2) (g : zTu z TI TO i1 i2 l1 l2 k s.heap)
    (p1 : s.heap.IsTuple l1 xs) (p2 : s.heap.IsTuple l2 ys) (ex : xs[k]? = some x) (ey : ys[k]? = some y)
    (q : ∀ h', IsZip h' z TI TO (rawInt s.heap.objs.size) → IsPair h' TO x y → h'.IsTupleIter i1 l1 (k + 1) → h'.IsTupleIter i2 l2 (k + 1) → IsPair h' s.heap.objs.size x y → (∀ c o, c ≠ z → c ≠ TO → c ≠ i1 → c ≠ i2 → s.heap.get? c = some o → h'.get? c = some o) → Q (some (.ref s.heap.objs.size)) { s with heap := h' }) : wpAny (model prog w) A (pyNext (.ref z)) Q E s := by
  have ty : s.TypeIs (.ref z) "zip" := ⟨_, g.1, rfl⟩
  unfold pyNext
  exact wpAny_bind (wpAny_attempt (wpAny_callSpecial?_slot (name := Str.ofString "__next__") ty F.slot_zip_next (wpAny_call_entry F.slot_zip_next ty F.entry_zip_next (zTu_next D g p1 p2 ex ey fun h' a1 a2 a3 a4 a5 a6 => wpAny_pure (q h' a1 a2 a3 a4 a5 a6)) (F.args_zip_next_1 _))))
theorem zTu_pyStop {z TI TO i1 i2 l1 l2 : Addr} {k : Nat} {xs ys : Array Value} {Q : Option Value → Shared → Prop} (hh : A.handled = none) (D : ZipApart z TI TO i1 i2 l1 l2) (g : zTu z TI TO i1 i2 l1 l2 k s.heap)
    (p1 : s.heap.IsTuple l1 xs) (p2 : s.heap.IsTuple l2 ys) (en : xs[k]? = none ∨ ys[k]? = none)
    (q : ∀ h', (∀ c o, c ≠ z → c ≠ TO → c ≠ i1 → c ≠ i2 → s.heap.get? c = some o → h'.get? c = some o) → Q none { s with heap := h' }) : wpAny (model prog w) A (pyNext (.ref z)) Q E s := by
  have ty : s.TypeIs (.ref z) "zip" := ⟨_, g.1, rfl⟩
  unfold pyNext
  refine wpAny_bind (wpAny_attempt (wpAny_callSpecial?_slot (name := Str.ofString "__next__") ty F.slot_zip_next (wpAny_call_entry F.slot_zip_next ty F.entry_zip_next (zTu_stop hh D g p1 p2 en fun h' e hk he => ?_) (F.args_zip_next_1 _))))
  obtain ⟨o, ho, hc⟩ := he
  exact wpAny_bind (wpAny_isInstance (T := "StopIteration") (b := true) ⟨o, ho, hc⟩ isSubtype_stop (wpAny_pure (q _ hk)))
end
abbrev zu1 (h : Heap) (l1 : Addr) : Heap := h.push { cls := .type "tuple_iterator", data := .fields #[.ref l1, .int 0 0] }
abbrev zu2 (h : Heap) (l1 l2 : Addr) : Heap := (zu1 h l1).push { cls := .type "tuple_iterator", data := .fields #[.ref l2, .int 0 0] }
abbrev zu3 (h : Heap) (l1 l2 : Addr) : Heap := (zu2 h l1 l2).push { cls := .type "tuple", data := .seq #[.ref h.objs.size, .ref (zu1 h l1).objs.size] }
abbrev zu4 (h : Heap) (l1 l2 : Addr) : Heap := (zu3 h l1 l2).push { cls := .type "tuple", data := .seq #[.none, .none] }
abbrev zu5 (h : Heap) (l1 l2 : Addr) : Heap := (zu4 h l1 l2).push { cls := .type "zip", data := .fields #[.none, .bool false, .bool false, .ref (zu2 h l1 l2).objs.size, .ref (zu3 h l1 l2).objs.size] }
theorem zu_new (l1 l2 : Addr) (xs ys : Array Value) : Meets (Builtin.«zip.__new__» ⟨[.type "zip", .ref l1, .ref l2], []⟩) (fun _ R s => s.heap.IsTuple l1 xs ∧ s.heap.IsTuple l2 ys ∧ R (.ok (.ret (.ref (zu4 s.heap l1 l2).objs.size))) { s with heap := zu5 s.heap l1 l2 }) :=
  .of_wp fun prog w A R s h => by
    obtain ⟨hp, gn, dr, tk, os⟩ := s
    obtain ⟨t1, t2, h⟩ := h
    have hsub := sub_zip
    have u1 : Heap.IsTuple (Shared.heap ⟨hp, gn, dr, tk, os⟩) l1 xs := t1
    have u2 : Heap.IsTuple (Shared.heap ⟨hp.push { cls := .type "tuple_iterator", data := .fields #[.ref l1, .int 0 0] }, gn, dr, tk, os⟩) l2 ys := Heap.IsTuple.push t2 _
    wp_walk using wpAny_pyIter_tuple u1, wpAny_pyIter_tuple u2
    exact ⟨_, rfl, h⟩
theorem zu_call {prog : Program} {w : World} {A : Around} {E : Value → Shared → Prop} {s : Shared} {l1 l2 : Addr} {xs ys : Array Value} {Q : Value → Shared → Prop} (p1 : s.heap.IsTuple l1 xs) (p2 : s.heap.IsTuple l2 ys)
    (q : ∀ h', zTu (s.heap.objs.size + 4) (s.heap.objs.size + 2) (s.heap.objs.size + 3) s.heap.objs.size (s.heap.objs.size + 1) l1 l2 0 h' → (∀ c o, s.heap.get? c = some o → h'.get? c = some o) → Q (.ref (s.heap.objs.size + 4)) { s with heap := h' }) : wpAny (model prog w) A (call (.type "zip") [.ref l1, .ref l2]) Q E s := by
  refine callType_new F.called_zip (by decide) (F.typeCall_zip_2 _ _) (F.newCall_zip_2 _ _) (fun obj => F.args_object_init_3 obj _ _) F.entry_zip_new (zu_new l1 l2 xs ys) ⟨p1, p2, ?_⟩
  have n1 : (zu1 s.heap l1).objs.size = s.heap.objs.size + 1 := Heap.size_push ..
  have n2 : (zu2 s.heap l1 l2).objs.size = s.heap.objs.size + 2 := by rw [Heap.size_push, n1]
  have n3 : (zu3 s.heap l1 l2).objs.size = s.heap.objs.size + 3 := by rw [Heap.size_push, n2]
  have n4 : (zu4 s.heap l1 l2).objs.size = s.heap.objs.size + 4 := by rw [Heap.size_push, n3]
  have e5 : (zu5 s.heap l1 l2).get? (zu4 s.heap l1 l2).objs.size = some _ := Heap.get?_push_size _ rfl
  have e4 : (zu4 s.heap l1 l2).get? (zu3 s.heap l1 l2).objs.size = some _ := Heap.get?_push_size _ rfl
  have e3 : (zu3 s.heap l1 l2).get? (zu2 s.heap l1 l2).objs.size = some _ := Heap.get?_push_size _ rfl
  have e2 : (zu2 s.heap l1 l2).get? (zu1 s.heap l1).objs.size = some _ := Heap.get?_push_size _ rfl
  have e1 : (zu1 s.heap l1).get? s.heap.objs.size = some _ := Heap.get?_push_size _ rfl
  have w5 : ∀ c o, (zu4 s.heap l1 l2).get? c = some o → (zu5 s.heap l1 l2).get? c = some o := fun c o e => Heap.get?_push_of_some _ e
  have w4 : ∀ c o, (zu3 s.heap l1 l2).get? c = some o → (zu5 s.heap l1 l2).get? c = some o := fun c o e => w5 c o (Heap.get?_push_of_some _ e)
  have w3 : ∀ c o, (zu2 s.heap l1 l2).get? c = some o → (zu5 s.heap l1 l2).get? c = some o := fun c o e => w4 c o (Heap.get?_push_of_some _ e)
  have w2 : ∀ c o, (zu1 s.heap l1).get? c = some o → (zu5 s.heap l1 l2).get? c = some o := fun c o e => w3 c o (Heap.get?_push_of_some _ e)
  have w1 : ∀ c o, s.heap.get? c = some o → (zu5 s.heap l1 l2).get? c = some o := fun c o e => w2 c o (Heap.get?_push_of_some _ e)
  have f4 := w5 _ _ e4
  have f3 := w4 _ _ e3
  have f2 := w3 _ _ e2
  have f1 := w2 _ _ e1
  refine (?_ : _ ∧ _)
  rw [n2, n3, n4] at e5
  rw [n1, n2] at f3
  rw [n3] at f4
  rw [n1] at f2
  rw [n4]
  exact ⟨⟨_, e5, rfl⟩, q _ ⟨e5, f3, ⟨_, _, f4⟩, ⟨_, f1, rfl, rfl⟩, ⟨_, f2, rfl, rfl⟩⟩ w1⟩
end PV
namespace PV
open PySem L2 PySem.Spec PyProof.Rows
def ItzT (K : PySem.W.Frag) (a b : Addr) : It :=
  ⟨fun i H => ∃ xs ys x y, SqT K H a xs ∧ SqT K H b ys ∧ xs[i]? = some x ∧ ys[i]? = some y,
   fun i H v H' => ∃ T x y, v = .ref T ∧ H T = none ∧ H' = upd H T (.tup [x, y]) ∧ (∀ xs, SqT K H a xs → xs[i]? = some x) ∧ ∀ ys, SqT K H b ys → ys[i]? = some y,
   fun i H => ∃ xs ys, SqT K H a xs ∧ SqT K H b ys ∧ (xs.length ≤ i ∨ ys.length ≤ i)⟩
theorem turn_zipT {P : Program} {w : World} {K : PySem.W.Frag} {elts : List Expr} {k : Nat} {pos : Pos} (z TI TO i1 i2 l1 l2 : Addr) (D : ZipApart z TI TO i1 i2 l1 l2) :
    Turn P w K (.Tuple elts k pos) (ItzT K l1 l2) [z, TI, TO, i1, i2] z (zTu z TI TO i1 i2 l1 l2) where
  mem := by simp
  obj := fun i h st b hb => by
    obtain ⟨h1, h2, ⟨_, _, h3⟩, ⟨o4, h4, _, d4⟩, ⟨o5, h5, _, d5⟩⟩ := st
    have hb' : b = z ∨ b = TI ∨ b = TO ∨ b = i1 ∨ b = i2 := by simpa using hb
    rcases hb' with e | e | e | e | e <;> subst e
    · exact ⟨_, h1, fun v e => by cases e⟩
    · exact ⟨_, h2, fun v e => by cases e⟩
    · exact ⟨_, h3, fun v e => by cases e⟩
    · exact ⟨_, h4, fun v e => by rw [d4] at e; cases e⟩
    · exact ⟨_, h5, fun v e => by rw [d5] at e; cases e⟩
  keep := fun i h h' st kk => by
    obtain ⟨h1, h2, ⟨a, b, h3⟩, h4, h5⟩ := st
    exact ⟨kk z (by simp) _ h1, kk TI (by simp) _ h2, ⟨a, b, kk TO (by simp) _ h3⟩, h4.at fun o e => kk i1 (by simp) o e, h5.at fun o e => kk i2 (by simp) o e⟩
  item := by
    intro X hP hw hK hc i pins s σ H E I hf st hg
    subst hP hw hK
    obtain ⟨xs, ys, x, y, hq1, hq2, hx, hy⟩ := hg
    obtain ⟨its1, rv1, p1, hz1⟩ := I.tuple hq1
    obtain ⟨its2, rv2, p2, hz2⟩ := I.tuple hq2
    obtain ⟨u1, hu1, ru1⟩ := rv1.get hx
    obtain ⟨u2, hu2, ru2⟩ := rv2.get hy
    obtain ⟨h1, h2, ⟨a, b, h3⟩, h4, h5⟩ := st
    have D' := D
    refine zTu_pyNext D ⟨h1, h2, ⟨a, b, h3⟩, h4, h5⟩ (show s.heap.IsTuple l1 its1.toArray from p1) (show s.heap.IsTuple l2 its2.toArray from p2) (x := u1) (y := u2) (by simpa using hu1) (by simpa using hu2) fun h' a1 a2 a3 a4 a5 hk => ?_
    have lt : ∀ {c : Addr} {o : Obj}, s.heap.get? c = some o → c ≠ s.heap.objs.size := fun e => Nat.ne_of_lt (Heap.lt_size e)
    refine ⟨_, rfl, wpAny_letOwnedTupleGo_zip a1 fun h'' b1 sb => ?_⟩
    have nT : s.heap.objs.size ≠ z := Ne.symm (lt h1)
    have kk : ∀ b o, b ∉ [z, TI, TO, i1, i2] → s.heap.get? b = some o → h''.get? b = some o := fun b o hb e => by
      simp only [List.mem_cons, List.not_mem_nil, or_false, not_or] at hb
      exact (sb.2 b hb.1).trans (hk b o hb.1 hb.2.2.1 hb.2.2.2.1 hb.2.2.2.2 e)
    have I1 : Inv X pins σ H { s with heap := h'', toks := s.toks } := I.turnedL kk hf
    have hn : H s.heap.objs.size = none := I.hok.fresh (Nat.le_refl _)
    have fT : FpOk X pins H s.heap.objs.size := I.fpOk (Nat.le_refl _) hn
    have I2 : Inv X pins σ (upd H s.heap.objs.size (.tup [x, y])) { s with heap := h'', toks := s.toks } := I1.lay fT I.sz
      ⟨⟨by show 2 ≤ sizeLine; decide, _, (sb.2 _ nT).trans a5, rfl⟩, [u1, u2], .cons ru1 (.cons ru2 .nil), ⟨_, (sb.2 _ nT).trans a5, rfl, _, rfl⟩⟩
    refine ⟨.ref s.heap.objs.size, _, I2, rfl, ⟨_, x, y, rfl, hn, rfl, fun xs' hx' => by rw [I.tuple_inj hx' hq1]; exact hx, fun ys' hy' => by rw [I.tuple_inj hy' hq2]; exact hy⟩, ?_, fun b hb => ?_⟩
    · exact ⟨b1, (sb.2 _ D.TIz).trans (hk _ _ D.TIz D.TITO D.TIi1 D.TIi2 h2), ⟨_, _, (sb.2 _ D.TOz).trans a2⟩, a3.at fun o e => (sb.2 _ D.i1z).trans e, a4.at fun o e => (sb.2 _ D.i2z).trans e⟩
    · have hb' : b = z ∨ b = TI ∨ b = TO ∨ b = i1 ∨ b = i2 := by simpa using hb
      have ne : b ≠ s.heap.objs.size := by
        obtain ⟨o4, e4, _⟩ := h4
        obtain ⟨o5, e5, _⟩ := h5
        rcases hb' with e | e | e | e | e <;> subst e
        · exact lt h1
        · exact lt h2
        · exact lt h3
        · exact lt e4
        · exact lt e5
      rw [upd_ne ne]
      exact (hf b hb).1
  done := by
    intro X hP hw hK hc i pins s σ H E I hf st hg
    subst hP hw hK
    obtain ⟨xs, ys, hq1, hq2, hend⟩ := hg
    obtain ⟨its1, rv1, p1, hz1⟩ := I.tuple hq1
    obtain ⟨its2, rv2, p2, hz2⟩ := I.tuple hq2
    obtain ⟨h1, h2, ⟨a, b, h3⟩, h4, h5⟩ := st
    have n1 := rv1.length
    have n2 := rv2.length
    refine zTu_pyStop (I.ok.hd hc) D ⟨h1, h2, ⟨a, b, h3⟩, h4, h5⟩ (show s.heap.IsTuple l1 its1.toArray from p1) (show s.heap.IsTuple l2 its2.toArray from p2) (by
      rcases hend with e | e
      · exact .inl (by simp; omega)
      · exact .inr (by simp; omega)) fun h' hk => ⟨rfl, I.turnedL (t' := s.toks) (fun b o hb e => ?_) hf⟩
    simp only [List.mem_cons, List.not_mem_nil, or_false, not_or] at hb
    exact hk b o hb.1 hb.2.2.1 hb.2.2.2.1 hb.2.2.2.2 e
  self := fun A i s Q E st h => wpAny_pyIter_zip st.1 h
def iZipT (K : PySem.W.Frag) (ta : TA) : TI := fun σ H R => ta σ H fun vs H1 => ∃ a b, vs = [.ref a, .ref b] ∧ (∃ xs, SqT K H1 a xs) ∧ (∃ ys, SqT K H1 b ys) ∧ R (ItzT K a b) H1
theorem pi_zipT {X : Cx} {a b : Expr} {ta : TA} {p pos : Pos} {elts : List Expr} {k : Nat} {tp : Pos} (hg : Gl X "zip") (hm : X.mg "zip" = none) (hz : bootBuiltins "zip" = some (.type "zip")) (ha : PA X [a, b] ta) (hs : starEach [a, b] X.env = [(false, eval a X.env), (false, eval b X.env)] := by rfl) (hs2 : starEach [b] X.env = [(false, eval b X.env)] := by rfl) :
    PI X (.Tuple elts k tp) (.Call (.Name "zip" p) [a, b] [] pos) (iZipT X.K ta) := by
  intro pins s σ H R I h
  refine Call_ (ld_blt I hg hm hz (PyProof.Rows.callWith_type1 (thn (ha pos pins s σ H _ I h) fun us s1 ⟨vs, H1, I1, r1, q1⟩ => ?_) (by rw [hs, hs2]) (by rw [hs2]; rfl)))
  obtain ⟨a1, a2, e, ⟨xs, hx⟩, ⟨ys, hy⟩, q⟩ := q1
  subst e
  obtain ⟨u1, u2, rfl, ra, rb⟩ := vals2 r1
  cases ra
  cases rb
  obtain ⟨its1, rv1, p1, _⟩ := I1.tuple hx
  obtain ⟨its2, rv2, p2, _⟩ := I1.tuple hy
  have lt1 : a1 < s1.heap.objs.size := by obtain ⟨o, e, _⟩ := p1; exact Heap.lt_size e
  have lt2 : a2 < s1.heap.objs.size := by obtain ⟨o, e, _⟩ := p2; exact Heap.lt_size e
  refine zu_call (show s1.heap.IsTuple a1 its1.toArray from p1) (show s1.heap.IsTuple a2 its2.toArray from p2) fun h' zt hk => ?_
  refine wpAny_pyIter_zip zt.1 ?_
  refine ⟨s1.heap.objs.size + 4, [s1.heap.objs.size + 4, s1.heap.objs.size + 2, s1.heap.objs.size + 3, s1.heap.objs.size, s1.heap.objs.size + 1], _, _, H1, rfl, I1.kept (t' := s1.toks) fun b o e => hk b o e,
    turn_zipT _ _ _ _ _ a1 a2 ?_, zt, fun b hb => ?_, q⟩
  · exact apart_of _ _ _ lt1 lt2
  · have hle : s1.heap.objs.size ≤ b := by
      have hb' : b = s1.heap.objs.size + 4 ∨ b = s1.heap.objs.size + 2 ∨ b = s1.heap.objs.size + 3 ∨ b = s1.heap.objs.size ∨ b = s1.heap.objs.size + 1 := by simpa using hb
      rcases hb' with rfl | rfl | rfl | rfl | rfl <;> simp
    exact I1.fpOk hle (I1.hok.fresh hle)
section
variable {X : Cx} {K : Zc} {th : List Addr} {mu : Sto} {H : Hp}
def tup2 (ds : List D) : Option (List D × List D) := match ds with
  | [.tup xs, .tup ys] => some (xs, ys)
  | _ => none
theorem tup2_inv {ds : List D} {p : List D × List D} (h : tup2 ds = some p) : ds = [.tup p.1, .tup p.2] := by
  unfold tup2 at h
  split at h
  · cases h; rfl
  · cases h
def iZpT (a : Exs) : Ix := fun ro mu => bM (a ro mu) fun ds m1 => (tup2 ds).map fun p => ((zipD p.1 p.2, none), m1)
theorem svi_zipT {a b : Expr} {m : Exs} {p pos : Pos} {elts : List Expr} {k : Nat} {tp : Pos} (hm : X.mg "zip" = none) (ha : SVA X [a, b] m) (hg : Gl X "zip" := by rfl) (hs : starEach [a, b] X.env = [(false, eval a X.env), (false, eval b X.env)] := by rfl) (hs2 : starEach [b] X.env = [(false, eval b X.env)] := by rfl) :
    SVI X (.Tuple elts k tp) (.Call (.Name "zip" p) [a, b] [] pos) (iZpT m) := ⟨PI.weak (pi_zipT hg hm PyProof.Rows.boot_zip ha.1 hs hs2) fun st H R h => by
  obtain ⟨th, mu, ro, so, en, t⟩ := h
  refine ⟨th, mu, ro, so, en, t.bind.mono fun ds th1 mu1 H1 e1 s1 t1 vs rvs => ?_⟩
  cases q : tup2 ds with
  | none => rw [q] at t1; exact t1.no.elim
  | some pr =>
    rw [q] at t1
    rw [tup2_inv q] at rvs
    obtain ⟨xs, ys⟩ := pr
    obtain ⟨x, y, rfl, rx, ry⟩ := two_arg rvs
    unfold Rep at rx ry
    obtain ⟨a1, us, rfl, h1, l1, z1⟩ := rx
    obtain ⟨a2, ws, rfl, h2, l2, z2⟩ := ry
    refine ⟨a1, a2, rfl, ⟨us, h1⟩, ⟨ws, h2⟩, t1.ret s1 _ ⟨?_, fun th' mu' H' e s' go i d ed => ?_, fun th' mu' H' e s' go => ?_⟩⟩
    · show (zipD xs ys).length ≤ sizeLine
      unfold zipD
      rw [List.length_map, List.length_zip]
      exact Nat.le_trans (Nat.min_le_left _ _) z1
    · have g1 := e.sqT s1.out h1
      have g2 := e.sqT s1.out h2
      have ed' : (zipD xs ys)[i]? = some d := ed
      unfold zipD at ed'
      rw [List.getElem?_map] at ed'
      cases q3 : (xs.zip ys)[i]? with
      | none => rw [q3] at ed'; cases ed'
      | some pq =>
        rw [q3] at ed'
        have hd : D.tup [pq.1, pq.2] = d := by simpa using ed'
        subst hd
        obtain ⟨hx, hy⟩ := List.getElem?_zip_eq_some.mp q3
        obtain ⟨v1, ev1, rv1⟩ := (l1.ext e s1.out).get hx
        obtain ⟨v2, ev2, rv2⟩ := (l2.ext e s1.out).get hy
        refine ⟨⟨us, ws, v1, v2, g1, g2, ev1, ev2⟩, fun v H2 y => ?_⟩
        obtain ⟨T, x', y', rfl, hT, rfl, f1, f2⟩ := y
        have ex := f1 us g1
        have ey := f2 ws g2
        rw [ev1] at ex
        rw [ev2] at ey
        cases ex
        cases ey
        exact ⟨.new hT _, s'.new hT _, Rep.newTup s' hT (.cons rv1 (.cons rv2 .nil)) (by show 2 ≤ sizeLine; decide)⟩
    · have g1 := e.sqT s1.out h1
      have g2 := e.sqT s1.out h2
      refine ⟨us, ws, g1, g2, ?_⟩
      show us.length ≤ (zipD xs ys).length ∨ ws.length ≤ (zipD xs ys).length
      unfold zipD
      rw [List.length_map, List.length_zip, l1.len, l2.len]
      dsimp only
      omega⟩
def orI (m m' : Ix) : Ix := fun ro mu => match m ro mu with | some r => some r | none => m' ro mu
theorem SVI.or {tg e : Expr} {m m' : Ix} (h : SVI X tg e m) (h' : SVI X tg e m') : SVI X tg e (orI m m') := ⟨fun pins s st H R I q => by
  obtain ⟨th, mu, ro, so, en, t⟩ := q
  unfold orI at t
  cases c : m ro mu with
  | some p =>
    refine h.r pins s st H R I ⟨th, mu, ro, so, en, ?_⟩
    rw [c]; simpa only [c] using t
  | none =>
    refine h'.r pins s st H R I ⟨th, mu, ro, so, en, ?_⟩
    simpa only [c] using t⟩
def iZpG (a : Exs) : Ix := orI (iZp a) (iZpT a)
theorem svi_zipG {a b : Expr} {m : Exs} {p pos : Pos} {elts : List Expr} {k : Nat} {tp : Pos} (hm : X.mg "zip" = none) (ha : SVA X [a, b] m) (hg : Gl X "zip" := by rfl) (hs : starEach [a, b] X.env = [(false, eval a X.env), (false, eval b X.env)] := by rfl) (hs2 : starEach [b] X.env = [(false, eval b X.env)] := by rfl) :
    SVI X (.Tuple elts k tp) (.Call (.Name "zip" p) [a, b] [] pos) (iZpG m) := SVI.or (svi_zip hm ha hg hs hs2) (svi_zipT hm ha hg hs hs2)
end
end PV
namespace PV
open PySem L2 PySem.Spec PyProof.Rows
section
variable {prog : Program} {w : World} {A : Around} {E : Value → Shared → Prop} {s : Shared}
theorem wp_choose {M : Model} {src : Source} {n : Nat} {Q : Nat → Shared → Prop} (hn : n ≠ 0) (h : ∀ i d', i < n → Q i { s with drawn := d' }) : wpAny M A (choose src n) Q E s :=
  fun _ _ _ => ⟨hn, h _ _ (Nat.mod_lt _ (Nat.pos_of_ne_zero hn))⟩
theorem erase_perm {α : Type} : ∀ (xs : List α) (i : Nat) (hi : i < xs.length), (xs[i] :: xs.eraseIdx i).Perm xs
  | [], i, hi => by simp at hi
  | x :: xs, 0, _ => List.Perm.refl _
  | x :: xs, i + 1, hi => by
    have hi' : i < xs.length := by simpa using hi
    exact (List.Perm.swap x xs[i] _).trans (List.Perm.cons x (erase_perm xs i hi'))
theorem wp_order {M : Model} {α : Type} : ∀ (n : Nat) (xs : List α) {s : Shared} {Q : List α → Shared → Prop}, n = xs.length → (∀ ys d', ys.Perm xs → Q ys { s with drawn := d' }) → wpAny M A (drawOrder n xs) Q E s
  | 0, [], s, Q, _, h => wpAny_pure (h [] s.drawn (List.Perm.refl _))
  | 0, _ :: _, _, _, e, _ => by simp at e
  | n + 1, [], _, _, e, _ => by simp at e
  | n + 1, x :: xs, s, Q, e, h => by
    refine wpAny_bind (wp_choose (by simp) fun i d' hi => ?_)
    rw [List.getElem?_eq_getElem hi]
    refine wpAny_bind (wp_order n ((x :: xs).eraseIdx i) (by rw [List.length_eraseIdx_of_lt hi, ← e]; rfl) fun ys d2 p => wpAny_pure (h _ d2 ?_))
    exact (List.Perm.cons _ p).trans (erase_perm _ _ hi)
theorem pick_perm {α : Type} (next : Nat → Nat) : ∀ (f k : Nat) (left : List α) (out : Array α), f = left.length → (pickOrder.go next f k left out).toList.Perm (out.toList ++ left)
  | 0, k, [], out, _ => by unfold pickOrder.go; simp
  | 0, _, _ :: _, _, e => by simp at e
  | f + 1, k, [], out, e => by simp at e
  | f + 1, k, x :: xs, out, e => by
    unfold pickOrder.go
    have hi : next k % (x :: xs).length < (x :: xs).length := Nat.mod_lt _ (by simp)
    rw [List.getElem?_eq_getElem hi]
    refine (pick_perm next f (k + 1) _ _ (by rw [List.length_eraseIdx_of_lt hi, ← e]; rfl)).trans ?_
    rw [Array.toList_push, List.append_assoc]
    exact List.Perm.append_left _ (erase_perm _ _ hi)
theorem pickOrder_perm {α : Type} (next : Nat → Nat) (xs : Array α) : (pickOrder next xs).toList.Perm xs.toList := by
  have := pick_perm next xs.size 0 xs.toList #[] (by simp)
  simpa [pickOrder] using this
def byText (w : World) : Bool := w.params.followText "set-order"
theorem wp_byText {Q : Bool → Shared → Prop} (h : Q (byText w) s) : wpAny (model prog w) A setsByText Q E s := wpAny_bind (wpAny_askSetting (wpAny_pure h))
theorem slot_seti_next : Slot "set_iterator" "__next__" "set_iterator.__next__" :=
  .of (owner := "set_iterator") (n := "__next__") (by rw [typeLookup_type, builtinLookup_eq_fast]; kernel_rfl) (by decide +kernel) (by decide +kernel) (by decide +kernel) (by first | exact .inl (by decide +kernel) | exact .inr (by decide +kernel)) (by rw [isSubtype_type]; kernel_rfl)
theorem entry_seti_next : entryFor table "set_iterator.__next__" = some Builtin.«set_iterator.__next__» := entryFor_of_tree (by kernel_rfl)
theorem owner_seti : Manifest.owners.lookup (String.ofList ['r', 'o', 't', 'a', 'r', 'e', 't', 'i', '_', 't', 'e', 's'].reverse) = some Manifest.sig_set_iterator := by kernel_rfl
theorem args_seti_next (a : Value) : argsOk "set_iterator.__next__" ⟨[a], []⟩ := by
  unfold argsOk; rw [signature?_of (id := "set_iterator.__next__") (n := ['_', '_', 't', 'x', 'e', 'n', '_', '_']) (o := ['r', 'o', 't', 'a', 'r', 'e', 't', 'i', '_', 't', 'e', 's']) (by kernel_rfl) owner_seti]; kernel_rfl
theorem slot_seti_iter : Slot "set_iterator" "__iter__" "set_iterator.__iter__" :=
  .of (owner := "set_iterator") (n := "__iter__") (by rw [typeLookup_type, builtinLookup_eq_fast]; kernel_rfl) (by decide +kernel) (by decide +kernel) (by decide +kernel) (by first | exact .inl (by decide +kernel) | exact .inr (by decide +kernel)) (by rw [isSubtype_type]; kernel_rfl)
inductive Md where
  | txt | drw (TI : Addr) (pl : List Nat) | one
def SetAt (h : Heap) (S : Addr) (es : Array (Int × Value)) (ep : Nat) (t : SetTable) : Prop := ∃ o, h.get? S = some o ∧ o.data = .set es ep t
def Fst (w : World) (es : Array (Int × Value)) (t : SetTable) (h : Heap) (i : Nat) (v : Value) : Md → Prop
  | .txt => byText w = true ∧ ∃ c : Nat, v = rawInt c
  | .drw TI pl => v = .ref TI ∧ h.IsTuple TI (pl.map fun p : Nat => rawInt p).toArray ∧ pl.length = es.size ∧ (∀ p ∈ pl, p < es.size)
  | .one => byText w = false ∧ (t.plain = false ∨ es.size ≤ 1) ∧ es.size ≤ 1 ∧ t.led = true ∧ v = rawInt ((if i = 0 then 0 else t.place.getD 0 0 + 1 : Nat) : Int)
def ordS (w : World) (S : Addr) (es : Array (Int × Value)) (ep : Nat) : Md → List Value
  | .txt => (pickOrder (w.params.setOrder S ep) es).toList.map (·.2)
  | .drw _ pl => pl.map fun p => (es.getD p (0, .none)).2
  | .one => es.toList.map (·.2)
def SIt (w : World) (S I : Addr) (es : Array (Int × Value)) (ep : Nat) (t : SetTable) (md : Md) (i : Nat) (h : Heap) : Prop :=
  SetAt h S es ep t ∧ ∃ o v, h.get? I = some o ∧ o.cls = .type "set_iterator" ∧ o.data = .fields #[v, rawInt i, .ref S, rawInt es.size, rawInt ep] ∧ Fst w es t h i v md
theorem iter_raise {M : Model} {I : Addr} {Q : PySem.Fin → Shared → Prop} (hh : A.handled = none) (q : ∀ h' e, (∀ c o, s.heap.get? c = some o → h'.get? c = some o) → (∃ o, h'.get? e = some o ∧ o.cls = .type "StopIteration") → E (.ref e) { s with heap := h' }) :
    wpAny M A (newExc (.type "StopIteration") [] >>= fun e => (raiseNew e : Sem PySem.Fin)) Q E s := by
  refine wpAny_bind ?_
  simp only [newExc, newTuple]
  refine wpAny_bind (wpAny_newObj_type (wpAny_bind (m := firstArgMember _ _) (wpAny_of_eq (a := Value.none) (by first | rfl | (simp only [firstArgMember]; rfl)) (wpAny_newObj_type ?_ (by size_fits)))) (by size_fits))
  simp only [raiseNew]
  (refine wpAny_bind (wpAny_handled ?_))
  rw [hh]
  exact wpAny_bind (wpAny_pure (wpAny_throw (q _ _ (fun c o e => Heap.get?_push_of_some _ (Heap.get?_push_of_some _ e)) ⟨_, Heap.get?_push_size _ rfl, rfl⟩)))
end
end PV
namespace PV
open PySem L2 PySem.Spec PyProof.Rows
section
variable {prog : Program} {w : World} {A : Around} {E : Value → Shared → Prop} {s : Shared}
theorem below_zero {xs : Array Nat} (h : xs.size ≤ 1) : SetTable.below xs 0 = 0 := by
  unfold SetTable.below
  rcases Nat.lt_or_ge 0 xs.size with c | c
  · have : xs.size = 1 := by omega
    rw [this]
    simp [SetTable.below.go]
  · have : xs.size = 0 := by omega
    rw [this]
    simp [SetTable.below.go]
theorem below_past {xs : Array Nat} (h : xs.size = 1) : SetTable.below xs (xs.getD 0 0 + 1) = 1 := by
  unfold SetTable.below
  have e0 : xs[0]? = some xs[0] := Array.getElem?_eq_getElem (by omega)
  rw [h]
  simp [SetTable.below.go, e0]
theorem put_fields {a : Addr} {o : Obj} {vs : Array Value} {i : Nat} {x : Value} {h : Heap} (ho : h.get? a = some o) (hd : o.data = .fields vs) : ∃ o', (h.update a (Obj.mapFields (·.setIfInBounds i x))).get? a = some o' ∧ o'.cls = o.cls ∧ o'.data = .fields (vs.setIfInBounds i x) :=
  ⟨_, Heap.get?_update_self _ ho (Obj.isFreed_of_fields (Obj.data_mapFields hd _)), Obj.cls_mapFields .., Obj.data_mapFields hd _⟩
theorem SetAt.keep {h h' : Heap} {S I : Addr} {es : Array (Int × Value)} {ep : Nat} {t : SetTable} (x : SetAt h S es ep t) (ne : S ≠ I) (sb : Heap.SameBut I h h') : SetAt h' S es ep t :=
  let ⟨o, a, b⟩ := x; ⟨o, (sb.2 S ne).trans a, b⟩
def Md.apart (I : Addr) : Md → Prop
  | .drw TI _ => TI ≠ I
  | _ => True
theorem seti_next {S I : Addr} {es : Array (Int × Value)} {ep : Nat} {t : SetTable} {md : Md} {i : Nat} {Q : Value → Shared → Prop} (hf : t.fits es.size = true) (ne : S ≠ I) (ap : md.apart I) (g : SIt w S I es ep t md i s.heap) (hi : i < es.size)
    (q : ∀ v h', (ordS w S es ep md)[i]? = some v → SIt w S I es ep t md (i + 1) h' → Heap.SameBut I s.heap h' → Q v { s with heap := h' }) :
    wpAny (model prog w) A (Builtin.«set_iterator.__next__» ⟨[.ref I], []⟩) (fun fin s' => ∃ v, fin = .done (.ret v) ∧ Q v s') E s := by
  obtain ⟨⟨ob, g1, g2⟩, o, v, k1, k2, k3, k4⟩ := id g
  refine (?_ : wpAny _ _ (fieldsOf (.ref I) >>= _) _ _ _)
  refine wpAny_bind (wpAny_fieldsOf k1 k3 (?_ : wpAny _ _ (setEntries S >>= _) _ _ _))
  refine wpAny_bind (wpAny_setEntries_of g1 g2 hf ?_)
  rw [if_neg (by simp)]
  cases md with
  | drw TI pl =>
    obtain ⟨rfl, ⟨tb, b1, b2, n, b3⟩, c1, c2⟩ := k4
    refine (?_ : wpAny _ _ (seqItems? (.ref TI) >>= _) _ _ _)
    refine wpAny_bind (wpAny_seqItems b1 b3 ?_)
    have hp : i < pl.length := by omega
    have ei : (pl.map fun p : Nat => rawInt p).toArray[(i : Int).toNat]? = some (rawInt pl[i]) := by simp [hp]
    dsimp only
    rw [ei]
    have hpl := c2 pl[i] (List.getElem_mem hp)
    refine (?_ : wpAny _ _ (setNextDrawn S ((pl[i] : Nat) : Int).toNat ((ep : Nat) : Int).toNat >>= _) _ _ _)
    refine wpAny_bind ?_
    unfold setNextDrawn
    refine wpAny_bind (wpAny_setState_of g1 g2 hf ?_)
    rw [Int.toNat_natCast, Int.toNat_natCast]
    dsimp only
    rw [if_neg (by simp), Array.getElem?_eq_getElem hpl]
    refine wpAny_pure (wpAny_bind (wpAny_setField k1 k3 (by simp) (wpAny_pure ⟨_, rfl, q _ _ ?_ ?_ (Heap.SameBut.update ..)⟩)))
    · unfold ordS
      rw [List.getElem?_map, List.getElem?_eq_getElem hp]
      simp [Array.getD, hpl]
    · obtain ⟨o', e1, e2, e3⟩ := put_fields (i := 1) (x := rawInt ((i : Int) + 1)) k1 k3
      exact ⟨SetAt.keep ⟨ob, g1, g2⟩ ne (Heap.SameBut.update ..), o', .ref TI, e1, e2.trans k2, e3, rfl, ⟨tb, ((Heap.SameBut.update ..).2 TI ap).trans b1, b2, n, b3⟩, c1, c2⟩
  | txt =>
    obtain ⟨bt, c, rfl⟩ := k4
    refine (?_ : wpAny _ _ (setNext S ((c : Nat) : Int).toNat ((i : Nat) : Int).toNat ((ep : Nat) : Int).toNat >>= _) _ _ _)
    refine wpAny_bind ?_
    unfold setNext
    refine wpAny_bind (wpAny_setState_of g1 g2 hf (wpAny_bind (wp_byText ?_)))
    rw [if_pos bt]
    rw [Int.toNat_natCast, Int.toNat_natCast, Int.toNat_natCast]
    dsimp only
    rw [if_neg (by simp)]
    refine wpAny_bind ?_
    unfold setWalk
    refine wpAny_bind (wpAny_setState_of g1 g2 hf (wpAny_bind (wp_byText ?_)))
    rw [if_pos bt]
    refine wpAny_bind (wpAny_askSetting (wpAny_pure ?_))
    have hl : i < (pickOrder (w.params.setOrder S ep) es).size := by
      have := (pickOrder_perm (w.params.setOrder S ep) es).length_eq
      simp at this
      omega
    have ex : (pickOrder ((⟨prog, w.params⟩ : Setting).params.setOrder S ep) es)[i]? = some (pickOrder (w.params.setOrder S ep) es)[i] := Array.getElem?_eq_getElem hl
    refine wpAny_pure ?_
    have ex' : Option.map (fun e : Int × Value => (e.2, c)) (pickOrder ((⟨prog, w.params⟩ : Setting).params.setOrder S ep) es)[i]? = some ((pickOrder (w.params.setOrder S ep) es)[i].2, c) := by rw [ex]; rfl
    refine (?_ : wpAny _ _ (match Option.map (fun e : Int × Value => (e.2, c)) (pickOrder ((⟨prog, w.params⟩ : Setting).params.setOrder S ep) es)[i]? with | some (x, next) => _ | none => _) _ _ _)
    rw [ex']
    obtain ⟨o', e1, e2, e3⟩ := put_fields (i := 0) (x := rawInt (c : Int)) k1 k3
    refine wpAny_bind (wpAny_setField k1 k3 (by simp) ?_)
    obtain ⟨o2, f1, f2, f3⟩ := put_fields (i := 1) (x := rawInt ((i : Int) + 1)) e1 e3
    refine wpAny_bind (wpAny_setField e1 e3 (by simp) (wpAny_pure ⟨_, rfl, q _ _ ?_ ?_ ((Heap.SameBut.update ..).trans (Heap.SameBut.update ..))⟩))
    · unfold ordS
      rw [List.getElem?_map, Array.getElem?_toList, Array.getElem?_eq_getElem hl]
      rfl
    · exact ⟨(SetAt.keep ⟨ob, g1, g2⟩ ne (Heap.SameBut.update ..)).keep ne (Heap.SameBut.update ..), o2, rawInt c, f1, (f2.trans e2).trans k2, f3, bt, c, rfl⟩
  | one =>
    obtain ⟨bt, pl, sz, led, rfl⟩ := k4
    have i0 : i = 0 := by omega
    subst i0
    have s1 : es.size = 1 := by omega
    have ps : t.place.size = 1 := by
      (simp only [SetTable.fits, Bool.and_eq_true, beq_iff_eq, decide_eq_true_eq] at hf)
      omega
    refine (?_ : wpAny _ _ (setNext S ((0 : Nat) : Int).toNat ((0 : Nat) : Int).toNat ((ep : Nat) : Int).toNat >>= _) _ _ _)
    refine wpAny_bind ?_
    unfold setNext
    refine wpAny_bind (wpAny_setState_of g1 g2 hf (wpAny_bind (wp_byText ?_)))
    rw [if_neg (by rw [bt]; exact Bool.false_ne_true)]
    refine iteS (fun z => ?_) fun _ => ?_
    · exfalso
      have z' : (!t.plain && decide (es.size > 1)) = true := z
      rw [s1] at z'
      simp at z'
    refine wpAny_bind (iteS (fun z => ?_) fun _ => ?_)
    · exfalso
      have z' : (!t.led && !es.isEmpty) = true := z
      rw [led] at z'
      simp at z'
    refine wpAny_pure ?_
    have b0 := below_zero (xs := t.place) (by omega)
    have ee : es[0]? = some es[0] := Array.getElem?_eq_getElem (by omega)
    have pe : t.place[0]? = some t.place[0] := Array.getElem?_eq_getElem (by omega)
    have hm : (match es[SetTable.below t.place ((0 : Nat) : Int).toNat]?, t.place[SetTable.below t.place ((0 : Nat) : Int).toNat]? with | some (_, x), some j => some (x, j + 1) | _, _ => none) = some (es[0].2, t.place[0] + 1) := by
      rw [show ((0 : Nat) : Int).toNat = 0 from rfl, b0, ee, pe]
    refine (?_ : wpAny _ _ (pure (match es[SetTable.below t.place ((0 : Nat) : Int).toNat]?, t.place[SetTable.below t.place ((0 : Nat) : Int).toNat]? with | some (_, x), some j => some (x, j + 1) | _, _ => none)) _ _ _)
    rw [hm]
    refine wpAny_pure ?_
    obtain ⟨o', e1, e2, e3⟩ := put_fields (i := 0) (x := rawInt ((t.place[0] + 1 : Nat) : Int)) k1 k3
    refine wpAny_bind (wpAny_setField k1 k3 (by simp) ?_)
    obtain ⟨o2, f1, f2, f3⟩ := put_fields (i := 1) (x := rawInt (((0 : Nat) : Int) + 1)) e1 e3
    refine wpAny_bind (wpAny_setField e1 e3 (by simp) (wpAny_pure ⟨_, rfl, q _ _ ?_ ?_ ((Heap.SameBut.update ..).trans (Heap.SameBut.update ..))⟩))
    · unfold ordS
      rw [List.getElem?_map, Array.getElem?_toList, ee]
      rfl
    · refine ⟨(SetAt.keep ⟨ob, g1, g2⟩ ne (Heap.SameBut.update ..)).keep ne (Heap.SameBut.update ..), o2, rawInt ((t.place[0] + 1 : Nat) : Int), f1, (f2.trans e2).trans k2, f3, bt, pl, sz, led, ?_⟩
      have : t.place.getD 0 0 = t.place[0] := by simp [Array.getD, ps]
      rw [this]
      rfl
end
end PV
namespace PV
open PySem L2 PySem.Spec PyProof.Rows
def rk : D → Nat
  | .int _ => 0 | .str _ => 1 | .tup _ => 2 | _ => 3
def cmpN (i j : Nat) : Ordering := if i < j then .lt else if j < i then .gt else .eq
def cmpI (i j : Int) : Ordering := if i < j then .lt else if j < i then .gt else .eq
def cmpS (x y : Str) : Ordering := if x.cps.toList < y.cps.toList then .lt else if y.cps.toList < x.cps.toList then .gt else .eq
def oTh : Ordering → Ordering → Ordering
  | .eq, t => t
  | .lt, _ => .lt
  | .gt, _ => .gt
mutual
def cmpD : D → D → Ordering
  | .int i, .int j => cmpI i j
  | .str x, .str y => cmpS x y
  | .tup xs, .tup ys => cmpDs xs ys
  | a, b => cmpN (rk a) (rk b)
def cmpDs : List D → List D → Ordering
  | [], [] => .eq
  | [], _ :: _ => .lt
  | _ :: _, [] => .gt
  | x :: xs, y :: ys => oTh (cmpD x y) (cmpDs xs ys)
end
def ltT (a b : D) : Bool := cmpD a b == .lt
structure T3 (a b c : Ordering) : Prop where
  e1 : a = .eq → b = c
  e2 : b = .eq → a = c
  e3 : a = b → c = a
theorem cmpN_swap (i j : Nat) : cmpN j i = (cmpN i j).swap := by
  unfold cmpN
  rcases Nat.lt_trichotomy i j with h | h | h
  · rw [if_pos h, if_neg (by omega), if_pos h]; rfl
  · subst h; simp
  · rw [if_pos h, if_neg (by omega), if_pos h]; rfl
theorem cmpI_swap (i j : Int) : cmpI j i = (cmpI i j).swap := by
  unfold cmpI
  rcases Int.lt_trichotomy i j with h | h | h
  · rw [if_pos h, if_neg (by omega), if_pos h]; rfl
  · subst h; simp
  · rw [if_pos h, if_neg (by omega), if_pos h]; rfl
theorem cps_lt {x y : Str} : (x.cps.toList < y.cps.toList) → ¬ (y.cps.toList < x.cps.toList) := fun a b => List.lt_asymm a b
theorem cmpS_swap (i j : Str) : cmpS j i = (cmpS i j).swap := by
  unfold cmpS
  by_cases h : i.cps.toList < j.cps.toList
  · rw [if_pos h, if_neg (cps_lt h), if_pos h]; rfl
  · rw [if_neg h]
    by_cases h2 : j.cps.toList < i.cps.toList
    · rw [if_pos h2, if_neg h, if_pos h2]; rfl
    · rw [if_neg h2, if_neg h, if_neg h2]; rfl
theorem cmpN_3 (i j k : Nat) : T3 (cmpN i j) (cmpN j k) (cmpN i k) := by
  unfold cmpN
  refine ⟨?_, ?_, ?_⟩ <;> (repeat' split) <;> simp <;> omega
theorem cmpI_3 (i j k : Int) : T3 (cmpI i j) (cmpI j k) (cmpI i k) := by
  unfold cmpI
  refine ⟨?_, ?_, ?_⟩ <;> (repeat' split) <;> simp <;> omega
theorem cmpS_eq {i j : Str} : cmpS i j = .eq ↔ i = j := by
  unfold cmpS
  constructor
  · intro h
    by_cases h1 : i.cps.toList < j.cps.toList
    · rw [if_pos h1] at h; cases h
    · rw [if_neg h1] at h
      by_cases h2 : j.cps.toList < i.cps.toList
      · rw [if_pos h2] at h; cases h
      · exact cps_inj (List.le_antisymm (Std.not_lt.mp h2) (Std.not_lt.mp h1))
  · rintro rfl
    rw [if_neg (List.lt_irrefl _), if_neg (List.lt_irrefl _)]
theorem cmpS_lt {i j : Str} : cmpS i j = .lt ↔ i.cps.toList < j.cps.toList := by
  unfold cmpS
  by_cases h1 : i.cps.toList < j.cps.toList
  · simp [h1]
  · rw [if_neg h1]
    by_cases h2 : j.cps.toList < i.cps.toList
    · simp [h2, h1]
    · simp [h2, h1]
theorem cmpS_gt {i j : Str} : cmpS i j = .gt ↔ j.cps.toList < i.cps.toList := by
  rw [← cmpS_lt, cmpS_swap i j]
  cases cmpS i j <;> simp
theorem cmpS_3 (i j k : Str) : T3 (cmpS i j) (cmpS j k) (cmpS i k) := by
  refine ⟨fun h => ?_, fun h => ?_, fun h => ?_⟩
  · rw [cmpS_eq.mp h]
  · rw [cmpS_eq.mp h]
  · cases c : cmpS i j with
    | eq => rw [cmpS_eq.mp c]; rw [c] at h; exact h.symm
    | lt => rw [c] at h; exact cmpS_lt.mpr (List.lt_trans (cmpS_lt.mp c) (cmpS_lt.mp h.symm))
    | gt => rw [c] at h; exact cmpS_gt.mpr (List.lt_trans (cmpS_gt.mp h.symm) (cmpS_gt.mp c))
mutual
theorem cmp_swap : ∀ (a b : D), cmpD b a = (cmpD a b).swap
  | .tup xs, .tup ys => by unfold cmpD; exact cmps_swap xs ys
  | .int i, b => by cases b <;> first | (unfold cmpD; exact cmpI_swap _ _) | (simp only [cmpD]; exact cmpN_swap _ _)
  | .str i, b => by cases b <;> first | (unfold cmpD; exact cmpS_swap _ _) | (simp only [cmpD]; exact cmpN_swap _ _)
  | .tup xs, .int _ => by simp only [cmpD]; exact cmpN_swap _ _
  | .tup xs, .str _ => by simp only [cmpD]; exact cmpN_swap _ _
  | .tup xs, .non => by simp only [cmpD]; exact cmpN_swap _ _
  | .tup xs, .bl _ => by simp only [cmpD]; exact cmpN_swap _ _
  | .tup xs, .lst _ => by simp only [cmpD]; exact cmpN_swap _ _
  | .tup xs, .dct _ _ => by simp only [cmpD]; exact cmpN_swap _ _
  | .tup xs, .set _ => by simp only [cmpD]; exact cmpN_swap _ _
  | .tup xs, .ref _ => by simp only [cmpD]; exact cmpN_swap _ _
  | .non, b => by cases b <;> (simp only [cmpD]; exact cmpN_swap _ _)
  | .bl _, b => by cases b <;> (simp only [cmpD]; exact cmpN_swap _ _)
  | .lst _, b => by cases b <;> (simp only [cmpD]; exact cmpN_swap _ _)
  | .dct _ _, b => by cases b <;> (simp only [cmpD]; exact cmpN_swap _ _)
  | .set _, b => by cases b <;> (simp only [cmpD]; exact cmpN_swap _ _)
  | .ref _, b => by cases b <;> (simp only [cmpD]; exact cmpN_swap _ _)
theorem cmps_swap : ∀ (xs ys : List D), cmpDs ys xs = (cmpDs xs ys).swap
  | [], [] => rfl
  | [], _ :: _ => rfl
  | _ :: _, [] => rfl
  | x :: xs, y :: ys => by
    unfold cmpDs
    rw [cmp_swap x y]
    cases cmpD x y with
    | eq => exact cmps_swap xs ys
    | lt => rfl
    | gt => rfl
end
theorem cmp_rk {a b : D} (h : rk a ≠ rk b) : cmpD a b = cmpN (rk a) (rk b) := by
  cases a <;> cases b <;> first | (simp only [cmpD]; done) | (exact absurd rfl h)
theorem rk_cmp {a b : D} (h : cmpD a b = .eq) : rk a = rk b := by
  refine Classical.byContradiction fun z => ?_
  rw [cmp_rk z] at h
  unfold cmpN at h
  repeat' split at h
  all_goals first | (cases h; done) | omega
theorem T3.then' {h1 h2 h3 t1 t2 t3 : Ordering} (h : T3 h1 h2 h3) (t : T3 t1 t2 t3) : T3 (oTh h1 t1) (oTh h2 t2) (oTh h3 t3) := by
  obtain ⟨a, b, c⟩ := h
  cases h1 with
  | eq =>
    cases a rfl
    cases h2 with
    | eq => exact t
    | lt => exact (show T3 t1 .lt .lt from ⟨fun _ => rfl, fun z => (nomatch z), fun z => z.symm⟩)
    | gt => exact (show T3 t1 .gt .gt from ⟨fun _ => rfl, fun z => (nomatch z), fun z => z.symm⟩)
  | lt =>
    cases h2 with
    | eq => cases b rfl; exact (show T3 .lt t2 .lt from ⟨fun z => (nomatch z), fun _ => rfl, fun _ => rfl⟩)
    | lt => cases c rfl; exact (show T3 .lt .lt .lt from ⟨fun z => (nomatch z), fun _ => rfl, fun _ => rfl⟩)
    | gt => exact (show T3 .lt .gt _ from ⟨fun z => (nomatch z), fun z => (nomatch z), fun z => (nomatch z)⟩)
  | gt =>
    cases h2 with
    | eq => cases b rfl; exact (show T3 .gt t2 .gt from ⟨fun z => (nomatch z), fun _ => rfl, fun _ => rfl⟩)
    | gt => cases c rfl; exact (show T3 .gt .gt .gt from ⟨fun z => (nomatch z), fun _ => rfl, fun _ => rfl⟩)
    | lt => exact (show T3 .gt .lt _ from ⟨fun z => (nomatch z), fun z => (nomatch z), fun z => (nomatch z)⟩)
theorem T3.of_rk {a b c : D} (h : ¬ (rk a = rk b ∧ rk b = rk c)) : T3 (cmpD a b) (cmpD b c) (cmpD a c) := by
  have n3 := cmpN_3 (rk a) (rk b) (rk c)
  have sg : ∀ x y : D, rk x ≠ rk y → cmpD x y ≠ .eq := fun x y z e => z (rk_cmp e)
  have lt : ∀ x y : D, rk x < rk y → cmpD x y = .lt := fun x y z => by rw [cmp_rk (by omega)]; unfold cmpN; rw [if_pos z]
  have gt : ∀ x y : D, rk y < rk x → cmpD x y = .gt := fun x y z => by rw [cmp_rk (by omega)]; unfold cmpN; rw [if_neg (by omega), if_pos z]
  rcases Nat.lt_trichotomy (rk a) (rk b) with h1 | h1 | h1 <;> rcases Nat.lt_trichotomy (rk b) (rk c) with h2 | h2 | h2
  · rw [lt a b h1, lt b c h2, lt a c (by omega)]; exact ⟨fun z => (nomatch z), fun _ => rfl, fun _ => rfl⟩
  · rw [lt a b h1, lt a c (by omega)]; exact ⟨fun z => (nomatch z), fun _ => rfl, fun _ => rfl⟩
  · rw [lt a b h1, gt b c h2]; exact ⟨fun z => (nomatch z), fun z => (nomatch z), fun z => (nomatch z)⟩
  · rw [lt b c h2, lt a c (by omega)]; exact ⟨fun _ => rfl, fun z => (nomatch z), fun z => z.symm⟩
  · exact absurd ⟨h1, h2⟩ h
  · rw [gt b c h2, gt a c (by omega)]; exact ⟨fun _ => rfl, fun z => (nomatch z), fun z => z.symm⟩
  · rw [gt a b h1, lt b c h2]; exact ⟨fun z => (nomatch z), fun z => (nomatch z), fun z => (nomatch z)⟩
  · rw [gt a b h1, gt a c (by omega)]; exact ⟨fun z => (nomatch z), fun _ => rfl, fun _ => rfl⟩
  · rw [gt a b h1, gt b c h2, gt a c (by omega)]; exact ⟨fun z => (nomatch z), fun _ => rfl, fun _ => rfl⟩
mutual
theorem cmp_3 : ∀ (a b c : D), T3 (cmpD a b) (cmpD b c) (cmpD a c)
  | .tup xs, .tup ys, .tup zs => by unfold cmpD; exact cmps_3 xs ys zs
  | .int i, b, c => by
    by_cases e : rk (.int i) = rk b ∧ rk b = rk c
    · cases b <;> first | (cases e.1; done) | skip
      cases c <;> first | (cases e.2; done) | skip
      unfold cmpD
      exact cmpI_3 _ _ _
    · exact .of_rk e
  | .str i, b, c => by
    by_cases e : rk (.str i) = rk b ∧ rk b = rk c
    · cases b <;> first | (cases e.1; done) | skip
      cases c <;> first | (cases e.2; done) | skip
      unfold cmpD
      exact cmpS_3 _ _ _
    · exact .of_rk e
  | .tup xs, .int _, _ => .of_rk fun e => by cases e.1
  | .tup xs, .str _, _ => .of_rk fun e => by cases e.1
  | .tup xs, .non, _ => .of_rk fun e => by cases e.1
  | .tup xs, .bl _, _ => .of_rk fun e => by cases e.1
  | .tup xs, .lst _, _ => .of_rk fun e => by cases e.1
  | .tup xs, .dct _ _, _ => .of_rk fun e => by cases e.1
  | .tup xs, .set _, _ => .of_rk fun e => by cases e.1
  | .tup xs, .ref _, _ => .of_rk fun e => by cases e.1
  | .tup xs, .tup _, .int _ => .of_rk fun e => by cases e.2
  | .tup xs, .tup _, .str _ => .of_rk fun e => by cases e.2
  | .tup xs, .tup _, .non => .of_rk fun e => by cases e.2
  | .tup xs, .tup _, .bl _ => .of_rk fun e => by cases e.2
  | .tup xs, .tup _, .lst _ => .of_rk fun e => by cases e.2
  | .tup xs, .tup _, .dct _ _ => .of_rk fun e => by cases e.2
  | .tup xs, .tup _, .set _ => .of_rk fun e => by cases e.2
  | .tup xs, .tup _, .ref _ => .of_rk fun e => by cases e.2
  | .non, b, c => by
    by_cases e : rk .non = rk b ∧ rk b = rk c
    · cases b <;> first | (cases e.1; done) | (cases c <;> first | (cases e.2; done) | (simp only [cmpD]; exact cmpN_3 _ _ _))
    · exact .of_rk e
  | .bl x, b, c => by
    by_cases e : rk (.bl x) = rk b ∧ rk b = rk c
    · cases b <;> first | (cases e.1; done) | (cases c <;> first | (cases e.2; done) | (simp only [cmpD]; exact cmpN_3 _ _ _))
    · exact .of_rk e
  | .lst x, b, c => by
    by_cases e : rk (.lst x) = rk b ∧ rk b = rk c
    · cases b <;> first | (cases e.1; done) | (cases c <;> first | (cases e.2; done) | (simp only [cmpD]; exact cmpN_3 _ _ _))
    · exact .of_rk e
  | .dct x y, b, c => by
    by_cases e : rk (.dct x y) = rk b ∧ rk b = rk c
    · cases b <;> first | (cases e.1; done) | (cases c <;> first | (cases e.2; done) | (simp only [cmpD]; exact cmpN_3 _ _ _))
    · exact .of_rk e
  | .set x, b, c => by
    by_cases e : rk (.set x) = rk b ∧ rk b = rk c
    · cases b <;> first | (cases e.1; done) | (cases c <;> first | (cases e.2; done) | (simp only [cmpD]; exact cmpN_3 _ _ _))
    · exact .of_rk e
  | .ref x, b, c => by
    by_cases e : rk (.ref x) = rk b ∧ rk b = rk c
    · cases b <;> first | (cases e.1; done) | (cases c <;> first | (cases e.2; done) | (simp only [cmpD]; exact cmpN_3 _ _ _))
    · exact .of_rk e
theorem cmps_3 : ∀ (xs ys zs : List D), T3 (cmpDs xs ys) (cmpDs ys zs) (cmpDs xs zs)
  | [], [], [] => ⟨fun _ => rfl, fun _ => rfl, fun _ => rfl⟩
  | [], [], _ :: _ => ⟨fun _ => rfl, fun z => (nomatch z), fun z => (nomatch z)⟩
  | [], _ :: _, [] => ⟨fun z => (nomatch z), fun z => (nomatch z), fun z => (nomatch z)⟩
  | [], y :: ys, z :: zs => ⟨fun z => (nomatch z), fun _ => rfl, fun _ => rfl⟩
  | x :: xs, [], [] => ⟨fun z => (nomatch z), fun _ => rfl, fun z => (nomatch z)⟩
  | x :: xs, [], _ :: _ => ⟨fun z => (nomatch z), fun z => (nomatch z), fun z => (nomatch z)⟩
  | x :: xs, y :: ys, [] => ⟨fun _ => rfl, fun z => (nomatch z), fun z => z.symm⟩
  | x :: xs, y :: ys, z :: zs => by
    unfold cmpDs
    exact (cmp_3 x y z).then' (cmps_3 xs ys zs)
end
theorem lt_asym (a b : D) (h : ltT a b = true) : ltT b a = false := by
  unfold ltT at *
  rw [cmp_swap a b]
  cases c : cmpD a b <;> rw [c] at h <;> first | rfl | cases h
theorem lt_ntr (a b c : D) (h1 : ltT b a = false) (h2 : ltT c b = false) : ltT c a = false := by
  unfold ltT at *
  have t := cmp_3 c b a
  cases q : cmpD c b with
  | eq => rw [← t.e1 q]; exact h1
  | lt => rw [q] at h2; cases h2
  | gt =>
    cases q2 : cmpD b a with
    | eq => rw [← t.e2 q2, q]; rfl
    | lt => rw [q2] at h1; cases h1
    | gt => rw [t.e3 (q.trans q2.symm), q]; rfl
mutual
def ordK : D → Bool
  | .int _ => true
  | .str _ => true
  | .tup ds => ordKs ds
  | _ => false
def ordKs : List D → Bool
  | [] => true
  | d :: ds => ordK d && ordKs ds
end
mutual
theorem ord_hsh : ∀ {d : D}, ordK d = true → hsh d = true
  | .int _, _ => rfl
  | .str _, _ => rfl
  | .tup ds, h => by unfold ordK at h; unfold hsh; exact ords_hsh h
  | .non, h => nomatch h
  | .bl _, h => nomatch h
  | .lst _, h => nomatch h
  | .dct _ _, h => nomatch h
  | .set _, h => nomatch h
  | .ref _, h => nomatch h
theorem ords_hsh : ∀ {ds : List D}, ordKs ds = true → hshs ds = true
  | [], _ => rfl
  | d :: ds, h => by
    unfold ordKs at h
    rw [Bool.and_eq_true] at h
    unfold hshs
    rw [ord_hsh h.1, ords_hsh h.2]
    rfl
end
mutual
theorem cmp_eq : ∀ (a b : D), ordK a = true → ordK b = true → cmpD a b = .eq → a = b
  | .int i, b, _, hb, h => by
    cases b <;> first | (cases hb; done) | (simp [cmpD, cmpN, rk] at h; done) | skip
    rename_i j
    unfold cmpD cmpI at h
    repeat' split at h
    all_goals first | (cases h; done) | (congr 1; omega)
  | .str i, b, _, hb, h => by
    cases b <;> first | (cases hb; done) | (simp [cmpD, cmpN, rk] at h; done) | skip
    unfold cmpD at h
    rw [cmpS_eq.mp h]
  | .tup xs, b, ha, hb, h => by
    cases b <;> first | (cases hb; done) | (simp [cmpD, cmpN, rk] at h; done) | skip
    unfold cmpD at h
    unfold ordK at ha hb
    congr 1
    exact cmps_eq xs _ ha hb h
  | .non, _, h, _, _ => nomatch h
  | .bl _, _, h, _, _ => nomatch h
  | .lst _, _, h, _, _ => nomatch h
  | .dct _ _, _, h, _, _ => nomatch h
  | .set _, _, h, _, _ => nomatch h
  | .ref _, _, h, _, _ => nomatch h
theorem cmps_eq : ∀ (xs ys : List D), ordKs xs = true → ordKs ys = true → cmpDs xs ys = .eq → xs = ys
  | [], [], _, _, _ => rfl
  | [], _ :: _, _, _, h => by cases h
  | _ :: _, [], _, _, h => by cases h
  | x :: xs, y :: ys, ha, hb, h => by
    unfold ordKs at ha hb
    rw [Bool.and_eq_true] at ha hb
    unfold cmpDs at h
    cases c : cmpD x y <;> rw [c] at h <;> first | (cases h; done) | skip
    rw [cmp_eq x y ha.1 hb.1 c, cmps_eq xs ys ha.2 hb.2 h]
end
theorem lt_eq (a b : D) (ha : ordK a = true) (hb : ordK b = true) (h1 : ltT a b = false) (h2 : ltT b a = false) : a = b := by
  refine cmp_eq a b ha hb ?_
  unfold ltT at h1 h2
  rw [cmp_swap a b] at h2
  cases c : cmpD a b with
  | eq => rfl
  | lt => rw [c] at h1; cases h1
  | gt => rw [c] at h2; cases h2
theorem cmp_refl (a : D) : cmpD a a = .eq := by
  have := cmp_swap a a
  cases c : cmpD a a <;> rw [c] at this <;> first | rfl | cases this
mutual
theorem ltB_T : ∀ (a b : D) (r : Bool), ordK a = true → ordK b = true → ltB a b = some r → r = (cmpD a b == .lt)
  | .int i, b, r, _, hb, h => by
    cases b <;> first | (cases hb; done) | (unfold ltB at h; cases h; done) | skip
    rename_i j
    unfold ltB at h
    cases h
    unfold cmpD cmpI
    by_cases c : i < j
    · simp [c]
    · rw [decide_eq_false c, if_neg c]; split <;> rfl
  | .str i, b, r, _, hb, h => by
    cases b <;> first | (cases hb; done) | (unfold ltB at h; cases h; done) | skip
    rename_i j
    unfold ltB at h
    cases h
    unfold cmpD
    by_cases c : i.cps.toList < j.cps.toList
    · rw [decide_eq_true c, cmpS_lt.mpr c]; rfl
    · rw [decide_eq_false c]
      have : cmpS i j ≠ .lt := fun z => c (cmpS_lt.mp z)
      cases e : cmpS i j <;> first | rfl | exact absurd e this
  | .tup xs, b, r, ha, hb, h => by
    cases b <;> first | (cases hb; done) | (unfold ltB at h; cases h; done) | skip
    unfold ltB at h
    unfold cmpD
    unfold ordK at ha hb
    exact lexB_T xs _ r ha hb h
  | .non, _, _, h, _, _ => nomatch h
  | .bl _, _, _, h, _, _ => nomatch h
  | .lst _, _, _, h, _, _ => nomatch h
  | .dct _ _, _, _, h, _, _ => nomatch h
  | .set _, _, _, h, _, _ => nomatch h
  | .ref _, _, _, h, _, _ => nomatch h
theorem lexB_T : ∀ (xs ys : List D) (r : Bool), ordKs xs = true → ordKs ys = true → lexB xs ys = some r → r = (cmpDs xs ys == .lt)
  | [], [], r, _, _, h => by unfold lexB at h; cases h; rfl
  | [], _ :: _, r, _, _, h => by unfold lexB at h; cases h; rfl
  | _ :: _, [], r, _, _, h => by unfold lexB at h; cases h; rfl
  | x :: xs, y :: ys, r, ha, hb, h => by
    unfold ordKs at ha hb
    rw [Bool.and_eq_true] at ha hb
    unfold lexB at h
    split at h
    · rw [eqv_iff (ord_hsh ha.1) (ord_hsh hb.1)] at h
      unfold cmpDs
      by_cases c : x = y
      · rw [decide_eq_true c] at h
        subst c
        rw [cmp_refl]
        exact lexB_T xs ys r ha.2 hb.2 (by simpa using h)
      · rw [decide_eq_false c] at h
        have e := ltB_T x y r ha.1 hb.1 (by simpa using h)
        rw [e]
        cases q : cmpD x y with
        | eq => exact absurd (cmp_eq x y ha.1 hb.1 q) c
        | lt => rfl
        | gt => rfl
    · cases h
end
def leT (a b : D) : Bool := !ltT b a
def srtD (es : List D) : List D := es.mergeSort leT
theorem leT_trans (a b c : D) (h1 : leT a b = true) (h2 : leT b c = true) : leT a c = true := by
  unfold leT at *
  simp at h1 h2 ⊢
  exact lt_ntr a b c h1 h2
theorem leT_total (a b : D) : (leT a b || leT b a) = true := by
  unfold leT
  cases c : ltT b a with
  | false => rfl
  | true => simp [lt_asym b a c]
theorem srtD_perm (es : List D) : (srtD es).Perm es := List.mergeSort_perm es leT
theorem srtD_up (es : List D) : (srtD es).Pairwise fun a b => leT a b = true := List.pairwise_mergeSort leT_trans leT_total es
theorem srtD_eq {es rs : List D} (ho : ∀ d ∈ es, ordK d = true) (hp : rs.Perm es) (hs : rs.Pairwise fun a b => leT a b = true) : rs = srtD es := by
  have hp2 := hp.trans (srtD_perm es).symm
  refine List.Perm.eq_of_pairwise (fun a b ha hb h1 h2 => ?_) hs (srtD_up es) hp2
  unfold leT at h1 h2
  simp at h1 h2
  exact lt_eq a b (ho a (hp.mem_iff.mp ha)) (ho b ((srtD_perm es).mem_iff.mp hb)) h2 h1
theorem srtD_same {es fs : List D} (ho : ∀ d ∈ es, ordK d = true) (hp : fs.Perm es) : srtD fs = srtD es := srtD_eq ho ((srtD_perm fs).trans hp) (srtD_up fs)
end PV
namespace PV
open PySem L2 PySem.Spec PyProof.Rows
section
variable {prog : Program} {w : World} {A : Around} {E : Value → Shared → Prop} {s : Shared}
theorem seti_stop {S I : Addr} {es : Array (Int × Value)} {ep : Nat} {t : SetTable} {md : Md} {Q : PySem.Fin → Shared → Prop} (hh : A.handled = none) (hf : t.fits es.size = true) (g : SIt w S I es ep t md es.size s.heap)
    (q : ∀ h' e, (∀ c o, c ≠ I → s.heap.get? c = some o → h'.get? c = some o) → (∃ o, h'.get? e = some o ∧ o.cls = .type "StopIteration") → E (.ref e) { s with heap := h' }) :
    wpAny (model prog w) A (Builtin.«set_iterator.__next__» ⟨[.ref I], []⟩) Q E s := by
  obtain ⟨⟨ob, g1, g2⟩, o, v, k1, k2, k3, k4⟩ := id g
  have upd : ∀ (h : Heap) f c o', c ≠ I → h.get? c = some o' → (h.update I f).get? c = some o' := fun h f c o' hc e => ((Heap.SameBut.update ..).2 c hc).trans e
  refine (?_ : wpAny _ _ (fieldsOf (.ref I) >>= _) _ _ _)
  refine wpAny_bind (wpAny_fieldsOf k1 k3 (?_ : wpAny _ _ (setEntries S >>= _) _ _ _))
  refine wpAny_bind (wpAny_setEntries_of g1 g2 hf ?_)
  rw [if_neg (by simp)]
  cases md with
  | drw TI pl =>
    obtain ⟨rfl, ⟨tb, b1, b2, n, b3⟩, c1, c2⟩ := k4
    refine (?_ : wpAny _ _ (seqItems? (.ref TI) >>= _) _ _ _)
    refine wpAny_bind (wpAny_seqItems b1 b3 ?_)
    have ei : (pl.map fun p : Nat => rawInt p).toArray[((es.size : Nat) : Int).toNat]? = none := by simp [c1]
    dsimp only
    rw [ei]
    obtain ⟨o', e1, e2, e3⟩ := put_fields (i := 0) (x := rawInt 0) k1 k3
    refine wpAny_bind (wpAny_setField k1 k3 (by simp) (wpAny_bind (wpAny_setField e1 e3 (by simp) ?_)))
    exact iter_raise (I := I) hh fun h' e a b => q h' e (fun c o hc z => a c o (upd _ _ c o hc (upd _ _ c o hc z))) b
  | txt =>
    obtain ⟨bt, c, rfl⟩ := k4
    refine (?_ : wpAny _ _ (setNext S ((c : Nat) : Int).toNat ((es.size : Nat) : Int).toNat ((ep : Nat) : Int).toNat >>= _) _ _ _)
    refine wpAny_bind ?_
    unfold setNext
    refine wpAny_bind (wpAny_setState_of g1 g2 hf (wpAny_bind (wp_byText ?_)))
    rw [if_pos bt]
    rw [Int.toNat_natCast, Int.toNat_natCast, Int.toNat_natCast]
    dsimp only
    rw [if_neg (by simp)]
    refine wpAny_bind ?_
    unfold setWalk
    refine wpAny_bind (wpAny_setState_of g1 g2 hf (wpAny_bind (wp_byText ?_)))
    rw [if_pos bt]
    refine wpAny_bind (wpAny_askSetting (wpAny_pure (wpAny_pure ?_)))
    have hl : (pickOrder (w.params.setOrder S ep) es).size = es.size := by
      have := (pickOrder_perm (w.params.setOrder S ep) es).length_eq
      simpa using this
    have ex' : Option.map (fun e : Int × Value => (e.2, c)) (pickOrder ((⟨prog, w.params⟩ : Setting).params.setOrder S ep) es)[es.size]? = none := by
      rw [Array.getElem?_eq_none (by rw [show (⟨prog, w.params⟩ : Setting).params.setOrder S ep = w.params.setOrder S ep from rfl, hl]; exact Nat.le_refl _)]; rfl
    refine (?_ : wpAny _ _ (match Option.map (fun e : Int × Value => (e.2, c)) (pickOrder ((⟨prog, w.params⟩ : Setting).params.setOrder S ep) es)[es.size]? with | some (x, next) => _ | none => _) _ _ _)
    rw [ex']
    refine wpAny_bind (wpAny_setField k1 k3 (by simp) ?_)
    exact iter_raise (I := I) hh fun h' e a b => q h' e (fun c o hc z => a c o (upd _ _ c o hc z)) b
  | one =>
    obtain ⟨bt, pl, sz, led, rfl⟩ := k4
    refine (?_ : wpAny _ _ (setNext S ((if es.size = 0 then 0 else (t.place.getD 0 0 + 1) : Nat) : Int).toNat ((es.size : Nat) : Int).toNat ((ep : Nat) : Int).toNat >>= _) _ _ _)
    refine wpAny_bind ?_
    unfold setNext
    refine wpAny_bind (wpAny_setState_of g1 g2 hf (wpAny_bind (wp_byText ?_)))
    rw [if_neg (by rw [bt]; exact Bool.false_ne_true)]
    refine iteS (fun z => ?_) fun _ => ?_
    · exfalso
      have z' : (!t.plain && decide (es.size > 1)) = true := z
      simp at z'
      omega
    refine wpAny_bind (iteS (fun z => ?_) fun _ => ?_)
    · exfalso
      have z' : (!t.led && !es.isEmpty) = true := z
      rw [led] at z'
      simp at z'
    refine wpAny_pure ?_
    have ps : t.place.size = es.size := by
      (simp only [SetTable.fits, Bool.and_eq_true, beq_iff_eq, decide_eq_true_eq] at hf)
      exact hf.1
    have bl : SetTable.below t.place (if es.size = 0 then 0 else (t.place.getD 0 0 + 1)) = es.size := by
      by_cases c : es.size = 0
      · rw [if_pos c, below_zero (by omega), c]
      · rw [if_neg c, below_past (by omega)]; omega
    have en : es[es.size]? = none := Array.getElem?_eq_none (Nat.le_refl _)
    have hm : (match es[SetTable.below t.place ((if es.size = 0 then 0 else (t.place.getD 0 0 + 1) : Nat) : Int).toNat]?, t.place[SetTable.below t.place ((if es.size = 0 then 0 else (t.place.getD 0 0 + 1) : Nat) : Int).toNat]? with | some (_, x), some j => some (x, j + 1) | _, _ => none) = none := by
      rw [Int.toNat_natCast, bl, en]
    refine (?_ : wpAny _ _ (pure (match es[SetTable.below t.place ((if es.size = 0 then 0 else (t.place.getD 0 0 + 1) : Nat) : Int).toNat]?, t.place[SetTable.below t.place ((if es.size = 0 then 0 else (t.place.getD 0 0 + 1) : Nat) : Int).toNat]? with | some (_, x), some j => some (x, j + 1) | _, _ => none)) _ _ _)
    rw [hm]
    refine wpAny_pure (wpAny_bind (wpAny_setField k1 k3 (by simp) ?_))
    exact iter_raise (I := I) hh fun h' e a b => q h' e (fun c o hc z => a c o (upd _ _ c o hc z)) b
theorem SIt.ty {S I : Addr} {es : Array (Int × Value)} {ep : Nat} {t : SetTable} {md : Md} {i : Nat} (g : SIt w S I es ep t md i s.heap) : s.TypeIs (.ref I) "set_iterator" := let ⟨_, o, v, k1, k2, _⟩ := g; ⟨o, k1, k2⟩
def Md.fp (S I : Addr) : Md → List Addr
  | .drw TI _ => [I, S, TI]
  | _ => [I, S]
theorem entry_seti_iter : entryFor table "set_iterator.__iter__" = some Builtin.«dict_keyiterator.__iter__» := entryFor_alias (id' := "dict_keyiterator.__iter__") (by kernel_rfl) rfl (by decide +kernel) (by kernel_rfl)
theorem args_seti_iter (a : Value) : argsOk "set_iterator.__iter__" ⟨[a], []⟩ := by
  unfold argsOk; rw [signature?_of (id := "set_iterator.__iter__") (n := ['_', '_', 'r', 'e', 't', 'i', '_', '_']) (o := ['r', 'o', 't', 'a', 'r', 'e', 't', 'i', '_', 't', 'e', 's']) (by kernel_rfl) owner_seti]; kernel_rfl
theorem walks_set (hh : A.handled = none) {S I : Addr} {es : Array (Int × Value)} {ep : Nat} {t : SetTable} {md : Md} (hf : t.fits es.size = true) (ne : S ≠ I) (ap : md.apart I) :
    Walks prog w A I (md.fp S I) [I] es.size (fun i v => (ordS w S es ep md)[i]? = some v) (fun i h => SIt w S I es ep t md i h) where
  sub := fun b hb => by rw [List.mem_singleton.mp hb]; cases md <;> simp [Md.fp]
  frame := fun _ h h' st hk => by
    obtain ⟨⟨ob, g1, g2⟩, o, v, k1, k2, k3, k4⟩ := st
    refine ⟨⟨ob, hk S (by cases md <;> simp [Md.fp]) _ g1, g2⟩, o, v, hk I (by cases md <;> simp [Md.fp]) _ k1, k2, k3, ?_⟩
    cases md with
    | drw TI pl => obtain ⟨a, ⟨tb, b1, b2⟩, c⟩ := k4; exact ⟨a, ⟨tb, hk TI (by simp [Md.fp]) _ b1, b2⟩, c⟩
    | txt => exact k4
    | one => exact k4
  item := fun _ s Q E hi st hQ => by
    unfold pyNext
    exact wpAny_bind (wpAny_attempt (wpAny_callSpecial?_slot (name := Str.ofString "__next__") st.ty slot_seti_next (wpAny_call_entry slot_seti_next st.ty entry_seti_next (seti_next hf ne ap st hi fun v h' e g' sb => wpAny_pure (hQ v h' s.toks e g' fun b o hb z => (sb.2 b (by simpa using hb)).trans z)) (args_seti_next _))))
  done := fun s Q E st hQ => by
    unfold pyNext
    refine wpAny_bind (wpAny_attempt (wpAny_callSpecial?_slot (name := Str.ofString "__next__") st.ty slot_seti_next (wpAny_call_entry slot_seti_next st.ty entry_seti_next (seti_stop hh hf st fun h' e a b => ?_) (args_seti_next _))))
    obtain ⟨o, ho, hc⟩ := b
    exact wpAny_bind (wpAny_isInstance (T := "StopIteration") (b := true) ⟨o, ho, hc⟩ isSubtype_stop (wpAny_pure (hQ h' s.toks fun b o hb z => a b o (by simpa using hb) z)))
  self := fun i s Q E st hQ => by
    refine wpAny_pyIter_slot st.ty slot_seti_iter (wpAny_call_entry slot_seti_iter st.ty entry_seti_iter ?_ (args_seti_iter _))
    refine (?_ : wpAny _ _ (ret (.ref I)) _ _ s)
    exact wpAny_pure ⟨_, rfl, "set_iterator", _, st.ty, slot_seti_next.lookup, hQ⟩
theorem entry_set_iter : entryFor table "set.__iter__" = some Builtin.«frozenset.__iter__» :=
  entryFor_alias (id' := "frozenset.__iter__") (by kernel_rfl) (by decide +kernel) (by decide +kernel) (by kernel_rfl)
theorem pyIter_set {S : Addr} {ob : Obj} {es : Array (Int × Value)} {ep : Nat} {t : SetTable} {Q : Value → Shared → Prop} (hz : es.size ≤ sizeLine) (g1 : s.heap.get? S = some ob) (gc : ob.cls = .type "set") (g2 : ob.data = .set es ep t) (hf : t.fits es.size = true) (hw : byText w = true ∨ t.led = true ∧ (t.plain = false ∨ es.size ≤ 1))
    (q : ∀ I h' d' md, s.heap.objs.size ≤ I → SIt w S I es ep t md 0 h' → md.apart I → (∀ b o, s.heap.get? b = some o → h'.get? b = some o) → (ordS w S es ep md).Perm (es.toList.map (·.2)) → (∀ b ∈ md.fp S I, b < h'.objs.size) → Q (.ref I) { s with heap := h', drawn := d' }) : wpAny (model prog w) A (pyIter (.ref S)) Q E s := by
  have ty : s.TypeIs (.ref S) "set" := ⟨ob, g1, gc⟩
  refine wpAny_pyIter_slot ty F.slot_set_iter (wpAny_call_entry F.slot_set_iter ty entry_set_iter ?_ (F.args_set_iter_1 _))
  refine (?_ : wpAny _ _ (Builtin.Frozenset.sizeOf S >>= _) _ _ s)
  refine wpAny_bind (wpAny_bind (wpAny_setEntries_of g1 g2 hf (wpAny_pure ?_)))
  have lt : S < s.heap.objs.size := Heap.lt_size g1
  have fin : ∀ (h1 : Heap) d1 (md : Md) (v : Value), (∀ b o, s.heap.get? b = some o → h1.get? b = some o) → s.heap.objs.size ≤ h1.objs.size → Fst w es t h1 0 v md → (∀ TI pl, md = .drw TI pl → TI < h1.objs.size) → (ordS w S es ep md).Perm (es.toList.map (·.2)) →
      wpAny (model prog w) A.in1 (setEpoch S >>= fun e => newFields "set_iterator" [v, rawInt 0, .ref S, rawInt es.size, rawInt e] >>= fun r => ret r) (fun fin s' => ∃ v, fin = .done (.ret v) ∧ ∃ T' r, s'.TypeIs v T' ∧ typeLookup (.type T') "__next__" = pure (some r) ∧ Q v s') E { s with heap := h1, drawn := d1 } := fun h1 d1 md v hk hsz hF hTI hp => by
    refine wpAny_bind (wpAny_setEpoch_of (s := { s with heap := h1, drawn := d1 }) (hk _ _ g1) g2 hf (wpAny_bind ?_))
    unfold newFields
    refine wpAny_newObj_type (wpAny_pure ⟨_, rfl, "set_iterator", _, ⟨_, Heap.get?_push_size _ rfl, rfl⟩, slot_seti_next.lookup, ?_⟩) (by size_fits)
    refine q h1.objs.size _ d1 md hsz ⟨⟨ob, Heap.get?_push_of_some _ (hk _ _ g1), g2⟩, _, v, Heap.get?_push_size _ rfl, rfl, rfl, ?_⟩ ?_ (fun b o e => Heap.get?_push_of_some _ (hk b o e)) hp ?_
    · cases md with
      | drw TI pl => obtain ⟨a, ⟨tb, b1, b2⟩, c⟩ := hF; exact ⟨a, ⟨tb, Heap.get?_push_of_some _ b1, b2⟩, c⟩
      | txt => exact hF
      | one => exact hF
    · cases md with
      | drw TI pl => exact Nat.ne_of_lt (hTI TI pl rfl)
      | txt => exact True.intro
      | one => exact True.intro
    · intro b hb
      rw [Heap.size_push]
      have lS := Nat.lt_succ_of_lt (Nat.lt_of_lt_of_le lt hsz)
      cases md with
      | drw TI pl =>
        have := hTI TI pl rfl
        simp only [Md.fp, List.mem_cons, List.not_mem_nil, or_false] at hb
        (rcases hb with rfl | rfl | rfl)
        · exact Nat.lt_succ_self _
        · exact lS
        · exact Nat.lt_succ_of_lt this
      | txt =>
        simp only [Md.fp, List.mem_cons, List.not_mem_nil, or_false] at hb
        rcases hb with rfl | rfl
        · exact Nat.lt_succ_self _
        · exact lS
      | one =>
        simp only [Md.fp, List.mem_cons, List.not_mem_nil, or_false] at hb
        rcases hb with rfl | rfl
        · exact Nat.lt_succ_self _
        · exact lS
  refine (?_ : wpAny _ _ (setDrawn S >>= _) _ _ s)
  refine wpAny_bind ?_
  unfold setDrawn
  refine wpAny_bind (wpAny_setState_of g1 g2 hf (wpAny_bind (wp_byText (wpAny_pure ?_))))
  refine iteS (fun c => ?_) fun c => ?_
  · have c' : (!byText w && (!t.plain && decide (es.size > 1))) = true := c
    refine wpAny_bind (wp_order es.size (List.range es.size) (by simp) fun ys d' p => ?_)
    unfold newTuple
    refine wpAny_bind (wpAny_newObj_type ?_ (by
      show ((ys.map fun i : Nat => rawInt i).toArray).size ≤ sizeLine
      rw [List.size_toArray, List.length_map, p.length_eq, List.length_range]; exact hz))
    have sz : (s.heap.push { cls := .type "tuple", data := .seq (ys.map fun i : Nat => rawInt i).toArray }).objs.size = s.heap.objs.size + 1 := Heap.size_push ..
    refine fin _ d' (.drw s.heap.objs.size ys) _ (fun b o e => Heap.get?_push_of_some _ e) (by rw [sz]; omega) ⟨rfl, ⟨_, Heap.get?_push_size _ rfl, rfl, _, rfl⟩, by rw [p.length_eq, List.length_range], fun x hx => List.mem_range.mp (p.mem_iff.mp hx)⟩ (fun TI pl e => by cases e; rw [sz]; exact Nat.lt_succ_self _) ?_
    unfold ordS
    have e1 : (List.range es.size).map (fun p => (es.getD p (0, .none)).2) = es.toList.map (·.2) := by
      refine List.ext_getElem? fun i => ?_
      rw [List.getElem?_map, List.getElem?_map, Array.getElem?_toList]
      by_cases hi : i < es.size
      · simp [hi, Array.getD]
      · simp [hi]
    rw [← e1]
    exact p.map _
  · have c' : ¬ (!byText w && (!t.plain && decide (es.size > 1))) = true := c
    by_cases bt : byText w = true
    · refine fin s.heap s.drawn .txt (rawInt 0) (fun _ _ e => e) (Nat.le_refl _) ⟨bt, 0, rfl⟩ (fun TI pl e => nomatch e) ?_
      exact (pickOrder_perm _ es).map _
    · have bf : byText w = false := by simpa using bt
      have hw' := hw.resolve_left bt
      have sz : es.size ≤ 1 := by
        rw [bf] at c'
        rcases hw'.2 with z | z
        · rw [z] at c'; simp at c'; omega
        · exact z
      exact fin s.heap s.drawn .one (rawInt 0) (fun _ _ e => e) (Nat.le_refl _) ⟨bf, hw'.2, sz, hw'.1, rfl⟩ (fun TI pl e => nomatch e) (List.Perm.refl _)
end
end PV
namespace PV
open PySem L2 PySem.Spec PyProof.Rows
section
variable {prog : Program} {w : World} {A : Around} {E : Value → Shared → Prop} {s : Shared}
theorem gather_set {S : Addr} {ob : Obj} {es : Array (Int × Value)} {ep : Nat} {t : SetTable} {Q : List Value → Shared → Prop} (hh : A.handled = none) (hz : es.size ≤ sizeLine) (g1 : s.heap.get? S = some ob) (gc : ob.cls = .type "set") (g2 : ob.data = .set es ep t) (hf : t.fits es.size = true) (hw : byText w = true ∨ t.led = true ∧ (t.plain = false ∨ es.size ≤ 1))
    (q : ∀ zs h' tk d', zs.Perm (es.toList.map (·.2)) → (∀ b o, s.heap.get? b = some o → h'.get? b = some o) → Q zs { s with heap := h', toks := tk, drawn := d' }) : wpAny (model prog w) A (collect (.ref S)) Q E s := by
  have lt : S < s.heap.objs.size := Heap.lt_size g1
  have nS : s.heap.objs.size ≠ S := Nat.ne_of_gt lt
  unfold collect
  (refine wpAny_bind (wpAny_runValue (codeAny_builtin F.entry_proto_collect ?_)))
  (rw [Around.under_plainId F.plain_proto_collect _])
  refine (?_ : wpAny _ A.in1 (newList [] >>= fun l => again (.builtin "list.__iadd__" ⟨[l, .ref S], []⟩)) _ _ s)
  refine wpAny_bind (wpAny_newObj_type (wpAny_pure ⟨plainId_quiet F.plain_list_iadd _, codeAny_builtin F.entry_list_iadd ?_⟩))
  (rw [Around.under_plainId F.plain_list_iadd _])
  refine (?_ : wpAny _ A.in1 (Builtin.List.listExtendWith (.ref s.heap.objs.size) (.ref S) (.ref s.heap.objs.size)) _ _ _)
  (unfold Builtin.List.listExtendWith)
  have gS : (s.heap.push { cls := .type "list", data := .seq ([] : List Value).toArray }).get? S = some ob := Heap.get?_push_of_some _ g1
  have gL : (s.heap.push { cls := .type "list", data := .seq ([] : List Value).toArray }).get? s.heap.objs.size = some { cls := .type "list", data := .seq ([] : List Value).toArray } := Heap.get?_push_size _ rfl
  generalize hP : s.heap.push { cls := .type "list", data := .seq ([] : List Value).toArray } = h1 at gS gL ⊢
  have k1 : ∀ b o, s.heap.get? b = some o → h1.get? b = some o := fun b o e => by rw [← hP]; exact Heap.get?_push_of_some _ e
  have sz1 : h1.objs.size = s.heap.objs.size + 1 := by rw [← hP]; exact Heap.size_push ..
  have ty : Shared.TypeIs { s with heap := h1 } (.ref S) "set" := ⟨ob, gS, gc⟩
  refine wpAny_bind (wpAny_typeOf ty ?_)
  have e1 : Builtin.List.listSameRef (.ref s.heap.objs.size) (.ref S) = false := by simp [Builtin.List.listSameRef, nS]
  have e2 : (Value.type "set" == Value.type "list") = false := by decide
  have e3 : (Value.type "set" == Value.type "tuple") = false := by decide
  simp only [e1, e2, e3, Bool.or_false, Bool.false_eq_true, if_false]
  refine wpAny_bind (pyIter_set (s := { s with heap := h1 }) hz gS gc g2 hf hw fun I h2 d2 md hI st ap k2 pm fpl => ?_)
  (refine wpAny_bind (wpAny_holding ?_))
  have ty2 : Shared.TypeIs { s with heap := h2, drawn := d2 } (.ref S) "set" := ⟨ob, k2 _ _ gS, gc⟩
  (unfold Builtin.List.listLengthHint)
  refine wpAny_bind (wpAny_specialOf ty2 F.slot_set_len.lookup ?_)
  refine (?_ : wpAny _ A.in1 (isInstance (Value.ref S) (.type "set") >>= _) _ _ _)
  refine wpAny_bind (wpAny_isInstance ty2 sub_set_self ?_)
  refine (?_ : wpAny _ A.in1 (typeOf (Value.ref S) >>= _) _ _ _)
  refine wpAny_bind (wpAny_typeOf ty2 (wpAny_pure ?_))
  refine (?_ : wpAny _ A.in1 (rule "list.extend.makes-room" >>= fun _ => Builtin.List.listTouch (.ref s.heap.objs.size) >>= fun _ => again (.builtin "list.extend.loop" ⟨[.ref s.heap.objs.size, .ref I, .ref s.heap.objs.size], []⟩)) _ _ _)
  refine wpAny_bind (wpAny_rule (wpAny_bind ?_))
  refine (?_ : wpAny _ A.in1 (updateSeq s.heap.objs.size (·.push .none) >>= fun _ => updateSeq s.heap.objs.size (·.pop)) _ _ _)
  have gL2 := k2 _ _ gL
  refine wpAny_bind (wpAny_updateSeq gL2 rfl ?_)
  have gL3 := Heap.get?_update_self (Obj.mapSeq (·.push Value.none)) gL2 rfl
  refine wpAny_updateSeq gL3 rfl ?_
  have gL4 := Heap.get?_update_self (Obj.mapSeq (·.pop)) gL3 rfl
  have nL : s.heap.objs.size ∉ md.fp S I := by
    have nI : s.heap.objs.size ≠ I := fun e => by
      have : s.heap.objs.size + 1 ≤ I := by rw [← sz1]; exact hI
      rw [← e] at this
      exact absurd this (Nat.not_succ_le_self _)
    cases md with
    | drw TI pl =>
      obtain ⟨_, o, v, _, _, _, _, ⟨tb, b1, b2, _⟩, _⟩ := st
      have nT : s.heap.objs.size ≠ TI := fun e => by
        rw [← e, gL2] at b1
        cases b1
        exact absurd b2 (by decide)
      simp only [Md.fp, List.mem_cons, List.not_mem_nil, or_false, not_or]
      exact ⟨nI, nS, nT⟩
    | txt => simp only [Md.fp, List.mem_cons, List.not_mem_nil, or_false, not_or]; exact ⟨nI, nS⟩
    | one => simp only [Md.fp, List.mem_cons, List.not_mem_nil, or_false, not_or]; exact ⟨nI, nS⟩
  have oth : ∀ b o, b ≠ s.heap.objs.size → h2.get? b = some o → ((h2.update s.heap.objs.size (Obj.mapSeq (·.push Value.none))).update s.heap.objs.size (Obj.mapSeq (·.pop))).get? b = some o := fun b o hb e => (Heap.get?_update_other _ _ (Ne.symm hb)).trans ((Heap.get?_update_other _ _ (Ne.symm hb)).trans e)
  have nSI : S ≠ I := fun e => by
    have a : s.heap.objs.size + 1 ≤ I := by rw [← sz1]; exact hI
    rw [← e] at a
    exact absurd (Nat.lt_of_lt_of_le lt (Nat.le_trans (Nat.le_succ _) a)) (Nat.lt_irrefl _)
  have W := (walks_set (prog := prog) (A := A.in1) (w := w) (ep := ep) hh hf nSI ap).toS
  refine wpAny_pure ⟨plainId_quiet F.plain_extend_loop _, codeAny_extend_loopS (A := A) W hz _ nL _ es.size 0 _ _ _ rfl (Nat.zero_le _) ?_ gL4 (ItemsOf.nil _) fun s' acc' c' hm hS' hacc => ?_⟩
  · exact (walks_set (prog := prog) (A := A.in1) (w := w) (ep := ep) hh hf nSI ap).frame 0 _ _ st fun b hb o e => oth b o (fun z => nL (z ▸ hb)) e
  refine (?_ : wpAny _ A (load s.heap.objs.size >>= _) _ _ s')
  (refine wpAny_bind (wpAny_load hS' ?_))
  obtain ⟨zh, zg, zd, zt, zo⟩ := s'
  have e4 : zg = s.gens := hm.gens
  have e5 : zd = d2 := hm.drawn
  have e6 : zo = s.os := hm.os
  subst e4 e5 e6
  refine wpAny_pure (q acc'.toList zh zt zd ?_ fun b o e => ?_)
  · have ln : (ordS w S es ep md).length = es.size := by rw [pm.length_eq]; simp
    have : acc'.toList = ordS w S es ep md := by
      refine List.ext_getElem? fun i => ?_
      by_cases hi : i < es.size
      · have hi' : i < acc'.size := by rw [hacc.1]; exact hi
        rw [Array.getElem?_toList, Array.getElem?_eq_getElem hi']
        exact (hacc.2 i _ (Array.getElem?_eq_getElem hi')).symm
      · rw [Array.getElem?_toList, Array.getElem?_eq_none (by rw [hacc.1]; omega), List.getElem?_eq_none (by rw [ln]; omega)]
    rw [this]
    exact pm
  · have bl := Heap.lt_size e
    refine hm.heap b o ?_ (oth b o (Nat.ne_of_lt bl) (k2 _ _ (k1 _ _ e)))
    simp only [List.mem_cons, List.not_mem_nil, or_false, not_or]
    refine ⟨Nat.ne_of_lt bl, fun z => ?_⟩
    have a : s.heap.objs.size + 1 ≤ I := by rw [← sz1]; exact hI
    rw [← z] at a
    exact absurd (Nat.lt_of_lt_of_le bl (Nat.le_trans (Nat.le_succ _) a)) (Nat.lt_irrefl _)
end
end PV
namespace PV
open PySem L2 PySem.Spec PyProof.Rows
section
variable {prog : Program} {w : World} {A : Around} {E : Value → Shared → Prop} {s : Shared}
def SortsTo (prog : Program) (w : World) (A : Around) (zs out : List Value) (s : Shared) : Prop := ∀ (h1 : Heap) (a : Addr) (P : PySem.Fin → Shared → Prop) (E' : Value → Shared → Prop), (∀ b o, s.heap.get? b = some o → h1.get? b = some o) → s.heap.get? a = none → h1.get? a = some (seqObj "list" zs.toArray 0) →
  P (.done (.ret .none)) { s with heap := sortedHeap h1 a zs out.toArray } → wpAny (model prog w) A (Builtin.«list.sort» ⟨[.ref a], []⟩) P E' { s with heap := h1 }
theorem sorted_of {x : Value} {Q : Value → Shared → Prop} (hcol : wpAny (model prog w) A.in1 (collect x) (fun zs s1 => zs.length ≤ sizeLine ∧ ∃ out, SortsTo prog w A.in1.in1 zs out s1 ∧ ∀ h' e a, (∀ b o, s1.heap.get? b = some o → h'.get? b = some o) → s1.heap.objs.size ≤ a → h'.get? a = some (seqObj "list" out.toArray e) → Q (.ref a) { s1 with heap := h' }) E s) :
    wpAny (model prog w) A (call (.builtin "sorted") [x]) Q E s := by
  (refine Calls.call_function_entry kind_sorted plain_sorted entry_sorted (args_sorted1 _) ?_)
  unfold Builtin.«sorted»
  refine wpAny_bind (m := checkCount "sorted" 1 1 _) (wpAny_pure (wpAny_bind (wpAny_mono hcol (fun zs s1 hq => ?_) fun _ _ z => z)))
  obtain ⟨hz, out, hs, q⟩ := hq
  refine wpAny_bind (wpAny_newList ?_ hz)
  have g1 : (s1.heap.push (seqObj "list" zs.toArray 0)).get? s1.heap.objs.size = some (seqObj "list" zs.toArray 0) := Heap.get?_push_size _ rfl
  have fr : s1.heap.get? s1.heap.objs.size = none := Heap.get?_none_of_le (Nat.le_refl _)
  refine wpAny_bind (wpAny_holding (wpAny_call_entry slot_list_sort ⟨_, g1, rfl⟩ entry_list_sort (hs (s1.heap.push (seqObj "list" zs.toArray 0)) _ _ _ (fun b o e => Heap.get?_push_of_some _ e) fr g1 ⟨_, rfl, wpAny_pure ⟨_, rfl, ?_⟩⟩) (args_list_sort _)))
  obtain ⟨e, he⟩ := sortedHeap_at (out := out.toArray) g1
  refine q _ e _ (fun b o z => ?_) (Nat.le_refl _) he
  have lb := Heap.lt_size z
  rw [sortedHeap_old (Nat.ne_of_lt lb) (by rw [size_push']; exact Nat.lt_succ_of_lt lb)]
  exact Heap.get?_push_of_some _ z
end
def strQ : D → Bool
  | .str _ => true
  | _ => false
def cmpOk (es : List D) : Bool := es.all fun a => es.all fun b => (ltB a b).isSome
def srtOk (es : List D) : Bool := decide (es.length < 64) && es.all ordK && cmpOk es && (es.all strQ || es.all tupS)
section
variable {X : Cx} {K : Zc} {th : List Addr} {mu : Sto} {H : Hp} {pins : List (Addr × Obj)} {st : L2.St} {s : Shared}
theorem ask_pre {es : List D} (ho : es.all ordK = true) (hc : cmpOk es = true) : Pre es.length (askD es) fun i j => ltT (es.getD i .non) (es.getD j .non) := by
  have gd : ∀ i, i < es.length → es.getD i .non = es[i]?.getD .non ∧ ∃ d, es[i]? = some d ∧ es.getD i .non = d ∧ d ∈ es := fun i hi => by
    (rw [List.getD_eq_getElem?_getD])
    exact ⟨rfl, es[i], List.getElem?_eq_getElem hi, by rw [List.getElem?_eq_getElem hi]; rfl, List.getElem_mem hi⟩
  rw [List.all_eq_true] at ho
  unfold cmpOk at hc
  rw [List.all_eq_true] at hc
  refine ⟨fun i j hi hj => ?_, fun i j hi hj h => lt_asym _ _ h, fun i j k hi hj hk h1 h2 => lt_ntr _ _ _ h1 h2⟩
  obtain ⟨_, d, e1, e2, e3⟩ := gd i hi
  obtain ⟨_, d', f1, f2, f3⟩ := gd j hj
  unfold askD
  rw [e1, f1, e2, f2]
  have := hc d e3
  rw [List.all_eq_true] at this
  obtain ⟨r, hr⟩ := Option.isSome_iff_exists.mp (this d' f3)
  dsimp only
  rw [hr, ltB_T d d' r (ho d e3) (ho d' f3) hr]
  rfl
theorem kas_str (I : L2.Inv X pins st H s) {es : List D} {vs : List V} {us : List Value} (hd : es.all strQ = true) (r : RepL X.z th H es vs) (q : Vals vs us) {A : Around} :
    ∀ i j b C, askD es i j = some b → C b s → PySem.W.kas_ask X.prog X.w A oneType' us i j C s := fun i j b C e hC => by
  rw [List.all_eq_true] at hd
  unfold askD at e
  cases e1 : es[i]? with
  | none => rw [e1] at e; cases e
  | some d =>
    cases e2 : es[j]? with
    | none => rw [e1, e2] at e; cases e
    | some d' =>
      rw [e1, e2] at e
      have s1 := hd d (List.mem_of_getElem? e1)
      have s2 := hd d' (List.mem_of_getElem? e2)
      cases d <;> first | (cases s1; done) | skip
      cases d' <;> first | (cases s2; done) | skip
      rename_i x y
      unfold ltB at e
      cases e
      obtain ⟨v, v1, v2⟩ := r.get e1
      obtain ⟨v', v1', v2'⟩ := r.get e2
      obtain ⟨u, u1, u2⟩ := q.get v1
      obtain ⟨u', u1', u2'⟩ := q.get v1'
      obtain ⟨rfl, _⟩ := (show _ ∧ _ from v2)
      obtain ⟨rfl, _⟩ := (show _ ∧ _ from v2')
      obtain ⟨t, rfl⟩ := u2
      obtain ⟨t', rfl⟩ := u2'
      unfold PySem.W.kas_ask
      rw [List.getD_eq_getElem?_getD, List.getD_eq_getElem?_getD, u1, u1']
      exact PySem.W.kas_lt_str hC
theorem strs_are {es : List D} {vs : List V} {us : List Value} (hd : es.all strQ = true) (r : RepL X.z th H es vs) (q : Vals vs us) : ∃ ss, StrsAre us ss := by
  refine ⟨_, strsAre_map us fun u hu => ?_⟩
  obtain ⟨i, ei⟩ := List.mem_iff_getElem?.mp hu
  have hi : i < es.length := by
    have := (List.getElem?_eq_some_iff.mp ei).1
    rw [← q.length, r.len] at this
    exact this
  rw [List.all_eq_true] at hd
  obtain ⟨v, v1, v2⟩ := r.get (List.getElem?_eq_getElem hi)
  have hs := hd _ (List.getElem_mem hi)
  obtain ⟨u', u1, u2⟩ := q.get v1
  rw [ei] at u1
  cases u1
  cases e : es[i] <;> rw [e] at hs v2 <;> first | (cases hs; done) | skip
  obtain ⟨rfl, _⟩ := (show _ ∧ _ from v2)
  obtain ⟨t, rfl⟩ := u2
  exact ⟨_, t, rfl⟩
theorem sorts (hu : X.A.units + 64 < cLine) (I : L2.Inv X pins st H s) {es : List D} {vs : List V} {zs : List Value} (h2 : RepL X.z th H es vs) (rv : Vals vs zs) (ok : srtOk es = true) :
    ∃ ws out, RepL X.z th H (srtD es) ws ∧ Vals ws out ∧ SortsTo X.prog X.w X.A.in1.in1 zs out s := by
  unfold srtOk at ok
  rw [Bool.and_eq_true, Bool.and_eq_true, Bool.and_eq_true, decide_eq_true_eq, Bool.or_eq_true] at ok
  obtain ⟨⟨⟨c64, ho⟩, hc⟩, hk⟩ := ok
  have ho' : ∀ d ∈ es, ordK d = true := by rw [List.all_eq_true] at ho; exact ho
  have lz : zs.length = es.length := by rw [← rv.length, h2.len]
  by_cases c2 : es.length < 2
  · have : srtD es = es := by
      refine (srtD_eq ho' (List.Perm.refl _) ?_).symm
      match es, c2 with
      | [], _ => exact .nil
      | [_], _ => exact List.pairwise_singleton _ _
      | _ :: _ :: _, c2 => exact absurd c2 (by simp only [List.length_cons]; omega)
    rw [this]
    exact ⟨vs, zs, h2, rv, fun h1 a P E' hk fr hl hP => sort_few hl (by rw [lz]; exact c2) hP⟩
  · obtain ⟨p, p1, pm, up⟩ := sort_ok (ask_pre ho hc) (by omega)
    have pl : p.size = es.length := by rw [← Array.length_toList, pm.length_eq, List.length_range]
    have inn : ∀ i ∈ p.toList, i < es.length := fun i hi => List.mem_range.mp (pm.mem_iff.mp hi)
    have es_eq : p.toList.map (fun i => es.getD i .non) = srtD es := by
      refine srtD_eq ho' ?_ ?_
      · refine (pm.map _).trans ?_
        have : (List.range es.length).map (fun i => es.getD i .non) = es := by
          refine List.ext_getElem? fun i => ?_
          rw [List.getElem?_map]
          by_cases hi : i < es.length
          · simp [hi]
          · simp [hi]
        rw [this]
      · (rw [List.pairwise_iff_getElem])
        intro i j hi hj hij
        rw [List.length_map, Array.length_toList, pl] at hi hj
        have := up i j (Nat.le_of_lt hij) hj
        rw [gi_at (by omega), gi_at (by omega)] at this
        dsimp only at this
        unfold leT
        (simp only [List.getElem_map, Array.getElem_toList])
        rw [this]
        rfl
    refine ⟨p.toList.map fun i => vs.getD i .non, p.toList.map fun i => zs.getD i Value.none, ?_, ?_, fun h1 a P E' hk1 fr hl hP => ?_⟩
    · rw [← es_eq]
      exact RepL.pick (ds := es) (vs := vs) _ _ _ fun i hi => by
        have hi' := inn i hi
        obtain ⟨v, ev, rv'⟩ := h2.get (show es[i]? = some es[i] by simp [hi'])
        rw [List.getD_eq_getElem?_getD, List.getD_eq_getElem?_getD, ev, show es[i]? = some es[i] by simp [hi']]
        exact rv'
    · exact Vals.pick rv _ _ _ fun i hi => by
        have hi' := inn i hi
        obtain ⟨v, ev, _⟩ := h2.get (show es[i]? = some es[i] by simp [hi'])
        obtain ⟨u, eu, ru⟩ := rv.get ev
        rw [List.getD_eq_getElem?_getD, List.getD_eq_getElem?_getD, ev, eu]
        exact ru
    · have I6 : L2.Inv X pins st H { s with heap := ((h1.update a (Obj.mapSeq fun _ => #[])).push (seqObj "tuple" zs.toArray 0)).push (seqObj "list" #[] 0) } := I.kept (t' := s.toks) fun b o q => by
        refine Heap.get?_push_of_some _ (Heap.get?_push_of_some _ ?_)
        rw [Heap.get?_update_ne _ _ _ _ (fun z => by rw [z, fr] at q; cases q)]
        exact hk1 b o q
      rcases hk with hk | hk
      · obtain ⟨ss, hS⟩ := strs_are hk h2 rv
        refine sort_by (kd := oneType') p (by rw [lz]; exact pl) hl (by rw [lz]; omega) (by rw [lz]; exact c64) (fun Q' E2 hq => ?_) (fun G hG => ?_) hP
        · match zs, hS, lz with
          | [], _, lz => simp at lz; omega
          | [_], _, lz => simp at lz; omega
          | v1 :: v2 :: r, hS, _ => rw [keyKind_strs hS]; exact wpAny_pure hq
        · rw [lz]
          exact kasRun_wp (fun i j b C ea hC => kas_str I6 hk h2 rv i j b C ea hC) _ p G p1 hG
      · obtain ⟨fs, f1, f2, f3⟩ := katTups_of I6 hk h2 rv
        refine sort_by (kd := tuples' true) p (by rw [lz]; exact pl) hl (by rw [lz]; omega) (by rw [lz]; exact c64) (fun Q' E2 hq => PySem.W.kat_kind f1 (by rw [f2]; omega) (T := .type "str") (fun v hv => ?_) rfl hq) (fun G hG => ?_) hP
        · obtain ⟨x, tk, rfl⟩ := f3 v hv
          exact fun A Q E s _ hq => wpAny_typeOf (typeIs_str s x tk) hq
        · rw [lz]
          exact kasRun_wp (fun i j b C ea hC => ask_at I6 hk h2 rv (A := X.A.in1.in1) (by show X.A.units + 1 + 1 + 60 < cLine; omega) i j b C ea hC) _ p G p1 hG
end
end PV
namespace PV
open PySem L2 PySem.Spec PyProof.Rows
noncomputable def addD1 (r : List D) (v : D) : List D := if v ∈ r then r else r ++ [v]
noncomputable def onceD (es : List D) : List D := es.foldl addD1 []
end PV
namespace PV
open PySem L2 PySem.Spec PyProof.Rows
section
variable {X : Cx} {K : Zc} {th : List Addr} {mu : Sto} {H : Hp} {pins : List (Addr × Obj)} {st : L2.St} {s : Shared}
def lenC : Fn := fun ds mu => match ds with
  | [.set es] => some (.int es.length, mu)
  | [d] => (dctOf mu d).map fun p => (.int p.1.length, mu)
  | _ => none
theorem lenC_inv {ds : List D} {r : D × Sto} (h : lenC ds mu = some r) : (∃ es, ds = [.set es] ∧ r = (.int es.length, mu)) ∨ ∃ d p, ds = [d] ∧ dctOf mu d = some p ∧ r = (.int p.1.length, mu) := by
  unfold lenC at h
  split at h
  · cases h; exact .inl ⟨_, rfl, rfl⟩
  · rename_i d _
    cases e : dctOf mu d with
    | none => rw [e] at h; cases h
    | some p => rw [e] at h; cases h; exact .inr ⟨d, p, rfl, e, rfl⟩
  · cases h
theorem call_lenC : CallV X (.builtin "len") lenC := by
  intro pins s st H xs us Q I r h
  obtain ⟨th, mu, ds, so, rd, t⟩ := h
  obtain ⟨a0, mu0, e0, _⟩ := id t
  rcases lenC_inv e0 with ⟨es, rfl, er⟩ | ⟨d, p, rfl, ed, er⟩
  · rw [e0] at t
    cases er
    obtain ⟨x, rfl, rx⟩ := one_arg rd
    unfold Rep at rx
    obtain ⟨a, us', vs, rfl, _, h1, h2, h3, _⟩ := rx
    obtain ⟨u, rfl, ru⟩ := vals1 r
    cases ru
    obtain ⟨⟨o, tes, ep, tb, ho, hex, hd, sb, hf, hv, _⟩, _⟩ := (show ObjOk X.prog X.w H s.heap a (SetO X.w a us') from I.hok a _ h1)
    have ln : tes.size = es.length := by
      have e1 : us'.length = tes.size := by have := hv.length; simpa using this
      rw [← e1, h2.length_eq, h3.len]
    refine PySem.call_len_set ho hex hd hf (by unfold scanBound at sb; omega) ⟨.int es.length, H, I.tok _, ⟨_, by rw [ln]⟩, t.ret so _ rfl⟩
  · rw [e0] at t
    cases er
    obtain ⟨x, rfl, rx⟩ := one_arg rd
    obtain ⟨a, rfl, dc⟩ := dctOf_rep so ed rx
    obtain ⟨u, rfl, ru⟩ := vals1 r
    cases ru
    obtain ⟨xs', o, es, ep, h1, g⟩ := dc_open I dc
    have ty : s.TypeIs (.ref a) "dict" := ⟨o, g.at', g.ex.1⟩
    have ln : es.size = p.1.length := by rw [pair_len g.en, Array.length_toList]
    have fit : ((p.1.length : Nat) : Int) < 2 ^ 63 := by
      have := (dc_len dc).2.len
      rw [sizeLine_eq] at this
      omega
    have hM : MeetsIn X.prog X.w (Builtin.«dict.__len__» ⟨[.ref a], []⟩) (fun _ R s => s.heap.get? a = some o ∧ R (.ok (.ret (.int p.1.length s.toks))) { s with toks := s.toks + 1 }) := .of_wp fun A R s ⟨g0, h⟩ => by
      refine (?_ : wpAny _ _ (dictSize a >>= _) _ _ s)
      unfold dictSize
      refine wpAny_bind (wpAny_bind (wpAny_dictEntries g0 g.dt (wpAny_pure (?_ : wpAny _ _ (Builtin.Dict.pendingCount a >>= _) _ _ s))))
      refine wpAny_bind (wpAny_pendingCount_other g.ns (wpAny_ret_mkInt ?_))
      rw [Nat.add_zero, ln]
      exact h
    (refine Calls.call_function_entry kind_len plain_len entry_len (args_len1 _) ?_)
    unfold Builtin.«len»
    refine wpAny_bind (m := oneArg "len" _) (wpAny_pure (wpAny_bind (m := callSpecial? (.ref a) (Str.ofString "__len__")) (wpAny_callSpecial?_slot (name := Str.ofString "__len__") ty F.slot_dict_len (call_meetsIn F.slot_dict_len ty F.entry_dict_len (F.args_dict_len_1 _) hM ⟨g.at', ?_⟩))))
    refine (?_ : wpAny _ _ _ _ _ { s with toks := s.toks + 1 })
    refine wpAny_bind (wpAny_holding (wpAny_pure (wpAny_bind (wpAny_letGo (?_ : wpAny _ _ (if ((p.1.length : Nat) : Int) < 0 then _ else _) _ _ _)))))
    rw [if_neg (by omega)]
    refine (?_ : wpAny _ _ (if ((p.1.length : Nat) : Int) ≥ 2 ^ 63 then _ else _) _ _ _)
    rw [if_neg (by omega)]
    exact wpAny_bind (wpAny_mkInt (wpAny_pure ⟨_, rfl, ⟨.int p.1.length, H, I.tok _, ⟨_, rfl⟩, t.ret so _ rfl⟩⟩))
def lenG : Fn := fun ds mu => match lenF ds mu with | some r => some r | none => lenC ds mu
theorem call_lenG : CallV X (.builtin "len") lenG := CallV.or call_lenD call_lenC
def gthD (mu : Sto) : D → Option (List D)
  | .set es => some es
  | d => seqOf mu d
def srtU : Fn := fun ds mu => match arg1 ds with
  | some d => match gthD mu d with
    | some es => if srtOk es = true then some (.lst (srtD es), mu) else none
    | none => none
  | none => none
theorem srtU_inv {ds : List D} {r : D × Sto} (h : srtU ds mu = some r) : ∃ d es, ds = [d] ∧ gthD mu d = some es ∧ srtOk es = true ∧ r = (.lst (srtD es), mu) := by
  unfold srtU at h
  split at h
  · rename_i d e
    split at h
    · rename_i es e2
      split at h
      · rename_i c; cases h; exact ⟨d, es, arg1_inv e, e2, c, rfl⟩
      · cases h
    · cases h
  · cases h
theorem srtOk_perm {es fs : List D} (p : fs.Perm es) (h : srtOk es = true) : srtOk fs = true := by
  unfold srtOk cmpOk at *
  rw [Bool.and_eq_true, Bool.and_eq_true, Bool.and_eq_true, decide_eq_true_eq, Bool.or_eq_true] at *
  simp only [List.all_eq_true] at *
  obtain ⟨⟨⟨a, b⟩, c⟩, d⟩ := h
  exact ⟨⟨⟨by rw [p.length_eq]; exact a, fun x hx => b x (p.mem_iff.mp hx)⟩, fun x hx y hy => c x (p.mem_iff.mp hx) y (p.mem_iff.mp hy)⟩, d.imp (fun z x hx => z x (p.mem_iff.mp hx)) fun z x hx => z x (p.mem_iff.mp hx)⟩
theorem srtOk_ord {es : List D} (h : srtOk es = true) : ∀ d ∈ es, ordK d = true := by
  unfold srtOk at h
  rw [Bool.and_eq_true, Bool.and_eq_true, Bool.and_eq_true] at h
  exact List.all_eq_true.mp h.1.1.2
theorem RepL.perm {ds : List D} {vs us : List V} (p : us.Perm vs) (r : RepL K th H ds vs) : ∃ ds', ds'.Perm ds ∧ RepL K th H ds' us := by
  induction p generalizing ds with
  | nil => exact ⟨ds, List.Perm.refl _, r⟩
  | cons x p ih =>
    cases ds with
    | nil => cases r.inv0
    | cons d ds =>
      obtain ⟨v, r', e, a, b⟩ := r.inv
      cases e
      obtain ⟨ds', q1, q2⟩ := ih b
      exact ⟨d :: ds', q1.cons d, .cons a q2⟩
  | swap x y l =>
    cases ds with
    | nil => cases r.inv0
    | cons d ds =>
      obtain ⟨v, r', e, a, b⟩ := r.inv
      cases e
      cases ds with
      | nil => cases b.inv0
      | cons d' ds =>
        obtain ⟨v', r2, e', a', b'⟩ := b.inv
        cases e'
        exact ⟨d' :: d :: ds, List.Perm.swap _ _ _, .cons a' (.cons a b')⟩
  | trans p q ih1 ih2 =>
    obtain ⟨ds1, a1, b1⟩ := ih2 r
    obtain ⟨ds2, a2, b2⟩ := ih1 b1
    exact ⟨ds2, a2.trans a1, b2⟩
theorem Vals.perm {vs : List V} {us us' : List Value} (p : us'.Perm us) (r : Vals vs us) : ∃ vs', vs'.Perm vs ∧ Vals vs' us' := by
  induction p generalizing vs with
  | nil => cases r; exact ⟨[], .nil, .nil⟩
  | cons x p ih =>
    cases r with
    | cons a b => obtain ⟨vs', q1, q2⟩ := ih b; exact ⟨_, q1.cons _, .cons a q2⟩
  | swap x y l =>
    cases r with
    | cons a b =>
      cases b with
      | cons a' b' => exact ⟨_, List.Perm.swap _ _ _, .cons a' (.cons a b')⟩
  | trans p q ih1 ih2 =>
    obtain ⟨v1, a1, b1⟩ := ih2 r
    obtain ⟨v2, a2, b2⟩ := ih1 b1
    exact ⟨v2, a2.trans a1, b2⟩
theorem call_srtU (hu : X.A.units + 64 < cLine) (hc : X.calm = true) : CallV X (.builtin "sorted") srtU := by
  intro pins s st H xs us Q I r h
  obtain ⟨th, mu, ds, so, rd, t⟩ := h
  obtain ⟨a0, mu0, e0, _⟩ := id t
  obtain ⟨d, es, rfl, eg, ok, er⟩ := srtU_inv e0
  rw [e0] at t
  cases er
  obtain ⟨x, rfl, rx⟩ := one_arg rd
  obtain ⟨u, rfl, ru⟩ := vals1 r
  have fin : ∀ (fs : List D) (vs : List V) (zs : List Value) (h1 : Heap) (tk : Nat) d', fs.Perm es → RepL X.z th H fs vs → Vals vs zs → (∀ b o, s.heap.get? b = some o → h1.get? b = some o) → zs.length ≤ sizeLine ∧ ∃ out, SortsTo X.prog X.w X.A.in1.in1 zs out { s with heap := h1, toks := tk, drawn := d' } ∧
      ∀ h' e a, (∀ b o, h1.get? b = some o → h'.get? b = some o) → h1.objs.size ≤ a → h'.get? a = some (seqObj "list" out.toArray e) → EP X pins st Q (.ref a) { s with heap := h', toks := tk, drawn := d' } := fun fs vs zs h1 tk d' p h2 rv hk => by
    have I0 : L2.Inv X pins st H { s with drawn := d' } := ⟨I.ok, I.os, I.bare, I.base, I.loc, I.cell, I.free, I.freeC, I.pin, I.hok, I.len⟩
    have I1 : L2.Inv X pins st H { s with heap := h1, toks := tk, drawn := d' } := I0.kept (t' := tk) hk
    have okf := srtOk_perm p ok
    have l64 : fs.length < 64 := by
      unfold srtOk at okf
      rw [Bool.and_eq_true, Bool.and_eq_true, Bool.and_eq_true, decide_eq_true_eq] at okf
      exact okf.1.1.1
    have lz : zs.length = fs.length := by rw [← rv.length, h2.len]
    obtain ⟨ws, out, w1, w2, w3⟩ := sorts hu I1 h2 rv okf
    rw [srtD_same (srtOk_ord ok) p] at w1
    have z64 : 64 ≤ sizeLine := by rw [sizeLine_eq]; decide
    have wl : (srtD es).length ≤ sizeLine := by rw [(srtD_perm es).length_eq, ← p.length_eq]; omega
    refine ⟨by omega, out, w3, fun h' e a hk' ha he => ?_⟩
    have hp : H a = none := I1.hok.fresh ha
    refine ⟨.ref a, _, I1.laid (t' := tk) (o := .lst ws) hk' ha ⟨by rw [w1.len]; exact wl, out, e, w2, he⟩, rfl, ?_⟩
    exact t.retX (.new hp _) (so.new hp _) _ (Rep.newLst so hp w1 wl)
  refine sorted_of ?_
  have seqc : ∀ (T : String) (a : Addr) (ob : Obj) (vs : List V) (zs : List Value) (n : Nat), (T = "list" ∨ T = "tuple") → s.heap.get? a = some ob → ob.cls = .type T → ob.data = .seq zs.toArray n → Vals vs zs → RepL X.z th H es vs → es.length ≤ sizeLine → wpAny (model X.prog X.w) X.A.in1 (collect (.ref a)) (fun zs s1 => zs.length ≤ sizeLine ∧ ∃ out, SortsTo X.prog X.w X.A.in1.in1 zs out s1 ∧ ∀ h' e a, (∀ b o, s1.heap.get? b = some o → h'.get? b = some o) → s1.heap.objs.size ≤ a → h'.get? a = some (seqObj "list" out.toArray e) → EP X pins st Q (.ref a) { s1 with heap := h' }) X.xe s := fun T a ob vs zs n hT g1 g2 g3 rv h2 hz => by
    refine gather_seq hT g1 g2 g3 ?_ (by rw [← rv.length, h2.len]; exact hz)
    refine fin es vs zs _ s.toks s.drawn (List.Perm.refl _) h2 rv fun b o e => ?_
    have lt := Heap.lt_size e
    rw [Heap.get?_update_ne _ _ _ _ (Nat.ne_of_lt lt), Heap.get?_push_ne _ _ _ (Nat.ne_of_lt lt)]
    exact e
  have sq : seqOf mu d = some es → wpAny (model X.prog X.w) X.A.in1 (collect u) (fun zs s1 => zs.length ≤ sizeLine ∧ ∃ out, SortsTo X.prog X.w X.A.in1.in1 zs out s1 ∧ ∀ h' e a, (∀ b o, s1.heap.get? b = some o → h'.get? b = some o) → s1.heap.objs.size ≤ a → h'.get? a = some (seqObj "list" out.toArray e) → EP X pins st Q (.ref a) { s1 with heap := h' }) X.xe s := fun e2 => by
    obtain ⟨a, vs, rfl, h1, h2, h3⟩ := seqOf_rep so e2 rx
    cases ru
    rcases h1 with h1 | ⟨h1, _⟩
    · obtain ⟨its, rv, ⟨o, n, g1, g2, _, g3⟩, _⟩ := I.list h1
      exact seqc "list" a o vs its n (.inl rfl) g1 g2 g3 rv h2 h3
    · obtain ⟨its, rv, ⟨o, g1, g2, n, g3⟩, _⟩ := I.tuple h1
      exact seqc "tuple" a o vs its n (.inr rfl) g1 g2 g3 rv h2 h3
  unfold gthD at eg
  split at eg
  · cases eg
    unfold Rep at rx
    obtain ⟨a, us', vs, rfl, _, h1, h2, h3, _⟩ := rx
    cases ru
    obtain ⟨⟨o, tes, ep, tb, ho, hex, hd, sb, hf, hv, hw⟩, _⟩ := (show ObjOk X.prog X.w H s.heap a (SetO X.w a us') from I.hok a _ h1)
    refine gather_set (I.ok.hd hc) (fits_of_scanBound sb) ho hex.1 hd hf hw fun zs h' tk d' pm hk => ?_
    obtain ⟨ws, p1, r1⟩ := Vals.perm pm hv
    obtain ⟨fs, p2, r2⟩ := RepL.perm (p1.trans h2) h3
    exact fin fs ws zs h' tk d' p2 r2 r1 hk
  · exact sq eg
end
end PV
namespace PV
open PySem L2 PySem.Spec PyProof.Rows
mutual
def lowD (n : Nat) : D → Bool
  | .ref k => decide (k < n)
  | .tup ds => lowL n ds
  | .lst ds => lowL n ds
  | .dct ks ds => lowL n ks && lowL n ds
  | .set ds => lowL n ds
  | _ => true
def lowL (n : Nat) : List D → Bool
  | [] => true
  | d :: ds => lowD n d && lowL n ds
end
def lowM (n : Nat) : MO → Bool
  | .lst ds => lowL n ds
  | .dct ks ds => lowL n ks && lowL n ds
def frzL (g : D → Option D) : List D → Option (List D)
  | [] => some []
  | d :: ds => match g d, frzL g ds with
    | some d', some ds' => some (d' :: ds')
    | _, _ => none
def frz (n : Nat) (mu : Sto) : Nat → D → Option D
  | 0, d => if lowD n d = true then some d else none
  | f + 1, d => if lowD n d = true then some d else match d with
    | .ref k => match mu[k]? with
      | some (.lst ds) => (frzL (frz n mu f) ds).map .lst
      | some (.dct ks ds) => if lowL n ks = true then (frzL (frz n mu f) ds).map (.dct ks) else none
      | none => none
    | .tup ds => (frzL (frz n mu f) ds).map .tup
    | .lst ds => (frzL (frz n mu f) ds).map .lst
    | _ => none
def cutS (mu m1 : Sto) (d : D) : Rs D := match frz mu.length m1 3 d with
  | some d' => if (m1.take mu.length).all (lowM mu.length) = true then some (d', m1.take mu.length) else none
  | none => none
def fnG (n : Nat) (m : Sx) : Fn := fun ds mu => bM (m (ds.map some ++ List.replicate (n - ds.length) none) mu) fun p m1 => match p.1 with
  | .rt d => cutS mu m1 d
  | .nx => cutS mu m1 .non
  | _ => none
section
variable {K : Zc} {th th1 more : List Addr} {H : Hp} {mu : Sto}
mutual
theorem low_rep (pre : th1 = th ++ more) : ∀ {d : D} {v : V}, lowD th.length d = true → Rep K th1 H d v → Rep K th H d v
  | .non, _, _, h => h
  | .bl _, _, _, h => h
  | .int _, _, _, h => h
  | .str _, _, _, h => h
  | .tup ds, _, l, h => by
    unfold lowD at l
    unfold Rep at h ⊢
    obtain ⟨a, vs, q, h1, h2, z⟩ := h
    exact ⟨a, vs, q, h1, lowL_rep pre l h2, z⟩
  | .lst ds, _, l, h => by
    unfold lowD at l
    unfold Rep at h ⊢
    obtain ⟨a, vs, q, h1, h2, z⟩ := h
    exact ⟨a, vs, q, h1.imp (fun w => ⟨fun z => w.1 (by rw [pre]; exact List.mem_append_left _ z), w.2⟩) id, lowL_rep pre l h2, z⟩
  | .dct ks ds, _, l, h => by
    unfold lowD at l
    rw [Bool.and_eq_true] at l
    unfold Rep at h ⊢
    obtain ⟨a, xs, q, n, h1, h2, h3, h4, h5⟩ := h
    exact ⟨a, xs, q, fun z => n (by rw [pre]; exact List.mem_append_left _ z), h1, h2, lowL_rep pre l.1 h3, lowL_rep pre l.2 h4, h5⟩
  | .set ds, _, l, h => by
    unfold lowD at l
    unfold Rep at h ⊢
    obtain ⟨a, us, vs, q, n, h1, h2, h3, h4⟩ := h
    exact ⟨a, us, vs, q, fun z => n (by rw [pre]; exact List.mem_append_left _ z), h1, h2, lowL_rep pre l h3, h4⟩
  | .ref k, _, l, h => by
    unfold lowD at l
    rw [decide_eq_true_eq] at l
    unfold Rep at h ⊢
    obtain ⟨a, q, h1⟩ := h
    rw [pre, List.getElem?_append_left l] at h1
    exact ⟨a, q, h1⟩
theorem lowL_rep (pre : th1 = th ++ more) : ∀ {ds : List D} {vs : List V}, lowL th.length ds = true → RepL K th1 H ds vs → RepL K th H ds vs
  | [], _, _, h => by rw [h.inv0]; exact .nil
  | d :: ds, _, l, h => by
    unfold lowL at l
    rw [Bool.and_eq_true] at l
    obtain ⟨v, r, rfl, h1, h2⟩ := h.inv
    exact .cons (low_rep pre l.1 h1) (lowL_rep pre l.2 h2)
end
theorem frzL_rep {g : D → Option D} (hg : ∀ d d' v, g d = some d' → Rep K th1 H d v → Rep K th H d' v) : ∀ {ds ds' : List D} {vs : List V}, frzL g ds = some ds' → RepL K th1 H ds vs → RepL K th H ds' vs ∧ ds'.length = ds.length
  | [], ds', vs, e, h => by cases e; rw [h.inv0]; exact ⟨.nil, rfl⟩
  | d :: ds, ds', vs, e, h => by
    obtain ⟨v, r, rfl, h1, h2⟩ := h.inv
    unfold frzL at e
    split at e
    · rename_i d2 ds2 e1 e2
      cases e
      obtain ⟨a, b⟩ := frzL_rep hg e2 h2
      exact ⟨.cons (hg _ _ _ e1 h1) a, by simp [b]⟩
    · cases e
theorem frz_rep (so : StoOk K th1 mu H) (pre : th1 = th ++ more) : ∀ (f : Nat) (d d' : D) (v : V), frz th.length mu f d = some d' → Rep K th1 H d v → Rep K th H d' v
  | 0, d, d', v, e, h => by
    unfold frz at e
    split at e
    · rename_i c; cases e; exact low_rep pre c h
    · cases e
  | f + 1, d, d', v, e, h => by
    have ih := frz_rep so pre f
    unfold frz at e
    split at e
    · rename_i c; cases e; exact low_rep pre c h
    · rename_i c
      have kp : ∀ {k : Nat} {a : Addr}, ¬ k < th.length → th1[k]? = some a → a ∉ th := fun {k a} hk ha z => by
        obtain ⟨i, hi, ei⟩ := List.mem_iff_getElem.mp z
        have : th1[i]? = some a := by rw [pre, List.getElem?_append_left hi, List.getElem?_eq_getElem hi, ei]
        have := nd_ix so.nd this ha
        omega
      split at e
      · rename_i k
        have hk : ¬ k < th.length := by unfold lowD at c; simpa using c
        unfold Rep at h
        obtain ⟨a, rfl, ha⟩ := h
        split at e
        · rename_i ds em
          cases q : frzL (frz th.length mu f) ds with
          | none => rw [q] at e; cases e
          | some ds' =>
            rw [q] at e
            cases e
            obtain ⟨vs, h1, h2, h3⟩ := so.at' k a _ ha em
            obtain ⟨r1, r2⟩ := frzL_rep ih q h2
            unfold Rep
            exact ⟨a, vs, rfl, .inl ⟨kp hk ha, .inl h1⟩, r1, by rw [r2]; exact h3⟩
        · rename_i ks ds em
          split at e
          · rename_i lk
            cases q : frzL (frz th.length mu f) ds with
            | none => rw [q] at e; cases e
            | some ds' =>
              rw [q] at e
              cases e
              obtain ⟨xs, h1, h2, h3, h4, h5⟩ := so.at' k a _ ha em
              obtain ⟨r1, r2⟩ := frzL_rep ih q h4
              unfold Rep
              exact ⟨a, xs, rfl, kp hk ha, h1, h2, lowL_rep pre lk h3, r1, h5⟩
          · cases e
        · cases e
      · rename_i ds
        cases q : frzL (frz th.length mu f) ds with
        | none => rw [q] at e; cases e
        | some ds' =>
          rw [q] at e
          cases e
          unfold Rep at h ⊢
          obtain ⟨a, vs, rfl, h1, h2, h3⟩ := h
          obtain ⟨r1, r2⟩ := frzL_rep ih q h2
          exact ⟨a, vs, rfl, h1, r1, by rw [r2]; exact h3⟩
      · rename_i ds
        cases q : frzL (frz th.length mu f) ds with
        | none => rw [q] at e; cases e
        | some ds' =>
          rw [q] at e
          cases e
          unfold Rep at h ⊢
          obtain ⟨a, vs, rfl, h1, h2, h3⟩ := h
          obtain ⟨r1, r2⟩ := frzL_rep ih q h2
          exact ⟨a, vs, rfl, h1.imp (fun w => ⟨fun z => w.1 (by rw [pre]; exact List.mem_append_left _ z), w.2⟩) id, r1, by rw [r2]; exact h3⟩
      · cases e
theorem sto_cut (so : StoOk K th1 mu H) (pre : th1 = th ++ more) (hl : (mu.take th.length).all (lowM th.length) = true) : StoOk K th (mu.take th.length) H := by
  have len : th.length ≤ mu.length := by rw [← so.len, pre, List.length_append]; omega
  refine ⟨by rw [List.length_take]; omega, ?_, fun k a o e1 e2 => ?_⟩
  · have := so.nd
    rw [pre] at this
    exact (List.nodup_append.mp this).1
  · have hk := (List.getElem?_eq_some_iff.mp e1).1
    rw [List.getElem?_take_of_lt hk] at e2
    have q := so.at' k a o (by rw [pre, List.getElem?_append_left hk]; exact e1) e2
    have lo := List.all_eq_true.mp hl o (List.mem_of_getElem? (by rw [List.getElem?_take_of_lt hk]; exact e2))
    cases o with
    | lst ds => obtain ⟨vs, q1, q2, z⟩ := q; exact ⟨vs, q1, lowL_rep pre lo q2, z⟩
    | dct ks ds =>
      unfold lowM at lo
      rw [Bool.and_eq_true] at lo
      obtain ⟨xs, q1, q2, q3, q4, z⟩ := q
      exact ⟨xs, q1, q2, lowL_rep pre lo.1 q3, lowL_rep pre lo.2 q4, z⟩
end
theorem fn_svG {P : Program} {w : World} {K : PySem.W.Frag} {mg : Str → Option Value} {base : Heap} {x qual : Str} {st : Stmt} {f : Addr} {fd : FuncData} {N ps : List Str} {k : Nat} {m : Sx} (n j : Nat) (F : Fun K x qual st f fd) (S : FnScope N ps (defScope st)) (hn : N.length = n) (hj : ps.length = j)
    (hbody : ∀ (cdv : Value) (A : Around) (outer : List Env) (s : Shared) (H : Hp) (E : XK), Room k (A.deeper (envOfC qual (defScope st) s.heap.objs.size f cdv)) →
      SVB (cxOf CX0 P w K mg base N qual (defScope st) f cdv A outer s H E).nox (defBody st) m) : FnOk P w K mg base CX0 (k + 1) f fd ps (spF ⟨K, P, w⟩ (fnG n m) j) := by
  subst hn hj
  refine F.ok S (fun vs H Q E h => ?_) (fun cdv A outer s H vs Q E hr h => ?_)
  · obtain ⟨th, mu, ds, _, r, hl, _⟩ := h
    rw [r.len]
    exact hl
  · obtain ⟨th, mu, ds, so, r, hl, t⟩ := h
    refine ⟨_, (hbody cdv A outer s H E hr).r, ?_⟩
    obtain ⟨d0, mu0, e0, q0⟩ := id t
    obtain ⟨p, m1, e1, e2⟩ := bM_inv e0
    refine ⟨th, mu, _, so, envOk_start r, p, m1, e1, fun th1 H1 x1 s1 st' en' => ?_⟩
    obtain ⟨fl, ro'⟩ := p
    obtain ⟨more, pre⟩ := x1.pre
    have done : ∀ (d : D) (v : V), cutS mu m1 d = some (d0, mu0) → Rep ⟨K, P, w⟩ th1 H1 d v → Q v H1 := fun d v ec rv => by
      unfold cutS at ec
      split at ec
      · rename_i d' ef
        split at ec
        · rename_i hl
          cases ec
          rw [← so.len] at ef hl q0
          exact q0 th H1 ⟨⟨[], by simp⟩, fun _ _ n _ => n, x1.keep⟩ (sto_cut s1 pre hl) v (frz_rep s1 pre 3 d d0 v ef rv)
        · cases ec
      · cases ec
    cases fl with
    | rt d => exact fun v rv => done d v e2 rv
    | nx => exact done .non .non e2 (by unfold Rep; rfl)
    | bk => cases e2
    | ct => cases e2
end PV
namespace PV
open PySem L2 PySem.Spec PyProof.Rows
def DAt (h : Heap) (d : Addr) (es : Array DictEntry) (ep : Nat) : Prop := ∃ o, h.get? d = some o ∧ o.data = .dict es ep
def DIt (T : String) (d I : Addr) (es : Array DictEntry) (ep i : Nat) (h : Heap) : Prop := DAt h d es ep ∧ ∃ o, h.get? I = some o ∧ o.cls = .type T ∧ o.data = .fields #[.ref d, .int i 0, .int es.size 0, .int ep 0]
section
variable {prog : Program} {w : World} {A : Around} {E : Value → Shared → Prop} {s : Shared}
theorem DIt.ty {T : String} {d I : Addr} {es : Array DictEntry} {ep i : Nat} (g : DIt T d I es ep i s.heap) : s.TypeIs (.ref I) T := let ⟨_, o, a, b, _⟩ := g; ⟨o, a, b⟩
theorem DIt.step {T : String} {d I : Addr} {es : Array DictEntry} {ep i : Nat} {h : Heap} (ne : d ≠ I) (g : DIt T d I es ep i h) : DIt T d I es ep (i + 1) (h.update I (Obj.mapFields (·.setIfInBounds 1 (rawInt ((i : Int) + 1))))) := by
  obtain ⟨⟨od, d1, d2⟩, o, a, b, c⟩ := g
  exact ⟨⟨od, ((Heap.SameBut.update ..).2 d ne).trans d1, d2⟩, _, Heap.get?_update_self _ a (Obj.isFreed_of_fields (Obj.data_mapFields c _)), (Obj.cls_mapFields ..).trans b, by rw [Obj.data_mapFields c]; simp [rawInt]⟩
theorem dky_next {d I : Addr} {es : Array DictEntry} {ep i : Nat} {Q : Option Value → Shared → Prop} (ne : d ≠ I) (g : DIt "dict_keyiterator" d I es ep i s.heap) (hi : i < es.size)
    (q : ∀ h', DIt "dict_keyiterator" d I es ep (i + 1) h' → Heap.SameBut I s.heap h' → Q (some es[i].key) { s with heap := h' }) : wpAny (model prog w) A (pyNext (.ref I)) Q E s := by
  obtain ⟨⟨od, d1, d2⟩, o, a, b, c⟩ := id g
  unfold pyNext
  refine wpAny_bind (wpAny_attempt (wpAny_callSpecial?_slot (name := Str.ofString "__next__") g.ty F.slot_dict_keyiterator_next (wpAny_call_entry F.slot_dict_keyiterator_next g.ty F.entry_dict_keyiterator_next ?_ (F.args_dict_keyiterator_next_1 _))))
  refine wpAny_bind (wpAny_pure (wpAny_bind (wpAny_bind ?_)))
  refine wpAny_bind (wpAny_typeNameOfWhole_keyiter g.ty (wpAny_pure (wpAny_bind (wpAny_fieldsOf a c ?_))))
  simp only [show Builtin.Dict_items.ownsTuple "dict_keyiterator" = false by decide, Bool.false_eq_true, if_false]
  refine (?_ : wpAny _ _ (if (Value.ref d == Value.none) = true then _ else _) _ _ s)
  (rw [if_neg (show ¬ ((Value.ref d == Value.none) = true) from Bool.false_ne_true)])
  refine wpAny_bind (wpAny_pure (wpAny_bind (wpAny_dictEntries d1 d2 ?_)))
  rw [if_neg (by simp)]
  refine wpAny_bind (wpAny_pure (wpAny_bind (wpAny_dictEpoch d1 d2 ?_)))
  rw [if_neg (by simp)]
  refine wpAny_pure ?_
  simp only [show ¬ ((i : Int) < 0) by omega, if_false, Int.toNat_natCast, Array.getElem?_eq_getElem hi]
  refine wpAny_bind (wpAny_bind (wpAny_typeNameOfWhole_keyiter g.ty (wpAny_pure ?_)))
  refine wpAny_bind (wpAny_isOneOf_keyiter g.ty ?_)
  refine (?_ : wpAny _ _ (setField (.ref I) 1 (rawInt ((i : Int) + 1)) >>= _) _ _ s)
  have g' := g.step ne
  refine wpAny_bind (wpAny_setField a c (by simp) (wpAny_bind (wpAny_holding ?_)))
  generalize hu : s.heap.update I (Obj.mapFields (·.setIfInBounds 1 (rawInt ((i : Int) + 1)))) = h2 at g' ⊢
  have sb : Heap.SameBut I s.heap h2 := by rw [← hu]; exact Heap.SameBut.update ..
  have t2 := DIt.ty (s := { s with heap := h2 }) g'
  refine wpAny_bind (wpAny_isOneOf_keyiter (s := { s with heap := h2 }) t2 ?_)
  refine (?_ : wpAny _ _ (pure es[i].key) _ _ _)
  exact wpAny_pure (wpAny_pure ⟨_, rfl, wpAny_pure (q _ g' sb)⟩)
theorem dky_stop {d I : Addr} {es : Array DictEntry} {ep : Nat} {Q : Option Value → Shared → Prop} (hh : A.handled = none) (g : DIt "dict_keyiterator" d I es ep es.size s.heap)
    (q : ∀ h', (∀ c o, c ≠ I → s.heap.get? c = some o → h'.get? c = some o) → Q none { s with heap := h' }) : wpAny (model prog w) A (pyNext (.ref I)) Q E s := by
  obtain ⟨⟨od, d1, d2⟩, o, a, b, c⟩ := id g
  unfold pyNext
  refine wpAny_bind (wpAny_attempt (wpAny_callSpecial?_slot (name := Str.ofString "__next__") g.ty F.slot_dict_keyiterator_next (wpAny_call_entry F.slot_dict_keyiterator_next g.ty F.entry_dict_keyiterator_next ?_ (F.args_dict_keyiterator_next_1 _))))
  refine wpAny_bind (wpAny_pure (wpAny_bind (wpAny_bind ?_)))
  refine wpAny_bind (wpAny_typeNameOfWhole_keyiter g.ty (wpAny_pure (wpAny_bind (wpAny_fieldsOf a c ?_))))
  simp only [show Builtin.Dict_items.ownsTuple "dict_keyiterator" = false by decide, Bool.false_eq_true, if_false]
  refine (?_ : wpAny _ _ (if (Value.ref d == Value.none) = true then _ else _) _ _ s)
  (rw [if_neg (show ¬ ((Value.ref d == Value.none) = true) from Bool.false_ne_true)])
  refine wpAny_bind (wpAny_pure (wpAny_bind (wpAny_dictEntries d1 d2 ?_)))
  rw [if_neg (by simp)]
  refine wpAny_bind (wpAny_pure (wpAny_bind (wpAny_dictEpoch d1 d2 ?_)))
  rw [if_neg (by simp)]
  refine wpAny_pure ?_
  simp only [show ¬ ((es.size : Int) < 0) by omega, if_false, Int.toNat_natCast, Array.getElem?_eq_none (Nat.le_refl es.size)]
  refine wpAny_bind (wpAny_bind (wpAny_typeNameOfWhole_keyiter g.ty (wpAny_pure ?_)))
  refine (?_ : wpAny _ _ (setField (.ref I) 0 .none >>= _) _ _ s)
  refine wpAny_bind (wpAny_setField a c (by simp) ?_)
  refine iter_raise (I := I) hh fun h' e z1 z2 => ?_
  obtain ⟨oe, he, hc⟩ := z2
  exact wpAny_bind (wpAny_isInstance (T := "StopIteration") (b := true) ⟨oe, he, hc⟩ isSubtype_stop (wpAny_pure (q h' fun c o hc z => z1 c o (((Heap.SameBut.update ..).2 c hc).trans z))))
theorem walks_dky (hh : A.handled = none) {d I : Addr} {es : Array DictEntry} {ep : Nat} (ne : d ≠ I) : Walks prog w A I [I, d] [I] es.size (fun i v => ∃ e, es[i]? = some e ∧ e.key = v) (fun i h => DIt "dict_keyiterator" d I es ep i h) where
  sub := fun b hb => by rw [List.mem_singleton.mp hb]; simp
  frame := fun _ h1 h2 st hk => let ⟨⟨od, d1, d2⟩, o, a, b⟩ := st; ⟨⟨od, hk d (by simp) _ d1, d2⟩, o, hk I (by simp) _ a, b⟩
  item := fun k s R E hi st hQ => dky_next ne st hi fun h' g' sb => hQ _ h' s.toks ⟨_, Array.getElem?_eq_getElem hi, rfl⟩ g' fun b o hb z => (sb.2 b (by simpa using hb)).trans z
  done := fun s R E st hQ => dky_stop hh st fun h' k => hQ h' s.toks fun b o hb z => k b o (by simpa using hb) z
  self := fun _ s R E st hQ => by
    refine wpAny_pyIter_slot st.ty F.slot_dict_keyiterator_iter (wpAny_call_entry F.slot_dict_keyiterator_iter st.ty F.entry_dict_keyiterator_iter ?_ (F.args_dict_keyiterator_iter_1 _))
    refine (?_ : wpAny _ _ (ret (.ref I)) _ _ s)
    exact wpAny_pure ⟨_, rfl, "dict_keyiterator", _, st.ty, F.slot_dict_keyiterator_next.lookup, hQ⟩
theorem dvl_next {d I : Addr} {es : Array DictEntry} {ep i : Nat} {Q : Option Value → Shared → Prop} (ne : d ≠ I) (g : DIt "dict_valueiterator" d I es ep i s.heap) (hi : i < es.size)
    (q : ∀ h', DIt "dict_valueiterator" d I es ep (i + 1) h' → Heap.SameBut I s.heap h' → Q (some es[i].val) { s with heap := h' }) : wpAny (model prog w) A (pyNext (.ref I)) Q E s := by
  obtain ⟨⟨od, d1, d2⟩, o, a, b, c⟩ := id g
  unfold pyNext
  refine wpAny_bind (wpAny_attempt (wpAny_callSpecial?_slot (name := Str.ofString "__next__") g.ty F.slot_dict_valueiterator_next (wpAny_call_entry F.slot_dict_valueiterator_next g.ty F.entry_dict_valueiterator_next ?_ (F.args_dict_valueiterator_next_1 _))))
  refine wpAny_bind (wpAny_pure (wpAny_bind (wpAny_bind ?_)))
  refine wpAny_bind (wpAny_typeNameOfWhole_valiter g.ty (wpAny_pure (wpAny_bind (wpAny_fieldsOf a c ?_))))
  simp only [show Builtin.Dict_items.ownsTuple "dict_valueiterator" = false by decide, Bool.false_eq_true, if_false]
  refine (?_ : wpAny _ _ (if (Value.ref d == Value.none) = true then _ else _) _ _ s)
  (rw [if_neg (show ¬ ((Value.ref d == Value.none) = true) from Bool.false_ne_true)])
  refine wpAny_bind (wpAny_pure (wpAny_bind (wpAny_dictEntries d1 d2 ?_)))
  rw [if_neg (by simp)]
  refine wpAny_bind (wpAny_pure (wpAny_bind (wpAny_dictEpoch d1 d2 ?_)))
  rw [if_neg (by simp)]
  refine wpAny_pure ?_
  simp only [show ¬ ((i : Int) < 0) by omega, if_false, Int.toNat_natCast, Array.getElem?_eq_getElem hi]
  refine wpAny_bind (wpAny_bind (wpAny_typeNameOfWhole_valiter g.ty (wpAny_pure ?_)))
  refine wpAny_bind (wpAny_isOneOf_valiter g.ty ?_)
  refine (?_ : wpAny _ _ (setField (.ref I) 1 (rawInt ((i : Int) + 1)) >>= _) _ _ s)
  have g' := g.step ne
  refine wpAny_bind (wpAny_setField a c (by simp) (wpAny_bind (wpAny_holding ?_)))
  generalize hu : s.heap.update I (Obj.mapFields (·.setIfInBounds 1 (rawInt ((i : Int) + 1)))) = h2 at g' ⊢
  have sb : Heap.SameBut I s.heap h2 := by rw [← hu]; exact Heap.SameBut.update ..
  have t2 := DIt.ty (s := { s with heap := h2 }) g'
  refine wpAny_bind (wpAny_isOneOf_valiter (s := { s with heap := h2 }) t2 ?_)
  refine wpAny_bind (wpAny_isOneOf_valiter (s := { s with heap := h2 }) t2 ?_)
  refine (?_ : wpAny _ _ (pure es[i].val) _ _ _)
  exact wpAny_pure (wpAny_pure ⟨_, rfl, wpAny_pure (q _ g' sb)⟩)
theorem dvl_stop {d I : Addr} {es : Array DictEntry} {ep : Nat} {Q : Option Value → Shared → Prop} (hh : A.handled = none) (g : DIt "dict_valueiterator" d I es ep es.size s.heap)
    (q : ∀ h', (∀ c o, c ≠ I → s.heap.get? c = some o → h'.get? c = some o) → Q none { s with heap := h' }) : wpAny (model prog w) A (pyNext (.ref I)) Q E s := by
  obtain ⟨⟨od, d1, d2⟩, o, a, b, c⟩ := id g
  unfold pyNext
  refine wpAny_bind (wpAny_attempt (wpAny_callSpecial?_slot (name := Str.ofString "__next__") g.ty F.slot_dict_valueiterator_next (wpAny_call_entry F.slot_dict_valueiterator_next g.ty F.entry_dict_valueiterator_next ?_ (F.args_dict_valueiterator_next_1 _))))
  refine wpAny_bind (wpAny_pure (wpAny_bind (wpAny_bind ?_)))
  refine wpAny_bind (wpAny_typeNameOfWhole_valiter g.ty (wpAny_pure (wpAny_bind (wpAny_fieldsOf a c ?_))))
  simp only [show Builtin.Dict_items.ownsTuple "dict_valueiterator" = false by decide, Bool.false_eq_true, if_false]
  refine (?_ : wpAny _ _ (if (Value.ref d == Value.none) = true then _ else _) _ _ s)
  (rw [if_neg (show ¬ ((Value.ref d == Value.none) = true) from Bool.false_ne_true)])
  refine wpAny_bind (wpAny_pure (wpAny_bind (wpAny_dictEntries d1 d2 ?_)))
  rw [if_neg (by simp)]
  refine wpAny_bind (wpAny_pure (wpAny_bind (wpAny_dictEpoch d1 d2 ?_)))
  rw [if_neg (by simp)]
  refine wpAny_pure ?_
  simp only [show ¬ ((es.size : Int) < 0) by omega, if_false, Int.toNat_natCast, Array.getElem?_eq_none (Nat.le_refl es.size)]
  refine wpAny_bind (wpAny_bind (wpAny_typeNameOfWhole_valiter g.ty (wpAny_pure ?_)))
  refine (?_ : wpAny _ _ (setField (.ref I) 0 .none >>= _) _ _ s)
  refine wpAny_bind (wpAny_setField a c (by simp) ?_)
  refine iter_raise (I := I) hh fun h' e z1 z2 => ?_
  obtain ⟨oe, he, hc⟩ := z2
  exact wpAny_bind (wpAny_isInstance (T := "StopIteration") (b := true) ⟨oe, he, hc⟩ isSubtype_stop (wpAny_pure (q h' fun c o hc z => z1 c o (((Heap.SameBut.update ..).2 c hc).trans z))))
theorem walks_dvl (hh : A.handled = none) {d I : Addr} {es : Array DictEntry} {ep : Nat} (ne : d ≠ I) : Walks prog w A I [I, d] [I] es.size (fun i v => ∃ e, es[i]? = some e ∧ e.val = v) (fun i h => DIt "dict_valueiterator" d I es ep i h) where
  sub := fun b hb => by rw [List.mem_singleton.mp hb]; simp
  frame := fun _ h1 h2 st hk => let ⟨⟨od, d1, d2⟩, o, a, b⟩ := st; ⟨⟨od, hk d (by simp) _ d1, d2⟩, o, hk I (by simp) _ a, b⟩
  item := fun k s R E hi st hQ => dvl_next ne st hi fun h' g' sb => hQ _ h' s.toks ⟨_, Array.getElem?_eq_getElem hi, rfl⟩ g' fun b o hb z => (sb.2 b (by simpa using hb)).trans z
  done := fun s R E st hQ => dvl_stop hh st fun h' k => hQ h' s.toks fun b o hb z => k b o (by simpa using hb) z
  self := fun _ s R E st hQ => by
    refine wpAny_pyIter_slot st.ty F.slot_dict_valueiterator_iter (wpAny_call_entry F.slot_dict_valueiterator_iter st.ty entry_dict_valueiterator_iter ?_ (F.args_dict_valueiterator_iter_1 _))
    refine (?_ : wpAny _ _ (ret (.ref I)) _ _ s)
    exact wpAny_pure ⟨_, rfl, "dict_valueiterator", _, st.ty, F.slot_dict_valueiterator_next.lookup, hQ⟩
end
end PV
namespace PV
open PySem L2 PySem.Spec PyProof.Rows
section
variable {prog : Program} {w : World} {A : Around} {E : Value → Shared → Prop} {s : Shared}
theorem pyIter_dky {d : Addr} {o : Obj} {es : Array DictEntry} {ep : Nat} {Q : Value → Shared → Prop} (ns : (d == sysModules) = false) (d1 : s.heap.get? d = some o) (dc : o.cls = .type "dict") (d2 : o.data = .dict es ep)
    (q : ∀ h', h'.objs.size = s.heap.objs.size + 1 → (∀ b o, s.heap.get? b = some o → h'.get? b = some o) → DIt "dict_keyiterator" d s.heap.objs.size es ep 0 h' → Q (.ref s.heap.objs.size) { s with heap := h' }) : wpAny (model prog w) A (pyIter (.ref d)) Q E s := by
  have hT : s.TypeIs (.ref d) "dict" := ⟨o, d1, dc⟩
  (refine wpAny_pyIter_slot hT F.slot_dict_iter (wpAny_call_entry F.slot_dict_iter hT F.entry_dict_iter ?_ (F.args_dict_iter_1 _)))
  unfold Builtin.«dict.__iter__» Builtin.Dict.dictSlotNone
  refine wpAny_bind (wpAny_bind (wpAny_notOrdered_dict hT ?_))
  refine (?_ : wpAny _ _ (pure (Value.ref d)) _ _ s)
  refine wpAny_pure (?_ : wpAny _ _ (Builtin.Dict.showsAll d >>= _) _ _ s)
  unfold Builtin.Dict.showsAll
  rw [if_neg (by rw [ns]; exact Bool.false_ne_true)]
  refine wpAny_bind (wpAny_pure (wpAny_bind (wpAny_dictEntries d1 d2 (wpAny_bind (wpAny_dictEpoch d1 d2 ?_)))))
  (refine wpAny_bind (wpAny_newObj_type (wpAny_pure ⟨_, rfl, "dict_keyiterator", _, ⟨_, Heap.get?_push_size _ rfl, rfl⟩, F.slot_dict_keyiterator_next.lookup, ?_⟩)))
  exact q _ (Heap.size_push ..) (fun b o e => Heap.get?_push_of_some _ e) ⟨⟨o, Heap.get?_push_of_some _ d1, d2⟩, _, Heap.get?_push_size _ rfl, rfl, rfl⟩
theorem pyIter_dvl {v d : Addr} {ov o : Obj} {es : Array DictEntry} {ep : Nat} {Q : Value → Shared → Prop} (v1 : s.heap.get? v = some ov) (vc : ov.cls = .type "dict_values") (v2 : ov.data = .fields #[.ref d]) (d1 : s.heap.get? d = some o) (d2 : o.data = .dict es ep)
    (q : ∀ h', h'.objs.size = s.heap.objs.size + 1 → (∀ b o, s.heap.get? b = some o → h'.get? b = some o) → DIt "dict_valueiterator" d s.heap.objs.size es ep 0 h' → Q (.ref s.heap.objs.size) { s with heap := h' }) : wpAny (model prog w) A (pyIter (.ref v)) Q E s := by
  have hT : s.TypeIs (.ref v) "dict_values" := ⟨ov, v1, vc⟩
  refine wpAny_pyIter_slot hT F.slot_dict_values_iter (wpAny_call_entry F.slot_dict_values_iter hT F.entry_dict_values_iter ?_ (F.args_dict_values_iter_1 _))
  unfold Builtin.«dict_values.__iter__» Builtin.Dict_items.dictOf
  refine wpAny_bind (wpAny_pure (wpAny_bind (wpAny_bind (wpAny_field v1 v2 (x := .ref d) rfl (wpAny_pure ?_)))))
  (unfold Builtin.Dict_items.newIterator)
  refine wpAny_bind (wpAny_bind (wpAny_dictEntries d1 d2 (wpAny_bind (wpAny_dictEpoch d1 d2 ?_))))
  simp only [show Builtin.Dict_items.ownsTuple "dict_valueiterator" = false by decide, Bool.false_eq_true, if_false]
  (refine wpAny_newObj_type (wpAny_pure ⟨_, rfl, "dict_valueiterator", _, ⟨_, Heap.get?_push_size _ rfl, rfl⟩, F.slot_dict_valueiterator_next.lookup, ?_⟩))
  exact q _ (Heap.size_push ..) (fun b o e => Heap.get?_push_of_some _ e) ⟨⟨o, Heap.get?_push_of_some _ d1, d2⟩, _, Heap.get?_push_size _ rfl, rfl, rfl⟩
theorem gather_dky {S : Addr} {ob : Obj} {es : Array DictEntry} {ep : Nat} {Q : List Value → Shared → Prop} (hh : A.handled = none) (hz : es.size ≤ sizeLine) (g1 : s.heap.get? S = some ob) (gc : ob.cls = .type "dict") (ns : (S == sysModules) = false) (g2 : DAt s.heap S es ep)
    (q : ∀ h' tk, (∀ b o, s.heap.get? b = some o → h'.get? b = some o) → Q (es.toList.map (·.key)) { s with heap := h', toks := tk }) : wpAny (model prog w) A (collect (.ref S)) Q E s := by
  obtain ⟨od, d1, d2⟩ := g2
  have lS : S < s.heap.objs.size := Heap.lt_size g1
  have ld : S < s.heap.objs.size := Heap.lt_size d1
  have nS : s.heap.objs.size ≠ S := Nat.ne_of_gt lS
  have nd : s.heap.objs.size ≠ S := Nat.ne_of_gt ld
  unfold collect
  (refine wpAny_bind (wpAny_runValue (codeAny_builtin F.entry_proto_collect ?_)))
  (rw [Around.under_plainId F.plain_proto_collect _])
  refine (?_ : wpAny _ A.in1 (newList [] >>= fun l => again (.builtin "list.__iadd__" ⟨[l, .ref S], []⟩)) _ _ s)
  refine wpAny_bind (wpAny_newObj_type (wpAny_pure ⟨plainId_quiet F.plain_list_iadd _, codeAny_builtin F.entry_list_iadd ?_⟩))
  (rw [Around.under_plainId F.plain_list_iadd _])
  refine (?_ : wpAny _ A.in1 (Builtin.List.listExtendWith (.ref s.heap.objs.size) (.ref S) (.ref s.heap.objs.size)) _ _ _)
  (unfold Builtin.List.listExtendWith)
  have gS : (s.heap.push { cls := .type "list", data := .seq ([] : List Value).toArray }).get? S = some ob := Heap.get?_push_of_some _ g1
  have gd : (s.heap.push { cls := .type "list", data := .seq ([] : List Value).toArray }).get? S = some od := Heap.get?_push_of_some _ d1
  have gL : (s.heap.push { cls := .type "list", data := .seq ([] : List Value).toArray }).get? s.heap.objs.size = some { cls := .type "list", data := .seq ([] : List Value).toArray } := Heap.get?_push_size _ rfl
  generalize hP : s.heap.push { cls := .type "list", data := .seq ([] : List Value).toArray } = h1 at gS gL gd ⊢
  have k1 : ∀ b o, s.heap.get? b = some o → h1.get? b = some o := fun b o e => by rw [← hP]; exact Heap.get?_push_of_some _ e
  have sz1 : h1.objs.size = s.heap.objs.size + 1 := by rw [← hP]; exact Heap.size_push ..
  have ty : Shared.TypeIs { s with heap := h1 } (.ref S) "dict" := ⟨ob, gS, gc⟩
  refine wpAny_bind (wpAny_typeOf ty ?_)
  have e1 : Builtin.List.listSameRef (.ref s.heap.objs.size) (.ref S) = false := by simp [Builtin.List.listSameRef, nS]
  simp only [e1, show (Value.type "dict" == Value.type "list") = false by decide, show (Value.type "dict" == Value.type "tuple") = false by decide, Bool.or_false, Bool.false_eq_true, if_false]
  have lt1 : S < h1.objs.size := by rw [sz1]; exact Nat.lt_succ_of_lt ld
  refine wpAny_bind (pyIter_dky (s := { s with heap := h1 }) ns gd (by rw [g1] at d1; cases d1; exact gc) d2 fun h2 e2 k2 st => ?_)
  have ty2 : Shared.TypeIs { s with heap := h2 } (.ref S) "dict" := ⟨ob, k2 _ _ gS, gc⟩
  have nLI : s.heap.objs.size ≠ h1.objs.size := by rw [sz1]; exact Nat.ne_of_lt (Nat.lt_succ_self _)
  have ndI : S ≠ h1.objs.size := Nat.ne_of_lt lt1
  (refine wpAny_bind (wpAny_holding ?_))
  (unfold Builtin.List.listLengthHint)
  refine wpAny_bind (wpAny_specialOf ty2 F.slot_dict_len.lookup ?_)
  refine (?_ : wpAny _ A.in1 (isInstance (Value.ref S) (.type "dict") >>= _) _ _ _)
  refine wpAny_bind (wpAny_isInstance (b := true) ty2 (by rw [isSubtype_type]; kernel_rfl) ?_)
  refine (?_ : wpAny _ A.in1 (typeOf (Value.ref S) >>= _) _ _ _)
  refine wpAny_bind (wpAny_typeOf ty2 (wpAny_pure ?_))
  have gL2 := k2 _ _ gL
  refine (?_ : wpAny _ A.in1 (rule "list.extend.makes-room" >>= fun _ => Builtin.List.listTouch (.ref s.heap.objs.size) >>= fun _ => again (.builtin "list.extend.loop" ⟨[.ref s.heap.objs.size, .ref h1.objs.size, .ref s.heap.objs.size], []⟩)) _ _ _)
  refine wpAny_bind (wpAny_rule (wpAny_bind ?_))
  refine (?_ : wpAny _ A.in1 (updateSeq s.heap.objs.size (·.push .none) >>= fun _ => updateSeq s.heap.objs.size (·.pop)) _ _ _)
  refine wpAny_bind (wpAny_updateSeq gL2 rfl ?_)
  have gL3 := Heap.get?_update_self (Obj.mapSeq (·.push Value.none)) gL2 rfl
  refine wpAny_updateSeq gL3 rfl ?_
  have gL4 := Heap.get?_update_self (Obj.mapSeq (·.pop)) gL3 rfl
  have nL : s.heap.objs.size ∉ [h1.objs.size, S] := by
    simp only [List.mem_cons, List.not_mem_nil, or_false, not_or]
    exact ⟨nLI, nd⟩
  have oth : ∀ b o, b ≠ s.heap.objs.size → h2.get? b = some o → ((h2.update s.heap.objs.size (Obj.mapSeq (·.push Value.none))).update s.heap.objs.size (Obj.mapSeq (·.pop))).get? b = some o :=
    fun b o hb e => (Heap.get?_update_other _ _ hb.symm).trans ((Heap.get?_update_other _ _ hb.symm).trans e)
  have W := (walks_dky (prog := prog) (A := A.in1) (w := w) (es := es) (ep := ep) hh ndI).toS
  refine wpAny_pure ⟨plainId_quiet F.plain_extend_loop _, codeAny_extend_loopS (A := A) W hz _ nL _ es.size 0 _ _ _ rfl (Nat.zero_le _) ?_ gL4 (ItemsOf.nil _) fun s' acc' c' hm hS' hacc => ?_⟩
  · exact (walks_dky (prog := prog) (A := A.in1) (w := w) (es := es) (ep := ep) hh ndI).frame 0 _ _ st fun b hb o e => oth b o (fun z => nL (z ▸ hb)) e
  refine (?_ : wpAny _ A (load s.heap.objs.size >>= _) _ _ s')
  (refine wpAny_bind (wpAny_load hS' ?_))
  obtain ⟨zh, zg, zd, zt, zo⟩ := s'
  have e4 : zg = s.gens := hm.gens
  have e5 : zd = s.drawn := hm.drawn
  have e6 : zo = s.os := hm.os
  subst e4 e5 e6
  have ac : acc'.toList = es.toList.map (·.key) := by
    refine List.ext_getElem? fun i => ?_
    rw [List.getElem?_map, Array.getElem?_toList, Array.getElem?_toList]
    by_cases hi : i < es.size
    · have hi' : i < acc'.size := by rw [hacc.1]; exact hi
      obtain ⟨e, x1, x2⟩ := hacc.2 i _ (Array.getElem?_eq_getElem hi')
      rw [Array.getElem?_eq_getElem hi', x1, ← x2]
      rfl
    · rw [Array.getElem?_eq_none (by rw [hacc.1]; omega), Array.getElem?_eq_none (by omega)]
      rfl
  refine wpAny_pure ?_
  refine (?_ : Q acc'.toList _)
  rw [ac]
  refine q zh zt fun b o e => ?_
  have bl := Heap.lt_size e
  refine hm.heap b o ?_ (oth b o (Nat.ne_of_lt bl) (k2 _ _ (k1 _ _ e)))
  simp only [List.mem_cons, List.not_mem_nil, or_false, not_or]
  exact ⟨Nat.ne_of_lt bl, Nat.ne_of_lt (show b < h1.objs.size by rw [sz1]; exact Nat.lt_succ_of_lt bl)⟩
theorem gather_dvl {S : Addr} {ob : Obj} {d : Addr} {es : Array DictEntry} {ep : Nat} {Q : List Value → Shared → Prop} (hh : A.handled = none) (hz : es.size ≤ sizeLine) (g1 : s.heap.get? S = some ob) (gc : ob.cls = .type "dict_values") (gf : ob.data = .fields #[.ref d]) (g2 : DAt s.heap d es ep)
    (q : ∀ h' tk, (∀ b o, s.heap.get? b = some o → h'.get? b = some o) → Q (es.toList.map (·.val)) { s with heap := h', toks := tk }) : wpAny (model prog w) A (collect (.ref S)) Q E s := by
  obtain ⟨od, d1, d2⟩ := g2
  have lS : S < s.heap.objs.size := Heap.lt_size g1
  have ld : d < s.heap.objs.size := Heap.lt_size d1
  have nS : s.heap.objs.size ≠ S := Nat.ne_of_gt lS
  have nd : s.heap.objs.size ≠ d := Nat.ne_of_gt ld
  unfold collect
  (refine wpAny_bind (wpAny_runValue (codeAny_builtin F.entry_proto_collect ?_)))
  (rw [Around.under_plainId F.plain_proto_collect _])
  refine (?_ : wpAny _ A.in1 (newList [] >>= fun l => again (.builtin "list.__iadd__" ⟨[l, .ref S], []⟩)) _ _ s)
  refine wpAny_bind (wpAny_newObj_type (wpAny_pure ⟨plainId_quiet F.plain_list_iadd _, codeAny_builtin F.entry_list_iadd ?_⟩))
  (rw [Around.under_plainId F.plain_list_iadd _])
  refine (?_ : wpAny _ A.in1 (Builtin.List.listExtendWith (.ref s.heap.objs.size) (.ref S) (.ref s.heap.objs.size)) _ _ _)
  (unfold Builtin.List.listExtendWith)
  have gS : (s.heap.push { cls := .type "list", data := .seq ([] : List Value).toArray }).get? S = some ob := Heap.get?_push_of_some _ g1
  have gd : (s.heap.push { cls := .type "list", data := .seq ([] : List Value).toArray }).get? d = some od := Heap.get?_push_of_some _ d1
  have gL : (s.heap.push { cls := .type "list", data := .seq ([] : List Value).toArray }).get? s.heap.objs.size = some { cls := .type "list", data := .seq ([] : List Value).toArray } := Heap.get?_push_size _ rfl
  generalize hP : s.heap.push { cls := .type "list", data := .seq ([] : List Value).toArray } = h1 at gS gL gd ⊢
  have k1 : ∀ b o, s.heap.get? b = some o → h1.get? b = some o := fun b o e => by rw [← hP]; exact Heap.get?_push_of_some _ e
  have sz1 : h1.objs.size = s.heap.objs.size + 1 := by rw [← hP]; exact Heap.size_push ..
  have ty : Shared.TypeIs { s with heap := h1 } (.ref S) "dict_values" := ⟨ob, gS, gc⟩
  refine wpAny_bind (wpAny_typeOf ty ?_)
  have e1 : Builtin.List.listSameRef (.ref s.heap.objs.size) (.ref S) = false := by simp [Builtin.List.listSameRef, nS]
  simp only [e1, show (Value.type "dict_values" == Value.type "list") = false by decide, show (Value.type "dict_values" == Value.type "tuple") = false by decide, Bool.or_false, Bool.false_eq_true, if_false]
  have lt1 : d < h1.objs.size := by rw [sz1]; exact Nat.lt_succ_of_lt ld
  refine wpAny_bind (pyIter_dvl (s := { s with heap := h1 }) gS gc gf gd d2 fun h2 e2 k2 st => ?_)
  have ty2 : Shared.TypeIs { s with heap := h2 } (.ref S) "dict_values" := ⟨ob, k2 _ _ gS, gc⟩
  have nLI : s.heap.objs.size ≠ h1.objs.size := by rw [sz1]; exact Nat.ne_of_lt (Nat.lt_succ_self _)
  have ndI : d ≠ h1.objs.size := Nat.ne_of_lt lt1
  (refine wpAny_bind (wpAny_holding ?_))
  (unfold Builtin.List.listLengthHint)
  refine wpAny_bind (wpAny_specialOf ty2 F.slot_dict_values_len.lookup ?_)
  refine (?_ : wpAny _ A.in1 (isInstance (Value.ref S) (.type "dict_values") >>= _) _ _ _)
  refine wpAny_bind (wpAny_isInstance (b := true) ty2 (by rw [isSubtype_type]; kernel_rfl) ?_)
  refine (?_ : wpAny _ A.in1 (typeOf (Value.ref S) >>= _) _ _ _)
  refine wpAny_bind (wpAny_typeOf ty2 (wpAny_pure ?_))
  have gL2 := k2 _ _ gL
  refine (?_ : wpAny _ A.in1 (rule "list.extend.makes-room" >>= fun _ => Builtin.List.listTouch (.ref s.heap.objs.size) >>= fun _ => again (.builtin "list.extend.loop" ⟨[.ref s.heap.objs.size, .ref h1.objs.size, .ref s.heap.objs.size], []⟩)) _ _ _)
  refine wpAny_bind (wpAny_rule (wpAny_bind ?_))
  refine (?_ : wpAny _ A.in1 (updateSeq s.heap.objs.size (·.push .none) >>= fun _ => updateSeq s.heap.objs.size (·.pop)) _ _ _)
  refine wpAny_bind (wpAny_updateSeq gL2 rfl ?_)
  have gL3 := Heap.get?_update_self (Obj.mapSeq (·.push Value.none)) gL2 rfl
  refine wpAny_updateSeq gL3 rfl ?_
  have gL4 := Heap.get?_update_self (Obj.mapSeq (·.pop)) gL3 rfl
  have nL : s.heap.objs.size ∉ [h1.objs.size, d] := by
    simp only [List.mem_cons, List.not_mem_nil, or_false, not_or]
    exact ⟨nLI, nd⟩
  have oth : ∀ b o, b ≠ s.heap.objs.size → h2.get? b = some o → ((h2.update s.heap.objs.size (Obj.mapSeq (·.push Value.none))).update s.heap.objs.size (Obj.mapSeq (·.pop))).get? b = some o :=
    fun b o hb e => (Heap.get?_update_other _ _ hb.symm).trans ((Heap.get?_update_other _ _ hb.symm).trans e)
  have W := (walks_dvl (prog := prog) (A := A.in1) (w := w) (es := es) (ep := ep) hh ndI).toS
  refine wpAny_pure ⟨plainId_quiet F.plain_extend_loop _, codeAny_extend_loopS (A := A) W hz _ nL _ es.size 0 _ _ _ rfl (Nat.zero_le _) ?_ gL4 (ItemsOf.nil _) fun s' acc' c' hm hS' hacc => ?_⟩
  · exact (walks_dvl (prog := prog) (A := A.in1) (w := w) (es := es) (ep := ep) hh ndI).frame 0 _ _ st fun b hb o e => oth b o (fun z => nL (z ▸ hb)) e
  refine (?_ : wpAny _ A (load s.heap.objs.size >>= _) _ _ s')
  (refine wpAny_bind (wpAny_load hS' ?_))
  obtain ⟨zh, zg, zd, zt, zo⟩ := s'
  have e4 : zg = s.gens := hm.gens
  have e5 : zd = s.drawn := hm.drawn
  have e6 : zo = s.os := hm.os
  subst e4 e5 e6
  have ac : acc'.toList = es.toList.map (·.val) := by
    refine List.ext_getElem? fun i => ?_
    rw [List.getElem?_map, Array.getElem?_toList, Array.getElem?_toList]
    by_cases hi : i < es.size
    · have hi' : i < acc'.size := by rw [hacc.1]; exact hi
      obtain ⟨e, x1, x2⟩ := hacc.2 i _ (Array.getElem?_eq_getElem hi')
      rw [Array.getElem?_eq_getElem hi', x1, ← x2]
      rfl
    · rw [Array.getElem?_eq_none (by rw [hacc.1]; omega), Array.getElem?_eq_none (by omega)]
      rfl
  refine wpAny_pure ?_
  refine (?_ : Q acc'.toList _)
  rw [ac]
  refine q zh zt fun b o e => ?_
  have bl := Heap.lt_size e
  refine hm.heap b o ?_ (oth b o (Nat.ne_of_lt bl) (k2 _ _ (k1 _ _ e)))
  simp only [List.mem_cons, List.not_mem_nil, or_false, not_or]
  exact ⟨Nat.ne_of_lt bl, Nat.ne_of_lt (show b < h1.objs.size by rw [sz1]; exact Nat.lt_succ_of_lt bl)⟩
end
end PV
namespace PV
open PySem L2 PySem.Spec PyProof.Rows
section
variable {X : Cx} {K : Zc} {th : List Addr} {mu : Sto} {H : Hp} {pins : List (Addr × Obj)} {st : L2.St} {s : Shared}
theorem sorted_run (hu : X.A.units + 64 < cLine) (I : L2.Inv X pins st H s) (so : StoOk X.z th mu H) {es : List D} (ok : srtOk es = true) {u : Value} {Q : VK} (t : Tr X.z th H (some (D.lst (srtD es), mu)) (KV' X.z Q))
    (col : ∀ Q' : List Value → Shared → Prop, (∀ vs zs h' tk, RepL X.z th H es vs → Vals vs zs → (∀ b o, s.heap.get? b = some o → h'.get? b = some o) → Q' zs { s with heap := h', toks := tk }) → wpAny (model X.prog X.w) X.A.in1 (collect u) Q' X.xe s) :
    wpAny (model X.prog X.w) X.A (call (.builtin "sorted") [u]) (EP X pins st Q) X.xe s := by
  refine sorted_of (col _ fun vs zs h1 tk h2 rv hk => ?_)
  have I1 : L2.Inv X pins st H { s with heap := h1, toks := tk } := I.kept (t' := tk) hk
  have l64 : es.length < 64 := by
    have := ok
    unfold srtOk at this
    rw [Bool.and_eq_true, Bool.and_eq_true, Bool.and_eq_true, decide_eq_true_eq] at this
    exact this.1.1.1
  have lz : zs.length = es.length := by rw [← rv.length, h2.len]
  obtain ⟨ws, out, w1, w2, w3⟩ := sorts hu I1 h2 rv ok
  have z64 : 64 ≤ sizeLine := by rw [sizeLine_eq]; decide
  have wl : (srtD es).length ≤ sizeLine := by rw [(srtD_perm es).length_eq]; omega
  refine ⟨by omega, out, w3, fun h' e a hk' ha he => ?_⟩
  have hp : H a = none := I1.hok.fresh ha
  refine ⟨.ref a, _, I1.laid (t' := tk) (o := .lst ws) hk' ha ⟨by rw [w1.len]; exact wl, out, e, w2, he⟩, rfl, ?_⟩
  exact t.retX (.new hp _) (so.new hp _) _ (Rep.newLst so hp w1 wl)
theorem dc_keys (I : L2.Inv X pins st H s) {a : Addr} {ks ds : List D} (h : DcAt X.z th H a ks ds) : ∃ o es ep, (a == sysModules) = false ∧ s.heap.get? a = some o ∧ o.ExactDict ∧ o.data = .dict es ep ∧ es.size ≤ sizeLine ∧ (∃ vs, RepL X.z th H ks vs ∧ Vals vs (es.toList.map (·.key))) ∧ ∃ vs, RepL X.z th H ds vs ∧ Vals vs (es.toList.map (·.val)) := by
  obtain ⟨xs0, h1', h2, h3, h4, h5⟩ := id h
  obtain ⟨xs, o, es, ep, h1, g⟩ := dc_open I h
  obtain ⟨⟨z', o', es', ep', g1, g2, g3, g4⟩, _⟩ := (show ObjOk X.prog X.w H s.heap a (DicO a xs0) from I.hok a _ h1')
  have e1 := g.at'
  rw [g1] at e1
  cases e1
  have e2 := g.dt
  rw [g3] at e2
  cases e2
  have kv : ∀ {ys : List (Int × V × V)} {zs : List DictEntry}, Paired (fun (x : Int × V × V) (e : DictEntry) => e.hash = x.1 ∧ RelV x.2.1 e.key ∧ RelV x.2.2 e.val) ys zs → Vals (ys.map (·.2.1)) (zs.map (·.key)) ∧ Vals (ys.map (·.2.2)) (zs.map (·.val)) := fun {ys zs} p => by
    induction p with
    | nil => exact ⟨.nil, .nil⟩
    | cons a b ih => exact ⟨.cons a.2.1 ih.1, .cons a.2.2 ih.2⟩
  have sz : es.size ≤ sizeLine := by
    have e := pair_len g.en
    have e' : es.size = ks.length := by
      rw [← Array.length_toList]
      exact e.symm
    rw [e']
    exact h5.len
  exact ⟨o, es, ep, z', g1, g2, g3, sz, ⟨_, h3, (kv g4).1⟩, ⟨_, h4, (kv g4).2⟩⟩
def srtK : Fn := fun ds mu => match arg1 ds with
  | some d => match dctOf mu d with
    | some p => if srtOk p.1 = true then some (.lst (srtD p.1), mu) else none
    | none => none
  | none => none
theorem srtK_inv {ds : List D} {r : D × Sto} (h : srtK ds mu = some r) : ∃ d p, ds = [d] ∧ dctOf mu d = some p ∧ srtOk p.1 = true ∧ r = (.lst (srtD p.1), mu) := by
  unfold srtK at h
  split at h
  · rename_i d e
    split at h
    · rename_i p e2
      split at h
      · rename_i c; cases h; exact ⟨d, p, arg1_inv e, e2, c, rfl⟩
      · cases h
    · cases h
  · cases h
theorem call_srtK (hu : X.A.units + 64 < cLine) (hc : X.calm = true) : CallV X (.builtin "sorted") srtK := by
  intro pins s st H xs us Q I r h
  obtain ⟨th, mu, ds, so, rd, t⟩ := h
  obtain ⟨a0, mu0, e0, _⟩ := id t
  obtain ⟨d, p, rfl, eg, ok, er⟩ := srtK_inv e0
  rw [e0] at t
  cases er
  obtain ⟨x, rfl, rx⟩ := one_arg rd
  obtain ⟨u, rfl, ru⟩ := vals1 r
  obtain ⟨a, rfl, dc⟩ := dctOf_rep so eg rx
  cases ru
  obtain ⟨o, es, ep, ns, g1, g2, g3, sz, ⟨vs, k1, k2⟩, _⟩ := dc_keys I dc
  exact sorted_run hu I so ok t fun Q' q => gather_dky (I.ok.hd hc) sz g1 g2.1 ns ⟨o, g1, g3⟩ fun h' tk hk => q _ _ h' tk k1 k2 hk
def srtW : Fn := fun ds mu => match srtU ds mu with | some r => some r | none => srtK ds mu
theorem call_srtW (hu : X.A.units + 64 < cLine) (hc : X.calm = true) : CallV X (.builtin "sorted") srtW := CallV.or (call_srtU hu hc) (call_srtK hu hc)
def viewP (a d : Addr) (h : Heap) : Prop := ∃ o, h.get? a = some o ∧ o.cls = .type "dict_values" ∧ o.data = .fields #[.ref d]
def ViewO (a d : Addr) : HO := .ext (viewP a d)
def tBD0 (r : V → List V → Hp → VK → Prop) (to : TE) : TE := fun σ H Q => to σ H fun x H1 => (∃ a xs, x = .ref a ∧ H1 a = some (DicO a xs)) ∧ r x [] H1 Q
theorem pe_bd0 {o : Expr} {to : TE} {name : Str} {apos cpos : Pos} {id : String} {r : V → List V → Hp → VK → Prop} (slot : Slot "dict" name id) (hty : typeOf (.builtin id) = pure (.type "method_descriptor")) (hm : MtR X id r) (ho : PE X o to)
    (hbase : attributeBase o name X.env (eval o X.env) = eval o X.env) (hline : (apos.endLine == cpos.line) = true) : PE X (.Call (.Attribute o name apos) [] [] cpos) (tBD0 r to) := by
  intro pins s st H Q I h
  refine wpAny_Call_method0_late hbase hline (thn (ho pins s st H _ I h) fun v s1 ⟨x, H1, I1, r1, ⟨a, xs, e, hd⟩, q1⟩ => ?_)
  subst e
  cases r1
  obtain ⟨⟨z, ob, es, ep, g1, g2, g3, g4⟩, _⟩ := (show ObjOk X.prog X.w H1 s1.heap a (DicO a xs) from I1.hok a _ hd)
  exact ⟨"dict", id, PySem.F.plainAttrs_dict, slot, hty, ⟨ob, g1, g2.1⟩, fun b e => by cases e; exact ⟨ob, g1, g2.2.1⟩, Calls.callWith_builtin rfl (PySem.evalArgs_none (hm pins s1 st H1 (.ref a) [] _ [] Q I1 rfl .nil q1))⟩
theorem mt_values : MtR X "dict.values" (fun x vs H Q => vs = [] ∧ ∃ a xs, x = .ref a ∧ H a = some (DicO a xs) ∧ ∀ b, H b = none → Q (.ref b) (upd H b (ViewO b a))) := by
  intro pins s st H x ys v us Q I rx rys ⟨e0, a, xs, e, hd, q⟩
  subst e e0
  cases rx
  cases rys
  obtain ⟨⟨z, ob, es, ep, g1, g2, g3, g4⟩, _⟩ := (show ObjOk X.prog X.w H s.heap a (DicO a xs) from I.hok a _ hd)
  have ty : s.TypeIs (.ref a) "dict" := ⟨ob, g1, g2.1⟩
  have hM : MeetsIn X.prog X.w (Builtin.«dict.values» ⟨[.ref a], []⟩) (fun _ R s => s.heap.get? a = some ob ∧ R (.ok (.ret (.ref s.heap.objs.size))) { s with heap := s.heap.push { cls := .type "dict_values", data := .fields #[.ref a] } }) := .of_wp fun A R s ⟨g0, h⟩ => by
    refine wpAny_bind ?_
    unfold Builtin.Dict.noArgs
    refine wpAny_bind (wpAny_notOrdered_dict ⟨ob, g0, g2.1⟩ ?_)
    refine (?_ : wpAny _ _ (pure a) _ _ s)
    refine wpAny_pure (?_ : wpAny _ _ (Builtin.Dict.showsAll a >>= _) _ _ s)
    unfold Builtin.Dict.showsAll
    rw [if_neg (by rw [z]; exact Bool.false_ne_true)]
    exact wpAny_bind (wpAny_pure (wpAny_bind (wpAny_newObj_type (wpAny_pure ⟨_, rfl, h⟩))))
  refine call_meetsIn PySem.F.slot_dict_values ty PySem.F.entry_dict_values (PySem.F.args_dict_values_1 _) hM ⟨g1, ?_⟩
  have hp : H s.heap.objs.size = none := I.hok.fresh (Nat.le_refl _)
  refine ⟨.ref s.heap.objs.size, _, I.laid (t' := s.toks) (o := ViewO s.heap.objs.size a) (fun b o e => Heap.get?_push_of_some _ e) (Nat.le_refl _) ⟨⟨_, Heap.get?_push_size _ rfl, rfl, rfl⟩, ⟨_, Heap.get?_push_size _ rfl⟩, fun h1 h2 ⟨o, x1, x2⟩ k => ⟨o, k o x1, x2⟩⟩, rfl, q _ hp⟩
theorem call_srtV (hu : X.A.units + 64 < cLine) (hc : X.calm = true) : CallR X (.builtin "sorted") (fun vs H Q => ∃ th mu a d ks ds, vs = [.ref a] ∧ H a = some (ViewO a d) ∧ StoOk X.z th mu H ∧ DcAt X.z th H d ks ds ∧ srtOk ds = true ∧ Tr X.z th H (some (D.lst (srtD ds), mu)) (KV' X.z Q)) := by
  intro pins s st H xs us Q I r ⟨th, mu, a, d, ks, ds, e, hv, so, dc, ok, t⟩
  subst e
  obtain ⟨u, rfl, ru⟩ := vals1 r
  cases ru
  obtain ⟨⟨ov, v1, v2, v3⟩, _⟩ := (show ObjOk X.prog X.w H s.heap a (ViewO a d) from I.hok a _ hv)
  obtain ⟨o, es, ep, ns, g1, g2, g3, sz, _, ⟨vs, k1, k2⟩⟩ := dc_keys I dc
  exact sorted_run hu I so ok t fun Q' q => gather_dvl (I.ok.hd hc) sz v1 v2 v3 ⟨o, g1, g3⟩ fun h' tk hk => q _ _ h' tk k1 k2 hk
def eSrtV (a : Ex) : Ex := fun ro mu => bM (a ro mu) fun d m1 => match dctOf m1 d with
  | some p => if srtOk p.2 = true then some (.lst (srtD p.2), m1) else none
  | none => none
theorem DcAt.new {a p : Addr} {ks ds : List D} (h : DcAt K th H a ks ds) (so : StoOk K th mu H) (hp : H p = none) (o : HO) : DcAt K th (upd H p o) a ks ds := by
  obtain ⟨xs, h1, h2, h3, h4, h5⟩ := h
  exact ⟨xs, by rw [upd_ne (ne_of_none h1 hp)]; exact h1, h2, h3.ext (.new hp o) so.out, h4.ext (.new hp o) so.out, h5⟩
theorem sv_srtV (hu : X.A.units + 64 < cLine) (hc : X.calm = true) {o : Expr} {m : Ex} {apos cpos p pos : Pos} (hm : X.mg "sorted" = none) (ho : SV X o m) (hg : Gl X "sorted" := by rfl) (hbase : attributeBase o "values" X.env (eval o X.env) = eval o X.env := by rfl) (hline : (apos.endLine == cpos.line) = true := by rfl)
    (hs1 : starEach [.Call (.Attribute o "values" apos) [] [] cpos] X.env = (false, eval (.Call (.Attribute o "values" apos) [] [] cpos) X.env) :: starEach [] X.env := by rfl) (hs2 : (backTo pos (starEach [] X.env)).any (·.1) = false := by rfl) :
    SV X (.Call (.Name "sorted" p) [.Call (.Attribute o "values" apos) [] [] cpos] [] pos) (eSrtV m) :=
  ⟨PE.weak (pe_callB (call_srtV hu hc) hg hm PyProof.Rows.boot_sorted (pa_cons (pe_bd0 PySem.F.slot_dict_values PySem.F.type_dict_values mt_values ho.r hbase hline) pa_nil hs1) (by decide) (by decide) hs1 hs2) fun st H Q h => by
    obtain ⟨th, mu, ro, so, en, t⟩ := h
    refine ⟨th, mu, ro, so, en, t.bind.mono fun d th1 mu1 H1 e1 s1 t1 v rv => ?_⟩
    cases q : dctOf mu1 d with
    | none => rw [q] at t1; exact t1.no.elim
    | some pr =>
      rw [q] at t1
      dsimp only at t1
      by_cases c : srtOk pr.2 = true
      · rw [if_pos c] at t1
        obtain ⟨a, rfl, dc⟩ := dctOf_rep s1 q rv
        obtain ⟨xs, hx, _⟩ := id dc
        exact ⟨⟨a, xs, rfl, hx⟩, rfl, a, xs, rfl, hx, fun b hb => ⟨th1, mu1, b, a, pr.1, pr.2, rfl, upd_same, s1.new hb _, dc.new s1 hb _, c, t1.ahead (.new hb _)⟩⟩
      · rw [if_neg c] at t1; exact t1.no.elim⟩
end
end PV
namespace PV
open PySem L2 PySem.Spec PyProof.Rows
section
variable {X : Cx} {K : Zc} {th : List Addr} {mu : Sto} {H : Hp} {pins : List (Addr × Obj)} {st : L2.St} {s : Shared}
def shwOk (d : PyData) : Bool := d.showable && (!d.hasDict && (decide (d.depth ≤ 60) && (decide (d.shown.length ≤ sizeLine) && PyData.strOk d.shown)))
def reprF : Fn := fun ds mu => match arg1 ds with
  | some d => if (pureD (seen mu d) && shwOk (toPy (seen mu d))) = true then some (.str (toPy (seen mu d)).shown, mu) else none
  | none => none
theorem reprF_inv {ds : List D} {r : D × Sto} (h : reprF ds mu = some r) : ∃ d, ds = [d] ∧ pureD (seen mu d) = true ∧ shwOk (toPy (seen mu d)) = true ∧ r = (.str (toPy (seen mu d)).shown, mu) := by
  unfold reprF at h
  split at h
  · rename_i d e
    split at h
    · rename_i c
      rw [Bool.and_eq_true] at c
      cases h
      exact ⟨d, arg1_inv e, c.1, c.2, rfl⟩
    · cases h
  · cases h
theorem call_reprF (hu : X.A.units + 64 < cLine) (hg : X.A.guards = some []) : CallV X (.builtin "repr") reprF := by
  intro pins s st H xs us Q I r h
  obtain ⟨th, mu, ds, so, rd, t⟩ := h
  obtain ⟨a0, mu0, e0, _⟩ := id t
  obtain ⟨d, rfl, pu, ok, er⟩ := reprF_inv e0
  rw [e0] at t
  cases er
  obtain ⟨x, rfl, rx⟩ := one_arg rd
  obtain ⟨u, rfl, ru⟩ := vals1 r
  have ok' := ok
  unfold shwOk at ok'
  rw [Bool.and_eq_true, Bool.and_eq_true, Bool.and_eq_true, Bool.and_eq_true, decide_eq_true_eq, decide_eq_true_eq] at ok'
  obtain ⟨o1, o2, o3, o4, o5⟩ := ok'
  have nd : (toPy (seen mu d)).hasDict = true → False := fun z => by rw [z] at o2; cases o2
  obtain ⟨as, r1, _⟩ := reads_seen I so pu rx ru
  have fin : ∀ h' v tk, (∀ b o, s.heap.get? b = some o → h'.get? b = some o) → EP X pins st Q (.str (toPy (seen mu d)).shown v) { s with heap := h', toks := tk } := fun h' v tk hk =>
    ⟨.str (toPy (seen mu d)).shown, H, I.kept (t' := tk) hk, ⟨v, rfl⟩, t.ret so _ ⟨rfl, o4, o5⟩⟩
  generalize toPy (seen mu d) = pd at *
  cases r1 with
  | none => exact P.repr_of_none (fin s.heap _ _ fun _ _ e => e)
  | bool b => exact P.repr_of_bool (fin s.heap _ _ fun _ _ e => e)
  | int i tt => exact P.repr_of_int (by simpa [PyData.showable] using o1) (fin s.heap _ _ fun _ _ e => e)
  | str x tt => exact P.repr_of_str (fin s.heap _ _ fun _ _ e => e) o4
  | list g1 g2 g3 g4 => exact repr_of_reads' (.list g1 g2 g3 g4) o1 (fun z => (nd z).elim) hg (by omega) (fun _ _ e => e) (fun h' v tk hk => fin h' v tk hk) o4
  | tuple g1 g2 g3 g4 => exact repr_of_reads' (.tuple g1 g2 g3 g4) o1 (fun z => (nd z).elim) hg (by omega) (fun _ _ e => e) (fun h' v tk hk => fin h' v tk hk) o4
  | dict => exact (nd rfl).elim
end
end PV
namespace PV
open PySem L2 PySem.Spec PyProof.Rows
def intsOf : List D → Option (List Int)
  | [] => some []
  | .int i :: ds => (intsOf ds).map (i :: ·)
  | _ :: _ => none
theorem intsOf_inv : ∀ {ds : List D} {is : List Int}, intsOf ds = some is → ds = is.map D.int
  | [], _, h => by cases h; rfl
  | .int i :: ds, is, h => by
    unfold intsOf at h
    cases e : intsOf ds with
    | none => rw [e] at h; cases h
    | some js => rw [e] at h; cases h; rw [intsOf_inv e]; rfl
  | .non :: _, _, h => nomatch h
  | .bl _ :: _, _, h => nomatch h
  | .str _ :: _, _, h => nomatch h
  | .tup _ :: _, _, h => nomatch h
  | .lst _ :: _, _, h => nomatch h
  | .dct _ _ :: _, _, h => nomatch h
  | .set _ :: _, _, h => nomatch h
  | .ref _ :: _, _, h => nomatch h
theorem intsOf_map (is : List Int) : intsOf (is.map D.int) = some is := by
  induction is with
  | nil => rfl
  | cons i is ih => simp [intsOf, ih]
theorem pre_sum (is : List Int) : ∀ n, n ≤ is.length → preSum (fun i => is.getD i 0) n = (is.take n).sum
  | 0, _ => by simp [preSum]
  | n + 1, h => by
    have hn : n < is.length := h
    rw [preSum, pre_sum is n (Nat.le_of_lt hn), List.take_add_one, List.sum_append, List.getElem?_eq_getElem hn]
    simp [hn]
section
variable {X : Cx} {K : Zc} {th : List Addr} {mu : Sto} {H : Hp} {pins : List (Addr × Obj)} {st : L2.St} {s : Shared}
def sumF : Fn := fun ds mu => match arg1 ds with
  | some d => match lstOf mu d with
    | some es => (intsOf es).map fun is => (.int is.sum, mu)
    | none => none
  | none => none
theorem sumF_inv {ds : List D} {r : D × Sto} (h : sumF ds mu = some r) : ∃ d es is, ds = [d] ∧ lstOf mu d = some es ∧ intsOf es = some is ∧ r = (.int is.sum, mu) := by
  unfold sumF at h
  split at h
  · rename_i d e
    split at h
    · rename_i es e2
      cases q : intsOf es with
      | none => rw [q] at h; cases h
      | some is => rw [q] at h; cases h; exact ⟨d, es, is, arg1_inv e, e2, q, rfl⟩
    · cases h
  · cases h
theorem call_sumF (hc : X.calm = true) : CallV X (.builtin "sum") sumF := by
  intro pins s st H xs us Q I r h
  obtain ⟨th, mu, ds, so, rd, t⟩ := h
  obtain ⟨a0, mu0, e0, _⟩ := id t
  obtain ⟨d, es, is, rfl, eg, ei, er⟩ := sumF_inv e0
  rw [e0] at t
  cases er
  obtain ⟨x, rfl, rx⟩ := one_arg rd
  obtain ⟨u, rfl, ru⟩ := vals1 r
  obtain ⟨a, vs, rfl, h1, h2, h3⟩ := lstOf_rep so eg rx
  cases ru
  obtain ⟨its, rv, ⟨o, n, g1, g2, _, g3⟩, _⟩ := I.list h1
  have hl : s.heap.IsList a its.toArray := ⟨o, g1, g2, n, g3⟩
  have la : a < s.heap.objs.size := Heap.lt_size g1
  have ne : a ≠ s.heap.objs.size := Nat.ne_of_lt la
  have W := (Walks.list (prog := X.prog) (w := X.w) (A := X.A.in1) (I.ok.hd hc) s.heap.objs.size a ne its.toArray).toS
  refine call_sum_walkAnyS (wpAny_pyIter_list hl ⟨_, _, _, _, _, _, _, fun i => is.getD i 0, rfl, W, ⟨⟨_, Heap.get?_push_size _ rfl, rfl, rfl⟩, hl.push _⟩, fun b hb => ?_, fun i v hv => ?_, fun s' t' hm => ?_⟩)
  · refine (?_ : b < (s.heap.push _).objs.size)
    rw [Heap.size_push]
    (rcases List.mem_cons.mp hb with rfl | hb)
    · exact Nat.lt_succ_self _
    · (rw [List.mem_singleton.mp hb])
      exact Nat.lt_succ_of_lt la
  · have hv' : its[i]? = some v := by simpa using hv
    obtain ⟨y, y1, y2⟩ := (pair_at rv i).2 v hv'
    rw [intsOf_inv ei] at h2
    have hi : i < is.length := by
      have := (List.getElem?_eq_some_iff.mp y1).1
      rw [h2.len, List.length_map] at this
      exact this
    obtain ⟨z, z1, z2⟩ := h2.get (show (is.map D.int)[i]? = some (.int is[i]) by simp [hi])
    rw [y1] at z1
    cases z1
    cases (show y = _ from z2)
    obtain ⟨tt, rfl⟩ := y2
    exact ⟨tt, by simp [hi]⟩
  · have ln : its.toArray.size = is.length := by
      have := h2.len
      rw [intsOf_inv ei, List.length_map] at this
      have e := rv.length
      simp only [List.size_toArray]
      omega
    rw [ln, pre_sum is _ (Nat.le_refl _), List.take_length]
    obtain ⟨zh, zg, zd, zt, zo⟩ := s'
    have e4 : zg = s.gens := hm.gens
    have e5 : zd = s.drawn := hm.drawn
    have e6 : zo = s.os := hm.os
    subst e4 e5 e6
    refine ⟨.int is.sum, H, I.kept (t' := zt) fun b o e => ?_, ⟨t', rfl⟩, t.ret so _ rfl⟩
    refine hm.heap b o ?_ (Heap.get?_push_of_some _ e)
    simp only [List.mem_cons, List.not_mem_nil, or_false]
    exact Nat.ne_of_lt (Heap.lt_size e)
end
end PV
namespace PV
open PySem L2 PySem.Spec PyProof.Rows
theorem tup_ix (l : Addr) (items : Array Value) (n : Nat) (dd : Option Addr) (sl : Array (Option Value)) (x : Value) (e : Value → Bool) (j : Nat) (hj : j < items.size) (hit : e items[j] = true) (hno : ∀ m (hm : m < items.size), m < j → e items[m] = false) :
    Meets (Builtin.«tuple.index» ⟨[.ref l, x], []⟩)
      (fun A R s => s.heap.get? l = some { cls := .type "tuple", dict := dd, data := .seq items n, slots := sl } ∧ (∀ y, y ∈ items → SeqAt.EqAt A.in1 s y x (e y)) ∧ R (.ok (.ret (.int j s.toks))) { s with toks := s.toks + 1 }) :=
  .of_wp fun prog w A R s h => by
    obtain ⟨hl, he, h⟩ := h
    refine (?_ : wpAny _ _ (Builtin.Tuple.tupleItemsOf (.ref l) >>= _) _ _ _)
    refine wpAny_bind (wpAny_tupleItemsOf hl rfl (wpAny_bind (wpAny_pure (wpAny_bind (wpAny_pure (wpAny_bind ?_))))))
    (rw [Std.Legacy.Range.forIn_eq_forIn_range'])
    simp only [Std.Legacy.Range.size, Nat.sub_zero, Nat.add_sub_cancel, Nat.div_one, Nat.min_self]
    refine wpAny_forIn_list _ (fun rest b s' => b = (none, ()) ∧ s' = s ∧ ∃ i, rest = List.range' i (items.size - i) ∧ i ≤ j) _ (fun k rest b s' ⟨hb, hs, i, hr, hi⟩ => ?_) (fun b s' ⟨hb, hs, i, hr, hi⟩ => ?_) _ _ ⟨rfl, rfl, 0, rfl, Nat.zero_le _⟩
    · subst hb hs
      (have hlt : i < items.size := by omega)
      rw [show items.size - i = (items.size - (i + 1)) + 1 by omega, List.range'_succ] at hr
      injection hr with h1 h2
      subst h1
      (rw [Array.getElem?_eq_getElem hlt])
      (refine wpAny_bind (he _ (Array.getElem_mem hlt) prog w _ _ ?_))
      cases c : e items[k] with
      | true =>
        have : k = j := by
          rcases Nat.lt_or_ge k j with z | z
          · rw [hno k hlt z] at c; cases c
          · omega
        subst this
        rw [if_pos rfl]
        refine wpAny_bind (wpAny_bind (wpAny_mkInt (wpAny_pure (wpAny_pure ?_))))
        exact wpAny_pure ⟨_, rfl, h⟩
      | false =>
        rw [if_neg Bool.false_ne_true]
        refine wpAny_pure ⟨rfl, rfl, k + 1, h2, ?_⟩
        rcases Nat.lt_or_ge k j with z | z
        · omega
        · have : k = j := by omega
          subst this
          rw [hit] at c
          cases c
    · exfalso
      have : items.size - i ≠ 0 := by omega
      cases q : items.size - i with
      | zero => omega
      | succ m => rw [q] at hr; cases hr
section
variable {X : Cx} {K : Zc} {th : List Addr} {mu : Sto} {H : Hp} {pins : List (Addr × Obj)} {st : L2.St} {s : Shared}
def spot (ds : List D) (x : D) : Nat := (toPys ds).findIdx fun y => PyData.eqv y (toPy x)
def idxD (d : D) (xs : List D) (mu : Sto) : Rs D := match d, arg1 xs with
  | .tup ds, some x => if (pureD x && pureL ds && decide (min (PyData.depthAll (toPys ds)) (toPy x).depth ≤ 60) && decide (spot ds x < (toPys ds).length)) = true then some (.int (spot ds x : Nat), mu) else none
  | _, _ => none
def eIdx (o : Ex) (a : Exs) : Ex := fun ro mu => bM (o ro mu) fun d m1 => match d with
  | .tup ds => bM (a ro m1) fun xs m2 => idxD (.tup ds) xs m2
  | _ => none
theorem mt_index (hu : X.A.units + 64 < cLine) : MtR X "tuple.index" (fun x vs H Q => ∃ th mu d ds, StoOk X.z th mu H ∧ Rep X.z th H d x ∧ RepL X.z th H ds vs ∧ Tr X.z th H (idxD d ds mu) (KV' X.z Q)) := by
  intro pins s st H x xs v us Q I rx rxs h
  obtain ⟨th, mu, d, ds, so, r1, r2, t⟩ := h
  cases d with
  | tup es =>
    unfold idxD at t
    cases e : arg1 ds with
    | none => rw [e] at t; exact t.no.elim
    | some y =>
      rw [e] at t
      dsimp only at t
      by_cases c : (pureD y && pureL es && decide (min (PyData.depthAll (toPys es)) (toPy y).depth ≤ 60) && decide (spot es y < (toPys es).length)) = true
      · rw [if_pos c] at t
        rw [Bool.and_eq_true, Bool.and_eq_true, Bool.and_eq_true, decide_eq_true_eq, decide_eq_true_eq] at c
        rw [arg1_inv e] at r2
        obtain ⟨yv, rfl, ry⟩ := one_arg r2
        obtain ⟨u, rfl, ru⟩ := vals1 rxs
        unfold Rep at r1
        obtain ⟨a, vs, rfl, h1, h2, h3⟩ := r1
        cases rx
        obtain ⟨its, rv, ⟨o, g1, g2, n, g3⟩, _⟩ := I.tuple h1
        obtain ⟨as, w1, w2⟩ := readsAll_of I es vs its c.1.1.2 h2 rv
        obtain ⟨bs, w3, w4⟩ := reads_of I y yv u c.1.1.1 ry ru
        obtain ⟨cls, dd, data, sl⟩ := o
        simp only at g2 g3
        subst g2 g3
        have mp : its.map (SeqAt.readOf s.heap) = toPys es := SeqAt.readsAll_map _ _ _ w2 w1
        have he : ∀ z, z ∈ its.toArray → SeqAt.EqAt X.A.in1 s z u (PyData.eqv (SeqAt.readOf s.heap z) (toPy y)) := SeqAt.items_eqAt (A := X.A) (by simpa using w1) w3 w2 w4 (by omega)
        have ln : its.length = (toPys es).length := by rw [← mp, List.length_map]
        have at' : ∀ m (hm : m < its.toArray.size), PyData.eqv (SeqAt.readOf s.heap its.toArray[m]) (toPy y) = PyData.eqv ((toPys es)[m]'(by rw [← ln]; simpa using hm)) (toPy y) := fun m hm => by
          congr 1
          simp only [← mp]
          simp
        have lj : spot es y < its.toArray.size := by
          have := c.2
          simpa [ln] using this
        refine call_meets PySem.F.slot_tuple_index (show s.TypeIs (.ref a) "tuple" from ⟨_, g1, rfl⟩) PySem.F.entry_tuple_index (PySem.F.args_tuple_index_2 _ _) (tup_ix a its.toArray n dd sl u (fun z => PyData.eqv (SeqAt.readOf s.heap z) (toPy y)) (spot es y) lj ?_ fun m hm hlt => ?_) ⟨g1, he, ?_⟩
        · rw [at' _ lj]
          exact List.findIdx_getElem (w := c.2)
        · rw [at' m hm]
          have := List.not_of_lt_findIdx hlt
          simpa using this
        · exact ⟨.int _, H, I.tok _, ⟨_, rfl⟩, t.ret so _ rfl⟩
      · rw [if_neg c] at t; exact t.no.elim
  | _ => exact t.no.elim
theorem sv_index {o e : Expr} {m : Ex} {n : Exs} {apos cpos : Pos} (hu : X.A.units + 64 < cLine) (ho : SV X o m) (ha : SVA X [e] n) (hbase : attributeBase o "index" X.env (eval o X.env) = eval o X.env := by rfl)
    (hfew : ((backTo cpos (starEach [e] X.env)).all (fun x => !x.1) && (backToKw cpos (keywordEach [] X.env)).all (fun x => x.1.isSome)
      && decide ([e].length + ([] : List Keyword).length + (if ([] : List Keyword).isEmpty then 0 else 1) < 30)) = true := by rfl)
    (hline : (apos.endLine == cpos.line) = true := by rfl) (hs : starEach [e] X.env = (false, eval e X.env) :: starEach [] X.env := by rfl) (hplain : (backTo cpos (starEach [] X.env)).any (·.1) = false := by rfl) :
    SV X (.Call (.Attribute o "index" apos) [e] [] cpos) (eIdx m n) :=
  ⟨PE.weak (pe_bmT PySem.F.plainAttrs_tuple PySem.F.slot_tuple_index PySem.F.type_tuple_index (mt_index hu) ho.r ha.1 hbase hfew hline hs hplain) fun st H Q h => by
    obtain ⟨th, mu, ro, so, en, t⟩ := h
    refine ⟨th, mu, ro, so, en, t.bind.mono fun d th1 mu1 H1 e1 s1 t1 v rv => ?_⟩
    cases d with
    | tup ds =>
      have rv' := rv
      unfold Rep at rv'
      obtain ⟨a, vs, rfl, h1, _⟩ := rv'
      refine ⟨⟨a, vs, rfl, h1⟩, th1, mu1, ro, s1, en.ext e1 so.out, ?_⟩
      exact Tr.mono (Tr.bind t1) fun xs th2 mu2 H2 e2 s2 t2 ws rws => ⟨th2, mu2, .tup ds, xs, s2, rv.ext e2 s1.out, rws, t2⟩
    | _ => exact t1.no.elim⟩
end
end PV
namespace PV
open PySem L2 PySem.Spec PyProof.Rows
section
variable {prog : Program} {w : World} {A : Around} {E : Value → Shared → Prop} {s : Shared}
abbrev zObj (TI TO a : Addr) (b : Bool) : Obj := { cls := .type "zip", data := .fields #[rawInt a, .bool b, .bool false, .ref TI, .ref TO] }
structure zTw (z TI TO i1 i2 l1 l2 : Addr) (k : Nat) (h : Heap) : Prop where
  zo : ∃ a b, h.get? z = some (zObj TI TO a b) ∧ a ≠ z ∧ a ≠ i1 ∧ a ≠ i2 ∧ ∃ o, h.get? a = some o
  ti : IsPair h TI (.ref i1) (.ref i2)
  t1 : h.IsTupleIter i1 l1 k
  t2 : h.IsTupleIter i2 l2 k
theorem alive_is {a : Addr} {o : Obj} {Q : Option Obj → Shared → Prop} (h : s.heap.get? a = some o) (q : Q (some o) s) : wpAny (model prog w) A (loadIfAlive a) Q E s :=
  fun Γ p _ => by
    unfold loadIfAlive
    rw [Sem.wp_loadIfAlive, h]
    exact (Sem.wp_pure _ _ _ _ _ _ _).mpr q
theorem owned_no {z TI TO a : Addr} {b : Bool} {o : Obj} {Q : Bool → Shared → Prop} (g : s.heap.get? z = some (zObj TI TO a b)) (ha : s.heap.get? a = some o)
    (q : ∀ h', h'.get? z = some (zObj TI TO a true) → Heap.SameBut z s.heap h' → Q false { s with heap := h' }) : wpAny (model prog w) A (Builtin.SmallTypes.ownedTupleIsFree (.ref z)) Q E s := by
  (unfold Builtin.SmallTypes.ownedTupleIsFree)
  refine wpAny_bind (wpAny_field g rfl (x := rawInt a) rfl ?_)
  refine (?_ : wpAny _ _ (loadIfAlive ((a : Nat) : Int).toNat >>= _) _ _ _)
  rw [Int.toNat_natCast]
  refine wpAny_bind (alive_is ha ?_)
  refine (?_ : wpAny _ _ (field (.ref z) 1 >>= _) _ _ _)
  refine wpAny_bind (wpAny_field g rfl (x := .bool b) rfl ?_)
  cases b with
  | true => exact wpAny_pure (q s.heap g ⟨rfl, fun _ _ => rfl⟩)
  | false =>
    refine (?_ : wpAny _ _ (setField (.ref z) 1 (.bool true) >>= _) _ _ _)
    refine wpAny_bind (wpAny_setField_rec g (by simp) fun q1 z1 b1 => wpAny_pure (q q1 z1 b1))
theorem zTw_next {z TI TO i1 i2 l1 l2 : Addr} {k : Nat} {xs ys : Array Value} {x y : Value} {Q : Value → Shared → Prop} (D : ZipApart z TI TO i1 i2 l1 l2) (g : zTw z TI TO i1 i2 l1 l2 k s.heap)
    (p1 : s.heap.IsTuple l1 xs) (p2 : s.heap.IsTuple l2 ys) (ex : xs[k]? = some x) (ey : ys[k]? = some y)
    (q : ∀ h', zTw z TI TO i1 i2 l1 l2 (k + 1) h' → IsPair h' s.heap.objs.size x y → (∀ c o, c ≠ z → c ≠ TO → c ≠ i1 → c ≠ i2 → s.heap.get? c = some o → h'.get? c = some o) → Q (.ref s.heap.objs.size) { s with heap := h' }) : wpAny (model prog w) A (Builtin.«zip.__next__» ⟨[.ref z], []⟩) (fun fin s' => ∃ v, fin = .done (.ret v) ∧ Q v s') E s := by
  obtain ⟨⟨a, b, g1, az, a1, a2, o, ha⟩, g2, g4, g5⟩ := g
  refine (?_ : wpAny _ _ (field (.ref z) 2 >>= _) _ _ _)
  refine wpAny_bind (wpAny_field g1 rfl (x := .bool false) rfl (?_ : wpAny _ _ (field (.ref z) 3 >>= _) _ _ _))
  refine wpAny_bind (wpAny_field g1 rfl (x := .ref TI) rfl (wpAny_bind (wpAny_seqItems g2 rfl (?_ : wpAny _ _ (Builtin.SmallTypes.ownedTupleIsFree (.ref z) >>= _) _ _ _))))
  refine wpAny_bind (owned_no g1 ha fun q1 z1 b1 => ?_)
  (simp only [Bool.false_eq_true, if_false])
  refine wpAny_bind ?_
  rw [← Array.forIn_toList]
  (simp only [List.forIn_cons, List.forIn_nil])
  refine wpAny_bind (wpAny_bind (wpAny_holding (?_ : wpAny _ _ (Builtin.SmallTypes.nextOf (.ref i1) >>= _) _ _ _)))
  refine wpAny_bind (tuNext (g4.extBut b1.extBut D.i1z) (p1.extBut b1.extBut D.l1z) ex fun q2 n1 b2 => wpAny_pure (wpAny_pure ?_))
  refine wpAny_bind (wpAny_bind (wpAny_holding (?_ : wpAny _ _ (Builtin.SmallTypes.nextOf (.ref i2) >>= _) _ _ _)))
  refine wpAny_bind (tuNext ((g5.extBut b1.extBut D.i2z).extBut b2.extBut D.i12.symm) ((p2.extBut b1.extBut D.l2z).extBut b2.extBut D.l2i1) ey fun q4 n2 b4 => wpAny_pure (wpAny_pure (wpAny_pure ?_)))
  have sz : q4.objs.size = s.heap.objs.size := by rw [b4.1, b2.1, b1.1]
  have kk : ∀ c o, c ≠ z → c ≠ i1 → c ≠ i2 → s.heap.get? c = some o → q4.get? c = some o := fun c o d1 d3 d4 e => b4.extBut _ _ d4 (b2.extBut _ _ d3 (b1.extBut _ _ d1 e))
  have z4 : q4.get? z = some (zObj TI TO a true) := b4.extBut _ _ D.i2z.symm (b2.extBut _ _ D.i1z.symm z1)
  refine wpAny_bind (wpAny_newTuple (wpAny_pure ⟨_, rfl, ?_⟩) (by rw [sizeLine_eq]; simp))
  rw [sz]
  refine q _ ⟨⟨a, true, Heap.get?_push_of_some _ z4, az, a1, a2, o, Heap.get?_push_of_some _ (kk a o az a1 a2 ha)⟩, Heap.get?_push_of_some _ (kk TI _ D.TIz D.TIi1 D.TIi2 g2), (n1.extBut b4.extBut D.i12).at fun o e => Heap.get?_push_of_some _ e, n2.at fun o e => Heap.get?_push_of_some _ e⟩ ?_ fun c o d1 d2 d3 d4 e => Heap.get?_push_of_some _ (kk c o d1 d3 d4 e)
  rw [← sz]
  exact Heap.get?_push_size _ rfl
theorem zTw_stop {z TI TO i1 i2 l1 l2 : Addr} {k : Nat} {xs ys : Array Value} {Q : PySem.Fin → Shared → Prop} (hh : A.handled = none) (D : ZipApart z TI TO i1 i2 l1 l2) (g : zTw z TI TO i1 i2 l1 l2 k s.heap)
    (p1 : s.heap.IsTuple l1 xs) (p2 : s.heap.IsTuple l2 ys) (en : xs[k]? = none ∨ ys[k]? = none)
    (q : ∀ h' e, (∀ c o, c ≠ z → c ≠ TO → c ≠ i1 → c ≠ i2 → s.heap.get? c = some o → h'.get? c = some o) → (∃ o, h'.get? e = some o ∧ o.cls = .type "StopIteration") → E (.ref e) { s with heap := h' }) : wpAny (model prog w) A (Builtin.«zip.__next__» ⟨[.ref z], []⟩) Q E s := by
  obtain ⟨⟨a, b, g1, az, a1, a2, o, ha⟩, g2, g4, g5⟩ := g
  refine (?_ : wpAny _ _ (field (.ref z) 2 >>= _) _ _ _)
  refine wpAny_bind (wpAny_field g1 rfl (x := .bool false) rfl (?_ : wpAny _ _ (field (.ref z) 3 >>= _) _ _ _))
  refine wpAny_bind (wpAny_field g1 rfl (x := .ref TI) rfl (wpAny_bind (wpAny_seqItems g2 rfl (?_ : wpAny _ _ (Builtin.SmallTypes.ownedTupleIsFree (.ref z) >>= _) _ _ _))))
  refine wpAny_bind (owned_no g1 ha fun q1 z1 b1 => ?_)
  (simp only [Bool.false_eq_true, if_false])
  refine wpAny_bind ?_
  rw [← Array.forIn_toList]
  (simp only [List.forIn_cons, List.forIn_nil])
  refine wpAny_bind (wpAny_bind (wpAny_holding (?_ : wpAny _ _ (Builtin.SmallTypes.nextOf (.ref i1) >>= _) _ _ _)))
  cases ex : xs[k]? with
  | none => exact wpAny_bind (tuStop hh (g4.extBut b1.extBut D.i1z) (p1.extBut b1.extBut D.l1z) ex fun q2 e b2 he => q q2 e (fun c o d1 _ d3 _ u => b2 _ _ d3 (b1.extBut _ _ d1 u)) he)
  | some x =>
    have ey : ys[k]? = none := en.resolve_left fun u => by rw [ex] at u; cases u
    refine wpAny_bind (tuNext (g4.extBut b1.extBut D.i1z) (p1.extBut b1.extBut D.l1z) ex fun q2 n1 b2 => wpAny_pure (wpAny_pure ?_))
    refine wpAny_bind (wpAny_bind (wpAny_holding (?_ : wpAny _ _ (Builtin.SmallTypes.nextOf (.ref i2) >>= _) _ _ _)))
    exact wpAny_bind (tuStop hh ((g5.extBut b1.extBut D.i2z).extBut b2.extBut D.i12.symm) ((p2.extBut b1.extBut D.l2z).extBut b2.extBut D.l2i1) ey fun q4 e b4 he => q q4 e (fun c o d1 d2 d3 d4 u => b4 _ _ d4 (b2.extBut _ _ d3 (b1.extBut _ _ d1 u))) he)
def zTx (z TI TO i1 i2 l1 l2 : Addr) (k : Nat) (h : Heap) : Prop := zTu z TI TO i1 i2 l1 l2 k h ∨ zTw z TI TO i1 i2 l1 l2 k h
theorem zTx_next {z TI TO i1 i2 l1 l2 : Addr} {k : Nat} {xs ys : Array Value} {x y : Value} {Q : Option Value → Shared → Prop} (D : ZipApart z TI TO i1 i2 l1 l2) (g : zTx z TI TO i1 i2 l1 l2 k s.heap)
    (p1 : s.heap.IsTuple l1 xs) (p2 : s.heap.IsTuple l2 ys) (ex : xs[k]? = some x) (ey : ys[k]? = some y)
    (q : ∀ h', zTx z TI TO i1 i2 l1 l2 (k + 1) h' → IsPair h' s.heap.objs.size x y → (∀ c o, c ≠ z → c ≠ TO → c ≠ i1 → c ≠ i2 → s.heap.get? c = some o → h'.get? c = some o) → Q (some (.ref s.heap.objs.size)) { s with heap := h' }) : wpAny (model prog w) A (pyNext (.ref z)) Q E s := by
  rcases g with g | g
  · have lt : ∀ c o, s.heap.get? c = some o → s.heap.objs.size ≠ c := fun c o e => Nat.ne_of_gt (Heap.lt_size e)
    have n1 : s.heap.objs.size ≠ z := lt z _ g.1
    have n2 : s.heap.objs.size ≠ i1 := let ⟨o, e, _⟩ := g.2.2.2.1; lt i1 o e
    have n3 : s.heap.objs.size ≠ i2 := let ⟨o, e, _⟩ := g.2.2.2.2; lt i2 o e
    have ti := g.2.1
    exact zTu_pyNext D g p1 p2 ex ey fun h' a1 a2 a3 a4 a5 a6 => q h' (.inr ⟨⟨s.heap.objs.size, false, a1, n1, n2, n3, _, a5⟩, a6 TI _ D.TIz D.TITO D.TIi1 D.TIi2 ti, a3, a4⟩) a5 a6
  · obtain ⟨a, b, g1, _⟩ := g.zo
    have ty : s.TypeIs (.ref z) "zip" := ⟨_, g1, rfl⟩
    unfold pyNext
    exact wpAny_bind (wpAny_attempt (wpAny_callSpecial?_slot (name := Str.ofString "__next__") ty F.slot_zip_next (wpAny_call_entry F.slot_zip_next ty F.entry_zip_next (zTw_next D g p1 p2 ex ey fun h' a1 a2 a3 => wpAny_pure (q h' (.inr a1) a2 a3)) (F.args_zip_next_1 _))))
theorem zTx_stop {z TI TO i1 i2 l1 l2 : Addr} {k : Nat} {xs ys : Array Value} {Q : Option Value → Shared → Prop} (hh : A.handled = none) (D : ZipApart z TI TO i1 i2 l1 l2) (g : zTx z TI TO i1 i2 l1 l2 k s.heap)
    (p1 : s.heap.IsTuple l1 xs) (p2 : s.heap.IsTuple l2 ys) (en : xs[k]? = none ∨ ys[k]? = none)
    (q : ∀ h', (∀ c o, c ≠ z → c ≠ TO → c ≠ i1 → c ≠ i2 → s.heap.get? c = some o → h'.get? c = some o) → Q none { s with heap := h' }) : wpAny (model prog w) A (pyNext (.ref z)) Q E s := by
  rcases g with g | g
  · exact zTu_pyStop hh D g p1 p2 en q
  · obtain ⟨a, b, g1, _⟩ := g.zo
    have ty : s.TypeIs (.ref z) "zip" := ⟨_, g1, rfl⟩
    unfold pyNext
    refine wpAny_bind (wpAny_attempt (wpAny_callSpecial?_slot (name := Str.ofString "__next__") ty F.slot_zip_next (wpAny_call_entry F.slot_zip_next ty F.entry_zip_next (zTw_stop hh D g p1 p2 en fun h' e hk he => ?_) (F.args_zip_next_1 _))))
    obtain ⟨o, ho, hc⟩ := he
    exact wpAny_bind (wpAny_isInstance (T := "StopIteration") (b := true) ⟨o, ho, hc⟩ isSubtype_stop (wpAny_pure (q _ hk)))
theorem zTx.frame {z TI TO i1 i2 l1 l2 S : Addr} {k : Nat} {h h' : Heap} (g : zTx z TI TO i1 i2 l1 l2 k h) (n1 : S ≠ z) (n2 : S ≠ TI) (n3 : S ≠ TO) (n4 : S ≠ i1) (n5 : S ≠ i2) (hS : ∃ o, h.get? S = some o ∧ o.cls = .type "list") (hS' : ∃ o, h'.get? S = some o) (sb : ∀ c o, c ≠ S → h.get? c = some o → h'.get? c = some o) : zTx z TI TO i1 i2 l1 l2 k h' := by
  rcases g with ⟨g1, g2, ⟨a, b, g3⟩, g4, g5⟩ | ⟨⟨a, b, g1, a1, a2, a3, o, a4⟩, g2, g3, g4⟩
  · exact .inl ⟨sb _ _ n1.symm g1, sb _ _ n2.symm g2, ⟨a, b, sb _ _ n3.symm g3⟩, g4.at fun o e => sb _ o n4.symm e, g5.at fun o e => sb _ o n5.symm e⟩
  · refine .inr ⟨⟨a, b, sb _ _ n1.symm g1, a1, a2, a3, ?_⟩, sb _ _ n2.symm g2, g3.at fun o e => sb _ o n4.symm e, g4.at fun o e => sb _ o n5.symm e⟩
    by_cases c : a = S
    · rw [c]; exact hS'
    · exact ⟨o, sb _ o c a4⟩
structure Prs (h : Heap) (base : Nat) (xs ys : Array Value) (acc : Array Value) (k : Nat) : Prop where
  sz : acc.size = k
  at' : ∀ i, i < k → ∃ T x y, acc[i]? = some (.ref T) ∧ xs[i]? = some x ∧ ys[i]? = some y ∧ base ≤ T ∧ IsPair h T x y
  ap : ∀ (i j : Nat) (T U : Addr), i < j → acc[i]? = some (Value.ref T) → acc[j]? = some (Value.ref U) → T ≠ U
theorem zip_loop {z TI TO i1 i2 l1 l2 S : Addr} {xs ys : Array Value} {res : Value} {R : Result → Shared → Prop} (hh : A.handled = none) (D : ZipApart z TI TO i1 i2 l1 l2) (n1 : S ≠ z) (n2 : S ≠ TI) (n3 : S ≠ TO) (n4 : S ≠ i1) (n5 : S ≠ i2) (n6 : S ≠ l1) (n7 : S ≠ l2) (h0 : Heap) (base : Nat) (hz : Nat.lt z base) (hTO : Nat.lt TO base) (hi1 : Nat.lt i1 base) (hi2 : Nat.lt i2 base) (hS : Nat.lt S base) (hn : min xs.size ys.size ≤ sizeLine) :
    ∀ (m k : Nat) (s : Shared) (acc : Array Value) (c : Nat), min xs.size ys.size - k = m → k ≤ min xs.size ys.size → zTx z TI TO i1 i2 l1 l2 k s.heap → s.heap.IsTuple l1 xs → s.heap.IsTuple l2 ys → base ≤ s.heap.objs.size →
    s.heap.get? S = some { cls := .type "list", data := .seq acc c } → Prs s.heap base xs ys acc k → (∀ c o, Nat.lt c base → c ≠ z → c ≠ TO → c ≠ i1 → c ≠ i2 → c ≠ S → h0.get? c = some o → s.heap.get? c = some o) →
    (∀ h' tk acc' c', h'.get? S = some { cls := .type "list", data := .seq acc' c' } → Prs h' base xs ys acc' (min xs.size ys.size) → (∀ c o, Nat.lt c base → c ≠ z → c ≠ TO → c ≠ i1 → c ≠ i2 → c ≠ S → h0.get? c = some o → h'.get? c = some o) → R (.ok (.ret res)) { s with heap := h', toks := tk }) →
    codeAny (model prog w) A (.builtin "list.extend.loop" ⟨[.ref S, .ref z, res], []⟩) R s := by
  have far : ∀ {T a : Addr}, base ≤ T → Nat.lt a base → T ≠ a := fun {T a} x y e => by
    subst e
    exact Nat.lt_irrefl _ (Nat.lt_of_lt_of_le y x)
  intro m
  induction m with
  | zero =>
    intro k s acc c hk hi g p1 p2 hb hl hp k0 hR
    have e : k = min xs.size ys.size := by omega
    subst e
    (refine codeAny_builtin F.entry_extend_loop ?_)
    (rw [Around.under_plainId F.plain_extend_loop _])
    refine (?_ : wpAny _ A.in1 (pyNext (.ref z) >>= _) _ _ s)
    refine wpAny_bind (zTx_stop hh D g p1 p2 ?_ fun h' hk' => ?_)
    · rcases Nat.le_total xs.size ys.size with q | q
      · exact .inl (Array.getElem?_eq_none (by omega))
      · exact .inr (Array.getElem?_eq_none (by omega))
    refine wpAny_pure (hR h' s.toks acc c (hk' S _ n1 n3 n4 n5 hl) ⟨hp.sz, fun i hi => ?_, hp.ap⟩ fun c o d0 d1 d2 d3 d4 d5 e => hk' c o d1 d2 d3 d4 (k0 c o d0 d1 d2 d3 d4 d5 e))
    obtain ⟨T, x, y, t1, t2, t3, t4, t5⟩ := hp.at' i hi
    exact ⟨T, x, y, t1, t2, t3, t4, hk' T _ (far t4 hz) (far t4 hTO) (far t4 hi1) (far t4 hi2) t5⟩
  | succ m ih =>
    intro k s acc c hk hi g p1 p2 hb hl hp k0 hR
    have l1' : k < xs.size := by omega
    have l2' : k < ys.size := by omega
    (refine codeAny_builtin F.entry_extend_loop ?_)
    (rw [Around.under_plainId F.plain_extend_loop _])
    refine (?_ : wpAny _ A.in1 (pyNext (.ref z) >>= _) _ _ s)
    refine wpAny_bind (zTx_next D g p1 p2 (Array.getElem?_eq_getElem l1') (Array.getElem?_eq_getElem l2') fun h' g' nw hk' => ?_)
    have hl' := hk' S _ n1 n3 n4 n5 hl
    refine (?_ : wpAny _ A.in1 (updateSeq S (·.push (.ref s.heap.objs.size)) >>= _) _ _ _)
    have nS : s.heap.objs.size ≠ S := far hb hS
    have oth : ∀ c o, c ≠ S → h'.get? c = some o → (h'.update S (Obj.mapSeq (·.push (.ref s.heap.objs.size)))).get? c = some o := fun c o d e => (Heap.get?_update_other _ _ d.symm).trans e
    have new := Heap.get?_update_self (Obj.mapSeq (·.push (Value.ref s.heap.objs.size))) hl' rfl
    refine wpAny_bind (wpAny_updateSeq hl' rfl (wpAny_pure ⟨plainId_quiet F.plain_extend_loop _, ?_⟩) (by rw [hp.sz]; omega) (by rw [Array.size_push, hp.sz]; omega))
    refine ih (k + 1) _ (acc.push (.ref s.heap.objs.size)) _ (by omega) (by omega) (g'.frame n1 n2 n3 n4 n5 ⟨_, hl', rfl⟩ ⟨_, new⟩ oth) ?_ ?_ ?_ new ⟨by rw [Array.size_push, hp.sz], fun i hi => ?_, fun i j T U hij h1 h2 => ?_⟩ (fun c o d0 d1 d2 d3 d4 d5 e => oth c o d5 (hk' c o d1 d2 d3 d4 (k0 c o d0 d1 d2 d3 d4 d5 e))) fun h2 tk acc' c' x1 x2 x3 => hR h2 tk acc' c' x1 x2 x3
    · obtain ⟨o, e, r⟩ := p1
      exact ⟨o, oth _ _ n6.symm (hk' _ _ D.l1z D.l1TO D.l1i1 D.l1i2 e), r⟩
    · obtain ⟨o, e, r⟩ := p2
      exact ⟨o, oth _ _ n7.symm (hk' _ _ D.l2z D.l2TO D.l2i1 D.l2i2 e), r⟩
    · exact Nat.le_trans hb (Nat.le_of_lt (Heap.lt_size (oth _ _ nS nw)))
    · by_cases c : i < k
      · obtain ⟨T, x, y, t1, t2, t3, t4, t5⟩ := hp.at' i c
        refine ⟨T, x, y, ?_, t2, t3, t4, oth _ _ (far t4 hS) (hk' T _ (far t4 hz) (far t4 hTO) (far t4 hi1) (far t4 hi2) t5)⟩
        rw [Array.getElem?_push_lt (by rw [hp.sz]; exact c)]
        rw [← t1, Array.getElem?_eq_getElem (by rw [hp.sz]; exact c)]
      · have : i = k := by omega
        subst this
        refine ⟨s.heap.objs.size, xs[i], ys[i], ?_, Array.getElem?_eq_getElem l1', Array.getElem?_eq_getElem l2', hb, oth _ _ nS nw⟩
        rw [← hp.sz, Array.getElem?_push_size]
    · have hj : j < acc.size + 1 := by
        have := (Array.getElem?_eq_some_iff.mp h2).1
        rwa [Array.size_push] at this
      have hi' : i < acc.size := by omega
      rw [Array.getElem?_push_lt hi', ← Array.getElem?_eq_getElem hi'] at h1
      by_cases c : j < acc.size
      · rw [Array.getElem?_push_lt c, ← Array.getElem?_eq_getElem c] at h2
        exact hp.ap i j T U hij h1 h2
      · have : j = acc.size := by omega
        subst this
        rw [Array.getElem?_push_size] at h2
        cases h2
        obtain ⟨T', x, y, t1, _, _, _, t5⟩ := hp.at' i (by rw [← hp.sz]; exact hi')
        rw [h1] at t1
        cases t1
        exact Nat.ne_of_lt (Heap.lt_size t5)
end
end PV
namespace PV
open PySem L2 PySem.Spec PyProof.Rows
theorem zip_nolen : typeLookup (.type "zip") "__len__" = pure none := by rw [typeLookup_type, builtinLookup_eq_fast]; kernel_rfl
theorem zip_nohint : typeLookup (.type "zip") "__length_hint__" = pure none := by rw [typeLookup_type, builtinLookup_eq_fast]; kernel_rfl
section
variable {prog : Program} {w : World} {A : Around} {E : Value → Shared → Prop} {s : Shared}
theorem list_zip {z TI TO i1 i2 l1 l2 : Addr} {xs ys : Array Value} {Q : Value → Shared → Prop} (hh : A.handled = none) (D : ZipApart z TI TO i1 i2 l1 l2) (g : zTu z TI TO i1 i2 l1 l2 0 s.heap) (p1 : s.heap.IsTuple l1 xs) (p2 : s.heap.IsTuple l2 ys) (hn : min xs.size ys.size ≤ sizeLine)
    (q : ∀ h' tk acc c, h'.get? s.heap.objs.size = some { cls := .type "list", data := .seq acc c } → Prs h' (s.heap.objs.size + 1) xs ys acc (min xs.size ys.size) → (∀ c o, c ≠ z → c ≠ TO → c ≠ i1 → c ≠ i2 → s.heap.get? c = some o → h'.get? c = some o) → Q (.ref s.heap.objs.size) { s with heap := h', toks := tk }) :
    wpAny (model prog w) A (call (.type "list") [.ref z]) Q E s := by
  obtain ⟨g1, g2, ⟨a, b, g3⟩, ⟨o4, g4, c4, d4⟩, ⟨o5, g5, c5, d5⟩⟩ := id g
  obtain ⟨t1, e1, r1⟩ := id p1
  obtain ⟨t2, e2, r2⟩ := id p2
  have old : ∀ c o, s.heap.get? c = some o → Nat.lt c s.heap.objs.size := fun c o e => Heap.lt_size e
  have far : ∀ c o, s.heap.get? c = some o → s.heap.objs.size ≠ c := fun c o e => Nat.ne_of_gt (old c o e)
  refine callType_codes (Q₁ := fun obj s₁ => obj = .ref s.heap.objs.size ∧ s₁ = { s with heap := s.heap.push { cls := .type "list", data := .seq #[] } }) F.called_list (F.typeCall_list_1 _) F.entry_list_init (code_list_new _ ⟨rfl, rfl⟩) fun obj s₁ h₁ => ?_
  obtain ⟨rfl, rfl⟩ := h₁
  (have hS : (s.heap.push { cls := .type "list", data := .seq #[] }).get? s.heap.objs.size = some { cls := .type "list", data := .seq #[] } := Heap.get?_push_size _ rfl)
  have kp : ∀ c o, s.heap.get? c = some o → (s.heap.push { cls := .type "list", data := .seq #[] }).get? c = some o := fun c o e => Heap.get?_push_of_some _ e
  have sz1 : (s.heap.push { cls := .type "list", data := .seq #[] }).objs.size = s.heap.objs.size + 1 := Heap.size_push ..
  refine ⟨⟨_, hS, rfl⟩, F.args_list_init_2 _ _, ?_⟩
  generalize s.heap.push { cls := .type "list", data := .seq #[] } = h1 at hS kp sz1 ⊢
  refine (?_ : wpAny _ A.in1.in1 (do let old ← Builtin.List.listItems (.ref s.heap.objs.size); Builtin.List.listUpdate (.ref s.heap.objs.size) (fun _ => #[]); letGo old.toList.reverse; Builtin.List.listExtendWith (.ref s.heap.objs.size) (.ref z) .none) _ _ _)
  refine wpAny_bind ?_
  unfold Builtin.List.listItems
  (refine wpAny_bind (wpAny_seqItems hS rfl (wpAny_pure ?_)))
  refine (?_ : wpAny _ A.in1.in1 (updateSeq s.heap.objs.size (fun _ => #[]) >>= fun _ => letGo (#[] : Array Value).toList.reverse >>= fun _ => Builtin.List.listExtendWith (.ref s.heap.objs.size) (.ref z) .none) _ _ _)
  (refine wpAny_bind (wpAny_updateSeq hS rfl ?_))
  have hS2 := Heap.get?_update_self (Obj.mapSeq (fun _ => (#[] : Array Value))) hS rfl
  have oth2 : ∀ c o, c ≠ s.heap.objs.size → h1.get? c = some o → (h1.update s.heap.objs.size (Obj.mapSeq (fun _ => (#[] : Array Value)))).get? c = some o := fun c o hb e => (Heap.get?_update_other _ _ hb.symm).trans e
  have sz2 : (h1.update s.heap.objs.size (Obj.mapSeq (fun _ => (#[] : Array Value)))).objs.size = s.heap.objs.size + 1 := by rw [← sz1]; exact (Heap.SameBut.update (a := s.heap.objs.size) ..).1
  refine wpAny_bind (wpAny_letGo ?_)
  dsimp only
  generalize h1.update s.heap.objs.size (Obj.mapSeq (fun _ => (#[] : Array Value))) = h2 at hS2 oth2 sz2 ⊢
  have zz : IsZip h2 z TI TO .none := oth2 _ _ (far z _ g1).symm (kp _ _ g1)
  have tz : Shared.TypeIs { s with heap := h2 } (.ref z) "zip" := ⟨_, zz, rfl⟩
  (unfold Builtin.List.listExtendWith)
  refine wpAny_bind (wpAny_typeOf tz ?_)
  have e0 : Builtin.List.listSameRef (.ref s.heap.objs.size) (.ref z) = false := by simp [Builtin.List.listSameRef, far z _ g1]
  simp only [e0, show (Value.type "zip" == Value.type "list") = false by decide, show (Value.type "zip" == Value.type "tuple") = false by decide, Bool.or_false, Bool.false_eq_true, if_false]
  refine wpAny_bind (wpAny_pyIter_zip zz (wpAny_bind (wpAny_holding ?_)))
  (unfold Builtin.List.listLengthHint)
  refine wpAny_bind (wpAny_specialOf tz zip_nolen ?_)
  refine (?_ : wpAny _ A.in1.in1 (specialOf (Value.ref z) (Str.ofString "__length_hint__") >>= _) _ _ _)
  refine wpAny_bind (wpAny_specialOf tz zip_nohint (wpAny_pure ?_))
  refine (?_ : wpAny _ A.in1.in1 (rule "list.extend.makes-room" >>= fun _ => Builtin.List.listTouch (.ref s.heap.objs.size) >>= fun _ => again (.builtin "list.extend.loop" ⟨[.ref s.heap.objs.size, .ref z, .none], []⟩)) _ _ _)
  refine wpAny_bind (wpAny_rule (wpAny_bind ?_))
  refine (?_ : wpAny _ A.in1.in1 (updateSeq s.heap.objs.size (·.push .none) >>= fun _ => updateSeq s.heap.objs.size (·.pop)) _ _ _)
  refine wpAny_bind (wpAny_updateSeq hS2 rfl ?_)
  have hS3 := Heap.get?_update_self (Obj.mapSeq (·.push Value.none)) hS2 rfl
  refine wpAny_updateSeq hS3 rfl ?_ (by decide)
  have hS4 := Heap.get?_update_self (Obj.mapSeq (·.pop)) hS3 rfl
  have oth4 : ∀ c o, c ≠ s.heap.objs.size → h2.get? c = some o → ((h2.update s.heap.objs.size (Obj.mapSeq (·.push Value.none))).update s.heap.objs.size (Obj.mapSeq (·.pop))).get? c = some o := fun c o hb e => (Heap.get?_update_other _ _ hb.symm).trans ((Heap.get?_update_other _ _ hb.symm).trans e)
  have sz4 : ((h2.update s.heap.objs.size (Obj.mapSeq (·.push Value.none))).update s.heap.objs.size (Obj.mapSeq (·.pop))).objs.size = s.heap.objs.size + 1 := by rw [← sz2]; exact (Heap.SameBut.update (a := s.heap.objs.size) ..).1.trans (Heap.SameBut.update (a := s.heap.objs.size) ..).1
  dsimp only at hS4 oth4 sz4 ⊢
  generalize (h2.update s.heap.objs.size (Obj.mapSeq (·.push Value.none))).update s.heap.objs.size (Obj.mapSeq (·.pop)) = h4 at hS4 oth4 sz4 ⊢
  have k4 : ∀ c o, s.heap.get? c = some o → h4.get? c = some o := fun c o e => oth4 c o (far c o e).symm (oth2 c o (far c o e).symm (kp c o e))
  have lt1 : ∀ c o, s.heap.get? c = some o → Nat.lt c (s.heap.objs.size + 1) := fun c o e => Nat.lt_succ_of_lt (old c o e)
  refine wpAny_pure ⟨plainId_quiet F.plain_extend_loop _, zip_loop (A := A.in1) hh D (far z _ g1) (far TI _ g2) (far TO _ g3) (far i1 _ g4) (far i2 _ g5) (far l1 _ e1) (far l2 _ e2) h4 (s.heap.objs.size + 1) (lt1 z _ g1) (lt1 TO _ g3) (lt1 i1 _ g4) (lt1 i2 _ g5) (Nat.lt_succ_self _) hn _ 0 _ _ _ rfl (Nat.zero_le _) (.inl ⟨k4 _ _ g1, k4 _ _ g2, ⟨a, b, k4 _ _ g3⟩, ⟨o4, k4 _ _ g4, c4, d4⟩, ⟨o5, k4 _ _ g5, c5, d5⟩⟩) ⟨t1, k4 _ _ e1, r1⟩ ⟨t2, k4 _ _ e2, r2⟩ (Nat.le_of_eq sz4.symm) hS4 ⟨rfl, fun i hi => absurd hi (Nat.not_lt_zero _), fun i j T U _ h1 _ => by simp at h1⟩ (fun c o _ _ _ _ _ _ e => e) fun h' tk acc c' x1 x2 x3 => ?_⟩
  exact ⟨rfl, q h' tk acc c' x1 x2 fun c o d1 d2 d3 d4 e => x3 c o (lt1 c o e) d1 d2 d3 d4 (far c o e).symm (k4 c o e)⟩
end
end PV
namespace PV
open PySem L2 PySem.Spec PyProof.Rows
section
variable {X : Cx} {K : Zc} {th : List Addr} {mu : Sto} {H : Hp} {pins : List (Addr × Obj)} {st : L2.St} {s s1 : Shared}
theorem lay_prs {base : Nat} {xs ys acc : Array Value} {n : Nat} {ds es : List D} {us ws : List V} (I1 : L2.Inv X pins st H s1) (I : L2.Inv X pins st H s) (so : StoOk X.z th mu H) (hb : s1.heap.objs.size ≤ base) (P : Prs s.heap base xs ys acc n) (r1 : RepL X.z th H ds us) (q1 : Vals us xs.toList) (r2 : RepL X.z th H es ws) (q2 : Vals ws ys.toList) :
    ∀ k, k ≤ n → ∃ H' zs, L2.Inv X pins st H' s ∧ StoOk X.z th mu H' ∧ Ext th H th H' ∧ RepL X.z th H' ((zipD ds es).take k) zs ∧ Vals zs (acc.toList.take k) ∧ ∀ a, s1.heap.objs.size ≤ a → (∀ i, i < k → acc[i]? ≠ some (.ref a)) → H' a = none
  | 0, _ => ⟨H, [], I, so, .refl _ _, by simp; exact .nil, by simp; exact .nil, fun a ha _ => I1.hok.fresh ha⟩
  | k + 1, hk => by
    obtain ⟨H', zs, J, sj, ex, rz, qz, fr⟩ := lay_prs I1 I so hb P r1 q1 r2 q2 k (by omega)
    obtain ⟨T, x, y, t1, t2, t3, t4, t5⟩ := P.at' k hk
    have hT : H' T = none := fr T (Nat.le_trans hb t4) fun i hi e => P.ap i k T T hi e t1 rfl
    obtain ⟨v, v1, v2⟩ := (pair_at q1 k).2 x (by simpa using t2)
    obtain ⟨u, u1, u2⟩ := (pair_at q2 k).2 y (by simpa using t3)
    have kd : k < ds.length := by rw [← r1.len]; exact (List.getElem?_eq_some_iff.mp v1).1
    have ke : k < es.length := by rw [← r2.len]; exact (List.getElem?_eq_some_iff.mp u1).1
    obtain ⟨v', w1, w2⟩ := r1.get (List.getElem?_eq_getElem kd)
    rw [v1] at w1
    cases w1
    obtain ⟨u', w3, w4⟩ := r2.get (List.getElem?_eq_getElem ke)
    rw [u1] at w3
    cases w3
    have ek : (zipD ds es)[k]? = some (.tup [ds[k], es[k]]) := by
      unfold zipD
      rw [List.getElem?_map, (List.getElem?_zip_eq_some (z := (ds[k], es[k]))).mpr ⟨List.getElem?_eq_getElem kd, List.getElem?_eq_getElem ke⟩]
      rfl
    have rp : RepL X.z th H' [ds[k], es[k]] [v, u] := .cons (w2.ext ex so.out) (.cons (w4.ext ex so.out) .nil)
    have J' := Inv.lay (T := T) (o := .tup [v, u]) J (I1.fpOk (Nat.le_trans hb t4) hT) (Nat.le_trans I1.sz (Nat.le_trans hb t4)) ⟨⟨by show 2 ≤ sizeLine; decide, _, t5, rfl⟩, [x, y], .cons v2 (.cons u2 .nil), ⟨_, t5, rfl, _, rfl⟩⟩
    refine ⟨_, zs ++ [.ref T], J', sj.new hT _, ex.trans (.new hT _), ?_, ?_, fun a ha hn => ?_⟩
    · rw [List.take_add_one, ek]
      exact (rz.ext (.new hT _) sj.out).app (.cons (Rep.newTup sj hT rp (by show 2 ≤ sizeLine; decide)) .nil)
    · rw [List.take_add_one, Array.getElem?_toList, t1]
      exact Vals.append qz (.cons rfl .nil)
    · have ne : a ≠ T := fun e => hn k (Nat.lt_succ_self _) (by rw [e]; exact t1)
      rw [upd_ne ne]
      exact fr a ha fun i hi => hn i (by omega)
def eLZ (m : Exs) : Ex := fun ro mu => bM (m ro mu) fun ds m1 => match tup2 ds with
  | some p => some (.lst (zipD p.1 p.2), m1)
  | none => none
theorem sv_listZip (hc : X.calm = true) {a b : Expr} {m : Exs} {p pos p2 pos2 : Pos} (hm : X.mg "zip" = none) (hml : X.mg "list" = none) (ha : SVA X [a, b] m) (hg : Gl X "zip" := by rfl) (hgl : Gl X "list" := by rfl) (hs : starEach [a, b] X.env = [(false, eval a X.env), (false, eval b X.env)] := by rfl) (hs2 : starEach [b] X.env = [(false, eval b X.env)] := by rfl)
    (hs3 : starEach [.Call (.Name "zip" p) [a, b] [] pos] X.env = (false, eval (.Call (.Name "zip" p) [a, b] [] pos) X.env) :: starEach [] X.env := by rfl) (hs4 : (backTo pos2 (starEach [] X.env)).any (·.1) = false := by rfl) :
    SV X (.Call (.Name "list" p2) [.Call (.Name "zip" p) [a, b] [] pos] [] pos2) (eLZ m) := ⟨by
  intro pins s st H Q I h
  obtain ⟨th, mu, ro, so, en, t⟩ := h
  refine wpAny_Call_Name_kw (ld_blt I hgl hml PyProof.Rows.boot_list ?_ (by decide) (by decide))
  refine PyProof.Rows.callWith_type1 ?_ hs3 hs4
  rw [hs3]
  refine (?_ : wpAny _ _ (spliced ((false, eval (.Call (.Name "zip" p) [a, b] [] pos) X.env) :: backTo pos2 (starEach [] X.env))) _ _ s)
  refine Calls.spliced_cons ?_
  refine Call_ (ld_blt I hg hm PyProof.Rows.boot_zip (PyProof.Rows.callWith_type1 (thn (ha.1 pos pins s st H (fun vs H1 => ∃ th1 mu1 ds, StoOk X.z th1 mu1 H1 ∧ RepL X.z th1 H1 ds vs ∧ Tr X.z th1 H1 (match tup2 ds with | some p => some (D.lst (zipD p.1 p.2), mu1) | none => none) (KV' X.z Q)) I ⟨th, mu, ro, so, en, t.bind.mono fun ds th1 mu1 H1 e1 s1 t1 vs rvs => ⟨th1, mu1, ds, s1, rvs, t1⟩⟩) fun us s1 ⟨vs, H1, I1, r1, th1, mu1, ds, so1, rds, t1⟩ => ?_) (by rw [hs, hs2]) (by rw [hs2]; rfl)))
  cases q : tup2 ds with
  | none => rw [q] at t1; exact t1.no.elim
  | some pr =>
    rw [q] at t1
    rw [tup2_inv q] at rds
    obtain ⟨d1, d2⟩ := pr
    dsimp only at rds t1
    obtain ⟨x, y, rfl, rx, ry⟩ := two_arg rds
    have rx' := rx
    have ry' := ry
    unfold Rep at rx' ry'
    obtain ⟨a1, vs1, rfl, h1, k1, z1⟩ := rx'
    obtain ⟨a2, vs2, rfl, h2, k2, z2⟩ := ry'
    obtain ⟨u1, u2, rfl, ra, rb⟩ := vals2 r1
    cases ra
    cases rb
    obtain ⟨its1, rv1, p1, _⟩ := I1.tuple h1
    obtain ⟨its2, rv2, p2', _⟩ := I1.tuple h2
    have lt1 : a1 < s1.heap.objs.size := by obtain ⟨o, e, _⟩ := p1; exact Heap.lt_size e
    have lt2 : a2 < s1.heap.objs.size := by obtain ⟨o, e, _⟩ := p2'; exact Heap.lt_size e
    refine zu_call p1 p2' fun h' zt hk => ?_
    refine Calls.spliced_nil ?_
    have I2 : L2.Inv X pins st H1 { s1 with heap := h' } := I1.kept (t' := s1.toks) hk
    have p1' : h'.IsTuple a1 its1.toArray := let ⟨o, e, r⟩ := p1; ⟨o, hk _ _ e, r⟩
    have p2'' : h'.IsTuple a2 its2.toArray := let ⟨o, e, r⟩ := p2'; ⟨o, hk _ _ e, r⟩
    have l1 : its1.length = d1.length := by rw [← rv1.length, k1.len]
    have l2 : its2.length = d2.length := by rw [← rv2.length, k2.len]
    have mn : min its1.toArray.size its2.toArray.size = (zipD d1 d2).length := by
      unfold zipD
      rw [List.length_map, List.length_zip, List.size_toArray, List.size_toArray]
      rw [l1, l2]
    have zz : (zipD d1 d2).length ≤ sizeLine := by
      unfold zipD
      rw [List.length_map, List.length_zip]
      exact Nat.le_trans (Nat.min_le_left _ _) z1
    refine list_zip (s := { s1 with heap := h' }) (I.ok.hd hc) (apart_of _ _ _ lt1 lt2) zt p1' p2'' (by rw [mn]; exact zz) fun h3 tk acc c x1 x2 x3 => ?_
    have hh : s1.heap.objs.size ≤ h'.objs.size := Nat.le_of_lt (Nat.lt_of_le_of_lt (Nat.le_add_right _ 4) (Heap.lt_size zt.1))
    have old : ∀ c o, s1.heap.get? c = some o → h3.get? c = some o := fun c o e => by
      have lt := Heap.lt_size e
      exact x3 c o (Nat.ne_of_lt (Nat.lt_of_lt_of_le lt (Nat.le_add_right _ 4))) (Nat.ne_of_lt (Nat.lt_of_lt_of_le lt (Nat.le_add_right _ 3))) (Nat.ne_of_lt lt) (Nat.ne_of_lt (Nat.lt_of_lt_of_le lt (Nat.le_add_right _ 1))) (hk c o e)
    have I3 : L2.Inv X pins st H1 { s1 with heap := h3, toks := tk } := I1.kept (t' := tk) old
    obtain ⟨H', zs, J, sj, ex, rz, qz, fr⟩ := lay_prs (s := { s1 with heap := h3, toks := tk }) I1 I3 so1 (Nat.le_succ_of_le hh) x2 k1 (by simpa using rv1) k2 (by simpa using rv2) _ (Nat.le_refl _)
    have tk1 : (zipD d1 d2).take (min its1.toArray.size its2.toArray.size) = zipD d1 d2 := List.take_of_length_le (Nat.le_of_eq mn.symm)
    have tk2 : acc.toList.take (min its1.toArray.size its2.toArray.size) = acc.toList := List.take_of_length_le (by rw [Array.length_toList, x2.sz]; exact Nat.le_refl _)
    rw [tk1] at rz
    rw [tk2] at qz
    have hL : H' h'.objs.size = none := fr _ hh fun i hi e => by
      obtain ⟨T, _, _, t1, _, _, t4, _⟩ := x2.at' i hi
      rw [t1] at e
      cases e
      exact Nat.lt_irrefl _ t4
    have J' := Inv.lay (T := h'.objs.size) (o := .lst zs) J (I1.fpOk hh hL) (Nat.le_trans I1.sz hh) ⟨by rw [rz.len]; exact zz, acc.toList, c, qz, x1⟩
    exact ⟨.ref h'.objs.size, _, J', rfl, t1.retX (ex.trans (.new hL _)) (sj.new hL _) _ (Rep.newLst sj hL rz zz)⟩⟩
end
end PV
namespace PV
open PySem L2 PySem.Spec PyProof.Rows
theorem drw_tup {prog : Program} {w : World} {A : Around} (hh : A.handled = none) (it l : Addr) (hne : l ≠ it) (items : Array Value) : Draws prog w A it [it, l] items.size (fun i v => items[i]? = some v) (fun i h => h.IsTupleIter it l i ∧ h.IsTuple l items) where
  live := fun i h st => let ⟨o, e, _⟩ := st.1; ⟨o, e⟩
  frame := fun i h h' st hk => ⟨st.1.at fun o e => hk it (by simp) o e, let ⟨o, e, r⟩ := st.2; ⟨o, hk l (by simp) o e, r⟩⟩
  item := fun i s R E hi st hQ => tuNext st.1 st.2 (Array.getElem?_eq_getElem hi) fun h' g sb => hQ _ h' s.toks (Array.getElem?_eq_getElem hi) ⟨g, st.2.extBut sb.extBut hne⟩ sb
  done := fun s R E st hE => tuStop hh st.1 st.2 (Array.getElem?_eq_none (Nat.le_refl _)) fun h' b x y => hE h' b x y
theorem en_stop {prog : Program} {w : World} {A : Around} {E : Value → Shared → Prop} {s : Shared} {e it l : Addr} {i : Nat} {old : Value} {items : Array Value} {Q : Option Value → Shared → Prop} (hh : A.handled = none) (h1 : IsEnum s.heap e it i old) (h2 : s.heap.IsTupleIter it l i) (p : s.heap.IsTuple l items) (hi : items.size ≤ i)
    (q : ∀ h', Heap.ExtBut it s.heap h' → Q none { s with heap := h' }) : wpAny (model prog w) A (pyNext (.ref e)) Q E s := by
  have ty : s.TypeIs (.ref e) "enumerate" := ⟨_, h1, rfl⟩
  unfold pyNext
  refine wpAny_bind (wpAny_attempt (wpAny_callSpecial?_slot (name := Str.ofString "__next__") ty F.slot_enumerate_next (wpAny_call_entry F.slot_enumerate_next ty F.entry_enumerate_next (?_ : wpAny _ _ (field (.ref e) 2 >>= _) _ _ _) (F.args_enumerate_next_1 _))))
  refine wpAny_bind (wpAny_field h1 rfl (x := .ref it) rfl (wpAny_bind (tuStop (A := A.in1) hh h2 p (Array.getElem?_eq_none hi) fun h' b x y => ?_)))
  obtain ⟨o, ho, hc⟩ := y
  exact wpAny_bind (wpAny_isInstance (T := "StopIteration") (b := true) ⟨o, ho, hc⟩ isSubtype_stop (wpAny_pure (q _ x)))
def ItE (K : PySem.W.Frag) (a : Addr) : It :=
  ⟨fun i H => ∃ xs x, SqT K H a xs ∧ xs[i]? = some x,
   fun i H v H' => ∃ T x, v = .ref T ∧ H T = none ∧ H' = upd H T (.tup [.int i, x]) ∧ ∀ xs, SqT K H a xs → xs[i]? = some x,
   fun i H => ∃ xs, SqT K H a xs ∧ xs.length ≤ i⟩
def eTu (e it l : Addr) (i : Nat) (h : Heap) : Prop := (∃ old, IsEnum h e it i old) ∧ h.IsTupleIter it l i
theorem turn_enT {P : Program} {w : World} {K : PySem.W.Frag} {elts : List Expr} {k : Nat} {pos : Pos} (e it l : Addr) (ne : e ≠ it) (nl : l ≠ it) (nel : l ≠ e) : Turn P w K (.Tuple elts k pos) (ItE K l) [e, it] e (eTu e it l) where
  mem := by simp
  obj := fun i h st b hb => by
    obtain ⟨⟨old, h1⟩, ⟨o2, h2, _, d2⟩⟩ := st
    have hb' : b = e ∨ b = it := by simpa using hb
    rcases hb' with z | z <;> subst z
    · exact ⟨_, h1, fun v x => by cases x⟩
    · exact ⟨_, h2, fun v x => by rw [d2] at x; cases x⟩
  keep := fun i h h' st kk => by
    obtain ⟨⟨old, h1⟩, h2⟩ := st
    exact ⟨⟨old, kk e (by simp) _ h1⟩, h2.at fun o x => kk it (by simp) o x⟩
  item := by
    intro X hP hw hK hc i pins s σ H E I hf st hg
    subst hP hw hK
    obtain ⟨xs, x, hq, hx⟩ := hg
    obtain ⟨its, rv, p1, hz⟩ := I.tuple hq
    obtain ⟨u, hu, ru⟩ := rv.get hx
    obtain ⟨⟨old, h1⟩, h2⟩ := st
    have hi : i < its.toArray.size := by
      have := (List.getElem?_eq_some_iff.mp hu).1
      simpa using this
    refine wpAny_pyNext_enum_itemD (drw_tup (A := X.A.in1) (I.ok.hd hc) it l nl its.toArray) h1 ⟨h2, p1⟩ hi ne (by simp only [List.mem_cons, List.not_mem_nil, or_false, not_or]; exact ⟨ne, nel.symm⟩) fun y h' tk hy ho hs' hT hsz hk => ?_
    have ey : y = u := by
      have : its[i]? = some y := by simpa using hy
      rw [hu] at this
      (exact (Option.some.inj this).symm)
    subst ey
    have lt : ∀ {c : Addr} {o : Obj}, s.heap.get? c = some o → c ≠ s.heap.objs.size := fun e => Nat.ne_of_lt (Heap.lt_size e)
    refine ⟨_, rfl, wpAny_letOwnedTupleGo_enum ho fun h'' b1 sb => ?_⟩
    have nT : s.heap.objs.size ≠ e := Ne.symm (lt h1)
    have kk : ∀ b o, b ∉ [e, it] → s.heap.get? b = some o → h''.get? b = some o := fun b o hb z => by
      simp only [List.mem_cons, List.not_mem_nil, or_false, not_or] at hb
      exact (sb.2 b hb.1).trans (hk b o hb.1 hb.2 z)
    have I1 : Inv X pins σ H { s with heap := h'', toks := tk + 1 } := I.turnedL kk hf
    have hn : H s.heap.objs.size = none := I.hok.fresh (Nat.le_refl _)
    have fT : FpOk X pins H s.heap.objs.size := I.fpOk (Nat.le_refl _) hn
    have I2 : Inv X pins σ (upd H s.heap.objs.size (.tup [.int i, x])) { s with heap := h'', toks := tk + 1 } := I1.lay fT I.sz
      ⟨⟨by show 2 ≤ sizeLine; decide, _, (sb.2 _ nT).trans hT, rfl⟩, [.int i tk, y], .cons ⟨tk, rfl⟩ (.cons ru .nil), ⟨_, (sb.2 _ nT).trans hT, rfl, _, rfl⟩⟩
    refine ⟨.ref s.heap.objs.size, _, I2, rfl, ⟨_, x, rfl, hn, rfl, fun xs' hx' => by rw [I.tuple_inj hx' hq]; exact hx⟩, ?_, fun b hb => ?_⟩
    · exact ⟨⟨_, by simpa using b1⟩, hs'.1.at fun o z => (sb.2 _ ne.symm).trans z⟩
    · have hb' : b = e ∨ b = it := by simpa using hb
      have ne : b ≠ s.heap.objs.size := by
        obtain ⟨o2, e2, _⟩ := h2
        rcases hb' with z | z <;> subst z
        · exact lt h1
        · exact lt e2
      rw [upd_ne ne]
      exact (hf b hb).1
  done := by
    intro X hP hw hK hc i pins s σ H E I hf st hg
    subst hP hw hK
    obtain ⟨xs, hq, hend⟩ := hg
    obtain ⟨its, rv, p1, hz⟩ := I.tuple hq
    obtain ⟨⟨old, h1⟩, h2⟩ := st
    have n1 := rv.length
    refine en_stop (I.ok.hd hc) h1 h2 (show s.heap.IsTuple l its.toArray from p1) (by rw [List.size_toArray]; omega) fun h' hk => ⟨rfl, I.turnedL (t' := s.toks) (fun b o hb z => ?_) hf⟩
    simp only [List.mem_cons, List.not_mem_nil, or_false, not_or] at hb
    exact hk b o hb.2 z
  self := fun A i s Q E st h => by
    obtain ⟨⟨old, h1⟩, _⟩ := st
    exact wpAny_pyIter_enum h1 h
theorem en_new (l : Addr) (items : Array Value) (n : Nat) (dd : Option Addr) (sl : Array (Option Value)) :
    Meets (Builtin.«enumerate.__new__» ⟨[.type "enumerate", .ref l], []⟩) (fun _ R s => s.heap.get? l = some { cls := .type "tuple", dict := dd, data := .seq items n, slots := sl } ∧
      R (.ok (.ret (.ref (s.heap.push { cls := .type "tuple_iterator", data := .fields #[.ref l, .int 0 0] }).objs.size)))
        { s with heap := (s.heap.push { cls := .type "tuple_iterator", data := .fields #[.ref l, .int 0 0] }).push { cls := .type "enumerate", data := .fields #[.none, .bool false, .ref s.heap.objs.size, rawInt 0, .none, .none] } }) :=
  .of_wp fun prog w A R s h => by
    (obtain ⟨hp, g, d, tk, os⟩ := s)
    obtain ⟨hl, h⟩ := h
    have hsub := sub_enumerate
    have hL : Heap.IsTuple (Shared.heap ⟨hp, g, d, tk, os⟩) l items := ⟨_, hl, rfl, n, rfl⟩
    (wp_walk using wpAny_loadPart' hl)
    (refine wpAny_stack_any fun st => wpAny_pure ?_)
    split
    · rename_i c _ _ _ _ _
      (cases (c == Value.type "enumerate"))
      · wp_walk using wpAny_loadPart' hl, wpAny_pyIter_tuple hL
        exact ⟨_, rfl, h⟩
      · wp_walk using wpAny_loadPart' hl, wpAny_pyIter_tuple hL
        exact ⟨_, rfl, h⟩
    · wp_walk using wpAny_loadPart' hl, wpAny_pyIter_tuple hL
      exact ⟨_, rfl, h⟩
theorem en_call {prog : Program} {w : World} {A : Around} {E : Value → Shared → Prop} {s : Shared} {l : Addr} {items : Array Value} {Q : Value → Shared → Prop} (p : s.heap.IsTuple l items)
    (q : ∀ h', eTu (s.heap.objs.size + 1) s.heap.objs.size l 0 h' → (∀ c o, s.heap.get? c = some o → h'.get? c = some o) → Q (.ref (s.heap.objs.size + 1)) { s with heap := h' }) : wpAny (model prog w) A (call (.type "enumerate") [.ref l]) Q E s := by
  obtain ⟨⟨c, dct, dt, sl⟩, hl, hc, n, hd⟩ := p
  simp only at hc hd
  subst hc hd
  refine callType_new F.called_enumerate (by decide) (F.typeCall_enumerate_1 _) (F.newCall_enumerate_1 _) (fun obj => F.args_object_init_2 obj _) F.entry_enumerate_new (en_new l items n dct sl) ⟨hl, ?_⟩
  have hz : (s.heap.push { cls := .type "tuple_iterator", data := .fields #[.ref l, .int 0 0] }).objs.size = s.heap.objs.size + 1 := Heap.size_push ..
  refine (?_ : _ ∧ _)
  rw [hz]
  have he : IsEnum ((s.heap.push { cls := .type "tuple_iterator", data := .fields #[.ref l, .int 0 0] }).push { cls := .type "enumerate", data := .fields #[.none, .bool false, .ref s.heap.objs.size, rawInt 0, .none, .none] }) (s.heap.objs.size + 1) s.heap.objs.size 0 .none := by
    have := Heap.get?_push_size (s.heap.push { cls := .type "tuple_iterator", data := .fields #[.ref l, .int 0 0] }) (o := { cls := .type "enumerate", data := .fields #[.none, .bool false, .ref s.heap.objs.size, rawInt 0, .none, .none] }) rfl
    rw [hz] at this
    exact this
  exact ⟨⟨_, he, rfl⟩, q _ ⟨⟨_, he⟩, _, Heap.get?_push_of_some _ (Heap.get?_push_size _ rfl), rfl, rfl⟩ fun b o x => Heap.get?_push_of_some _ (Heap.get?_push_of_some _ x)⟩
def iEnT (K : PySem.W.Frag) (ta : TA) : TI := fun σ H R => ta σ H fun vs H1 => ∃ a, vs = [.ref a] ∧ (∃ xs, SqT K H1 a xs) ∧ R (ItE K a) H1
theorem pi_enT {X : Cx} {a : Expr} {ta : TA} {p pos : Pos} {elts : List Expr} {k : Nat} {tp : Pos} (hg : Gl X "enumerate") (hm : X.mg "enumerate" = none) (ha : PA X [a] ta) (hs : starEach [a] X.env = (false, eval a X.env) :: starEach [] X.env) (hs2 : (backTo pos (starEach [] X.env)).any (·.1) = false) :
    PI X (.Tuple elts k tp) (.Call (.Name "enumerate" p) [a] [] pos) (iEnT X.K ta) := by
  intro pins s σ H R I h
  refine Call_ (ld_blt I hg hm PyProof.Rows.boot_enumerate (PyProof.Rows.callWith_type1 (thn (ha pos pins s σ H _ I h) fun us s1 ⟨vs, H1, I1, r1, q1⟩ => ?_) hs hs2))
  obtain ⟨a1, e, ⟨xs, hx⟩, q⟩ := q1
  subst e
  obtain ⟨u1, rfl, ra⟩ := vals1 r1
  cases ra
  obtain ⟨its1, rv1, p1, _⟩ := I1.tuple hx
  have lt1 : a1 < s1.heap.objs.size := by obtain ⟨o, e, _⟩ := p1; exact Heap.lt_size e
  refine en_call p1 fun h' zt hk => ?_
  obtain ⟨⟨old, z1⟩, z2⟩ := id zt
  refine wpAny_pyIter_enum z1 ?_
  refine ⟨s1.heap.objs.size + 1, [s1.heap.objs.size + 1, s1.heap.objs.size], _, _, H1, rfl, I1.kept (t' := s1.toks) fun b o e => hk b o e, turn_enT _ _ a1 (Nat.succ_ne_self _) (Nat.ne_of_lt lt1) (Nat.ne_of_lt (Nat.lt_succ_of_lt lt1)), zt, fun b hb => ?_, q⟩
  have hle : s1.heap.objs.size ≤ b := by
    have hb' : b = s1.heap.objs.size + 1 ∨ b = s1.heap.objs.size := by simpa using hb
    rcases hb' with rfl | rfl <;> simp
  exact I1.fpOk hle (I1.hok.fresh hle)
section
variable {X : Cx} {K : Zc} {th : List Addr} {mu : Sto} {H : Hp}
def enD (ds : List D) : List D := (List.range ds.length).zip ds |>.map fun p => .tup [.int (p.1 : Nat), p.2]
theorem enD_at {ds : List D} {i : Nat} {d : D} (h : (enD ds)[i]? = some d) : ∃ y, ds[i]? = some y ∧ d = .tup [.int i, y] := by
  unfold enD at h
  rw [List.getElem?_map] at h
  cases q : ((List.range ds.length).zip ds)[i]? with
  | none => rw [q] at h; cases h
  | some p =>
    rw [q] at h
    obtain ⟨h1, h2⟩ := List.getElem?_zip_eq_some.mp q
    have hi := (List.getElem?_eq_some_iff.mp h2).1
    rw [List.getElem?_range hi] at h1
    have e : i = p.1 := Option.some.inj h1
    refine ⟨p.2, h2, ?_⟩
    rw [e]
    exact (Option.some.inj h).symm
theorem enD_len (ds : List D) : (enD ds).length = ds.length := by
  unfold enD
  rw [List.length_map, List.length_zip, List.length_range, Nat.min_self]
def iEn (a : Exs) : Ix := fun ro mu => bM (a ro mu) fun xs m1 => match arg1 xs with
  | some (.tup ds) => some ((enD ds, none), m1)
  | _ => none
theorem svi_en {a : Expr} {m : Exs} {p pos : Pos} {elts : List Expr} {k : Nat} {tp : Pos} (hm : X.mg "enumerate" = none) (ha : SVA X [a] m) (hg : Gl X "enumerate" := by rfl) (hs : starEach [a] X.env = (false, eval a X.env) :: starEach [] X.env := by rfl) (hs2 : (backTo pos (starEach [] X.env)).any (·.1) = false := by rfl) :
    SVI X (.Tuple elts k tp) (.Call (.Name "enumerate" p) [a] [] pos) (iEn m) := ⟨PI.weak (pi_enT hg hm ha.1 hs hs2) fun st H R h => by
  obtain ⟨th, mu, ro, so, en, t⟩ := h
  refine ⟨th, mu, ro, so, en, t.bind.mono fun xs th1 mu1 H1 e1 s1 t1 vs rvs => ?_⟩
  cases q : arg1 xs with
  | none => rw [q] at t1; exact t1.no.elim
  | some d =>
    rw [q] at t1
    cases d with
    | tup ds =>
      dsimp only at t1
      rw [arg1_inv q] at rvs
      obtain ⟨x, rfl, rx⟩ := one_arg rvs
      unfold Rep at rx
      obtain ⟨a1, us, rfl, h1, l1, z1⟩ := rx
      refine ⟨a1, rfl, ⟨us, h1⟩, t1.ret s1 _ ⟨?_, fun th' mu' H' e s' go i d ed => ?_, fun th' mu' H' e s' go => ?_⟩⟩
      · show (enD ds).length ≤ sizeLine
        rw [enD_len]
        exact z1
      · have g1 := e.sqT s1.out h1
        obtain ⟨y, y1, rfl⟩ := enD_at (show (enD ds)[i]? = some d from ed)
        obtain ⟨v1, ev1, rv1⟩ := (l1.ext e s1.out).get y1
        refine ⟨⟨us, v1, g1, ev1⟩, fun v H2 z => ?_⟩
        obtain ⟨T, x', rfl, hT, rfl, f1⟩ := z
        have ex := f1 us g1
        rw [ev1] at ex
        cases ex
        exact ⟨.new hT _, s'.new hT _, Rep.newTup s' hT (.cons rfl (.cons rv1 .nil)) (by show 2 ≤ sizeLine; decide)⟩
      · have g1 := e.sqT s1.out h1
        refine ⟨us, g1, ?_⟩
        show us.length ≤ (enD ds).length
        rw [enD_len, l1.len]
        exact Nat.le_refl _
    | _ => exact t1.no.elim⟩
end
end PV
namespace PG
open PySem L2 PV PyProof.Rows
noncomputable def m_table_of : Sx :=
    sRt (eBin ixG (eLC (iVal (eVar 0)) 1 [1] (gNm 0) (tV (eBin eqD (eBin ixG (eVar 0) (eC (.int 0))) (eVar 1))) (eVar 0)) (eC (.int 0)))
noncomputable def f_table_of : Fn := fnB 2 m_table_of
noncomputable def m_cost_to_come : Sx :=
    sSeq (sSet (eVar 0) (gTp 3 (gsCons (gNm 2) (gsCons (gNm 3) (gsCons (gNm 4) (gsNil)))))) (sSeq (sSet (eSl (eLZ (aCons (eVar 1) (aCons (eVar 3) (aNil)))) (pSome (eVar 4)) (pNo)) (gNm 5)) (sRt (eBin addD (eCall lenG (aCons (eVar 1) (aNil))) (eCall lenG (aCons (eLC (iVal (eVar 5)) 3 [] (gTp 2 (gsCons (gNm 0) (gsCons (gTp 2 (gsCons (gNm 1) (gsCons (gNm 2) (gsNil)))) (gsNil)))) (tV (eBin neD (eVar 0) (eBin ixG (eVar 2) (eC (.int 0))))) (eVar 0)) (aNil))))))
noncomputable def f_cost_to_come : Fn := fnB 6 m_cost_to_come
noncomputable def m_cost_between : Sx :=
    sSeq (sIf (tV (eBin isD (eVar 1) (eC .non))) (sRt (eIf (tV (eBin isD (eVar 2) (eC .non))) (eC (.int 0)) (eCall f_cost_to_come (aCons (eVar 0) (aCons (eVar 2) (aNil)))))) (sNx)) (sSeq (sIf (tV (eBin isD (eVar 2) (eC .non))) (sRt (eCall lenG (aCons (eVar 1) (aNil)))) (sNx)) (sRt (eCall lenG (aCons (eLC (iZpG (aCons (eVar 2) (aCons (eVar 1) (aNil)))) 2 [] (gTp 2 (gsCons (gNm 0) (gsCons (gNm 1) (gsNil)))) (tV (eBin neD (eVar 0) (eVar 1))) (eVar 0)) (aNil)))))
noncomputable def f_cost_between : Fn := fnB 3 m_cost_between
noncomputable def m_cost_of : Sx :=
    sRt (eCall sumF (aCons (eLC (iVal (eVar 1)) 4 [0] (gTp 4 (gsCons (gNm 0) (gsCons (gNm 1) (gsCons (gNm 2) (gsCons (gNm 3) (gsNil)))))) (tY) (eCall f_cost_between (aCons (eCall f_table_of (aCons (eVar 4) (aCons (eVar 0) (aNil)))) (aCons (eVar 2) (aCons (eVar 3) (aNil)))))) (aNil)))
noncomputable def f_cost_of : Fn := fnB 2 m_cost_of
noncomputable def m_law_hand : Sx :=
    sSeq (sSet (eC (.int 0)) (gNm 2)) (sSeq (sIf (tV (eBin ltG (eVar 1) (eCall lenG (aCons (eVar 0) (aNil))))) (sSet (eBin ixG (eVar 0) (eVar 1)) (gNm 2)) (sNx)) (sRt (eLstM (aCons (eBin mulD (eVar 2) (eCall intF (aCons (eBin geD (eVar 2) (eBin powD (eC (.int 10)) (eC (.int 18)))) (aNil)))) (aCons (eBin addD (eBin addD (eBin modD (eVar 2) (eC (.int 2305843009213693951))) (eBin mulD (eC (.int 7919)) (eVar 1))) (eC (.int 3))) (aCons (eC (.int 0)) (aNil)))))))
noncomputable def f_law_hand : Fn := fnB 3 m_law_hand
noncomputable def m_law_take : Sx :=
    sSeq (sIf (tV (eBin gtD (eBin ixG (eVar 0) (eC (.int 0))) (eC (.int 0)))) (sSeq (sSet (eBin modD (eBin ixG (eVar 0) (eC (.int 0))) (eVar 1)) (gNm 2)) (sSeq (sSet (eBin fdivD (eBin ixG (eVar 0) (eC (.int 0))) (eVar 1)) (gIx (eVar 0) (eC (.int 0)))) (sRt (eVar 2)))) (sNx)) (sSeq (sSet (eBin addD (eBin ixG (eVar 0) (eC (.int 2))) (eC (.int 1))) (gIx (eVar 0) (eC (.int 2)))) (sSeq (sSet (eBin ixG (eVar 0) (eC (.int 2))) (gNm 3)) (sSeq (sSet (eBin modD (eBin mulD (eBin ixG (eVar 0) (eC (.int 1))) (eBin addD (eBin addD (eC (.int 48271)) (eBin mulD (eBin mulD (eC (.int 2)) (eVar 3)) (eVar 3))) (eBin mulD (eC (.int 65537)) (eVar 3)))) (eC (.int 2305843009213693921))) (gNm 4)) (sSeq (sSet (eBin addD (eBin addD (eBin modD (eVar 4) (eC (.int 1000003))) (eBin mulD (eVar 3) (eC (.int 99991)))) (eC (.int 11))) (gNm 5)) (sSeq (sSet (eBin modD (eBin mulD (eVar 4) (eVar 5)) (eC (.int 2305843009213693907))) (gNm 4)) (sRt (eBin modD (eBin addD (eBin fdivD (eVar 4) (eC (.int 97))) (eBin fdivD (eVar 4) (eC (.int 1000033)))) (eVar 1))))))))
noncomputable def f_law_take : Fn := fnB 6 m_law_take
noncomputable def m_law_pick : Sx :=
    sRt (eBin ixG (eVar 1) (eCall f_law_take (aCons (eVar 0) (aCons (eCall lenG (aCons (eVar 1) (aNil))) (aNil)))))
noncomputable def f_law_pick : Fn := fnB 2 m_law_pick
noncomputable def m_law_words : Sx :=
    sSeq (sSet (eC (.str "abcdefghijklmnopqrstuvwxyz0123456789")) (gNm 3)) (sSeq (sSet (eTup (aCons (eCall f_law_take (aCons (eVar 0) (aCons (eC (.int 36)) (aNil)))) (aCons (eCall f_law_pick (aCons (eVar 0) (aCons (eLst (aCons (eC (.int 1)) (aCons (eC (.int 5)) (aCons (eC (.int 7)) (aCons (eC (.int 11)) (aCons (eC (.int 13)) (aCons (eC (.int 17)) (aNil)))))))) (aNil)))) (aNil)))) (gTp 2 (gsCons (gNm 4) (gsCons (gNm 5) (gsNil))))) (sSeq (sSet (eBin mulD (eBin ixG (eVar 3) (eCall f_law_take (aCons (eVar 0) (aCons (eC (.int 36)) (aNil))))) (eCall minF (aCons (eBin subD (eVar 2) (eC (.int 1))) (aCons (eCall f_law_pick (aCons (eVar 0) (aCons (eLst (aCons (eC (.int 0)) (aCons (eC (.int 1)) (aCons (eC (.int 0)) (aCons (eC (.int 2)) (aCons (eC (.int 7)) (aNil))))))) (aNil)))) (aNil))))) (gNm 6)) (sSeq (sSet (eCall f_law_take (aCons (eVar 0) (aCons (eBin addD (eCall lenG (aCons (eVar 6) (aNil))) (eC (.int 1))) (aNil)))) (gNm 7)) (sRt (eLC (iRg (aCons (eVar 1) (aNil))) 1 [6, 7, 3, 4, 5] (gNm 0) (tY) (eBin addD (eBin addD (eSl (eVar 1) (pNo) (pSome (eVar 2))) (eBin ixG (eVar 3) (eBin modD (eBin addD (eVar 4) (eBin mulD (eVar 5) (eVar 0))) (eC (.int 36))))) (eSl (eVar 1) (pSome (eVar 2)) (pNo))))))))
noncomputable def f_law_words : Fn := fnB 8 m_law_words
noncomputable def m_law_schema : Sx :=
    sSeq (sSet (eCall srtW (aCons (eCall f_law_words (aCons (eVar 0) (aCons (eBin addD (eC (.int 1)) (eCall f_law_take (aCons (eVar 0) (aCons (eVar 1) (aNil))))) (aCons (eC (.int 8)) (aNil))))) (aNil))) (gNm 4)) (sSeq (sSet (eTup (aCons (eCall f_law_words (aCons (eVar 0) (aCons (eBin addD (eVar 2) (eC (.int 2))) (aCons (eC (.int 8)) (aNil))))) (aCons (eCall f_law_words (aCons (eVar 0) (aCons (eBin addD (eVar 3) (eC (.int 1))) (aCons (eC (.int 8)) (aNil))))) (aNil)))) (gTp 2 (gsCons (gNm 5) (gsCons (gNm 6) (gsNil))))) (sSeq (sSet (eLstM (aNil)) (gNm 7)) (sSeq (sFor (iVal (eVar 4)) (gNm 8) (sSeq (sPar3 9 10 11 (aCons (eBin addD (eC (.int 1)) (eCall f_law_take (aCons (eVar 0) (aCons (eVar 2) (aNil))))) (aCons (eCall f_law_take (aCons (eVar 0) (aCons (eC (.int 3)) (aNil)))) (aCons (eLstM (aNil)) (aNil))))) (sSeq (sFor (iRg (aCons (eVar 9) (aNil))) (gNm 12) (sSeq (sSet (eTup (aCons (eBin addD (eC (.int 1)) (eCall f_law_take (aCons (eVar 0) (aCons (eVar 3) (aNil))))) (aCons (eCall f_law_take (aCons (eVar 0) (aCons (eC (.int 2)) (aNil)))) (aNil)))) (gTp 2 (gsCons (gNm 13) (gsCons (gNm 14) (gsNil))))) (sSeq (sSet (eCall tupF (aCons (eLC (iRg (aCons (eVar 13) (aNil))) 1 [6, 14] (gNm 0) (tY) (eBin ixG (eVar 1) (eBin modD (eBin addD (eVar 0) (eVar 2)) (eCall lenG (aCons (eVar 1) (aNil)))))) (aNil))) (gNm 15)) (sEx (eApp (eVar 11) (aCons (eTup (aCons (eBin ixG (eVar 5) (eBin modD (eBin addD (eVar 12) (eVar 10)) (eCall lenG (aCons (eVar 5) (aNil))))) (aCons (eVar 15) (aNil)))) (aNil))))))) (sEx (eApp (eVar 7) (aCons (eTup (aCons (eVar 8) (aCons (eCall tupF (aCons (eVar 11) (aNil))) (aCons (eBin addD (eC (.int 1)) (eCall f_law_take (aCons (eVar 0) (aCons (eVar 9) (aNil))))) (aNil))))) (aNil))))))) (sRt (eCall tupF (aCons (eVar 7) (aNil)))))))
noncomputable def f_law_schema : Fn := fnG 16 m_law_schema
noncomputable def m_law_filling : Sx :=
    sSeq (sSet (eLstM (aNil)) (gNm 3)) (sSeq (sFor (iVal (eVar 1)) (gTp 3 (gsCons (gNm 4) (gsCons (gNm 5) (gsCons (gNm 6) (gsNil))))) (sSeq (sSet (eDctM) (gNm 7)) (sSeq (sFor (iRg (aCons (eCall f_law_take (aCons (eVar 0) (aCons (eBin addD (eVar 2) (eC (.int 1))) (aNil)))) (aNil))) (gNm 8) (sSeq (sSet (eCall tupF (aCons (eLC (iVal (eVar 5)) 2 [0] (gTp 2 (gsCons (gNm 0) (gsCons (gNm 1) (gsNil)))) (tY) (eCall f_law_pick (aCons (eVar 2) (aCons (eVar 1) (aNil))))) (aNil))) (gNm 9)) (sSet (eVar 9) (gIx (eVar 7) (eSl (eVar 9) (pNo) (pSome (eVar 6))))))) (sEx (eApp (eVar 3) (aCons (eCall tupF (aCons (eSrtV (eVar 7)) (aNil))) (aNil))))))) (sRt (eCall tupF (aCons (eVar 3) (aNil)))))
noncomputable def f_law_filling : Fn := fnG 10 m_law_filling
noncomputable def m_law_change : Sx :=
    sSeq (sSet (eDctM) (gNm 4)) (sSeq (sFor (iRg (aCons (eCall f_law_take (aCons (eVar 0) (aCons (eBin addD (eVar 3) (eC (.int 1))) (aNil)))) (aNil))) (gNm 5) (sSeq (sSet (eCall f_law_take (aCons (eVar 0) (aCons (eCall lenG (aCons (eVar 1) (aNil))) (aNil)))) (gNm 6)) (sSeq (sSet (eBin ixG (eVar 1) (eVar 6)) (gTp 3 (gsCons (gNm 7) (gsCons (gNm 8) (gsCons (gNm 9) (gsNil)))))) (sSeq (sSet (eCall tupF (aCons (eLC (iVal (eVar 8)) 2 [0] (gTp 2 (gsCons (gNm 0) (gsCons (gNm 1) (gsNil)))) (tY) (eCall f_law_pick (aCons (eVar 2) (aCons (eVar 1) (aNil))))) (aNil))) (gNm 10)) (sSeq (sIf (tAn (tV (eBin neD (eBin ixG (eVar 2) (eVar 6)) (eTup (aNil)))) (tV (eBin eqD (eCall f_law_take (aCons (eVar 0) (aCons (eC (.int 2)) (aNil)))) (eC (.int 0))))) (sSet (eBin addD (eSl (eCall f_law_pick (aCons (eVar 0) (aCons (eBin ixG (eVar 2) (eVar 6)) (aNil)))) (pNo) (pSome (eVar 9))) (eSl (eVar 10) (pSome (eVar 9)) (pNo))) (gNm 10)) (sNx)) (sSeq (sSet (eBin ixG (eBin addD (eLC (iVal (eBin ixG (eVar 2) (eVar 6))) 1 [9, 10] (gNm 0) (tV (eBin eqD (eSl (eVar 0) (pNo) (pSome (eVar 1))) (eSl (eVar 2) (pNo) (pSome (eVar 1))))) (eVar 0)) (eLst (aCons (eC .non) (aNil)))) (eC (.int 0))) (gNm 11)) (sSeq (sSet (eBin ixG (eLst (aCons (eVar 10) (aCons (eVar 10) (aCons (eC .non) (aNil))))) (eCall f_law_take (aCons (eVar 0) (aCons (eC (.int 3)) (aNil))))) (gNm 12)) (sIf (tV (eBin neD (eVar 12) (eVar 11))) (sSet (eTup (aCons (eVar 7) (aCons (eSl (eVar 10) (pNo) (pSome (eVar 9))) (aCons (eVar 11) (aCons (eVar 12) (aNil)))))) (gIx (eVar 4) (eTup (aCons (eVar 7) (aCons (eSl (eVar 10) (pNo) (pSome (eVar 9))) (aNil)))))) (sNx))))))))) (sRt (eCall tupF (aCons (eLC (iVal (eCall srtW (aCons (eVar 4) (aNil)))) 1 [4] (gNm 0) (tY) (eBin ixG (eVar 1) (eVar 0))) (aNil)))))
noncomputable def f_law_change : Fn := fnG 13 m_law_change
noncomputable def m_law_cost : Sx :=
    sSeq (sSet (eC (.int 0)) (gNm 2)) (sSeq (sFor (iVal (eVar 1)) (gTp 4 (gsCons (gNm 3) (gsCons (gNm 4) (gsCons (gNm 5) (gsCons (gNm 6) (gsNil)))))) (sSeq (sSet (eBin ixG (eLC (iVal (eVar 0)) 1 [3] (gNm 0) (tV (eBin eqD (eBin ixG (eVar 0) (eC (.int 0))) (eVar 1))) (eSl (eVar 0) (pSome (eC (.int 1))) (pNo))) (eC (.int 0))) (gTp 2 (gsCons (gNm 7) (gsCons (gNm 8) (gsNil))))) (sFor (iEn (aCons (eVar 7) (aNil))) (gTp 2 (gsCons (gNm 9) (gsCons (gTp 2 (gsCons (gNm 10) (gsCons (gNm 11) (gsNil)))) (gsNil)))) (sIf (tV (eBin isD (eVar 5) (eC .non))) (sSet (eBin addD (eBin addD (eVar 2) (eC (.int 1))) (eCall intF (aCons (eAn (eBin geD (eVar 9) (eVar 8)) (eBin gtD (eIdx (eVar 11) (aCons (eBin ixG (eVar 6) (eVar 9)) (aNil))) (eC (.int 0)))) (aNil)))) (gNm 2)) (sIf (tV (eBin isD (eVar 6) (eC .non))) (sSet (eBin addD (eVar 2) (eC (.int 1))) (gNm 2)) (sIf (tV (eBin neD (eBin ixG (eVar 5) (eVar 9)) (eBin ixG (eVar 6) (eVar 9)))) (sSet (eBin addD (eVar 2) (eC (.int 1))) (gNm 2)) (sNx))))))) (sRt (eVar 2)))
noncomputable def f_law_cost : Fn := fnB 12 m_law_cost
noncomputable def m_law : Sx :=
    sSeq (sFor (iRg (aCons (eCall maxF (aCons (eC (.int 2)) (aCons (eCall minF (aCons (eC (.int 6)) (aCons (eCall lenG (aCons (eVar 0) (aNil))) (aNil)))) (aNil)))) (aNil))) (gNm 1) (sSeq (sSet (eCall f_law_hand (aCons (eVar 0) (aCons (eVar 1) (aNil)))) (gNm 2)) (sSeq (sSet (eCall f_law_schema (aCons (eVar 2) (aCons (eC (.int 4)) (aCons (eC (.int 4)) (aCons (eC (.int 4)) (aNil)))))) (gNm 3)) (sSeq (sSet (eCall f_law_filling (aCons (eVar 2) (aCons (eVar 3) (aCons (eC (.int 6)) (aNil))))) (gNm 4)) (sSeq (sFor (iRg (aCons (eC (.int 6)) (aNil))) (gNm 5) (sSeq (sSet (eCall f_law_change (aCons (eVar 2) (aCons (eVar 3) (aCons (eVar 4) (aCons (eC (.int 8)) (aNil)))))) (gNm 6)) (sIf (tV (eBin neD (eCall reprF (aCons (eCall f_cost_of (aCons (eVar 3) (aCons (eVar 6) (aNil)))) (aNil))) (eCall reprF (aCons (eCall f_law_cost (aCons (eVar 3) (aCons (eVar 6) (aNil)))) (aNil))))) (sRt (eC (.bl false))) (sNx)))) (sIf (tV (eBin neD (eCall reprF (aCons (eCall f_cost_of (aCons (eVar 3) (aCons (eTup (aNil)) (aNil)))) (aNil))) (eC (.str "0")))) (sRt (eC (.bl false))) (sNx))))))) (sRt (eC (.bl true)))
noncomputable def f_law : Fn := fnB 7 m_law
end PG
namespace PG
open PySem L2 PV PyProof.Rows
def top (i : Nat) : Stmt := PySem.Challenge.pw_lookback_k11_costs.main.body.getD i (.Pass ⟨0, 0, 0, 0⟩)
abbrev s_table_of : Stmt := top 1
abbrev s_cost_to_come : Stmt := top 5
abbrev s_cost_between : Stmt := top 4
abbrev s_cost_of : Stmt := top 3
abbrev s_law_hand : Stmt := top 7
abbrev s_law_take : Stmt := top 8
abbrev s_law_pick : Stmt := top 9
abbrev s_law_words : Stmt := top 10
abbrev s_law_schema : Stmt := top 11
abbrev s_law_filling : Stmt := top 12
abbrev s_law_change : Stmt := top 13
abbrev s_law_cost : Stmt := top 14
abbrev s_law : Stmt := top 15
structure Tx (mg : Str → Option Value) : Prop where
  b_enumerate : mg "enumerate" = none
  b_int : mg "int" = none
  b_len : mg "len" = none
  b_list : mg "list" = none
  b_max : mg "max" = none
  b_min : mg "min" = none
  b_range : mg "range" = none
  b_repr : mg "repr" = none
  b_sorted : mg "sorted" = none
  b_sum : mg "sum" = none
  b_tuple : mg "tuple" = none
  b_zip : mg "zip" = none
section
variable {P : Program} {w : World} {K : PySem.W.Frag} {mg : Str → Option Value} {base : Heap}
theorem sc_table_of : FnScope ["schema", "name"] ["schema", "name"] (defScope s_table_of) := ⟨rfl, rfl, rfl, by decide +kernel, rfl, by decide +kernel, by decide +kernel⟩
theorem ok_table_of {f : Addr} {fd : FuncData} (F : Fun K "table_of" "table_of" s_table_of f fd) (T : Tx mg)  : FnOk P w K mg base CX0 1 f fd ["schema", "name"] (spF ⟨K, P, w⟩ f_table_of 2) := by
  have b : ∀ (cdv : Value) (A : Around) (outer : List Env) (s : Shared) (H : Hp) (E : XK), Room 0 (A.deeper (envOfC "table_of" (defScope s_table_of) s.heap.objs.size f cdv)) →
      SVB (cxOf CX0 P w K mg base ["schema", "name"] "table_of" (defScope s_table_of) f cdv A outer s H E).nox (defBody s_table_of) m_table_of := fun cdv A outer s H E hr => by
    exact svb_one (svs_ret (sv_ix (ix_G hr.units) (sv_lc ["table"] [(1, "name")] (by exact lcOk (defScope s_table_of) rfl rfl ⟨rfl, by decide +kernel, by decide +kernel, by decide +kernel⟩ ⟨⟨rfl, .inl rfl, .inl rfl⟩, True.intro⟩) (svi_val (sv_var 0)) (gown_name) (fun _ _ _ _ _ => svg_name 0 (show (["table", "name"] : List Str).Nodup by decide +kernel)) (fun _ _ _ _ _ => svf_one (svt_cmp (op_eqD hr.units) (sv_ix (ix_G hr.units) (sv_var 0) (sv_int)) (sv_var 1))) (fun _ _ _ _ _ => sv_var 0)) (sv_int)))
  have c := fn_svn 2 2 F sc_table_of rfl rfl b
  exact c
theorem sc_cost_to_come : FnScope ["table", "row", "name", "columns", "keys", "rest"] ["table", "row"] (defScope s_cost_to_come) := ⟨rfl, rfl, rfl, by decide +kernel, rfl, by decide +kernel, by decide +kernel⟩
theorem ok_cost_to_come {f : Addr} {fd : FuncData} (F : Fun K "cost_to_come" "cost_to_come" s_cost_to_come f fd) (T : Tx mg)  : FnOk P w K mg base CX0 1 f fd ["table", "row"] (spF ⟨K, P, w⟩ f_cost_to_come 2) := by
  have b : ∀ (cdv : Value) (A : Around) (outer : List Env) (s : Shared) (H : Hp) (E : XK), Room 0 (A.deeper (envOfC "cost_to_come" (defScope s_cost_to_come) s.heap.objs.size f cdv)) →
      SVB (cxOf CX0 P w K mg base ["table", "row", "name", "columns", "keys", "rest"] "cost_to_come" (defScope s_cost_to_come) f cdv A outer s H E).nox (defBody s_cost_to_come) m_cost_to_come := fun cdv A outer s H E hr => by
    exact svb_cons (svs_asg (sv_var 0) (svg_tup rfl (svgs_cons (svg_name 2 sc_cost_to_come.nd) (svgs_cons (svg_name 3 sc_cost_to_come.nd) (svgs_cons (svg_name 4 sc_cost_to_come.nd) (svgs_nil)))))) (svb_cons (svs_set 5 sc_cost_to_come.nd (sv_slice (sv_listZip rfl T.b_zip T.b_list (sva_cons (sv_var 1) (sva_cons (sv_var 3) (sva_nil)))) (svp_some (sv_var 4)) (svp_none))) (svb_one (svs_ret (sv_bin op_addD (sv_callB call_lenG T.b_len PySem.boot_len (sva_cons (sv_var 1) (sva_nil))) (sv_callB call_lenG T.b_len PySem.boot_len (sva_cons (sv_lc ["cell", "column", "values"] [] (by exact lcOk (defScope s_cost_to_come) rfl rfl ⟨rfl, by decide +kernel, by decide +kernel, by decide +kernel⟩ True.intro) (svi_val (sv_var 5)) (gown_tup (gsown_cons gown_name (gsown_cons (gown_tup (gsown_cons gown_name (gsown_cons gown_name (gsown_nil)))) (gsown_nil)))) (fun _ _ _ _ _ => svg_tup rfl (svgs_cons (svg_name 0 (show (["cell", "column", "values"] : List Str).Nodup by decide +kernel)) (svgs_cons (svg_tup rfl (svgs_cons (svg_name 1 (show (["cell", "column", "values"] : List Str).Nodup by decide +kernel)) (svgs_cons (svg_name 2 (show (["cell", "column", "values"] : List Str).Nodup by decide +kernel)) (svgs_nil)))) (svgs_nil)))) (fun _ _ _ _ _ => svf_one (svt_cmp (op_neD hr.units) (sv_var 0) (sv_ix (ix_G hr.units) (sv_var 2) (sv_int)))) (fun _ _ _ _ _ => sv_var 0)) (sva_nil)))))))
  have c := fn_svn 6 2 F sc_cost_to_come rfl rfl b
  exact c
theorem sc_cost_between : FnScope ["table", "before", "after"] ["table", "before", "after"] (defScope s_cost_between) := ⟨rfl, rfl, rfl, by decide +kernel, rfl, by decide +kernel, by decide +kernel⟩
theorem ok_cost_between {f : Addr} {fd : FuncData} (F : Fun K "cost_between" "cost_between" s_cost_between f fd) (T : Tx mg) (C_cost_to_come : Cal P w K mg base 1 "cost_to_come" f_cost_to_come 2) : FnOk P w K mg base CX0 2 f fd ["table", "before", "after"] (spF ⟨K, P, w⟩ f_cost_between 3) := by
  have b : ∀ (cdv : Value) (A : Around) (outer : List Env) (s : Shared) (H : Hp) (E : XK), Room 1 (A.deeper (envOfC "cost_between" (defScope s_cost_between) s.heap.objs.size f cdv)) →
      SVB (cxOf CX0 P w K mg base ["table", "before", "after"] "cost_between" (defScope s_cost_between) f cdv A outer s H E).nox (defBody s_cost_between) m_cost_between := fun cdv A outer s H E hr => by
    have hr_cost_to_come : Room 1 _ := hr.mono (by decide)
    exact svb_cons (svs_if (svt_cmp op_isD (sv_var 1) (sv_non)) (svb_one (svs_ret (sv_ifExp (svt_cmp op_isD (sv_var 2) (sv_non)) (sv_int) (sv_call C_cost_to_come hr_cost_to_come (sva_cons (sv_var 0) (sva_cons (sv_var 2) (sva_nil))))))) (svb_nil)) (svb_cons (svs_if (svt_cmp op_isD (sv_var 2) (sv_non)) (svb_one (svs_ret (sv_callB call_lenG T.b_len PySem.boot_len (sva_cons (sv_var 1) (sva_nil))))) (svb_nil)) (svb_one (svs_ret (sv_callB call_lenG T.b_len PySem.boot_len (sva_cons (sv_lc ["cell", "old"] [] (by exact lcOk (defScope s_cost_between) rfl rfl ⟨rfl, by decide +kernel, by decide +kernel, by decide +kernel⟩ True.intro) (svi_zipG T.b_zip (sva_cons (sv_var 2) (sva_cons (sv_var 1) (sva_nil)))) (gown_tup (gsown_cons gown_name (gsown_cons gown_name (gsown_nil)))) (fun _ _ _ _ _ => svg_tup rfl (svgs_cons (svg_name 0 (show (["cell", "old"] : List Str).Nodup by decide +kernel)) (svgs_cons (svg_name 1 (show (["cell", "old"] : List Str).Nodup by decide +kernel)) (svgs_nil)))) (fun _ _ _ _ _ => svf_one (svt_cmp (op_neD hr.units) (sv_var 0) (sv_var 1))) (fun _ _ _ _ _ => sv_var 0)) (sva_nil))))))
  have c := fn_svn 3 3 F sc_cost_between rfl rfl b
  exact c
theorem sc_cost_of : FnScope ["schema", "change"] ["schema", "change"] (defScope s_cost_of) := ⟨rfl, rfl, rfl, by decide +kernel, rfl, by decide +kernel, by decide +kernel⟩
theorem ok_cost_of {f : Addr} {fd : FuncData} (F : Fun K "cost_of" "cost_of" s_cost_of f fd) (T : Tx mg) (C_cost_between : Cal P w K mg base 2 "cost_between" f_cost_between 3) (C_table_of : Cal P w K mg base 1 "table_of" f_table_of 2) : FnOk P w K mg base CX0 3 f fd ["schema", "change"] (spF ⟨K, P, w⟩ f_cost_of 2) := by
  have b : ∀ (cdv : Value) (A : Around) (outer : List Env) (s : Shared) (H : Hp) (E : XK), Room 2 (A.deeper (envOfC "cost_of" (defScope s_cost_of) s.heap.objs.size f cdv)) →
      SVB (cxOf CX0 P w K mg base ["schema", "change"] "cost_of" (defScope s_cost_of) f cdv A outer s H E).nox (defBody s_cost_of) m_cost_of := fun cdv A outer s H E hr => by
    have hr_cost_between : Room 2 _ := hr.mono (by decide)
    have hr_table_of : Room 1 _ := hr.mono (by decide)
    exact svb_one (svs_ret (sv_callB (call_sumF rfl) T.b_sum PyProof.Rows.boot_sum (sva_cons (sv_lc ["name", "key", "before", "after"] [(0, "schema")] (by exact lcOk (defScope s_cost_of) rfl rfl ⟨rfl, by decide +kernel, by decide +kernel, by decide +kernel⟩ ⟨⟨rfl, .inl rfl, .inl rfl⟩, True.intro⟩) (svi_val (sv_var 1)) (gown_tup (gsown_cons gown_name (gsown_cons gown_name (gsown_cons gown_name (gsown_cons gown_name (gsown_nil)))))) (fun _ _ _ _ _ => svg_tup rfl (svgs_cons (svg_name 0 (show (["name", "key", "before", "after", "schema"] : List Str).Nodup by decide +kernel)) (svgs_cons (svg_name 1 (show (["name", "key", "before", "after", "schema"] : List Str).Nodup by decide +kernel)) (svgs_cons (svg_name 2 (show (["name", "key", "before", "after", "schema"] : List Str).Nodup by decide +kernel)) (svgs_cons (svg_name 3 (show (["name", "key", "before", "after", "schema"] : List Str).Nodup by decide +kernel)) (svgs_nil)))))) (fun _ _ _ _ _ => svf_nil) (fun _ _ _ _ _ => sv_call C_cost_between hr_cost_between (sva_cons (sv_call C_table_of hr_table_of (sva_cons (sv_var 4) (sva_cons (sv_var 0) (sva_nil)))) (sva_cons (sv_var 2) (sva_cons (sv_var 3) (sva_nil)))))) (sva_nil))))
  have c := fn_svn 2 2 F sc_cost_of rfl rfl b
  exact c
theorem sc_law_hand : FnScope ["_law_script", "_law_k", "_law_cell"] ["_law_script", "_law_k"] (defScope s_law_hand) := ⟨rfl, rfl, rfl, by decide +kernel, rfl, by decide +kernel, by decide +kernel⟩
theorem ok_law_hand {f : Addr} {fd : FuncData} (F : Fun K "_law_hand" "_law_hand" s_law_hand f fd) (T : Tx mg)  : FnOk P w K mg base CX0 1 f fd ["_law_script", "_law_k"] (spF ⟨K, P, w⟩ f_law_hand 2) := by
  have b : ∀ (cdv : Value) (A : Around) (outer : List Env) (s : Shared) (H : Hp) (E : XK), Room 0 (A.deeper (envOfC "_law_hand" (defScope s_law_hand) s.heap.objs.size f cdv)) →
      SVB (cxOf CX0 P w K mg base ["_law_script", "_law_k", "_law_cell"] "_law_hand" (defScope s_law_hand) f cdv A outer s H E).nox (defBody s_law_hand) m_law_hand := fun cdv A outer s H E hr => by
    exact svb_cons (svs_set 2 sc_law_hand.nd (sv_int)) (svb_cons (svs_if (svt_cmp (op_ltG hr.units) (sv_var 1) (sv_callB call_lenG T.b_len PySem.boot_len (sva_cons (sv_var 0) (sva_nil)))) (svb_one (svs_set 2 sc_law_hand.nd (sv_ix (ix_G hr.units) (sv_var 0) (sv_var 1)))) (svb_nil)) (svb_one (svs_ret (sv_lstM (sva_cons (sv_bin op_mulD (sv_var 2) (sv_callTy call_intD T.b_int PyProof.Rows.boot_int (sva_cons (sv_cmp op_geD (sv_var 2) (sv_bin op_powD (sv_int) (sv_int))) (sva_nil)))) (sva_cons (sv_bin op_addD (sv_bin op_addD (sv_bin op_modD (sv_var 2) (sv_int)) (sv_bin op_mulD (sv_int) (sv_var 1))) (sv_int)) (sva_cons (sv_int) (sva_nil))))))))
  have c := fn_svn 3 2 F sc_law_hand rfl rfl b
  exact c
theorem sc_law_take : FnScope ["_law_hand_here", "_law_many", "_law_digit", "_law_turn", "_law_mixed", "_law_other"] ["_law_hand_here", "_law_many"] (defScope s_law_take) := ⟨rfl, rfl, rfl, by decide +kernel, rfl, by decide +kernel, by decide +kernel⟩
theorem ok_law_take {f : Addr} {fd : FuncData} (F : Fun K "_law_take" "_law_take" s_law_take f fd) (T : Tx mg)  : FnOk P w K mg base CX0 1 f fd ["_law_hand_here", "_law_many"] (spF ⟨K, P, w⟩ f_law_take 2) := by
  have b : ∀ (cdv : Value) (A : Around) (outer : List Env) (s : Shared) (H : Hp) (E : XK), Room 0 (A.deeper (envOfC "_law_take" (defScope s_law_take) s.heap.objs.size f cdv)) →
      SVB (cxOf CX0 P w K mg base ["_law_hand_here", "_law_many", "_law_digit", "_law_turn", "_law_mixed", "_law_other"] "_law_take" (defScope s_law_take) f cdv A outer s H E).nox (defBody s_law_take) m_law_take := fun cdv A outer s H E hr => by
    exact svb_cons (svs_if (svt_cmp op_gtD (sv_ix (ix_G hr.units) (sv_var 0) (sv_int)) (sv_int)) (svb_cons (svs_set 2 sc_law_take.nd (sv_bin op_modD (sv_ix (ix_G hr.units) (sv_var 0) (sv_int)) (sv_var 1))) (svb_cons (svs_asg (sv_bin op_fdivD (sv_ix (ix_G hr.units) (sv_var 0) (sv_int)) (sv_var 1)) (svg_ix hr.units (sv_var 0) (sv_int))) (svb_one (svs_ret (sv_var 2))))) (svb_nil)) (svb_cons (svs_asg (sv_bin op_addD (sv_ix (ix_G hr.units) (sv_var 0) (sv_int)) (sv_int)) (svg_ix hr.units (sv_var 0) (sv_int))) (svb_cons (svs_set 3 sc_law_take.nd (sv_ix (ix_G hr.units) (sv_var 0) (sv_int))) (svb_cons (svs_set 4 sc_law_take.nd (sv_bin op_modD (sv_bin op_mulD (sv_ix (ix_G hr.units) (sv_var 0) (sv_int)) (sv_bin op_addD (sv_bin op_addD (sv_int) (sv_bin op_mulD (sv_bin op_mulD (sv_int) (sv_var 3)) (sv_var 3))) (sv_bin op_mulD (sv_int) (sv_var 3)))) (sv_int))) (svb_cons (svs_set 5 sc_law_take.nd (sv_bin op_addD (sv_bin op_addD (sv_bin op_modD (sv_var 4) (sv_int)) (sv_bin op_mulD (sv_var 3) (sv_int))) (sv_int))) (svb_cons (svs_set 4 sc_law_take.nd (sv_bin op_modD (sv_bin op_mulD (sv_var 4) (sv_var 5)) (sv_int))) (svb_one (svs_ret (sv_bin op_modD (sv_bin op_addD (sv_bin op_fdivD (sv_var 4) (sv_int)) (sv_bin op_fdivD (sv_var 4) (sv_int))) (sv_var 1)))))))))
  have c := fn_svn 6 2 F sc_law_take rfl rfl b
  exact c
theorem sc_law_pick : FnScope ["_law_hand_here", "_law_some"] ["_law_hand_here", "_law_some"] (defScope s_law_pick) := ⟨rfl, rfl, rfl, by decide +kernel, rfl, by decide +kernel, by decide +kernel⟩
theorem ok_law_pick {f : Addr} {fd : FuncData} (F : Fun K "_law_pick" "_law_pick" s_law_pick f fd) (T : Tx mg) (C_law_take : Cal P w K mg base 1 "_law_take" f_law_take 2) : FnOk P w K mg base CX0 2 f fd ["_law_hand_here", "_law_some"] (spF ⟨K, P, w⟩ f_law_pick 2) := by
  have b : ∀ (cdv : Value) (A : Around) (outer : List Env) (s : Shared) (H : Hp) (E : XK), Room 1 (A.deeper (envOfC "_law_pick" (defScope s_law_pick) s.heap.objs.size f cdv)) →
      SVB (cxOf CX0 P w K mg base ["_law_hand_here", "_law_some"] "_law_pick" (defScope s_law_pick) f cdv A outer s H E).nox (defBody s_law_pick) m_law_pick := fun cdv A outer s H E hr => by
    have hr_law_take : Room 1 _ := hr.mono (by decide)
    exact svb_one (svs_ret (sv_ix (ix_G hr.units) (sv_var 1) (sv_call C_law_take hr_law_take (sva_cons (sv_var 0) (sva_cons (sv_callB call_lenG T.b_len PySem.boot_len (sva_cons (sv_var 1) (sva_nil))) (sva_nil))))))
  have c := fn_svn 2 2 F sc_law_pick rfl rfl b
  exact c
theorem sc_law_words : FnScope ["_law_hand_here", "_law_many", "_law_most", "_law_signs", "_law_first", "_law_step", "_law_stem", "_law_at"] ["_law_hand_here", "_law_many", "_law_most"] (defScope s_law_words) := ⟨rfl, rfl, rfl, by decide +kernel, rfl, by decide +kernel, by decide +kernel⟩
theorem ok_law_words {f : Addr} {fd : FuncData} (F : Fun K "_law_words" "_law_words" s_law_words f fd) (T : Tx mg) (C_law_take : Cal P w K mg base 1 "_law_take" f_law_take 2) (C_law_pick : Cal P w K mg base 2 "_law_pick" f_law_pick 2) : FnOk P w K mg base CX0 3 f fd ["_law_hand_here", "_law_many", "_law_most"] (spF ⟨K, P, w⟩ f_law_words 3) := by
  have b : ∀ (cdv : Value) (A : Around) (outer : List Env) (s : Shared) (H : Hp) (E : XK), Room 2 (A.deeper (envOfC "_law_words" (defScope s_law_words) s.heap.objs.size f cdv)) →
      SVB (cxOf CX0 P w K mg base ["_law_hand_here", "_law_many", "_law_most", "_law_signs", "_law_first", "_law_step", "_law_stem", "_law_at"] "_law_words" (defScope s_law_words) f cdv A outer s H E).nox (defBody s_law_words) m_law_words := fun cdv A outer s H E hr => by
    have hr_law_take : Room 1 _ := hr.mono (by decide)
    have hr_law_pick : Room 2 _ := hr.mono (by decide)
    exact svb_cons (svs_set 3 sc_law_words.nd (sv_str)) (svb_cons (svs_asg (sv_tup (sva_cons (sv_call C_law_take hr_law_take (sva_cons (sv_var 0) (sva_cons (sv_int) (sva_nil)))) (sva_cons (sv_call C_law_pick hr_law_pick (sva_cons (sv_var 0) (sva_cons (sv_lst (sva_cons (sv_int) (sva_cons (sv_int) (sva_cons (sv_int) (sva_cons (sv_int) (sva_cons (sv_int) (sva_cons (sv_int) (sva_nil)))))))) (sva_nil)))) (sva_nil)))) (svg_tup rfl (svgs_cons (svg_name 4 sc_law_words.nd) (svgs_cons (svg_name 5 sc_law_words.nd) (svgs_nil))))) (svb_cons (svs_set 6 sc_law_words.nd (sv_bin op_mulD (sv_ix (ix_G hr.units) (sv_var 3) (sv_call C_law_take hr_law_take (sva_cons (sv_var 0) (sva_cons (sv_int) (sva_nil))))) (sv_callB (call_minD rfl) T.b_min PyProof.Rows.boot_min (sva_cons (sv_bin op_subD (sv_var 2) (sv_int)) (sva_cons (sv_call C_law_pick hr_law_pick (sva_cons (sv_var 0) (sva_cons (sv_lst (sva_cons (sv_int) (sva_cons (sv_int) (sva_cons (sv_int) (sva_cons (sv_int) (sva_cons (sv_int) (sva_nil))))))) (sva_nil)))) (sva_nil)))))) (svb_cons (svs_set 7 sc_law_words.nd (sv_call C_law_take hr_law_take (sva_cons (sv_var 0) (sva_cons (sv_bin op_addD (sv_callB call_lenG T.b_len PySem.boot_len (sva_cons (sv_var 6) (sva_nil))) (sv_int)) (sva_nil))))) (svb_one (svs_ret (sv_lc ["_law_k"] [(6, "_law_stem"), (7, "_law_at"), (3, "_law_signs"), (4, "_law_first"), (5, "_law_step")] (by exact lcOk (defScope s_law_words) rfl rfl ⟨rfl, by decide +kernel, by decide +kernel, by decide +kernel⟩ ⟨⟨rfl, .inl rfl, .inl rfl⟩, ⟨rfl, .inl rfl, .inl rfl⟩, ⟨rfl, .inl rfl, .inl rfl⟩, ⟨rfl, .inl rfl, .inl rfl⟩, ⟨rfl, .inl rfl, .inl rfl⟩, True.intro⟩) (svi_range T.b_range (sva_cons (sv_var 1) (sva_nil))) (gown_name) (fun _ _ _ _ _ => svg_name 0 (show (["_law_k", "_law_stem", "_law_at", "_law_signs", "_law_first", "_law_step"] : List Str).Nodup by decide +kernel)) (fun _ _ _ _ _ => svf_nil) (fun _ _ _ _ _ => sv_bin op_addD (sv_bin op_addD (sv_slice (sv_var 1) (svp_none) (svp_some (sv_var 2))) (sv_ix (ix_G hr.units) (sv_var 3) (sv_bin op_modD (sv_bin op_addD (sv_var 4) (sv_bin op_mulD (sv_var 5) (sv_var 0))) (sv_int)))) (sv_slice (sv_var 1) (svp_some (sv_var 2)) (svp_none)))))))))
  have c := fn_svn 8 3 F sc_law_words rfl rfl b
  exact c
theorem sc_law_schema : FnScope ["_law_hand_here", "_law_tables", "_law_columns", "_law_values", "_law_names", "_law_words_here", "_law_stock", "_law_found", "_law_name", "_law_many", "_law_shift", "_law_row", "_law_k", "_law_some", "_law_turn", "_law_mine"] ["_law_hand_here", "_law_tables", "_law_columns", "_law_values"] (defScope s_law_schema) := ⟨rfl, rfl, rfl, by decide +kernel, rfl, by decide +kernel, by decide +kernel⟩
theorem ok_law_schema {f : Addr} {fd : FuncData} (F : Fun K "_law_schema" "_law_schema" s_law_schema f fd) (T : Tx mg) (C_law_words : Cal P w K mg base 3 "_law_words" f_law_words 3) (C_law_take : Cal P w K mg base 1 "_law_take" f_law_take 2) : FnOk P w K mg base CX0 4 f fd ["_law_hand_here", "_law_tables", "_law_columns", "_law_values"] (spF ⟨K, P, w⟩ f_law_schema 4) := by
  have b : ∀ (cdv : Value) (A : Around) (outer : List Env) (s : Shared) (H : Hp) (E : XK), Room 3 (A.deeper (envOfC "_law_schema" (defScope s_law_schema) s.heap.objs.size f cdv)) →
      SVB (cxOf CX0 P w K mg base ["_law_hand_here", "_law_tables", "_law_columns", "_law_values", "_law_names", "_law_words_here", "_law_stock", "_law_found", "_law_name", "_law_many", "_law_shift", "_law_row", "_law_k", "_law_some", "_law_turn", "_law_mine"] "_law_schema" (defScope s_law_schema) f cdv A outer s H E).nox (defBody s_law_schema) m_law_schema := fun cdv A outer s H E hr => by
    have hr_law_words : Room 3 _ := hr.mono (by decide)
    have hr_law_take : Room 1 _ := hr.mono (by decide)
    exact svb_cons (svs_set 4 sc_law_schema.nd (sv_callB (call_srtW hr.units rfl) T.b_sorted PyProof.Rows.boot_sorted (sva_cons (sv_call C_law_words hr_law_words (sva_cons (sv_var 0) (sva_cons (sv_bin op_addD (sv_int) (sv_call C_law_take hr_law_take (sva_cons (sv_var 0) (sva_cons (sv_var 1) (sva_nil))))) (sva_cons (sv_int) (sva_nil))))) (sva_nil)))) (svb_cons (svs_asg (sv_tup (sva_cons (sv_call C_law_words hr_law_words (sva_cons (sv_var 0) (sva_cons (sv_bin op_addD (sv_var 2) (sv_int)) (sva_cons (sv_int) (sva_nil))))) (sva_cons (sv_call C_law_words hr_law_words (sva_cons (sv_var 0) (sva_cons (sv_bin op_addD (sv_var 3) (sv_int)) (sva_cons (sv_int) (sva_nil))))) (sva_nil)))) (svg_tup rfl (svgs_cons (svg_name 5 sc_law_schema.nd) (svgs_cons (svg_name 6 sc_law_schema.nd) (svgs_nil))))) (svb_cons (svs_set 7 sc_law_schema.nd (sv_lstM (sva_nil))) (svb_cons (svs_for PassesOwn.never rfl (svi_val (sv_var 4)) (svg_name 8 sc_law_schema.nd) (svb_cons (svs_par3 9 10 11 rfl sc_law_schema.nd (sva_cons (sv_bin op_addD (sv_int) (sv_call C_law_take hr_law_take (sva_cons (sv_var 0) (sva_cons (sv_var 2) (sva_nil))))) (sva_cons (sv_call C_law_take hr_law_take (sva_cons (sv_var 0) (sva_cons (sv_int) (sva_nil)))) (sva_cons (sv_lstM (sva_nil)) (sva_nil)))) (by rfl)) (svb_cons (svs_for PassesOwn.never rfl (svi_range T.b_range (sva_cons (sv_var 9) (sva_nil))) (svg_name 12 sc_law_schema.nd) (svb_cons (svs_asg (sv_tup (sva_cons (sv_bin op_addD (sv_int) (sv_call C_law_take hr_law_take (sva_cons (sv_var 0) (sva_cons (sv_var 3) (sva_nil))))) (sva_cons (sv_call C_law_take hr_law_take (sva_cons (sv_var 0) (sva_cons (sv_int) (sva_nil)))) (sva_nil)))) (svg_tup rfl (svgs_cons (svg_name 13 sc_law_schema.nd) (svgs_cons (svg_name 14 sc_law_schema.nd) (svgs_nil))))) (svb_cons (svs_set 15 sc_law_schema.nd (sv_callTy call_tupD T.b_tuple PyProof.Rows.boot_tuple (sva_cons (sv_lc ["_law_j"] [(6, "_law_stock"), (14, "_law_turn")] (by exact lcOk (defScope s_law_schema) rfl rfl ⟨rfl, by decide +kernel, by decide +kernel, by decide +kernel⟩ ⟨⟨rfl, .inl rfl, .inl rfl⟩, ⟨rfl, .inl rfl, .inl rfl⟩, True.intro⟩) (svi_range T.b_range (sva_cons (sv_var 13) (sva_nil))) (gown_name) (fun _ _ _ _ _ => svg_name 0 (show (["_law_j", "_law_stock", "_law_turn"] : List Str).Nodup by decide +kernel)) (fun _ _ _ _ _ => svf_nil) (fun _ _ _ _ _ => sv_ix (ix_G hr.units) (sv_var 1) (sv_bin op_modD (sv_bin op_addD (sv_var 0) (sv_var 2)) (sv_callB call_lenG T.b_len PySem.boot_len (sva_cons (sv_var 1) (sva_nil)))))) (sva_nil)))) (svb_one (svs_expr (sv_append (sv_var 11) (sva_cons (sv_tup (sva_cons (sv_ix (ix_G hr.units) (sv_var 5) (sv_bin op_modD (sv_bin op_addD (sv_var 12) (sv_var 10)) (sv_callB call_lenG T.b_len PySem.boot_len (sva_cons (sv_var 5) (sva_nil))))) (sva_cons (sv_var 15) (sva_nil)))) (sva_nil)))))))) (svb_one (svs_expr (sv_append (sv_var 7) (sva_cons (sv_tup (sva_cons (sv_var 8) (sva_cons (sv_callTy call_tupD T.b_tuple PyProof.Rows.boot_tuple (sva_cons (sv_var 11) (sva_nil))) (sva_cons (sv_bin op_addD (sv_int) (sv_call C_law_take hr_law_take (sva_cons (sv_var 0) (sva_cons (sv_var 9) (sva_nil))))) (sva_nil))))) (sva_nil)))))))) (svb_one (svs_ret (sv_callTy call_tupD T.b_tuple PyProof.Rows.boot_tuple (sva_cons (sv_var 7) (sva_nil))))))))
  have c := fn_svG 16 4 F sc_law_schema rfl rfl b
  exact c
theorem sc_law_filling : FnScope ["_law_hand_here", "_law_schema_here", "_law_most", "_law_found", "_law_name", "_law_columns", "_law_keys", "_law_rows", "_law_k", "_law_row"] ["_law_hand_here", "_law_schema_here", "_law_most"] (defScope s_law_filling) := ⟨rfl, rfl, rfl, by decide +kernel, rfl, by decide +kernel, by decide +kernel⟩
theorem ok_law_filling {f : Addr} {fd : FuncData} (F : Fun K "_law_filling" "_law_filling" s_law_filling f fd) (T : Tx mg) (C_law_take : Cal P w K mg base 1 "_law_take" f_law_take 2) (C_law_pick : Cal P w K mg base 2 "_law_pick" f_law_pick 2) : FnOk P w K mg base CX0 3 f fd ["_law_hand_here", "_law_schema_here", "_law_most"] (spF ⟨K, P, w⟩ f_law_filling 3) := by
  have b : ∀ (cdv : Value) (A : Around) (outer : List Env) (s : Shared) (H : Hp) (E : XK), Room 2 (A.deeper (envOfC "_law_filling" (defScope s_law_filling) s.heap.objs.size f cdv)) →
      SVB (cxOf CX0 P w K mg base ["_law_hand_here", "_law_schema_here", "_law_most", "_law_found", "_law_name", "_law_columns", "_law_keys", "_law_rows", "_law_k", "_law_row"] "_law_filling" (defScope s_law_filling) f cdv A outer s H E).nox (defBody s_law_filling) m_law_filling := fun cdv A outer s H E hr => by
    have hr_law_take : Room 1 _ := hr.mono (by decide)
    have hr_law_pick : Room 2 _ := hr.mono (by decide)
    exact svb_cons (svs_set 3 sc_law_filling.nd (sv_lstM (sva_nil))) (svb_cons (svs_for PassesOwn.never rfl (svi_val (sv_var 1)) (svg_tup rfl (svgs_cons (svg_name 4 sc_law_filling.nd) (svgs_cons (svg_name 5 sc_law_filling.nd) (svgs_cons (svg_name 6 sc_law_filling.nd) (svgs_nil))))) (svb_cons (svs_set 7 sc_law_filling.nd (sv_dctM)) (svb_cons (svs_for PassesOwn.never rfl (svi_range T.b_range (sva_cons (sv_call C_law_take hr_law_take (sva_cons (sv_var 0) (sva_cons (sv_bin op_addD (sv_var 2) (sv_int)) (sva_nil)))) (sva_nil))) (svg_name 8 sc_law_filling.nd) (svb_cons (svs_set 9 sc_law_filling.nd (sv_callTy call_tupD T.b_tuple PyProof.Rows.boot_tuple (sva_cons (sv_lc ["_law_column", "_law_values"] [(0, "_law_hand_here")] (by exact lcOk (defScope s_law_filling) rfl rfl ⟨rfl, by decide +kernel, by decide +kernel, by decide +kernel⟩ ⟨⟨rfl, .inl rfl, .inl rfl⟩, True.intro⟩) (svi_val (sv_var 5)) (gown_tup (gsown_cons gown_name (gsown_cons gown_name (gsown_nil)))) (fun _ _ _ _ _ => svg_tup rfl (svgs_cons (svg_name 0 (show (["_law_column", "_law_values", "_law_hand_here"] : List Str).Nodup by decide +kernel)) (svgs_cons (svg_name 1 (show (["_law_column", "_law_values", "_law_hand_here"] : List Str).Nodup by decide +kernel)) (svgs_nil)))) (fun _ _ _ _ _ => svf_nil) (fun _ _ _ _ _ => sv_call C_law_pick hr_law_pick (sva_cons (sv_var 2) (sva_cons (sv_var 1) (sva_nil))))) (sva_nil)))) (svb_one (svs_asg (sv_var 9) (svg_ix hr.units (sv_var 7) (sv_slice (sv_var 9) (svp_none) (svp_some (sv_var 6)))))))) (svb_one (svs_expr (sv_append (sv_var 3) (sva_cons (sv_callTy call_tupD T.b_tuple PyProof.Rows.boot_tuple (sva_cons (sv_srtV hr.units rfl T.b_sorted (sv_var 7)) (sva_nil))) (sva_nil)))))))) (svb_one (svs_ret (sv_callTy call_tupD T.b_tuple PyProof.Rows.boot_tuple (sva_cons (sv_var 3) (sva_nil))))))
  have c := fn_svG 10 3 F sc_law_filling rfl rfl b
  exact c
theorem sc_law_change : FnScope ["_law_hand_here", "_law_schema_here", "_law_filling_here", "_law_most", "_law_found", "_law_k", "_law_place", "_law_name", "_law_columns", "_law_keys", "_law_row", "_law_before", "_law_after"] ["_law_hand_here", "_law_schema_here", "_law_filling_here", "_law_most"] (defScope s_law_change) := ⟨rfl, rfl, rfl, by decide +kernel, rfl, by decide +kernel, by decide +kernel⟩
theorem ok_law_change {f : Addr} {fd : FuncData} (F : Fun K "_law_change" "_law_change" s_law_change f fd) (T : Tx mg) (C_law_take : Cal P w K mg base 1 "_law_take" f_law_take 2) (C_law_pick : Cal P w K mg base 2 "_law_pick" f_law_pick 2) : FnOk P w K mg base CX0 3 f fd ["_law_hand_here", "_law_schema_here", "_law_filling_here", "_law_most"] (spF ⟨K, P, w⟩ f_law_change 4) := by
  have b : ∀ (cdv : Value) (A : Around) (outer : List Env) (s : Shared) (H : Hp) (E : XK), Room 2 (A.deeper (envOfC "_law_change" (defScope s_law_change) s.heap.objs.size f cdv)) →
      SVB (cxOf CX0 P w K mg base ["_law_hand_here", "_law_schema_here", "_law_filling_here", "_law_most", "_law_found", "_law_k", "_law_place", "_law_name", "_law_columns", "_law_keys", "_law_row", "_law_before", "_law_after"] "_law_change" (defScope s_law_change) f cdv A outer s H E).nox (defBody s_law_change) m_law_change := fun cdv A outer s H E hr => by
    have hr_law_take : Room 1 _ := hr.mono (by decide)
    have hr_law_pick : Room 2 _ := hr.mono (by decide)
    exact svb_cons (svs_set 4 sc_law_change.nd (sv_dctM)) (svb_cons (svs_for PassesOwn.never rfl (svi_range T.b_range (sva_cons (sv_call C_law_take hr_law_take (sva_cons (sv_var 0) (sva_cons (sv_bin op_addD (sv_var 3) (sv_int)) (sva_nil)))) (sva_nil))) (svg_name 5 sc_law_change.nd) (svb_cons (svs_set 6 sc_law_change.nd (sv_call C_law_take hr_law_take (sva_cons (sv_var 0) (sva_cons (sv_callB call_lenG T.b_len PySem.boot_len (sva_cons (sv_var 1) (sva_nil))) (sva_nil))))) (svb_cons (svs_asg (sv_ix (ix_G hr.units) (sv_var 1) (sv_var 6)) (svg_tup rfl (svgs_cons (svg_name 7 sc_law_change.nd) (svgs_cons (svg_name 8 sc_law_change.nd) (svgs_cons (svg_name 9 sc_law_change.nd) (svgs_nil)))))) (svb_cons (svs_set 10 sc_law_change.nd (sv_callTy call_tupD T.b_tuple PyProof.Rows.boot_tuple (sva_cons (sv_lc ["_law_column", "_law_values"] [(0, "_law_hand_here")] (by exact lcOk (defScope s_law_change) rfl rfl ⟨rfl, by decide +kernel, by decide +kernel, by decide +kernel⟩ ⟨⟨rfl, .inl rfl, .inl rfl⟩, True.intro⟩) (svi_val (sv_var 8)) (gown_tup (gsown_cons gown_name (gsown_cons gown_name (gsown_nil)))) (fun _ _ _ _ _ => svg_tup rfl (svgs_cons (svg_name 0 (show (["_law_column", "_law_values", "_law_hand_here"] : List Str).Nodup by decide +kernel)) (svgs_cons (svg_name 1 (show (["_law_column", "_law_values", "_law_hand_here"] : List Str).Nodup by decide +kernel)) (svgs_nil)))) (fun _ _ _ _ _ => svf_nil) (fun _ _ _ _ _ => sv_call C_law_pick hr_law_pick (sva_cons (sv_var 2) (sva_cons (sv_var 1) (sva_nil))))) (sva_nil)))) (svb_cons (svs_if (SVW.t (svw_and (svt_cmp (op_neD hr.units) (sv_ix (ix_G hr.units) (sv_var 2) (sv_var 6)) (sv_tup (sva_nil))) (svw_and1 (svt_cmp (op_eqD hr.units) (sv_call C_law_take hr_law_take (sva_cons (sv_var 0) (sva_cons (sv_int) (sva_nil)))) (sv_int))))) (svb_one (svs_set 10 sc_law_change.nd (sv_bin op_addD (sv_slice (sv_call C_law_pick hr_law_pick (sva_cons (sv_var 0) (sva_cons (sv_ix (ix_G hr.units) (sv_var 2) (sv_var 6)) (sva_nil)))) (svp_none) (svp_some (sv_var 9))) (sv_slice (sv_var 10) (svp_some (sv_var 9)) (svp_none))))) (svb_nil)) (svb_cons (svs_set 11 sc_law_change.nd (sv_ix (ix_G hr.units) (sv_bin op_addD (sv_lc ["_law_one"] [(9, "_law_keys"), (10, "_law_row")] (by exact lcOk (defScope s_law_change) rfl rfl ⟨rfl, by decide +kernel, by decide +kernel, by decide +kernel⟩ ⟨⟨rfl, .inl rfl, .inl rfl⟩, ⟨rfl, .inl rfl, .inl rfl⟩, True.intro⟩) (svi_val (sv_ix (ix_G hr.units) (sv_var 2) (sv_var 6))) (gown_name) (fun _ _ _ _ _ => svg_name 0 (show (["_law_one", "_law_keys", "_law_row"] : List Str).Nodup by decide +kernel)) (fun _ _ _ _ _ => svf_one (svt_cmp (op_eqD hr.units) (sv_slice (sv_var 0) (svp_none) (svp_some (sv_var 1))) (sv_slice (sv_var 2) (svp_none) (svp_some (sv_var 1))))) (fun _ _ _ _ _ => sv_var 0)) (sv_lst (sva_cons (sv_non) (sva_nil)))) (sv_int))) (svb_cons (svs_set 12 sc_law_change.nd (sv_ix (ix_G hr.units) (sv_lst (sva_cons (sv_var 10) (sva_cons (sv_var 10) (sva_cons (sv_non) (sva_nil))))) (sv_call C_law_take hr_law_take (sva_cons (sv_var 0) (sva_cons (sv_int) (sva_nil)))))) (svb_one (svs_if (svt_cmp (op_neD hr.units) (sv_var 12) (sv_var 11)) (svb_one (svs_asg (sv_tup (sva_cons (sv_var 7) (sva_cons (sv_slice (sv_var 10) (svp_none) (svp_some (sv_var 9))) (sva_cons (sv_var 11) (sva_cons (sv_var 12) (sva_nil)))))) (svg_ix hr.units (sv_var 4) (sv_tup (sva_cons (sv_var 7) (sva_cons (sv_slice (sv_var 10) (svp_none) (svp_some (sv_var 9))) (sva_nil))))))) (svb_nil)))))))))) (svb_one (svs_ret (sv_callTy call_tupD T.b_tuple PyProof.Rows.boot_tuple (sva_cons (sv_lc ["_law_one"] [(4, "_law_found")] (by exact lcOk (defScope s_law_change) rfl rfl ⟨rfl, by decide +kernel, by decide +kernel, by decide +kernel⟩ ⟨⟨rfl, .inl rfl, .inl rfl⟩, True.intro⟩) (svi_val (sv_callB (call_srtW hr.units rfl) T.b_sorted PyProof.Rows.boot_sorted (sva_cons (sv_var 4) (sva_nil)))) (gown_name) (fun _ _ _ _ _ => svg_name 0 (show (["_law_one", "_law_found"] : List Str).Nodup by decide +kernel)) (fun _ _ _ _ _ => svf_nil) (fun _ _ _ _ _ => sv_ix (ix_G hr.units) (sv_var 1) (sv_var 0))) (sva_nil))))))
  have c := fn_svG 13 4 F sc_law_change rfl rfl b
  exact c
theorem sc_law_cost : FnScope ["_law_schema_here", "_law_change_here", "_law_total", "_law_name", "_law_key", "_law_before", "_law_after", "_law_columns", "_law_keys", "_law_k", "_law_column", "_law_values"] ["_law_schema_here", "_law_change_here"] (defScope s_law_cost) := ⟨rfl, rfl, rfl, by decide +kernel, rfl, by decide +kernel, by decide +kernel⟩
theorem ok_law_cost {f : Addr} {fd : FuncData} (F : Fun K "_law_cost" "_law_cost" s_law_cost f fd) (T : Tx mg)  : FnOk P w K mg base CX0 1 f fd ["_law_schema_here", "_law_change_here"] (spF ⟨K, P, w⟩ f_law_cost 2) := by
  have b : ∀ (cdv : Value) (A : Around) (outer : List Env) (s : Shared) (H : Hp) (E : XK), Room 0 (A.deeper (envOfC "_law_cost" (defScope s_law_cost) s.heap.objs.size f cdv)) →
      SVB (cxOf CX0 P w K mg base ["_law_schema_here", "_law_change_here", "_law_total", "_law_name", "_law_key", "_law_before", "_law_after", "_law_columns", "_law_keys", "_law_k", "_law_column", "_law_values"] "_law_cost" (defScope s_law_cost) f cdv A outer s H E).nox (defBody s_law_cost) m_law_cost := fun cdv A outer s H E hr => by
    exact svb_cons (svs_set 2 sc_law_cost.nd (sv_int)) (svb_cons (svs_for PassesOwn.never rfl (svi_val (sv_var 1)) (svg_tup rfl (svgs_cons (svg_name 3 sc_law_cost.nd) (svgs_cons (svg_name 4 sc_law_cost.nd) (svgs_cons (svg_name 5 sc_law_cost.nd) (svgs_cons (svg_name 6 sc_law_cost.nd) (svgs_nil)))))) (svb_cons (svs_asg (sv_ix (ix_G hr.units) (sv_lc ["_law_table"] [(3, "_law_name")] (by exact lcOk (defScope s_law_cost) rfl rfl ⟨rfl, by decide +kernel, by decide +kernel, by decide +kernel⟩ ⟨⟨rfl, .inl rfl, .inl rfl⟩, True.intro⟩) (svi_val (sv_var 0)) (gown_name) (fun _ _ _ _ _ => svg_name 0 (show (["_law_table", "_law_name"] : List Str).Nodup by decide +kernel)) (fun _ _ _ _ _ => svf_one (svt_cmp (op_eqD hr.units) (sv_ix (ix_G hr.units) (sv_var 0) (sv_int)) (sv_var 1))) (fun _ _ _ _ _ => sv_slice (sv_var 0) (svp_some (sv_int)) (svp_none))) (sv_int)) (svg_tup rfl (svgs_cons (svg_name 7 sc_law_cost.nd) (svgs_cons (svg_name 8 sc_law_cost.nd) (svgs_nil))))) (svb_one (svs_for PassesOwn.never rfl (svi_en T.b_enumerate (sva_cons (sv_var 7) (sva_nil))) (svg_tup rfl (svgs_cons (svg_name 9 sc_law_cost.nd) (svgs_cons (svg_tup rfl (svgs_cons (svg_name 10 sc_law_cost.nd) (svgs_cons (svg_name 11 sc_law_cost.nd) (svgs_nil)))) (svgs_nil)))) (svb_one (svs_if (svt_cmp op_isD (sv_var 5) (sv_non)) (svb_one (svs_set 2 sc_law_cost.nd (sv_bin op_addD (sv_bin op_addD (sv_var 2) (sv_int)) (sv_callTy call_intD T.b_int PyProof.Rows.boot_int (sva_cons (sv_and (sv_cmp op_geD (sv_var 9) (sv_var 8)) (sv_one (sv_cmp op_gtD (sv_index hr.units (sv_var 11) (sva_cons (sv_ix (ix_G hr.units) (sv_var 6) (sv_var 9)) (sva_nil))) (sv_int)))) (sva_nil)))))) (svb_one (svs_if (svt_cmp op_isD (sv_var 6) (sv_non)) (svb_one (svs_set 2 sc_law_cost.nd (sv_bin op_addD (sv_var 2) (sv_int)))) (svb_one (svs_if (svt_cmp (op_neD hr.units) (sv_ix (ix_G hr.units) (sv_var 5) (sv_var 9)) (sv_ix (ix_G hr.units) (sv_var 6) (sv_var 9))) (svb_one (svs_set 2 sc_law_cost.nd (sv_bin op_addD (sv_var 2) (sv_int)))) (svb_nil))))))))))) (svb_one (svs_ret (sv_var 2))))
  have c := fn_svn 12 2 F sc_law_cost rfl rfl b
  exact c
theorem sc_law : FnScope ["_law_script", "_law_k", "_law_hand_here", "_law_schema_here", "_law_filling_here", "_law_turn", "_law_change_here"] ["_law_script"] (defScope s_law) := ⟨rfl, rfl, rfl, by decide +kernel, rfl, by decide +kernel, by decide +kernel⟩
theorem ok_law {f : Addr} {fd : FuncData} (F : Fun K "law" "law" s_law f fd) (T : Tx mg) (C_law_hand : Cal P w K mg base 1 "_law_hand" f_law_hand 2) (C_law_schema : Cal P w K mg base 4 "_law_schema" f_law_schema 4) (C_law_filling : Cal P w K mg base 3 "_law_filling" f_law_filling 3) (C_law_change : Cal P w K mg base 3 "_law_change" f_law_change 4) (C_cost_of : Cal P w K mg base 3 "cost_of" f_cost_of 2) (C_law_cost : Cal P w K mg base 1 "_law_cost" f_law_cost 2) : FnOk P w K mg base CX0 5 f fd ["_law_script"] (spF ⟨K, P, w⟩ f_law 1) := by
  have b : ∀ (cdv : Value) (A : Around) (outer : List Env) (s : Shared) (H : Hp) (E : XK), Room 4 (A.deeper (envOfC "law" (defScope s_law) s.heap.objs.size f cdv)) →
      SVB (cxOf CX0 P w K mg base ["_law_script", "_law_k", "_law_hand_here", "_law_schema_here", "_law_filling_here", "_law_turn", "_law_change_here"] "law" (defScope s_law) f cdv A outer s H E).nox (defBody s_law) m_law := fun cdv A outer s H E hr => by
    have hr_law_hand : Room 1 _ := hr.mono (by decide)
    have hr_law_schema : Room 4 _ := hr.mono (by decide)
    have hr_law_filling : Room 3 _ := hr.mono (by decide)
    have hr_law_change : Room 3 _ := hr.mono (by decide)
    have hr_cost_of : Room 3 _ := hr.mono (by decide)
    have hr_law_cost : Room 1 _ := hr.mono (by decide)
    exact svb_cons (svs_for PassesOwn.never rfl (svi_range T.b_range (sva_cons (sv_callB (call_maxD rfl) T.b_max PyProof.Rows.boot_max (sva_cons (sv_int) (sva_cons (sv_callB (call_minD rfl) T.b_min PyProof.Rows.boot_min (sva_cons (sv_int) (sva_cons (sv_callB call_lenG T.b_len PySem.boot_len (sva_cons (sv_var 0) (sva_nil))) (sva_nil)))) (sva_nil)))) (sva_nil))) (svg_name 1 sc_law.nd) (svb_cons (svs_set 2 sc_law.nd (sv_call C_law_hand hr_law_hand (sva_cons (sv_var 0) (sva_cons (sv_var 1) (sva_nil))))) (svb_cons (svs_set 3 sc_law.nd (sv_call C_law_schema hr_law_schema (sva_cons (sv_var 2) (sva_cons (sv_int) (sva_cons (sv_int) (sva_cons (sv_int) (sva_nil))))))) (svb_cons (svs_set 4 sc_law.nd (sv_call C_law_filling hr_law_filling (sva_cons (sv_var 2) (sva_cons (sv_var 3) (sva_cons (sv_int) (sva_nil)))))) (svb_cons (svs_for PassesOwn.never rfl (svi_range T.b_range (sva_cons (sv_int) (sva_nil))) (svg_name 5 sc_law.nd) (svb_cons (svs_set 6 sc_law.nd (sv_call C_law_change hr_law_change (sva_cons (sv_var 2) (sva_cons (sv_var 3) (sva_cons (sv_var 4) (sva_cons (sv_int) (sva_nil))))))) (svb_one (svs_if (svt_cmp (op_neD hr.units) (sv_callB (call_reprF hr.units hr.gd) T.b_repr (by decide +kernel) (sva_cons (sv_call C_cost_of hr_cost_of (sva_cons (sv_var 3) (sva_cons (sv_var 6) (sva_nil)))) (sva_nil))) (sv_callB (call_reprF hr.units hr.gd) T.b_repr (by decide +kernel) (sva_cons (sv_call C_law_cost hr_law_cost (sva_cons (sv_var 3) (sva_cons (sv_var 6) (sva_nil)))) (sva_nil)))) (svb_one (svs_ret (sv_bl))) (svb_nil))))) (svb_one (svs_if (svt_cmp (op_neD hr.units) (sv_callB (call_reprF hr.units hr.gd) T.b_repr (by decide +kernel) (sva_cons (sv_call C_cost_of hr_cost_of (sva_cons (sv_var 3) (sva_cons (sv_tup (sva_nil)) (sva_nil)))) (sva_nil))) (sv_str)) (svb_one (svs_ret (sv_bl))) (svb_nil)))))))) (svb_one (svs_ret (sv_bl)))
  have c := fn_svn 7 1 F sc_law rfl rfl b
  exact c
end
end PG
namespace PV
open PySem L2 PyProof.Rows
section
variable {α β : Type} {ro : Ro} {mu : Sto} {d e : D} {a b c : Ex} {i : Nat} {o : Option D}
@[simp] theorem z_bM {x : α} {m : Sto} {f : α → Sto → Rs β} : bM (some (x, m)) f = f x m := rfl
@[simp] theorem z_v0 : eVar 0 (some d :: ro) mu = some (d, mu) := rfl
@[simp] theorem z_v1 {x1} : eVar 1 (x1 :: some d :: ro) mu = some (d, mu) := rfl
@[simp] theorem z_v2 {x1 x2} : eVar 2 (x1 :: x2 :: some d :: ro) mu = some (d, mu) := rfl
@[simp] theorem z_v3 {x1 x2 x3} : eVar 3 (x1 :: x2 :: x3 :: some d :: ro) mu = some (d, mu) := rfl
@[simp] theorem z_v4 {x1 x2 x3 x4} : eVar 4 (x1 :: x2 :: x3 :: x4 :: some d :: ro) mu = some (d, mu) := rfl
@[simp] theorem z_v5 {x1 x2 x3 x4 x5} : eVar 5 (x1 :: x2 :: x3 :: x4 :: x5 :: some d :: ro) mu = some (d, mu) := rfl
@[simp] theorem z_v6 {x1 x2 x3 x4 x5 x6} : eVar 6 (x1 :: x2 :: x3 :: x4 :: x5 :: x6 :: some d :: ro) mu = some (d, mu) := rfl
@[simp] theorem z_v7 {x1 x2 x3 x4 x5 x6 x7} : eVar 7 (x1 :: x2 :: x3 :: x4 :: x5 :: x6 :: x7 :: some d :: ro) mu = some (d, mu) := rfl
@[simp] theorem z_v8 {x1 x2 x3 x4 x5 x6 x7 x8} : eVar 8 (x1 :: x2 :: x3 :: x4 :: x5 :: x6 :: x7 :: x8 :: some d :: ro) mu = some (d, mu) := rfl
@[simp] theorem z_v9 {x1 x2 x3 x4 x5 x6 x7 x8 x9} : eVar 9 (x1 :: x2 :: x3 :: x4 :: x5 :: x6 :: x7 :: x8 :: x9 :: some d :: ro) mu = some (d, mu) := rfl
@[simp] theorem z_v10 {x1 x2 x3 x4 x5 x6 x7 x8 x9 x10} : eVar 10 (x1 :: x2 :: x3 :: x4 :: x5 :: x6 :: x7 :: x8 :: x9 :: x10 :: some d :: ro) mu = some (d, mu) := rfl
@[simp] theorem z_v11 {x1 x2 x3 x4 x5 x6 x7 x8 x9 x10 x11} : eVar 11 (x1 :: x2 :: x3 :: x4 :: x5 :: x6 :: x7 :: x8 :: x9 :: x10 :: x11 :: some d :: ro) mu = some (d, mu) := rfl
@[simp] theorem z_v12 {x1 x2 x3 x4 x5 x6 x7 x8 x9 x10 x11 x12} : eVar 12 (x1 :: x2 :: x3 :: x4 :: x5 :: x6 :: x7 :: x8 :: x9 :: x10 :: x11 :: x12 :: some d :: ro) mu = some (d, mu) := rfl
@[simp] theorem z_v15 {x1 x2 x3 x4 x5 x6 x7 x8 x9 x10 x11 x12 x13 x14 x15} : eVar 15 (x1 :: x2 :: x3 :: x4 :: x5 :: x6 :: x7 :: x8 :: x9 :: x10 :: x11 :: x12 :: x13 :: x14 :: x15 :: some d :: ro) mu = some (d, mu) := rfl
@[simp] theorem z_C : eC d ro mu = some (d, mu) := rfl
@[simp] theorem z_bin {g : D → D → Sto → Rs D} : eBin g a b ro mu = bM (a ro mu) fun x m1 => bM (b ro m1) fun y m2 => g x y m2 := rfl
@[simp] theorem z_tV : tV a ro mu = bM (a ro mu) fun x m1 => (asB x).map fun b => (b, m1) := rfl
@[simp] theorem z_asB {x : Bool} : asB (.bl x) = some x := rfl
@[simp] theorem z_tAn {t u : Tx} : tAn t u ro mu = bM (t ro mu) fun x m1 => if x = true then u ro m1 else some (false, m1) := rfl
@[simp] theorem z_tY : tY ro mu = some (true, mu) := rfl
def anB (b : Ex) (ro : Ro) : D → Sto → Rs D
  | .bl c, m1 => if c = true then b ro m1 else some (.bl false, m1)
  | _, _ => none
theorem z_an : eAn a b ro mu = bM (a ro mu) (anB b ro) := by
  unfold eAn
  congr 1
  funext x m
  cases x <;> rfl
@[simp] theorem z_an2 : eAn a b ro mu = bM (a ro mu) (anB b ro) := z_an
@[simp] theorem z_anB {x : Bool} : anB b ro (.bl x) mu = if x = true then b ro mu else some (.bl false, mu) := rfl
@[simp] theorem z_if {t : Tx} : eIf t a b ro mu = bM (t ro mu) fun x m1 => if x = true then a ro m1 else b ro m1 := rfl
@[simp] theorem z_aN : aNil ro mu = some ([], mu) := rfl
@[simp] theorem z_aC {r : Exs} : aCons a r ro mu = bM (a ro mu) fun x m1 => bM (r ro m1) fun xs m2 => some (x :: xs, m2) := rfl
@[simp] theorem z_tup {r : Exs} : eTup r ro mu = bM (r ro mu) fun xs m1 => some (.tup xs, m1) := rfl
@[simp] theorem z_lst {r : Exs} : eLst r ro mu = bM (r ro mu) fun xs m1 => some (.lst xs, m1) := rfl
@[simp] theorem z_lstM {r : Exs} : eLstM r ro mu = bM (r ro mu) fun xs m1 => some (.ref m1.length, m1 ++ [.lst xs]) := rfl
@[simp] theorem z_dctM : eDctM ro mu = some (.ref mu.length, mu ++ [.dct [] []]) := rfl
@[simp] theorem z_call {f : Fn} {r : Exs} : eCall f r ro mu = bM (r ro mu) fun xs m1 => f xs m1 := rfl
@[simp] theorem z_sNx : sNx ro mu = some ((.nx, ro), mu) := rfl
def seqB (b : Sx) : Fl × Ro → Sto → Rs (Fl × Ro)
  | (.nx, ro), m1 => b ro m1
  | p, m1 => some (p, m1)
@[simp] theorem z_seq {s t : Sx} : sSeq s t ro mu = bM (s ro mu) (seqB t) := by
  unfold sSeq
  congr 1
  funext p m
  obtain ⟨f, r⟩ := p
  cases f <;> rfl
@[simp] theorem z_seqB {t : Sx} : seqB t (.nx, ro) mu = t ro mu := rfl
@[simp] theorem z_seqR {t : Sx} : seqB t (.rt d, ro) mu = some ((.rt d, ro), mu) := rfl
@[simp] theorem z_rt : sRt a ro mu = bM (a ro mu) fun d m1 => some ((.rt d, ro), m1) := rfl
@[simp] theorem z_ex : sEx a ro mu = bM (a ro mu) fun _ m1 => some ((.nx, ro), m1) := rfl
@[simp] theorem z_sIf {t : Tx} {s u : Sx} : sIf t s u ro mu = bM (t ro mu) fun x m1 => if x = true then s ro m1 else u ro m1 := rfl
@[simp] theorem z_gNm {i : Nat} : gNm i d ro mu = some (ro.set i (some d), mu) := rfl
@[simp] theorem z_gsN : gsNil [] ro mu = some (ro, mu) := rfl
@[simp] theorem z_gsC {g : Gx} {r : Gxs} {ds : List D} : gsCons g r (d :: ds) ro mu = bM (g d ro mu) fun ro' m1 => r ds ro' m1 := rfl
@[simp] theorem z_gTp2 {r : Gxs} {x y : D} : gTp 2 r (.tup [x, y]) ro mu = r [x, y] ro mu := rfl
@[simp] theorem z_gTp3 {r : Gxs} {x y z : D} : gTp 3 r (.tup [x, y, z]) ro mu = r [x, y, z] ro mu := rfl
@[simp] theorem z_set {g : Gx} : sSet a g ro mu = bM (a ro mu) fun d m1 => bM (g d ro m1) fun ro' m2 => some ((.nx, ro'), m2) := rfl
@[simp] theorem z_par3 {i j k : Nat} {r : Exs} : sPar3 i j k r ro mu = bM (r ro mu) fun ds m1 => match ds with | [x, y, z] => some ((.nx, ((ro.set i (some x)).set j (some y)).set k (some z)), m1) | _ => none := rfl
def outB : Fl × Ro → Sto → Rs D
  | (.rt d, _), m1 => some (d, m1)
  | (.nx, _), m1 => some (.non, m1)
  | _, _ => none
theorem z_fnB {n : Nat} {m : Sx} {ds : List D} : fnB n m ds mu = bM (m (ds.map some ++ List.replicate (n - ds.length) none) mu) outB := by
  unfold fnB
  congr 1
  funext p q
  obtain ⟨f, r⟩ := p
  cases f <;> rfl
@[simp] theorem z_outR : outB (.rt d, ro) mu = some (d, mu) := rfl
def outG (m0 : Sto) : Fl × Ro → Sto → Rs D
  | (.rt d, _), m1 => cutS m0 m1 d
  | (.nx, _), m1 => cutS m0 m1 .non
  | _, _ => none
theorem z_fnG {n : Nat} {m : Sx} {ds : List D} : fnG n m ds mu = bM (m (ds.map some ++ List.replicate (n - ds.length) none) mu) (outG mu) := by
  unfold fnG
  congr 1
  funext p q
  obtain ⟨f, r⟩ := p
  cases f <;> rfl
@[simp] theorem z_outGR {m0 : Sto} : outG m0 (.rt d, ro) mu = cutS m0 mu d := rfl
@[simp] theorem z_for {x : Ix} {g : Gx} {s : Sx} : sFor x g s ro mu = bM (x ro mu) fun p m1 => forGo p.2 m1 g s p.1 ro m1 := rfl
def walkB (m1 : Sto) : D → Rs (List D × Option Nat)
  | .tup ds => some ((ds, none), m1)
  | .lst ds => some ((ds, none), m1)
  | .str x => some ((chars x, none), m1)
  | .ref k => match m1[k]? with
    | some (.lst ds) => some ((ds, some k), m1)
    | _ => none
  | _ => none
@[simp] theorem z_iV : iVal a ro mu = bM (a ro mu) fun d m1 => walkB m1 d := by
  unfold iVal
  congr 1
@[simp] theorem z_wT {ds : List D} : walkB mu (.tup ds) = some ((ds, none), mu) := rfl
@[simp] theorem z_wL {ds : List D} : walkB mu (.lst ds) = some ((ds, none), mu) := rfl
theorem z_iR {r : Exs} {n : Int} {m : Sto} (h : r ro mu = some ([.int n], m)) (h0 : -(2 ^ 62) ≤ n) (h1 : n ≤ (sizeLine : Int)) : iRg r ro mu = some ((rngD 0 n.toNat, none), m) := by
  unfold iRg
  rw [h]
  simp only [bM, int1]
  rw [if_pos ⟨h0, h1⟩]
@[simp] theorem z_lc {x : Ix} {nc : Nat} {fv : List Nat} {g : Gx} {t : Tx} : eLC x nc fv g t a ro mu = bM (x ro mu) fun p m1 => bM (lcGo p.2 m1 g t a (r0 nc fv ro) p.1 m1) fun ys m2 => some (.lst ys, m2) := rfl
@[simp] theorem z_r0 {nc : Nat} {fv : List Nat} : r0 nc fv ro = List.replicate nc none ++ fv.map fun k => ro.getD k none := rfl
@[simp] theorem z_geI {i j : Int} : geD (.int i) (.int j) mu = some (.bl (decide (j ≤ i)), mu) := rfl
@[simp] theorem z_gtI {i j : Int} : gtD (.int i) (.int j) mu = some (.bl (decide (j < i)), mu) := rfl
@[simp] theorem z_ltI {i j : Int} : ltG (.int i) (.int j) mu = some (.bl (decide (i < j)), mu) := by
  unfold ltG
  rw [if_pos (by simp [toPy, PyData.depth])]
  rfl
@[simp] theorem z_addI {i j : Int} : addD (.int i) (.int j) mu = some (.int (i + j), mu) := rfl
@[simp] theorem z_subI {i j : Int} : subD (.int i) (.int j) mu = some (.int (i - j), mu) := rfl
theorem z_modI {i j : Int} (h : 0 < j) : modD (.int i) (.int j) mu = some (.int (i % j), mu) := by unfold modD; dsimp only; rw [if_pos h]
@[simp] theorem z_lenT {ds : List D} : lenG [.tup ds] mu = some (.int ds.length, mu) := rfl
@[simp] theorem z_lenL {ds : List D} : lenG [.lst ds] mu = some (.int ds.length, mu) := rfl
@[simp] theorem z_lenS {x : Str} : lenG [.str x] mu = some (.int x.length, mu) := rfl
@[simp] theorem z_tupF {ds : List D} : tupF [.lst ds] mu = some (.tup ds, mu) := rfl
theorem z_eqG (h : eqB mu d e = some r) : eqD d e mu = some (.bl r, mu) := by unfold eqD; rw [h]; rfl
@[simp] theorem z_eqI {i j : Int} : eqD (.int i) (.int j) mu = some (.bl (decide (i = j)), mu) := by
  refine z_eqG ?_
  unfold eqB
  rw [if_pos (by simp [seen, pureD, toPy, PyData.depth])]
  simp only [seen, toPy, PyData.eqv]
  rfl
@[simp] theorem z_ixT0 {ds : List D} : ixG (.tup (d :: ds)) (.int 0) mu = some (d, mu) := by
  have : ixD (.tup (d :: ds)) (.int 0) mu = some (d, mu) := by simp [ixD, atI, ixN]
  unfold ixG
  rw [this]
@[simp] theorem z_ixL0 {ds : List D} : ixG (.lst (d :: ds)) (.int 0) mu = some (d, mu) := by
  have : ixD (.lst (d :: ds)) (.int 0) mu = some (d, mu) := by simp [ixD, atI, ixN, lstOf]
  unfold ixG
  rw [this]
theorem z_ix {ds : List D} {j : Nat} (s : D) (hs : s = .lst ds ∨ s = .tup ds) (h : ds[j]? = some d) : ixG s (.int j) mu = some (d, mu) := by
  obtain ⟨hl, e⟩ := List.getElem?_eq_some_iff.mp h
  have a : atI ds (j : Int) = some d := by
    unfold atI ixN
    rw [if_pos (by omega), if_pos (by omega)]
    simpa using h
  unfold ixG
  rcases hs with rfl | rfl <;> simp [ixD, lstOf, a]
end
theorem lc_pure {m0 : Sto} {tg : Gx} {tt : Tx} {el : Ex} {ro : Ro} {mu : Sto} (p : D → Bool) (g : D → D) : ∀ ds : List D, (∀ d ∈ ds, ∃ ro1, tg d ro mu = some (ro1, mu) ∧ tt ro1 mu = some (p d, mu) ∧ (p d = true → el ro1 mu = some (g d, mu))) → lcGo none m0 tg tt el ro ds mu = some ((ds.filter p).map g, mu)
  | [], _ => rfl
  | d :: ds, h => by
    obtain ⟨ro1, e1, e2, e3⟩ := h d (.head _)
    have ih := lc_pure (m0 := m0) p g ds fun d' hd => h d' (.tail _ hd)
    unfold lcGo
    rw [e1, bM_some, e2, bM_some]
    cases c : p d with
    | true => rw [if_pos rfl, e3 c, bM_some, guard', if_pos (show gOk none m0 mu from True.intro), ih, bM_some, List.filter_cons_of_pos c, List.map_cons]
    | false => rw [if_neg Bool.false_ne_true, guard', if_pos (show gOk none m0 mu from True.intro), ih, List.filter_cons_of_neg (by simp [c])]
theorem lc_all {m0 : Sto} {tg : Gx} {el : Ex} {ro : Ro} {mu : Sto} (g : D → D) (ds : List D) (h : ∀ d ∈ ds, ∃ ro1, tg d ro mu = some (ro1, mu) ∧ el ro1 mu = some (g d, mu)) : lcGo none m0 tg tY el ro ds mu = some (ds.map g, mu) := by
  have := lc_pure (m0 := m0) (tg := tg) (tt := tY) (el := el) (ro := ro) (mu := mu) (fun _ => true) g ds fun d hd => by
    obtain ⟨ro1, e1, e2⟩ := h d hd
    exact ⟨ro1, e1, rfl, fun _ => e2⟩
  rw [this, List.filter_eq_self.mpr (fun _ _ => rfl)]
end PV
namespace K1
open PySem L2 PyProof.Rows
abbrev SIGNS : Str := "abcdefghijklmnopqrstuvwxyz0123456789"
structure IsW (x : Str) : Prop where
  lo : 1 ≤ x.length
  hi : x.length ≤ 8
  al : ∀ c ∈ x.cps.toList, c ∈ SIGNS.cps.toList
theorem signs_len : SIGNS.cps.toList.length = 36 := by decide +kernel
theorem signs_nd : SIGNS.cps.toList.Nodup := by decide +kernel
theorem mulOk (c : Nat) (n : Int) (h0 : 0 ≤ n) (h7 : n ≤ 7) : MulOk ⟨#[c]⟩ n := by
  have e : n = 0 ∨ n = 1 ∨ n = 2 ∨ n = 3 ∨ n = 4 ∨ n = 5 ∨ n = 6 ∨ n = 7 := by omega
  have l : (⟨#[c]⟩ : Str).length = 1 := rfl
  unfold MulOk
  rw [l]
  rcases e with rfl | rfl | rfl | rfl | rfl | rfl | rfl | rfl <;> decide
theorem mul_list (c : Nat) (n : Int) (h0 : 0 ≤ n) (h7 : n ≤ 7) : (Txt.mul ⟨#[c]⟩ n).cps.toList = List.replicate n.toNat c := by
  have e : n = 0 ∨ n = 1 ∨ n = 2 ∨ n = 3 ∨ n = 4 ∨ n = 5 ∨ n = 6 ∨ n = 7 := by omega
  rcases e with rfl | rfl | rfl | rfl | rfl | rfl | rfl | rfl <;> rfl
theorem slice_to {x : Str} {j : Int} (h0 : 0 ≤ j) (h1 : j ≤ x.length) : (Txt.slice x none (some j)).cps.toList = x.cps.toList.take j.toNat := by
  have h := slice_closes_to (x := x) (j := j) ⟨h0, by simpa [Str.length] using h1⟩
  rw [eq_of_beq h]
  simp
theorem slice_from {x : Str} {j : Int} (h0 : 0 ≤ j) (h1 : j ≤ x.length) : (Txt.slice x (some j) none).cps.toList = x.cps.toList.drop j.toNat := by
  rw [slice_from_eq h0 h1 rfl]
  apply List.take_of_length_le
  simp [Str.length]
  omega
def wrd (A B : Str) (fi st : Int) (k : Nat) : Str := A ++ ⟨#[SIGNS.cps.toList.getD ((fi + st * k) % 36).toNat 0]⟩ ++ B
theorem wrd_list (A B : Str) (fi st : Int) (k : Nat) : (wrd A B fi st k).cps.toList = A.cps.toList ++ [SIGNS.cps.toList.getD ((fi + st * k) % 36).toNat 0] ++ B.cps.toList := by
  unfold wrd
  rw [Str.cps_append, Str.cps_append, Array.toList_append, Array.toList_append]
theorem sign_mem {j : Int} (h0 : 0 ≤ j) (h1 : j < 36) : SIGNS.cps.toList[j.toNat]? = some (SIGNS.cps.toList.getD j.toNat 0) := by
  have h : j.toNat < SIGNS.cps.toList.length := by rw [signs_len]; omega
  rw [List.getD_eq_getElem?_getD, List.getElem?_eq_getElem h]
  rfl
def StepOk (st : Int) : Prop := st = 1 ∨ st = 5 ∨ st = 7 ∨ st = 11 ∨ st = 13 ∨ st = 17
theorem step_inj {fi st : Int} {j k : Nat} (hs : StepOk st) (hj : j < 6) (hk : k < 6) (e : (fi + st * j) % 36 = (fi + st * k) % 36) : j = k := by
  rcases hs with rfl | rfl | rfl | rfl | rfl | rfl <;> omega
theorem wrd_inj {A B : Str} {fi st : Int} {j k : Nat} (hs : StepOk st) (hj : j < 6) (hk : k < 6) (e : wrd A B fi st j = wrd A B fi st k) : j = k := by
  have h := congrArg (fun s : Str => s.cps.toList) e
  simp only [wrd_list, List.append_cancel_right_eq, List.append_cancel_left_eq, List.cons.injEq, and_true] at h
  refine step_inj (fi := fi) hs hj hk ?_
  have a0 := Int.emod_nonneg (fi + st * j) (show (36 : Int) ≠ 0 by decide)
  have a1 := Int.emod_lt_of_pos (fi + st * j) (show (0 : Int) < 36 by decide)
  have b0 := Int.emod_nonneg (fi + st * k) (show (36 : Int) ≠ 0 by decide)
  have b1 := Int.emod_lt_of_pos (fi + st * k) (show (0 : Int) < 36 by decide)
  have e1 := sign_mem a0 a1
  have e2 := sign_mem b0 b1
  rw [h, ← e2] at e1
  have l1 : ((fi + st * j) % 36).toNat < SIGNS.cps.toList.length := by rw [signs_len]; omega
  have l2 : ((fi + st * k) % 36).toNat < SIGNS.cps.toList.length := by rw [signs_len]; omega
  rw [List.getElem?_eq_getElem l1, List.getElem?_eq_getElem l2] at e1
  have := (List.getElem_inj signs_nd).mp (Option.some.inj e1)
  omega
theorem wrd_isW {A B : Str} {fi st : Int} {k : Nat} {c : Nat} (hc : c ∈ SIGNS.cps.toList) (hA : ∀ x ∈ A.cps.toList, x = c) (hB : ∀ x ∈ B.cps.toList, x = c) (hl : A.length + B.length ≤ 7) : IsW (wrd A B fi st k) := by
  have h := wrd_list A B fi st k
  have hl' : (wrd A B fi st k).length = A.length + 1 + B.length := by
    unfold wrd
    rw [PySem.Str.length_append, PySem.Str.length_append]
    rfl
  refine ⟨by omega, by omega, fun x hx => ?_⟩
  rw [h] at hx
  rcases List.mem_append.mp hx with hy | hy
  · rcases List.mem_append.mp hy with hz | hz
    · rw [hA x hz]; exact hc
    · rw [List.mem_singleton.mp hz]
      exact List.mem_of_getElem? (sign_mem (Int.emod_nonneg (fi + st * k) (show (36 : Int) ≠ 0 by decide)) (Int.emod_lt_of_pos (fi + st * k) (show (0 : Int) < 36 by decide)))
  · rw [hB x hy]; exact hc
def wrds (A B : Str) (fi st : Int) (n : Nat) : List Str := (List.range n).map (wrd A B fi st)
theorem wrds_nd {A B : Str} {fi st : Int} {n : Nat} (hs : StepOk st) (hn : n ≤ 6) : (wrds A B fi st n).Nodup := by
  unfold wrds
  rw [List.nodup_iff_pairwise_ne, List.pairwise_map]
  refine List.Pairwise.imp_of_mem (fun {a b} ha hb hne e => hne ?_) (List.nodup_iff_pairwise_ne.mp List.nodup_range)
  exact wrd_inj hs (Nat.lt_of_lt_of_le (List.mem_range.mp ha) hn) (Nat.lt_of_lt_of_le (List.mem_range.mp hb) hn) e
end K1
namespace PV
open PySem L2 PyProof.Rows K1
theorem ix_sign0 {j : Int} {mu : Sto} (h0 : 0 ≤ j) (h1 : j < 36) : ixD (.str SIGNS) (.int j) mu = some (.str ⟨#[SIGNS.cps.toList.getD j.toNat 0]⟩, mu) := by
  unfold ixD
  dsimp only
  have h : j.toNat < SIGNS.cps.toList.length := by rw [signs_len]; omega
  have e : ixN SIGNS.cps.toList.length j = some j.toNat := by unfold ixN; rw [if_pos h0, if_pos (by rw [signs_len]; exact h1)]
  unfold atI
  rw [e, Option.bind_some, sign_mem h0 h1]
  rfl
theorem ix_signs {j : Int} {mu : Sto} (h0 : 0 ≤ j) (h1 : j < 36) : ixG (.str SIGNS) (.int j) mu = some (.str ⟨#[SIGNS.cps.toList.getD j.toNat 0]⟩, mu) := by
  unfold ixG
  rw [ix_sign0 h0 h1]
end PV
namespace PV
open PySem L2 PyProof.Rows K1
section
variable {ro : Ro} {mu : Sto} {d e : D} {a b c : Ex}
@[simp] theorem z_iA {P : Prop} [Decidable P] {q : Bool} : (if P then some (D.bl q, mu) else some (D.bl false, mu)) = some (D.bl (decide P && q), mu) := by
  by_cases c : P <;> simp [c]
@[simp] theorem z_sl {p q : Px} : eSl a p q ro mu = bM (a ro mu) fun d m1 => bM (p ro m1) fun lo m2 => bM (q ro m2) fun hi m3 => slD d lo hi m3 := rfl
@[simp] theorem z_pNo : pNo ro mu = some (none, mu) := rfl
def pB : D → Sto → Rs (Option Int)
  | .int i, m1 => some (some i, m1)
  | _, _ => none
@[simp] theorem z_pS : pSome a ro mu = bM (a ro mu) pB := by
  unfold pSome
  congr 1
  funext x m
  cases x <;> rfl
@[simp] theorem z_pB {i : Int} : pB (.int i) mu = some (some i, mu) := rfl
@[simp] theorem z_slT {ds : List D} {lo hi : Option Int} : slD (.tup ds) lo hi mu = some (.tup (cutD ds lo hi), mu) := rfl
@[simp] theorem z_slL {ds : List D} {lo hi : Option Int} : slD (.lst ds) lo hi mu = some (.lst (cutD ds lo hi), mu) := rfl
@[simp] theorem z_cut1 {α : Type} {xs : List α} : cutD xs (some 1) none = xs.drop 1 := by
  unfold cutD
  have := HT.sIx_nat xs.length 0 1
  rw [show (some (1 : Int)) = some ((1 : Nat) : Int) from rfl, this, HT.sIx_none]
  cases xs with
  | nil => rfl
  | cons a r => simp
theorem low_mem {n : Nat} {ds : List D} : lowL n ds = true ↔ ∀ d ∈ ds, lowD n d = true := by
  induction ds with
  | nil => simp [lowL]
  | cons d ds ih => simp [lowL, ih]
mutual
theorem low_up {n m : Nat} (h : n ≤ m) : ∀ {d : D}, lowD n d = true → lowD m d = true
  | .non, _ => rfl
  | .bl _, _ => rfl
  | .int _, _ => rfl
  | .str _, _ => rfl
  | .ref k, e => by
    simp only [lowD, decide_eq_true_eq] at e ⊢
    omega
  | .tup ds, e => by
    simp only [lowD] at e ⊢
    exact lows_up h e
  | .lst ds, e => by
    simp only [lowD] at e ⊢
    exact lows_up h e
  | .set ds, e => by
    simp only [lowD] at e ⊢
    exact lows_up h e
  | .dct ks ds, e => by
    simp only [lowD, Bool.and_eq_true] at e ⊢
    exact ⟨lows_up h e.1, lows_up h e.2⟩
theorem lows_up {n m : Nat} (h : n ≤ m) : ∀ {ds : List D}, lowL n ds = true → lowL m ds = true
  | [], _ => rfl
  | d :: ds, e => by
    simp only [lowL, Bool.and_eq_true] at e ⊢
    exact ⟨low_up h e.1, lows_up h e.2⟩
end
end
end PV
namespace PV
open PySem L2 PyProof.Rows K1
variable {mu : Sto}
noncomputable def ndB (ds : List D) : Bool := decide (ds.Nodup)
theorem once_len (ds : List D) : ∀ r : List D, (ds.foldl addD1 r).length ≤ r.length + ds.length ∧ ((ds.foldl addD1 r).length = r.length + ds.length → (∀ d ∈ ds, d ∉ r) ∧ ds.Nodup) := by
  induction ds with
  | nil => intro r; simp
  | cons d ds ih =>
    intro r
    rw [List.foldl_cons]
    by_cases c : d ∈ r
    · rw [show addD1 r d = r by unfold addD1; rw [if_pos c]]
      have := (ih r).1
      refine ⟨by simp; omega, fun h => ?_⟩
      simp at h
      omega
    · rw [show addD1 r d = r ++ [d] by unfold addD1; rw [if_neg c]]
      obtain ⟨h1, h2⟩ := ih (r ++ [d])
      simp only [List.length_append, List.length_cons, List.length_nil] at h1 h2 ⊢
      refine ⟨by omega, fun h => ?_⟩
      obtain ⟨h3, h4⟩ := h2 (by omega)
      refine ⟨fun e he => ?_, List.nodup_cons.mpr ⟨fun hd => h3 d hd (by simp), h4⟩⟩
      (rcases List.mem_cons.mp he with rfl | he)
      · exact c
      · exact fun hr => h3 e he (by simp [hr])
theorem once_same (ds : List D) : ∀ r : List D, (∀ d ∈ ds, d ∉ r) → ds.Nodup → ds.foldl addD1 r = r ++ ds := by
  induction ds with
  | nil => intro r _ _; simp
  | cons d ds ih =>
    intro r h1 h2
    rw [List.foldl_cons, show addD1 r d = r ++ [d] by unfold addD1; rw [if_neg (h1 d (.head _))]]
    rw [List.nodup_cons] at h2
    rw [ih (r ++ [d]) (fun e he hr => ?_) h2.2]
    · simp
    · rcases List.mem_append.mp hr with hr | hr
      · exact h1 e (.tail _ he) hr
      · rw [List.mem_singleton.mp hr] at he
        exact h2.1 he
theorem once_nd {ds : List D} (h : ds.Nodup) : onceD ds = ds := by
  unfold onceD
  rw [once_same ds [] (fun _ _ h => nomatch h) h]
  rfl
theorem once_iff {ds : List D} : (onceD ds).length = ds.length ↔ ds.Nodup := by
  constructor
  · intro h
    refine ((once_len ds []).2 ?_).2
    rw [List.length_nil, Nat.zero_add]
    exact h
  · intro h
    rw [once_nd h]
end PV
namespace PG
open PySem L2 PV PyProof.Rows K1
variable {mu : Sto}
def sgB (c : Nat) : Bool := decide (c ∈ SIGNS.cps.toList)
def sgs (x : Str) : Bool := x.cps.toList.all sgB
def wB (x : Str) : Bool := (decide (1 ≤ (x.length : Int)) && decide ((x.length : Int) ≤ 8)) && sgs x
def wordB : D → Bool
  | .str x => wB x
  | _ => false
theorem wB_iff {x : Str} : wB x = true ↔ IsW x := by
  unfold wB sgs
  simp only [Bool.and_eq_true, decide_eq_true_eq, List.all_eq_true, sgB]
  constructor
  · exact fun ⟨⟨h1, h2⟩, h3⟩ => ⟨by omega, by omega, h3⟩
  · exact fun h => ⟨⟨by have := h.lo; omega, by have := h.hi; omega⟩, h.al⟩
def tupB (lo hi : Int) : D → Bool
  | .tup ds => decide (lo ≤ (ds.length : Int)) && decide ((ds.length : Int) ≤ hi)
  | _ => false
def towB : D → Bool
  | .tup ds => ds.all wordB
  | _ => false
theorem word_strs {ds : List D} (h : ds.all wordB = true) : ∃ ss : List Str, ds = ss.map D.str ∧ ∀ x ∈ ss, IsW x := by
  induction ds with
  | nil => exact ⟨[], rfl, fun _ h => nomatch h⟩
  | cons d ds ih =>
    (rw [List.all_cons, Bool.and_eq_true] at h)
    obtain ⟨ss, rfl, hs⟩ := ih h.2
    cases d with
    | str x =>
      refine ⟨x :: ss, rfl, fun y hy => ?_⟩
      (rcases List.mem_cons.mp hy with rfl | hy)
      · exact wB_iff.mp h.1
      · exact hs y hy
    | _ => simp [wordB] at h
noncomputable def wordsB (d : D) : Bool := tupB 1 4 d && (towB d && match d with | .tup ds => ndB ds | _ => false)
noncomputable def colB : D → Bool
  | .tup [a, b] => wordB a && wordsB b
  | _ => false
theorem tup2 {d : D} (h : tupB 2 2 d = true) : ∃ a b, d = .tup [a, b] := by
  cases d with
  | tup ds =>
    simp only [tupB, Bool.and_eq_true, decide_eq_true_eq] at h
    match ds, h with
    | [a, b], _ => exact ⟨a, b, rfl⟩
    | [], h => simp at h
    | [a], h => simp at h
    | a :: b :: c :: ds, h => simp at h; omega
  | _ => simp [tupB] at h
def fst0 : D → D
  | .tup (a :: _) => a
  | _ => .non
noncomputable def colsB : D → Bool
  | .tup ds => (tupB 1 4 (.tup ds) && ds.all colB) && ndB (ds.map fst0)
  | _ => false
def lenT : D → Int
  | .tup ds => ds.length
  | _ => 0
def keyB (k c : D) : Bool := match k with
  | .int i => decide (1 ≤ i) && decide (i ≤ lenT c)
  | _ => false
noncomputable def tabB : D → Bool
  | .tup [n, c, k] => (wordB n && colsB c) && keyB k c
  | _ => false
def ltS : D → D → Bool
  | .str x, .str y => decide (x.cps.toList < y.cps.toList)
  | _, _ => false
def risB (ds : List D) : Bool := (ds.zip ds.tail).all fun p => ltS p.1 p.2
noncomputable def schB : D → Bool
  | .tup ds => (tupB 1 4 (.tup ds) && ds.all tabB) && risB (ds.map fst0)
  | _ => false
end PG
namespace PG
open PySem L2 PV PyProof.Rows K1
variable {mu : Sto}
end PG
namespace PV
open PySem L2 PyProof.Rows K1
theorem pure_strs (ss : List Str) : pureL (ss.map D.str) = true := by
  induction ss with
  | nil => rfl
  | cons x xs ih => simp [pureL, pureD, ih]
theorem dep_str (x : Str) : (toPy (.str x)).depth ≤ 60 := by simp [toPy, PySem.PyData.depth]
theorem nd_strs {ss : List Str} : (ss.map D.str).Nodup ↔ ss.Nodup := by
  rw [List.nodup_iff_pairwise_ne, List.nodup_iff_pairwise_ne, List.pairwise_map]
  constructor
  · exact fun h => h.imp fun n e => n (by rw [e])
  · exact fun h => h.imp fun n e => n (by injection e)
end PV
namespace PG
open PySem L2 PV PyProof.Rows K1
variable {mu : Sto}
end PG
namespace PV
open PySem L2 PyProof.Rows K1
theorem hsh_strs (ss : List Str) : hshs (ss.map D.str) = true := by
  induction ss with
  | nil => rfl
  | cons x xs ih => simp [hshs, hsh, ih]
theorem dep_strs (ss : List Str) : PyData.depthAll (toPys (ss.map D.str)) ≤ 1 := by
  induction ss with
  | nil => simp [toPys, PyData.depthAll]
  | cons x xs ih => simp [toPys, toPy, PyData.depthAll, PyData.depth]; omega
theorem lt_strs (x y : Str) : ltT (.str x) (.str y) = decide (x.cps.toList < y.cps.toList) := by
  unfold ltT
  rw [show cmpD (.str x) (.str y) = cmpS x y from rfl, Bool.eq_iff_iff, beq_iff_eq, cmpS_lt, decide_eq_true_eq]
theorem ok_strs {ss : List Str} (h : ss.length < 64) : srtOk (ss.map D.str) = true := by
  unfold srtOk
  simp only [Bool.and_eq_true, decide_eq_true_eq, List.length_map, List.all_eq_true, Bool.or_eq_true, cmpOk]
  refine ⟨⟨⟨h, fun d hd => ?_⟩, fun d hd e he => ?_⟩, .inl fun d hd => ?_⟩
  · obtain ⟨x, _, rfl⟩ := List.mem_map.mp hd
    rfl
  · obtain ⟨x, _, rfl⟩ := List.mem_map.mp hd
    obtain ⟨y, _, rfl⟩ := List.mem_map.mp he
    rfl
  · obtain ⟨x, _, rfl⟩ := List.mem_map.mp hd
    rfl
theorem z_srtL {ss : List Str} {mu : Sto} (h : ss.length < 64) : srtU [.lst (ss.map D.str)] mu = some (.lst (srtD (ss.map D.str)), mu) := by
  simp only [srtU, arg1, gthD, seqOf, lstOf, ok_strs h, if_true]
theorem z_srtWL {ss : List Str} {mu : Sto} (h : ss.length < 64) : srtW [.lst (ss.map D.str)] mu = some (.lst (srtD (ss.map D.str)), mu) := by
  unfold srtW
  rw [z_srtL h]
theorem perm_strs {es : List D} {ss : List Str} (h : es.Perm (ss.map D.str)) : ∃ ts : List Str, es = ts.map D.str ∧ ts.Perm ss := by
  have al : ∀ d ∈ es, ∃ x, d = D.str x := fun d hd => by
    obtain ⟨x, _, e⟩ := List.mem_map.mp (h.mem_iff.mp hd)
    exact ⟨x, e.symm⟩
  have : ∃ ts : List Str, es = ts.map D.str := by
    clear h
    induction es with
    | nil => exact ⟨[], rfl⟩
    | cons d es ih =>
      obtain ⟨x, rfl⟩ := al d (.head _)
      obtain ⟨ts, rfl⟩ := ih fun d hd => al d (.tail _ hd)
      exact ⟨x :: ts, rfl⟩
  obtain ⟨ts, rfl⟩ := this
  refine ⟨ts, rfl, ?_⟩
  have := h.map (fun d => match d with | .str x => x | _ => (⟨#[]⟩ : Str))
  simpa [List.map_map, Function.comp_def] using this
end PV
namespace PG
open PySem L2 PV PyProof.Rows K1
variable {mu : Sto}
theorem ris_pw : ∀ (ss : List Str), risB (ss.map D.str) = true ↔ ss.Pairwise fun x y => x.cps.toList < y.cps.toList
  | [] => by simp [risB]
  | [x] => by simp [risB]
  | x :: y :: ss => by
    have ih := ris_pw (y :: ss)
    have e : risB ((x :: y :: ss).map D.str) = (decide (x.cps.toList < y.cps.toList) && risB ((y :: ss).map D.str)) := rfl
    rw [e, Bool.and_eq_true, ih, decide_eq_true_eq]
    constructor
    · intro ⟨h1, h2⟩
      refine List.pairwise_cons.mpr ⟨fun z hz => ?_, h2⟩
      (rcases List.mem_cons.mp hz with rfl | hz)
      · exact h1
      · exact List.lt_trans h1 ((List.pairwise_cons.mp h2).1 z hz)
    · exact fun h => ⟨(List.pairwise_cons.mp h).1 y (by simp), (List.pairwise_cons.mp h).2⟩
theorem ris_nd {ss : List Str} (h : ss.Pairwise fun x y => x.cps.toList < y.cps.toList) : ss.Nodup := by
  rw [List.nodup_iff_pairwise_ne]
  exact h.imp fun l e => by subst e; exact List.lt_irrefl _ l
theorem ris_srt (ss : List Str) : decide (ss.map D.str = srtD (onceD (ss.map D.str))) = risB (ss.map D.str) := by
  have ord : ∀ (ts : List Str), ∀ d ∈ ts.map D.str, ordK d = true := fun ts d hd => by
    obtain ⟨x, _, rfl⟩ := List.mem_map.mp hd
    rfl
  rw [Bool.eq_iff_iff, decide_eq_true_eq, ris_pw]
  constructor
  · intro h
    have p := srtD_perm (onceD (ss.map D.str))
    rw [← h] at p
    have nd := once_iff.mp p.length_eq.symm
    have up := srtD_up (onceD (ss.map D.str))
    rw [← h, List.pairwise_map] at up
    have ne := List.nodup_iff_pairwise_ne.mp (nd_strs.mp nd)
    refine (up.and ne).imp fun {x y} ⟨l, n⟩ => ?_
    have l' : ¬ y.cps.toList < x.cps.toList := by
      unfold leT at l
      rw [lt_strs] at l
      simpa using l
    have c := cmpS_swap x y
    cases q : cmpS x y with
    | lt => exact cmpS_lt.mp q
    | eq => exact (n (cmpS_eq.mp q)).elim
    | gt => exact (l' (cmpS_gt.mp q)).elim
  · intro h
    rw [once_nd (nd_strs.mpr (ris_nd h))]
    refine srtD_eq (ord ss) (List.Perm.refl _) ?_
    rw [List.pairwise_map]
    refine h.imp fun {x y} l => ?_
    unfold leT
    rw [lt_strs]
    have := List.lt_asymm l
    simp [this]
end PG
namespace PV
open PySem L2 PyProof.Rows K1
variable {mu : Sto}
theorem z_mulI {i j : Int} (h : CMul i j) : mulD (.int i) (.int j) mu = some (.int (i * j), mu) := by
  unfold mulD
  dsimp only
  rw [if_pos h]
theorem z_fdvI {i j : Int} (h : CDiv i j) : fdivD (.int i) (.int j) mu = some (.int (i / j), mu) := by
  unfold fdivD
  dsimp only
  rw [if_pos h]
theorem z_gIx {o i : Ex} {d : D} {ro : Ro} : gIx o i d ro mu = bM (o ro mu) fun x m1 => bM (i ro m1) fun e m2 => bM (putG x e d m2) fun _ m3 => some (ro, m3) := rfl
theorem z_put {k : Nat} {ds : List D} {v : D} {j : Nat} (h : mu[k]? = some (.lst ds)) (hj : j < ds.length) : putG (.ref k) (.int j) v mu = some ((), mu.set k (.lst (ds.set j v))) := by
  have e : ixN ds.length (j : Int) = some j := by
    unfold ixN
    rw [if_pos (by omega), if_pos (by omega), Int.toNat_natCast]
  simp only [putG, h, putM, e]
theorem z_ixR {k : Nat} {ds : List D} {d : D} {j : Nat} (h : mu[k]? = some (.lst ds)) (hd : ds[j]? = some d) : ixG (.ref k) (.int j) mu = some (d, mu) := by
  have := (List.getElem?_eq_some_iff.mp hd).1
  have e : ixN ds.length (j : Int) = some j := by
    unfold ixN
    rw [if_pos (by omega), if_pos (by omega), Int.toNat_natCast]
  have : ixD (.ref k) (.int j) mu = some (d, mu) := by
    simp only [ixD, lstOf, h, atI, e, Option.bind_some, hd, Option.map_some]
  unfold ixG
  rw [this]
theorem set_hand {k : Nat} {o o' : MO} (h : mu[k]? = some o) : (mu.set k o')[k]? = some o' := by
  have := (List.getElem?_eq_some_iff.mp h).1
  simp [this]
def HandOk (mu : Sto) (k n : Nat) : Prop := ∃ a b c : Int, mu[k]? = some (.lst [.int a, .int b, .int c]) ∧ (-(2 ^ 63) < b ∧ b < 2 ^ 63) ∧ 0 ≤ c ∧ c + n < 2 ^ 40
theorem HandOk.mono {mu : Sto} {k n n' : Nat} (h : HandOk mu k n) (l : n' ≤ n) : HandOk mu k n' := by
  obtain ⟨a, b, c, h1, h2, h3, h4⟩ := h
  exact ⟨a, b, c, h1, h2, h3, by omega⟩
theorem HandOk.lt {k n : Nat} (h : HandOk mu k n) : k < mu.length := by
  obtain ⟨a, b, c, h1, _⟩ := h
  exact (List.getElem?_eq_some_iff.mp h1).1
def Flat (mu : Sto) : Prop := ∀ (j : Nat) (o : MO), mu[j]? = some o → lowM 0 o = true
structure Fr (k n : Nat) (mu mu' : Sto) : Prop where
  hand : HandOk mu' k n
  keep : ∀ j, j ≠ k → mu'[j]? = mu[j]?
  len : mu'.length = mu.length
theorem Fr.refl {k n : Nat} {mu : Sto} (h : HandOk mu k n) : Fr k n mu mu := ⟨h, fun _ _ => rfl, rfl⟩
theorem Fr.trans {k n n' : Nat} {a b c : Sto} (x : Fr k n a b) (y : Fr k n' b c) : Fr k n' a c := ⟨y.hand, fun j hk => (y.keep j hk).trans (x.keep j hk), y.len.trans x.len⟩
theorem Fr.mono {k n n' : Nat} {a b : Sto} (x : Fr k n a b) (l : n' ≤ n) : Fr k n' a b := ⟨x.hand.mono l, x.keep, x.len⟩
theorem Fr.flat {k n : Nat} {a b : Sto} (x : Fr k n a b) (h : Flat a) : Flat b := by
  intro j o e
  by_cases c : j = k
  · subst c
    obtain ⟨_, _, _, h1, _⟩ := x.hand
    rw [h1] at e
    cases e
    rfl
  · rw [x.keep j c] at e
    exact h j o e
def Run (r : Rs D) (k n : Nat) (mu : Sto) (P : D → Prop) : Prop := ∃ d mu', r = some (d, mu') ∧ Fr k n mu mu' ∧ P d
theorem at_int {ds : List D} {t : Int} (h0 : 0 ≤ t) (h1 : t < ds.length) : ∃ d, d ∈ ds ∧ ds[t.toNat]? = some d := by
  have h : t.toNat < ds.length := by omega
  exact ⟨ds[t.toNat], List.getElem_mem h, List.getElem?_eq_getElem h⟩
theorem z_ixI {ds : List D} {d : D} {t : Int} (s : D) (hs : s = .lst ds ∨ s = .tup ds) (h0 : 0 ≤ t) (h : ds[t.toNat]? = some d) : ixG s (.int t) mu = some (d, mu) := by
  have := z_ix (mu := mu) s hs h
  rwa [Int.toNat_of_nonneg h0] at this
end PV
namespace PG
open PySem L2 PV PyProof.Rows K1
variable {mu : Sto}
theorem take_run {k n : Nat} {m : Int} (h : HandOk mu k (n + 1)) (m0 : 0 < m) (m1 : m < 1073741824) : Run (f_law_take [.ref k, .int m] mu) k n mu fun d => ∃ t : Int, d = .int t ∧ 0 ≤ t ∧ t < m := by
  obtain ⟨a, b, c, h1, h2, h3, h4⟩ := h
  have hk : k < mu.length := (List.getElem?_eq_some_iff.mp h1).1
  have fr : ∀ a' c' : Int, 0 ≤ c' → c' ≤ c + 1 → Fr k n mu (mu.set k (.lst [.int a', .int b, .int c'])) := fun a' c' z1 z2 => ⟨⟨a', b, c', set_hand h1, h2, z1, by omega⟩, fun j hj => by rw [List.getElem?_set_ne (Ne.symm hj)], by simp⟩
  have i0 : ixG (.ref k) (.int 0) mu = some (.int a, mu) := z_ixR (j := 0) h1 rfl
  by_cases ha : 0 < a
  · refine ⟨.int (a % m), _, ?_, fr (a / m) c h3 (by omega), a % m, rfl, Int.emod_nonneg _ (by omega), Int.emod_lt_of_pos _ m0⟩
    have cd : CDiv a m := ⟨m0, m1⟩
    have p0 : ∀ v, putG (.ref k) (.int 0) v mu = some ((), mu.set k (.lst [v, .int b, .int c])) := fun v => z_put (j := 0) h1 (by simp)
    have ha' : decide (0 < a) = true := by simp [ha]
    simp only [f_law_take, m_law_take, i0, ha', z_modI m0, z_fdvI cd, z_gIx, p0, z_fnB, List.map_cons, List.map_nil, List.length_cons, List.length_nil, Nat.zero_add, Nat.reduceAdd, Nat.reduceSub, List.replicate_succ, List.replicate_zero, List.cons_append, List.nil_append, z_seq, z_sIf, z_tV, z_bin, z_v0, z_C, z_bM, z_gtI, z_asB, Option.map_some, z_set, z_v1, z_gNm, List.set_cons_succ, List.set_cons_zero, z_sNx, ↓reduceIte, z_seqB, z_rt, z_v2, z_seqR, z_outR]
  · refine ⟨.int (((b * (48271 + 2 * (c + 1) * (c + 1) + 65537 * (c + 1)) % 2305843009213693921 * (b * (48271 + 2 * (c + 1) * (c + 1) + 65537 * (c + 1)) % 2305843009213693921 % 1000003 + (c + 1) * 99991 + 11) % 2305843009213693907) / 97 + (b * (48271 + 2 * (c + 1) * (c + 1) + 65537 * (c + 1)) % 2305843009213693921 * (b * (48271 + 2 * (c + 1) * (c + 1) + 65537 * (c + 1)) % 2305843009213693921 % 1000003 + (c + 1) * 99991 + 11) % 2305843009213693907) / 1000033) % m), _, ?_, fr a (c + 1) (by omega) (by omega), _, rfl, Int.emod_nonneg _ (by omega), Int.emod_lt_of_pos _ m0⟩
    have hs : ∀ o, (mu.set k o)[k]? = some o := fun o => set_hand h1
    have c1 : CMul 2 (c + 1) := .inl ⟨by decide, by decide⟩
    have c2 : CMul (2 * (c + 1)) (c + 1) := .inl ⟨by omega, by omega⟩
    have c3 : CMul 65537 (c + 1) := .inl ⟨by decide, by decide⟩
    have c4 : ∀ z, CMul b z := fun z => .inl ⟨by omega, by omega⟩
    have c5 : CMul (c + 1) 99991 := .inr ⟨by decide, by decide⟩
    have c6 : ∀ y z : Int, CMul (y % 2305843009213693921) z := fun y z => .inl ⟨by omega, by omega⟩
    have c7 : ∀ y : Int, CDiv y 97 := fun y => ⟨by decide, by decide⟩
    have c8 : ∀ y : Int, CDiv y 1000033 := fun y => ⟨by decide, by decide⟩
    have i2 : ixG (.ref k) (.int 2) mu = some (.int c, mu) := z_ixR (j := 2) h1 rfl
    have p2 : ∀ v, putG (.ref k) (.int 2) v mu = some ((), mu.set k (.lst [.int a, .int b, v])) := fun v => z_put (j := 2) h1 (by simp)
    have j1 : ∀ v, ixG (.ref k) (.int 1) (mu.set k (.lst [.int a, .int b, v])) = some (.int b, mu.set k (.lst [.int a, .int b, v])) := fun v => z_ixR (j := 1) (hs _) rfl
    have j2 : ∀ v, ixG (.ref k) (.int 2) (mu.set k (.lst [.int a, .int b, v])) = some (v, mu.set k (.lst [.int a, .int b, v])) := fun v => z_ixR (j := 2) (hs _) rfl
    have ha' : decide (0 < a) = false := by simp [ha]
    simp only [f_law_take, m_law_take, i0, ha', z_modI, z_modI m0, z_fdvI, z_mulI, z_gIx, i2, p2, j1, j2, c1, c2, c3, c4, c5, c6, c7, c8, Int.reduceLT, z_fnB, List.map_cons, List.map_nil, List.length_cons, List.length_nil, Nat.zero_add, Nat.reduceAdd, Nat.reduceSub, List.replicate_succ, List.replicate_zero, List.cons_append, List.nil_append, z_seq, z_sIf, z_tV, z_bin, z_v0, z_C, z_bM, z_gtI, z_asB, Option.map_some, z_set, z_v1, z_gNm, List.set_cons_succ, List.set_cons_zero, z_sNx, Bool.false_eq_true, ↓reduceIte, z_seqB, z_addI, z_v3, z_v4, z_v5, z_rt, z_outR]
theorem pick_run {k n : Nat} {s : D} {ds : List D} (hs : s = .lst ds ∨ s = .tup ds) (hn : ds ≠ []) (hl : ds.length < 1073741824) (h : HandOk mu k (n + 1)) : Run (f_law_pick [.ref k, s] mu) k n mu fun d => d ∈ ds := by
  have pos : 0 < ds.length := List.length_pos_iff.mpr hn
  obtain ⟨_, mu', e, fr, t, rfl, t0, t1⟩ := take_run (m := ds.length) h (by omega) (by omega)
  obtain ⟨d, hd, ed⟩ := at_int t0 t1
  refine ⟨d, mu', ?_, fr, hd⟩
  have ix := z_ixI (mu := mu') s hs t0 ed
  rcases hs with rfl | rfl
  · simp only [f_law_pick, m_law_pick, e, ix, z_fnB, List.map_cons, List.map_nil, List.length_cons, List.length_nil, Nat.zero_add, Nat.reduceAdd, Nat.reduceSub, List.replicate_zero, List.cons_append, List.nil_append, z_rt, z_bin, z_v1, z_call, z_aC, z_v0, z_aN, z_bM, z_lenL, z_outR]
  · simp only [f_law_pick, m_law_pick, e, ix, z_fnB, List.map_cons, List.map_nil, List.length_cons, List.length_nil, Nat.zero_add, Nat.reduceAdd, Nat.reduceSub, List.replicate_zero, List.cons_append, List.nil_append, z_rt, z_bin, z_v1, z_call, z_aC, z_v0, z_aN, z_bM, z_lenT, z_outR]
end PG
namespace PG
open PySem L2 PV PyProof.Rows K1
variable {mu : Sto}
theorem ok_signs : ∀ c ∈ SIGNS.cps.toList, decide (c < 0x110000) = true := by decide +kernel
theorem strOk_of {x : Str} (h : ∀ c ∈ x.cps.toList, c ∈ SIGNS.cps.toList) : PyData.strOk x = true := by
  unfold PyData.strOk
  (rw [← Array.all_toList, List.all_eq_true])
  exact fun c hc => ok_signs c (h c hc)
theorem z_addS {x y : Str} (h : x.length + y.length ≤ sizeLine) : addD (.str x) (.str y) mu = some (.str (x ++ y), mu) := by
  simp only [addD, h, if_true]
theorem z_slS {x : Str} {lo hi : Option Int} (h : PyData.strOk (Txt.slice x lo hi) = true) : slD (.str x) lo hi mu = some (.str (Txt.slice x lo hi), mu) := by
  simp only [slD, h, if_true]
theorem words_run {k n : Nat} {many : Int} (m0 : 0 ≤ many) (m6 : many ≤ 6) (h : HandOk mu k (n + 5)) : Run (f_law_words [.ref k, .int many, .int 8] mu) k n mu fun d => ∃ ws : List Str, d = .lst (ws.map D.str) ∧ (ws.length : Int) = many ∧ ws.Nodup ∧ ∀ x ∈ ws, IsW x := by
  obtain ⟨_, mu1, e1, f1, fi, rfl, a0, a1⟩ := take_run (m := 36) (n := n + 4) h (by decide) (by decide)
  obtain ⟨st, mu2, e2, f2, hst⟩ := pick_run (s := .lst [.int 1, .int 5, .int 7, .int 11, .int 13, .int 17]) (n := n + 3) (.inl rfl) (by simp) (by decide) f1.hand
  obtain ⟨_, mu3, e3, f3, si, rfl, b0, b1⟩ := take_run (m := 36) (n := n + 2) f2.hand (by decide) (by decide)
  obtain ⟨mv, mu4, e4, f4, hmv⟩ := pick_run (s := .lst [.int 0, .int 1, .int 0, .int 2, .int 7]) (n := n + 1) (.inl rfl) (by simp) (by decide) f3.hand
  obtain ⟨s', rfl, hs⟩ : ∃ s' : Int, st = .int s' ∧ StepOk s' := by
    simp only [List.mem_cons, List.not_mem_nil, or_false] at hst
    unfold StepOk
    rcases hst with rfl | rfl | rfl | rfl | rfl | rfl <;> exact ⟨_, rfl, by decide⟩
  obtain ⟨v, rfl, v0, v7⟩ : ∃ v : Int, mv = .int v ∧ 0 ≤ v ∧ v ≤ 7 := by
    simp only [List.mem_cons, List.not_mem_nil, or_false] at hmv
    rcases hmv with rfl | rfl | rfl | rfl | rfl <;> exact ⟨_, rfl, by decide, by decide⟩
  have hmin : minF [.int 7, .int v] mu4 = some (.int v, mu4) := by
    have : (if v < 7 then v else 7) = v := by split <;> omega
    simp only [minF, PV.ints2, Option.map_some, this]
  obtain ⟨ch, hc, ix3⟩ : ∃ ch, ch ∈ SIGNS.cps.toList ∧ ixG (.str (Str.ofString "abcdefghijklmnopqrstuvwxyz0123456789")) (.int si) mu3 = some (.str ⟨#[ch]⟩, mu3) := ⟨_, List.mem_of_getElem? (sign_mem b0 b1), ix_signs b0 b1⟩
  have len : (Txt.mul ⟨#[ch]⟩ v).length = v.toNat := by
    have := congrArg List.length (mul_list (ch) v v0 v7)
    simpa [Str.length] using this
  generalize hst : Txt.mul ⟨#[ch]⟩ v = stem at len
  have stl : stem.cps.toList = List.replicate v.toNat (ch) := by rw [← hst]; exact mul_list _ v v0 v7
  have stAll : ∀ x ∈ stem.cps.toList, x = ch := fun x hx => by rw [stl] at hx; exact (List.mem_replicate.mp hx).2
  obtain ⟨_, mu5, e5, f5, at', rfl, c0, c1⟩ := take_run (m := (stem.length : Int) + 1) (n := n) f4.hand (by omega) (by omega)
  have at2 : at' ≤ stem.length := by omega
  have sl1 := slice_to (x := stem) c0 at2
  have sl2 := slice_from (x := stem) c0 at2
  have allA : ∀ x ∈ (Txt.slice stem none (some at')).cps.toList, x = ch := fun x hx => stAll x (by rw [sl1] at hx; exact List.mem_of_mem_take hx)
  have allB : ∀ x ∈ (Txt.slice stem (some at') none).cps.toList, x = ch := fun x hx => stAll x (by rw [sl2] at hx; exact List.mem_of_mem_drop hx)
  have lens : (Txt.slice stem none (some at')).length + (Txt.slice stem (some at') none).length ≤ 7 := by
    have l1 := congrArg List.length sl1
    have l2 := congrArg List.length sl2
    simp only [Array.length_toList, List.length_take, List.length_drop] at l1 l2
    have ls : stem.cps.size = v.toNat := len
    unfold Str.length
    omega
  refine ⟨.lst ((wrds (Txt.slice stem none (some at')) (Txt.slice stem (some at') none) fi s' many.toNat).map D.str), mu5, ?_, (((f1.trans f2).trans f3).trans f4).trans f5, _, rfl, by simp [wrds]; omega, wrds_nd hs (by omega), fun x hx => ?_⟩
  · have mo : MulOk ⟨#[ch]⟩ v := mulOk _ v v0 v7
    have okm : PyData.strOk stem = true := strOk_of fun c h => by rw [stAll c h]; exact hc
    have okA : PyData.strOk (Txt.slice stem none (some at')) = true := strOk_of fun c h => by rw [allA c h]; exact hc
    have okB : PyData.strOk (Txt.slice stem (some at') none) = true := strOk_of fun c h => by rw [allB c h]; exact hc
    have zl : stem.length ≤ sizeLine := by rw [sizeLine_eq]; omega
    have lc : lcGo none mu5 (gNm 0) tY (eBin addD (eBin addD (eSl (eVar 1) pNo (pSome (eVar 2))) (eBin ixG (eVar 3) (eBin modD (eBin addD (eVar 4) (eBin mulD (eVar 5) (eVar 0))) (eC (.int 36))))) (eSl (eVar 1) (pSome (eVar 2)) pNo)) [none, some (.str stem), some (.int at'), some (.str SIGNS), some (.int fi), some (.int s')] (rngD 0 many.toNat) mu5 = some ((wrds (Txt.slice stem none (some at')) (Txt.slice stem (some at') none) fi s' many.toNat).map D.str, mu5) := by
      have ew : (wrds (Txt.slice stem none (some at')) (Txt.slice stem (some at') none) fi s' many.toNat).map D.str = (rngD 0 many.toNat).map fun d => match d with | .int i => .str (wrd (Txt.slice stem none (some at')) (Txt.slice stem (some at') none) fi s' i.toNat) | _ => .non := by
        unfold wrds rngD
        (rw [List.map_map, List.map_map])
        refine List.map_congr_left fun j _ => ?_
        simp
      rw [ew]
      refine lc_all _ _ fun d hd => ⟨_, rfl, ?_⟩
      unfold rngD at hd
      obtain ⟨j, hj, rfl⟩ := List.mem_map.mp hd
      have i0 := Int.emod_nonneg (fi + s' * (j : Int)) (show (36 : Int) ≠ 0 by decide)
      have i1 := Int.emod_lt_of_pos (fi + s' * (j : Int)) (show (0 : Int) < 36 by decide)
      have ix := ix_signs (mu := mu5) i0 i1
      have cm : CMul s' (j : Int) := .inl (by rcases hs with rfl | rfl | rfl | rfl | rfl | rfl <;> exact ⟨by decide, by decide⟩)
      have z1 : (Txt.slice stem none (some at')).length + (⟨#[SIGNS.cps.toList.getD ((fi + s' * (j : Int)) % 36).toNat 0]⟩ : Str).length ≤ sizeLine := by
        rw [sizeLine_eq, show (⟨#[SIGNS.cps.toList.getD ((fi + s' * (j : Int)) % 36).toNat 0]⟩ : Str).length = 1 from rfl]
        omega
      have z2 : (Txt.slice stem none (some at') ++ (⟨#[SIGNS.cps.toList.getD ((fi + s' * (j : Int)) % 36).toNat 0]⟩ : Str)).length + (Txt.slice stem (some at') none).length ≤ sizeLine := by
        rw [sizeLine_eq, PySem.Str.length_append, show (⟨#[SIGNS.cps.toList.getD ((fi + s' * (j : Int)) % 36).toNat 0]⟩ : Str).length = 1 from rfl]
        omega
      simp only [z_slS okA, z_slS okB, z_mulI cm, z_modI, Int.reduceLT, Int.zero_add, ix, z_addS z1, z_addS z2, Int.toNat_natCast, List.set_cons_zero, z_bin, z_sl, z_v1, z_pNo, z_pS, z_v2, z_bM, z_pB, z_v3, z_v4, z_v5, z_v0, z_addI, z_C]
      rfl
    have mm : mulD (.str ⟨#[ch]⟩) (.int v) mu4 = some (.str stem, mu4) := by
      unfold mulD
      dsimp only
      rw [hst, if_pos ⟨mo, zl, okm⟩]
    have rg := z_iR (mu := mu5) (ro := [some (.ref k), some (.int many), some (.int 8), some (.str SIGNS), some (.int fi), some (.int s'), some (.str stem), some (.int at')]) (r := aCons (eVar 1) aNil) (n := many) (m := mu5) rfl (by omega) (by rw [sizeLine_eq]; omega)
    have rg' : iRg (aCons (eVar 1) aNil) [some (.ref k), some (.int many), some (.int 8), some (.str (Str.ofString "abcdefghijklmnopqrstuvwxyz0123456789")), some (.int fi), some (.int s'), some (.str stem), some (.int at')] mu5 = some ((rngD 0 many.toNat, none), mu5) := rg
    simp only [f_law_words, m_law_words, e1, e2, e3, ix3, Int.reduceSub, e4, hmin, mm, e5, rg', lc, z_fnB, List.map_cons, List.map_nil, List.length_cons, List.length_nil, Nat.zero_add, Nat.reduceAdd, Nat.reduceSub, List.replicate_succ, List.replicate_zero, List.cons_append, List.nil_append, z_seq, z_set, z_C, z_gNm, List.set_cons_succ, List.set_cons_zero, z_bM, z_seqB, z_tup, z_aC, z_call, z_v0, z_aN, z_lst, z_gTp2, z_gsC, z_gsN, z_bin, z_v3, z_v2, z_subI, z_v6, z_lenS, z_addI, z_rt, z_lc, z_r0, List.getD_cons_succ, List.getD_cons_zero, z_outR]
  · unfold wrds at hx
    obtain ⟨j, _, rfl⟩ := List.mem_map.mp hx
    exact wrd_isW hc allA allB lens
theorem hand_run {k n : Nat} {ns : List Int} (hk : k < 64) (hn : n < 2 ^ 39) : ∃ o, f_law_hand [.lst (ns.map D.int), .int k] mu = some (.ref mu.length, mu ++ [o]) ∧ HandOk (mu ++ [o]) mu.length n := by
  have fin : ∀ c : Int, ∃ a b : Int, sRt (eLstM (aCons (eBin mulD (eVar 2) (eCall intF (aCons (eBin geD (eVar 2) (eBin powD (eC (.int 10)) (eC (.int 18)))) (aNil)))) (aCons (eBin addD (eBin addD (eBin modD (eVar 2) (eC (.int 2305843009213693951))) (eBin mulD (eC (.int 7919)) (eVar 1))) (eC (.int 3))) (aCons (eC (.int 0)) (aNil))))) [some (.lst (ns.map D.int)), some (.int k), some (.int c)] mu = some ((.rt (.ref mu.length), [some (.lst (ns.map D.int)), some (.int k), some (.int c)]), mu ++ [.lst [.int a, .int b, .int 0]]) ∧ (-(2 ^ 63) < b ∧ b < 2 ^ 63) := by
    intro c
    refine ⟨c * (if (1000000000000000000 : Int) ≤ c then 1 else 0), c % 2305843009213693951 + 7919 * (k : Int) + 3, ?_, ?_⟩
    · have p1 : CPow 10 18 := ⟨by decide, by decide, by decide⟩
      have p3 : CMul 7919 (k : Int) := .inl ⟨by decide, by decide⟩
      have p4 : CMul c (if (1000000000000000000 : Int) ≤ c then 1 else 0) := .inr (by split <;> exact ⟨by decide, by decide⟩)
      simp [sRt, eLstM, aCons, aNil, eBin, eVar, eCall, eC, bM, geD, ordD, powD, p1, intF, intOf, mulD, p3, addD, modD, p4]
    · have := Int.emod_nonneg c (show (2305843009213693951 : Int) ≠ 0 by decide)
      have := Int.emod_lt_of_pos c (show (0 : Int) < 2305843009213693951 by decide)
      omega
  have done : ∀ (a b : Int), (-(2 ^ 63) < b ∧ b < 2 ^ 63) → HandOk (mu ++ [.lst [.int a, .int b, .int 0]]) mu.length n := fun a b hb => ⟨a, b, 0, by simp, hb, Int.le_refl _, by omega⟩
  by_cases c : k < ns.length
  · have e : ixG (.lst (ns.map D.int)) (.int k) mu = some (.int ns[k], mu) := z_ix _ (.inl rfl) (by simp [c])
    obtain ⟨a, b, e2, hb⟩ := fin ns[k]
    refine ⟨_, ?_, done a b hb⟩
    have c' : decide ((k : Int) < ((ns.map D.int).length : Int)) = true := by simp [c]
    generalize hR : sRt (eLstM _) = R at e2
    simp only [f_law_hand, m_law_hand, hR]
    simp only [c', e, e2, z_fnB, List.map_cons, List.map_nil, List.length_cons, List.length_nil, Nat.zero_add, Nat.reduceAdd, Nat.reduceSub, List.replicate_succ, List.replicate_zero, List.cons_append, List.nil_append, z_seq, z_set, z_C, z_gNm, List.set_cons_succ, List.set_cons_zero, z_bM, z_seqB, z_sIf, z_tV, z_bin, z_v1, z_call, z_aC, z_v0, z_aN, z_lenL, z_ltI, z_asB, Option.map_some, z_sNx, ↓reduceIte, z_outR]
  · obtain ⟨a, b, e2, hb⟩ := fin 0
    refine ⟨_, ?_, done a b hb⟩
    have c' : decide ((k : Int) < ((ns.map D.int).length : Int)) = false := by simp [c]
    generalize hR : sRt (eLstM _) = R at e2
    simp only [f_law_hand, m_law_hand, hR]
    simp only [c', e2, z_fnB, List.map_cons, List.map_nil, List.length_cons, List.length_nil, Nat.zero_add, Nat.reduceAdd, Nat.reduceSub, List.replicate_succ, List.replicate_zero, List.cons_append, List.nil_append, z_seq, z_set, z_C, z_gNm, List.set_cons_succ, List.set_cons_zero, z_bM, z_seqB, z_sIf, z_tV, z_bin, z_v1, z_call, z_aC, z_v0, z_aN, z_lenL, z_ltI, z_asB, Option.map_some, z_sNx, Bool.false_eq_true, ↓reduceIte, z_outR]
end PG
namespace PV
open PySem L2 PyProof.Rows K1
variable {mu : Sto}
theorem for_ind {m0 : Sto} {tg : Gx} {body : Sx} (Inv : Nat → Ro → Sto → Prop) : ∀ (ds : List D) (i : Nat) (ro : Ro) (mu : Sto), Inv i ro mu → (∀ j d ro mu, ds[j]? = some d → Inv (i + j) ro mu → ∃ ro1 m1 ro2 m2, tg d ro mu = some (ro1, m1) ∧ body ro1 m1 = some ((.nx, ro2), m2) ∧ Inv (i + j + 1) ro2 m2) →
    ∃ ro' mu', forGo none m0 tg body ds ro mu = some ((.nx, ro'), mu') ∧ Inv (i + ds.length) ro' mu'
  | [], i, ro, mu, h, _ => ⟨ro, mu, rfl, h⟩
  | d :: ds, i, ro, mu, h, st => by
    obtain ⟨ro1, m1, ro2, m2, e1, e2, h2⟩ := st 0 d ro mu rfl h
    obtain ⟨ro', mu', e3, h3⟩ := for_ind (m0 := m0) (tg := tg) (body := body) Inv ds (i + 1) ro2 m2 h2 fun j d' ro mu ed hi => by
      have := st (j + 1) d' ro mu (by simpa using ed) (by rw [show i + (j + 1) = i + 1 + j by omega]; exact hi)
      rw [show i + (j + 1) + 1 = i + 1 + j + 1 by omega] at this
      exact this
    refine ⟨ro', mu', ?_, by rw [List.length_cons, show i + (ds.length + 1) = i + 1 + ds.length by omega]; exact h3⟩
    unfold forGo
    rw [e1, bM_some, e2, bM_some]
    dsimp only
    rw [guard', if_pos (show gOk none m0 m2 from True.intro), e3]
theorem rng_at {n j : Nat} {d : D} (h : (rngD 0 n)[j]? = some d) : d = .int j ∧ j < n := by
  unfold rngD at h
  rw [List.getElem?_map] at h
  cases q : (List.range n)[j]? with
  | none => rw [q] at h; cases h
  | some k =>
    rw [q] at h
    obtain ⟨hj, e⟩ := List.getElem?_eq_some_iff.mp q
    rw [List.length_range] at hj
    rw [List.getElem_range] at e
    subst e
    exact ⟨by simpa using h.symm, hj⟩
theorem rng_len (n : Nat) : (rngD 0 n).length = n := by simp [rngD]
theorem append_at {mu' : Sto} {r : Nat} {ds ds0 : List D} {y : D} (h0 : mu[r]? = some (.lst ds0)) (h : mu'[r]? = some (.lst ds)) (hl : ds.length < sizeLine) {ro : Ro} {i : Nat} {e : Ex} (h1 : eVar i ro mu = some (.ref r, mu)) (h2 : e ro mu = some (y, mu')) : eApp (eVar i) (aCons e aNil) ro mu = some (.non, mu'.set r (.lst (ds ++ [y]))) := by
  have ok : okRef mu (.ref r) = true := by simp [okRef, h0]
  have a1 : arg1 [y] = some y := rfl
  simp only [eApp, h1, z_bM, ok, if_true, z_aC, z_aN, h2, a1, h, hl]
theorem mod_inj {n x y : Int} (hn : 0 < n) (h : x % n = y % n) (h1 : x - y < n) (h2 : y - x < n) : x = y := by
  have e1 := Int.mul_ediv_add_emod x n
  have e2 := Int.mul_ediv_add_emod y n
  have e : n * (x / n - y / n) = x - y := by rw [Int.mul_sub]; omega
  rcases Int.lt_trichotomy (x / n - y / n) 0 with c | c | c
  · have : n * (x / n - y / n) ≤ n * (-1) := Int.mul_le_mul_of_nonneg_left (by omega) (by omega)
    omega
  · rw [c] at e
    omega
  · have : n * 1 ≤ n * (x / n - y / n) := Int.mul_le_mul_of_nonneg_left (by omega) (by omega)
    omega
def rot (ws : List Str) (t : Int) (s : Nat) : List Str := (List.range s).map fun j : Nat => ws.getD (((j : Int) + t) % (ws.length : Int)).toNat ⟨#[]⟩
theorem rot_at {ws : List Str} (hw : 0 < ws.length) (x : Int) : ws[(x % (ws.length : Int)).toNat]? = some (ws.getD (x % (ws.length : Int)).toNat ⟨#[]⟩) := by
  have h0 := Int.emod_nonneg x (show (ws.length : Int) ≠ 0 by omega)
  have h1 := Int.emod_lt_of_pos x (show (0 : Int) < ws.length by omega)
  have h : (x % (ws.length : Int)).toNat < ws.length := by omega
  rw [List.getD_eq_getElem?_getD, List.getElem?_eq_getElem h]
  rfl
theorem rot_mem {ws : List Str} {t : Int} {s : Nat} (hw : 0 < ws.length) : ∀ x ∈ rot ws t s, x ∈ ws := by
  intro x hx
  unfold rot at hx
  obtain ⟨j, _, rfl⟩ := List.mem_map.mp hx
  exact List.mem_of_getElem? (rot_at hw _)
theorem rot_nd {ws : List Str} {t : Int} {s : Nat} (hw : 0 < ws.length) (hd : ws.Nodup) (hs : s ≤ ws.length) : (rot ws t s).Nodup := by
  unfold rot
  rw [List.nodup_iff_pairwise_ne, List.pairwise_map]
  refine List.Pairwise.imp_of_mem (fun {a b} ha hb hne e => hne ?_) (List.nodup_iff_pairwise_ne.mp List.nodup_range)
  rw [List.mem_range] at ha hb
  have a0 := Int.emod_nonneg ((a : Int) + t) (show (ws.length : Int) ≠ 0 by omega)
  have a1 := Int.emod_lt_of_pos ((a : Int) + t) (show (0 : Int) < ws.length by omega)
  have b0 := Int.emod_nonneg ((b : Int) + t) (show (ws.length : Int) ≠ 0 by omega)
  have b1 := Int.emod_lt_of_pos ((b : Int) + t) (show (0 : Int) < ws.length by omega)
  have e1 := rot_at hw ((a : Int) + t)
  have e2 := rot_at hw ((b : Int) + t)
  rw [e, ← e2] at e1
  have l1 : (((a : Int) + t) % (ws.length : Int)).toNat < ws.length := by omega
  have l2 : (((b : Int) + t) % (ws.length : Int)).toNat < ws.length := by omega
  rw [List.getElem?_eq_getElem l1, List.getElem?_eq_getElem l2] at e1
  have h := (List.getElem_inj hd).mp (Option.some.inj e1)
  have := mod_inj (n := ws.length) (x := (a : Int) + t) (y := (b : Int) + t) (by omega) (by omega) (by omega) (by omega)
  omega
theorem rot_len (ws : List Str) (t : Int) (s : Nat) : (rot ws t s).length = s := by simp [rot]
theorem ix_rot {ws : List Str} (hw : 0 < ws.length) (x : Int) : ixG (.lst (ws.map D.str)) (.int (x % (ws.length : Int))) mu = some (.str (ws.getD (x % (ws.length : Int)).toNat ⟨#[]⟩), mu) := by
  have h0 := Int.emod_nonneg x (show (ws.length : Int) ≠ 0 by omega)
  refine z_ixI (ds := ws.map D.str) _ (.inl rfl) h0 ?_
  rw [List.getElem?_map, rot_at hw]
  rfl
mutual
/-- nothing mutable in it, no long tuple -/
def okD : D → Bool
  | .ref _ => false
  | .tup ds => decide (ds.length ≤ 1000) && okL ds
  | .lst ds => okL ds
  | .dct ks ds => okL ks && okL ds
  | .set ds => okL ds
  | _ => true
def okL : List D → Bool
  | [] => true
  | d :: ds => okD d && okL ds
end
mutual
theorem ok_low : ∀ {d : D}, okD d = true → lowD 0 d = true
  | .non, _ => rfl
  | .bl _, _ => rfl
  | .int _, _ => rfl
  | .str _, _ => rfl
  | .ref k, e => by simp [okD] at e
  | .tup ds, e => by
    simp only [okD, Bool.and_eq_true] at e
    simp only [lowD]
    exact oks_low e.2
  | .lst ds, e => by
    simp only [okD] at e
    simp only [lowD]
    exact oks_low e
  | .set ds, e => by
    simp only [okD] at e
    simp only [lowD]
    exact oks_low e
  | .dct ks ds, e => by
    simp only [okD, Bool.and_eq_true] at e
    simp only [lowD, Bool.and_eq_true]
    exact ⟨oks_low e.1, oks_low e.2⟩
theorem oks_low : ∀ {ds : List D}, okL ds = true → lowL 0 ds = true
  | [], _ => rfl
  | d :: ds, e => by
    simp only [okL, Bool.and_eq_true] at e
    simp only [lowL, Bool.and_eq_true]
    exact ⟨ok_low e.1, oks_low e.2⟩
end
theorem okL_mem {ds : List D} : okL ds = true ↔ ∀ d ∈ ds, okD d = true := by
  induction ds with
  | nil => simp [okL]
  | cons d ds ih => simp [okL, ih]
theorem ok_strL (ss : List Str) : okL (ss.map D.str) = true := by
  rw [okL_mem]
  intro d hd
  obtain ⟨x, _, rfl⟩ := List.mem_map.mp hd
  rfl
end PV
namespace PG
open PySem L2 PV PyProof.Rows K1
variable {mu : Sto}
theorem wordsB_of {ss : List Str} (h0 : 0 < ss.length) (h4 : ss.length ≤ 4) (hd : ss.Nodup) (hw : ∀ x ∈ ss, IsW x) : wordsB (.tup (ss.map D.str)) = true := by
  have W : wordsB (.tup (ss.map D.str)) = (tupB 1 4 (.tup (ss.map D.str)) && ((ss.map D.str).all wordB && ndB (ss.map D.str))) := rfl
  rw [W]
  simp only [Bool.and_eq_true, tupB, List.length_map, decide_eq_true_eq, List.all_eq_true, ndB]
  refine ⟨⟨by omega, by omega⟩, fun d hd => ?_, nd_strs.mpr hd⟩
  obtain ⟨x, hx, rfl⟩ := List.mem_map.mp hd
  exact wB_iff.mpr (hw x hx)
noncomputable def cBody : Sx := (sSeq (sSet (eTup (aCons (eBin addD (eC (.int 1)) (eCall f_law_take (aCons (eVar 0) (aCons (eVar 3) (aNil))))) (aCons (eCall f_law_take (aCons (eVar 0) (aCons (eC (.int 2)) (aNil)))) (aNil)))) (gTp 2 (gsCons (gNm 13) (gsCons (gNm 14) (gsNil))))) (sSeq (sSet (eCall tupF (aCons (eLC (iRg (aCons (eVar 13) (aNil))) 1 [6, 14] (gNm 0) (tY) (eBin ixG (eVar 1) (eBin modD (eBin addD (eVar 0) (eVar 2)) (eCall lenG (aCons (eVar 1) (aNil)))))) (aNil))) (gNm 15)) (sEx (eApp (eVar 11) (aCons (eTup (aCons (eBin ixG (eVar 5) (eBin modD (eBin addD (eVar 12) (eVar 10)) (eCall lenG (aCons (eVar 5) (aNil))))) (aCons (eVar 15) (aNil)))) (aNil))))))
theorem col_step {k n R b c j : Nat} {sh : Int} {a nms fnd nm1 x9 : D} {ws st : List Str} {cs : List D} {x13 x14 x15 : Option D} (hc : 1 ≤ c) (hc4 : c ≤ 4) (hw : 0 < ws.length) (hs : st.length = c + 1) (sd : st.Nodup) (sW : ∀ x ∈ st, IsW x) (hR : mu[R]? = some (.lst cs)) (hcs : cs.length < 100) (hkR : R ≠ k) (h : HandOk mu k (n + 2)) :
    ∃ y13 y14 y15 m' vs, cBody [some (.ref k), some a, some (.int b), some (.int c), some nms, some (.lst (ws.map D.str)), some (.lst (st.map D.str)), some fnd, some nm1, some x9, some (.int sh), some (.ref R), some (.int j), x13, x14, x15] mu = some ((.nx, [some (.ref k), some a, some (.int b), some (.int c), some nms, some (.lst (ws.map D.str)), some (.lst (st.map D.str)), some fnd, some nm1, some x9, some (.int sh), some (.ref R), some (.int j), y13, y14, y15]), m') ∧
      m'[R]? = some (.lst (cs ++ [.tup [.str (ws.getD (((j : Int) + sh) % (ws.length : Int)).toNat ⟨#[]⟩), .tup vs]])) ∧ wordsB (.tup vs) = true ∧ okD (.tup vs) = true ∧ HandOk m' k n ∧ (∀ i, i ≠ k → i ≠ R → m'[i]? = mu[i]?) ∧ m'.length = mu.length := by
  obtain ⟨_, m1, e1, f1, t1, rfl, a0, a1⟩ := take_run (m := c) (n := n + 1) h (by omega) (by omega)
  obtain ⟨_, m2, e2, f2, t2, rfl, b0, b1⟩ := take_run (m := 2) (n := n) f1.hand (by decide) (by decide)
  have fr := f1.trans f2
  have hR2 : m2[R]? = some (.lst cs) := (fr.keep R hkR).trans hR
  have st0 : 0 < st.length := by omega
  obtain ⟨s, hs1⟩ : ∃ s : Nat, 1 + t1 = (s : Int) := ⟨(1 + t1).toNat, by omega⟩
  have lc : lcGo none m2 (gNm 0) tY (eBin ixG (eVar 1) (eBin modD (eBin addD (eVar 0) (eVar 2)) (eCall lenG (aCons (eVar 1) (aNil))))) [none, some (.lst (st.map D.str)), some (.int t2)] (rngD 0 s) m2 = some ((rot st t2 s).map D.str, m2) := by
    have e : (rot st t2 s).map D.str = (rngD 0 s).map fun d => match d with | .int i => .str (st.getD ((i + t2) % (st.length : Int)).toNat ⟨#[]⟩) | _ => .non := by
      unfold rot rngD
      (rw [List.map_map, List.map_map])
      refine List.map_congr_left fun j _ => ?_
      simp
    rw [e]
    refine lc_all _ _ fun d hd => ⟨_, rfl, ?_⟩
    unfold rngD at hd
    obtain ⟨i, _, rfl⟩ := List.mem_map.mp hd
    have l0 : (0 : Int) < (st.length : Int) := by omega
    simp only [List.length_map, z_modI l0, ix_rot st0, Int.zero_add, List.set_cons_zero, z_bin, z_v1, z_v0, z_v2, z_bM, z_addI, z_call, z_aC, z_aN, z_lenL]
  have rg := z_iR (mu := m2) (ro := [some (.ref k), some a, some (.int b), some (.int c), some nms, some (.lst (ws.map D.str)), some (.lst (st.map D.str)), some fnd, some nm1, some x9, some (.int sh), some (.ref R), some (.int j), some (.int s), some (.int t2), x15]) (r := aCons (eVar 13) aNil) (n := s) (m := m2) rfl (by omega) (by rw [sizeLine_eq]; omega)
  rw [Int.toNat_natCast] at rg
  have l6 : (0 : Int) < (ws.length : Int) := by omega
  have ap := append_at (ro := [some (.ref k), some a, some (.int b), some (.int c), some nms, some (.lst (ws.map D.str)), some (.lst (st.map D.str)), some fnd, some nm1, some x9, some (.int sh), some (.ref R), some (.int j), some (.int s), some (.int t2), some (.tup ((rot st t2 s).map D.str))]) (i := 11) hR2 hR2 (y := .tup [.str (ws.getD (((j : Int) + sh) % (ws.length : Int)).toNat ⟨#[]⟩), .tup ((rot st t2 s).map D.str)]) (by rw [sizeLine_eq]; omega) rfl (e := (eTup (aCons (eBin ixG (eVar 5) (eBin modD (eBin addD (eVar 12) (eVar 10)) (eCall lenG (aCons (eVar 5) (aNil))))) (aCons (eVar 15) (aNil))))) (by
    simp only [List.length_map, z_modI l6, ix_rot hw, z_tup, z_aC, z_bin, z_v5, z_v12, z_v10, z_bM, z_addI, z_call, z_aN, z_lenL, z_v15])
  refine ⟨some (.int s), some (.int t2), some (.tup ((rot st t2 s).map D.str)), _, (rot st t2 s).map D.str, ?_, set_hand hR2, wordsB_of (by rw [rot_len]; omega) (by rw [rot_len]; omega) (rot_nd st0 sd (by omega)) (fun x hx => sW x (rot_mem st0 x hx)), ?_, ?_, ?_, ?_⟩
  · unfold cBody
    simp only [e1, e2, hs1, rg, lc, ap, z_seq, z_set, z_tup, z_aC, z_bin, z_C, z_call, z_v0, z_v3, z_aN, z_bM, z_addI, z_gTp2, z_gsC, z_gNm, List.set_cons_succ, List.set_cons_zero, z_gsN, z_seqB, z_lc, z_r0, List.replicate_succ, List.replicate_zero, List.map_cons, List.getD_cons_succ, List.getD_cons_zero, List.map_nil, List.cons_append, List.nil_append, z_tupF, z_ex]
  · simp only [okD, ok_strL, List.length_map, rot_len, Bool.and_true, decide_eq_true_eq]
    omega
  · obtain ⟨a, b, c', h1, h2⟩ := f2.hand
    exact ⟨a, b, c', by rw [List.getElem?_set_ne hkR]; exact h1, h2⟩
  · intro i hik hiR
    rw [List.getElem?_set_ne (Ne.symm hiR), fr.keep i hik]
  · rw [List.length_set, fr.len]
end PG
namespace PV
open PySem L2 PyProof.Rows K1
variable {mu : Sto}
theorem rot_succ (ws : List Str) (t : Int) (s : Nat) : rot ws t (s + 1) = rot ws t s ++ [ws.getD (((s : Int) + t) % (ws.length : Int)).toNat ⟨#[]⟩] := by
  unfold rot
  rw [List.range_succ, List.map_append]
  rfl
theorem HandOk.app {k n : Nat} {os : Sto} (h : HandOk mu k n) : HandOk (mu ++ os) k n := by
  have hk := h.lt
  obtain ⟨a, b, c', q, r⟩ := h
  exact ⟨a, b, c', by rw [List.getElem?_append_left hk]; exact q, r⟩
theorem HandOk.set {k n j : Nat} {o : MO} (h : HandOk mu k n) (hj : j ≠ k) : HandOk (mu.set j o) k n := by
  obtain ⟨a, b, c', q, r⟩ := h
  exact ⟨a, b, c', by rw [List.getElem?_set_ne hj]; exact q, r⟩
theorem lowM_up {o : MO} {n : Nat} (h : lowM 0 o = true) : lowM n o = true := by
  cases o with
  | lst ds => exact lows_up (Nat.zero_le _) h
  | dct ks ds =>
    simp only [lowM, Bool.and_eq_true] at h ⊢
    exact ⟨lows_up (Nat.zero_le _) h.1, lows_up (Nat.zero_le _) h.2⟩
theorem cut_run {m : Sto} {d : D} (hd : lowD 0 d = true) (hf : Flat (m.take mu.length)) : cutS mu m d = some (d, m.take mu.length) := by
  have e : frz mu.length m 3 d = some d := by
    unfold frz
    rw [if_pos (low_up (Nat.zero_le _) hd)]
  have al : (m.take mu.length).all (lowM mu.length) = true := by
    rw [List.all_eq_true]
    intro o ho
    obtain ⟨j, hj⟩ := List.mem_iff_getElem?.mp ho
    exact lowM_up (hf j o hj)
  unfold cutS
  rw [e]
  dsimp only
  rw [if_pos al]
end PV
namespace PG
open PySem L2 PV PyProof.Rows K1
variable {mu : Sto}
theorem cols_run {k n R b c : Nat} {many : Nat} {sh : Int} {a nms fnd nm1 : D} {ws st : List Str} (hc : 1 ≤ c) (hc4 : c ≤ 4) (hw : 0 < ws.length) (wW : ∀ x ∈ ws, IsW x) (hs : st.length = c + 1) (sd : st.Nodup) (sW : ∀ x ∈ st, IsW x) (hm : many ≤ 4) (hR : mu[R]? = some (.lst [])) (hkR : R ≠ k) (h : HandOk mu k (n + 2 * many)) {m0 : Sto} {x12 x13 x14 x15 : Option D} :
    ∃ (y12 y13 y14 y15 : Option D) (mu' : Sto) (cs : List D), forGo none m0 (gNm 12) cBody (rngD 0 many) [some (.ref k), some a, some (.int b), some (.int c), some nms, some (.lst (ws.map D.str)), some (.lst (st.map D.str)), some fnd, some nm1, some (.int many), some (.int sh), some (.ref R), x12, x13, x14, x15] mu = some ((.nx, [some (.ref k), some a, some (.int b), some (.int c), some nms, some (.lst (ws.map D.str)), some (.lst (st.map D.str)), some fnd, some nm1, some (.int many), some (.int sh), some (.ref R), y12, y13, y14, y15]), mu') ∧
      mu'[R]? = some (.lst cs) ∧ cs.length = many ∧ cs.all colB = true ∧ okL cs = true ∧ cs.map fst0 = (rot ws sh many).map D.str ∧ HandOk mu' k n ∧ (∀ j, j ≠ k → j ≠ R → mu'[j]? = mu[j]?) ∧ mu'.length = mu.length := by
  have key := for_ind (m0 := m0) (tg := gNm 12) (body := cBody) (fun i ro m => (∃ y12 y13 y14 y15, ro = [some (.ref k), some a, some (.int b), some (.int c), some nms, some (.lst (ws.map D.str)), some (.lst (st.map D.str)), some fnd, some nm1, some (.int many), some (.int sh), some (.ref R), y12, y13, y14, y15]) ∧ (∃ cs : List D, m[R]? = some (.lst cs) ∧ cs.length = i ∧ cs.all colB = true ∧ okL cs = true ∧ cs.map fst0 = (rot ws sh i).map D.str) ∧ i ≤ many ∧ HandOk m k (n + 2 * (many - i)) ∧ (∀ j, j ≠ k → j ≠ R → m[j]? = mu[j]?) ∧ m.length = mu.length) (rngD 0 many) 0 [some (.ref k), some a, some (.int b), some (.int c), some nms, some (.lst (ws.map D.str)), some (.lst (st.map D.str)), some fnd, some nm1, some (.int many), some (.int sh), some (.ref R), x12, x13, x14, x15] mu
    ⟨⟨x12, x13, x14, x15, rfl⟩, ⟨[], hR, rfl, rfl, rfl, rfl⟩, Nat.zero_le _, h, fun _ _ _ => rfl, rfl⟩ fun j d ro m ed hi => by
      obtain ⟨⟨y12, y13, y14, y15, rfl⟩, ⟨cs, hR', hl, ha, ho, hf⟩, hle, hh, hkeep, hlen⟩ := hi
      obtain ⟨rfl, hj⟩ := rng_at ed
      obtain ⟨z13, z14, z15, m', vs, e, g1, g2, g3, g4, g5, g6⟩ := col_step (n := n + 2 * (many - (0 + j + 1))) (b := b) (c := c) (j := j) (sh := sh) (a := a) (nms := nms) (fnd := fnd) (nm1 := nm1) (x9 := .int many) (x13 := y13) (x14 := y14) (x15 := y15) (ws := ws) hc hc4 hw hs sd sW hR' (by omega) hkR (hh.mono (by omega))
      have wm := wW _ (List.mem_of_getElem? (rot_at hw ((j : Int) + sh)))
      refine ⟨_, m, _, m', rfl, e, ⟨_, _, _, _, rfl⟩, ⟨_, g1, by simp [hl], ?_, ?_, ?_⟩, by omega, g4, fun i hik hiR => (g5 i hik hiR).trans (hkeep i hik hiR), g6.trans hlen⟩
      · rw [List.all_append, ha]
        have : colB (.tup [.str (ws.getD (((j : Int) + sh) % (ws.length : Int)).toNat ⟨#[]⟩), .tup vs]) = (wB (ws.getD (((j : Int) + sh) % (ws.length : Int)).toNat ⟨#[]⟩) && wordsB (.tup vs)) := rfl
        rw [List.all_cons, this, wB_iff.mpr wm, g2]
        rfl
      · rw [okL_mem] at ho ⊢
        intro d hd
        rcases List.mem_append.mp hd with hd | hd
        · exact ho d hd
        · rw [List.mem_singleton.mp hd]
          simp only [okD, okL, g3, List.length_cons, List.length_nil]
          simp only [okD] at g3
          rw [g3]
          rfl
      · rw [List.map_append, hf, Nat.zero_add, rot_succ, List.map_append]
        rfl
  obtain ⟨ro', mu', e, ⟨y12, y13, y14, y15, rfl⟩, ⟨cs, a2, a3, a4, a5, a6⟩, _, a7, a8, a9⟩ := key
  rw [rng_len] at a3 a6 a7
  refine ⟨y12, y13, y14, y15, mu', cs, e, a2, by omega, a4, a5, by rw [a6, Nat.zero_add], a7.mono (by omega), a8, a9⟩
noncomputable def tBody : Sx := (sSeq (sPar3 9 10 11 (aCons (eBin addD (eC (.int 1)) (eCall f_law_take (aCons (eVar 0) (aCons (eVar 2) (aNil))))) (aCons (eCall f_law_take (aCons (eVar 0) (aCons (eC (.int 3)) (aNil)))) (aCons (eLstM (aNil)) (aNil))))) (sSeq (sFor (iRg (aCons (eVar 9) (aNil))) (gNm 12) cBody) (sEx (eApp (eVar 7) (aCons (eTup (aCons (eVar 8) (aCons (eCall tupF (aCons (eVar 11) (aNil))) (aCons (eBin addD (eC (.int 1)) (eCall f_law_take (aCons (eVar 0) (aCons (eVar 9) (aNil))))) (aNil))))) (aNil))))))
theorem z_tupR {R : Nat} {cs : List D} (h : mu[R]? = some (.lst cs)) : tupF [.ref R] mu = some (.tup cs, mu) := by
  simp only [tupF, sq1, arg1, seqOf, lstOf, h, Option.map_some]
theorem tab_step {k n F b c : Nat} {nm : Str} {ws st : List Str} {a nms : D} {ts : List D} {x9 x10 x11 x12 x13 x14 x15 : Option D} (hb : 1 ≤ b) (hb4 : b ≤ 4) (hc : 1 ≤ c) (hc4 : c ≤ 4) (hw : ws.length = b + 2) (wd : ws.Nodup) (wW : ∀ x ∈ ws, IsW x) (hs : st.length = c + 1) (sd : st.Nodup) (sW : ∀ x ∈ st, IsW x) (hW : IsW nm) (hF : mu[F]? = some (.lst ts)) (hts : ts.length ≤ 100) (hkF : F ≠ k) (h : HandOk mu k (n + 11)) :
    ∃ y9 y10 y11 y12 y13 y14 y15 m2 cs, ∃ q : Nat, tBody [some (.ref k), some a, some (.int b), some (.int c), some nms, some (.lst (ws.map D.str)), some (.lst (st.map D.str)), some (.ref F), some (.str nm), x9, x10, x11, x12, x13, x14, x15] mu = some ((.nx, [some (.ref k), some a, some (.int b), some (.int c), some nms, some (.lst (ws.map D.str)), some (.lst (st.map D.str)), some (.ref F), some (.str nm), y9, y10, y11, y12, y13, y14, y15]), m2) ∧
      m2[F]? = some (.lst (ts ++ [.tup [.str nm, .tup cs, .int q]])) ∧ tabB (.tup [.str nm, .tup cs, .int q]) = true ∧ okD (.tup [.str nm, .tup cs, .int q]) = true ∧ HandOk m2 k n ∧ (∀ j, j < mu.length → j ≠ k → j ≠ F → m2[j]? = mu[j]?) ∧ mu.length ≤ m2.length := by
  obtain ⟨_, m1, e1, f1, t1, rfl, a0, a1⟩ := take_run (m := b) (n := n + 10) h (by omega) (by omega)
  obtain ⟨_, m2, e2, f2, t2, rfl, b0, b1⟩ := take_run (m := 3) (n := n + 9) f1.hand (by decide) (by decide)
  have fr := f1.trans f2
  have hkl := h.lt
  have hFl : F < mu.length := (List.getElem?_eq_some_iff.mp hF).1
  obtain ⟨q, hq⟩ : ∃ q : Nat, 1 + t1 = (q : Int) := ⟨(1 + t1).toNat, by omega⟩
  have hR : (m2 ++ [MO.lst []])[m2.length]? = some (.lst []) := by simp
  have l2 := fr.len
  obtain ⟨y12, y13, y14, y15, m3, cs, e3, g1, g2, g3, g4, g5, g6, g7, g8⟩ := cols_run (mu := m2 ++ [MO.lst []]) (k := k) (n := n + 1) (R := m2.length) (b := b) (c := c) (many := q) (sh := t2) (a := a) (nms := nms) (fnd := .ref F) (nm1 := .str nm) (ws := ws) (st := st) hc hc4 (by omega) wW hs sd sW (by omega) hR (by omega) (f2.hand.app.mono (by omega)) (m0 := m2 ++ [MO.lst []]) (x12 := x12) (x13 := x13) (x14 := x14) (x15 := x15)
  have F3 : m3[F]? = some (.lst ts) := by
    rw [g7 F hkF (by omega), List.getElem?_append_left (by omega), fr.keep F hkF, hF]
  obtain ⟨_, m4, e4, f4, t4, rfl, c0, c1⟩ := take_run (m := q) (n := n) g6 (by omega) (by omega)
  have F4 : m4[F]? = some (.lst ts) := (f4.keep F hkF).trans F3
  obtain ⟨p, hp⟩ : ∃ p : Nat, 1 + t4 = (p : Int) := ⟨(1 + t4).toNat, by omega⟩
  have ap := append_at (ro := [some (.ref k), some a, some (.int b), some (.int c), some nms, some (.lst (ws.map D.str)), some (.lst (st.map D.str)), some (.ref F), some (.str nm), some (.int q), some (.int t2), some (.ref m2.length), y12, y13, y14, y15]) (i := 7) F3 F4 (y := .tup [.str nm, .tup cs, .int p]) (by rw [sizeLine_eq]; omega) rfl (e := (eTup (aCons (eVar 8) (aCons (eCall tupF (aCons (eVar 11) (aNil))) (aCons (eBin addD (eC (.int 1)) (eCall f_law_take (aCons (eVar 0) (aCons (eVar 9) (aNil))))) (aNil)))))) (by
    simp only [z_tupR g1, e4, hp, z_tup, z_aC, z_v8, z_call, z_v11, z_aN, z_bM, z_bin, z_C, z_v0, z_v9, z_addI])
  have rg := z_iR (mu := m2 ++ [MO.lst []]) (ro := [some (.ref k), some a, some (.int b), some (.int c), some nms, some (.lst (ws.map D.str)), some (.lst (st.map D.str)), some (.ref F), some (.str nm), some (.int q), some (.int t2), some (.ref m2.length), x12, x13, x14, x15]) (r := aCons (eVar 9) aNil) (n := q) (m := m2 ++ [MO.lst []]) rfl (by omega) (by rw [sizeLine_eq]; omega)
  rw [Int.toNat_natCast] at rg
  refine ⟨some (.int q), some (.int t2), some (.ref m2.length), y12, y13, y14, y15, _, cs, p, ?_, set_hand F4, ?_, ?_, f4.hand.set hkF, ?_, ?_⟩
  · unfold tBody
    simp only [e1, e2, hq, rg, e3, ap, z_seq, z_par3, z_aC, z_bin, z_C, z_call, z_v0, z_v2, z_aN, z_bM, z_addI, z_lstM, List.set_cons_succ, List.set_cons_zero, z_seqB, z_for, z_ex]
  · have T : tabB (.tup [.str nm, .tup cs, .int p]) = ((wB nm && ((tupB 1 4 (.tup cs) && cs.all colB) && ndB (cs.map fst0))) && (decide ((1 : Int) ≤ p) && decide ((p : Int) ≤ cs.length))) := rfl
    rw [T, wB_iff.mpr hW, g3, g5]
    have nd : ndB ((rot ws t2 q).map D.str) = true := by
      unfold ndB
      rw [decide_eq_true_eq]
      exact nd_strs.mpr (rot_nd (by omega) wd (by omega))
    rw [nd]
    simp only [tupB, Bool.and_true, Bool.true_and, Bool.and_eq_true, decide_eq_true_eq]
    omega
  · simp only [okD, okL, g4, List.length_cons, List.length_nil, Bool.and_true, Bool.true_and, Bool.and_eq_true, decide_eq_true_eq]
    omega
  · intro i hi hik hiF
    rw [List.getElem?_set_ne (Ne.symm hiF), f4.keep i hik, g7 i hik (by omega), List.getElem?_append_left (by omega), fr.keep i hik]
  · rw [List.length_set]
    have := f4.len
    simp only [List.length_append, List.length_cons, List.length_nil] at g8
    omega
theorem schema_run {k n a b c : Nat} (ha : 1 ≤ a) (ha4 : a ≤ 4) (hb : 1 ≤ b) (hb4 : b ≤ 4) (hc : 1 ≤ c) (hc4 : c ≤ 4) (hfl : Flat mu) (h : HandOk mu k (n + 60)) : Run (f_law_schema [.ref k, .int a, .int b, .int c] mu) k n mu fun d => ∃ ds, d = .tup ds ∧ schB d = true ∧ okD d = true := by
  obtain ⟨_, m1, e1, f1, t1, rfl, a0, a1⟩ := take_run (m := a) (n := n + 59) h (by omega) (by omega)
  obtain ⟨_, m2, e2, f2, nm, rfl, nl, nd, nW⟩ := words_run (many := 1 + t1) (n := n + 54) (by omega) (by omega) f1.hand
  obtain ⟨_, m3, e3, f3, ws, rfl, wl, wd, wW⟩ := words_run (many := (b : Int) + 2) (n := n + 49) (by omega) (by omega) f2.hand
  obtain ⟨_, m4, e4, f4, st, rfl, sl, sd, sW⟩ := words_run (many := (c : Int) + 1) (n := n + 44) (by omega) (by omega) f3.hand
  have fr := ((f1.trans f2).trans f3).trans f4
  have l4 := fr.len
  obtain ⟨us, ue, up⟩ := perm_strs (srtD_perm (nm.map D.str))
  have ul := up.length_eq
  have ud : us.Nodup := up.nodup_iff.mpr nd
  have hkl := f4.hand.lt
  have key := for_ind (m0 := m4 ++ [MO.lst []]) (tg := gNm 8) (body := tBody) (fun i ro m => (∃ y8 y9 y10 y11 y12 y13 y14 y15, ro = [some (.ref k), some (.int a), some (.int b), some (.int c), some (.lst (us.map D.str)), some (.lst (ws.map D.str)), some (.lst (st.map D.str)), some (.ref m4.length), y8, y9, y10, y11, y12, y13, y14, y15]) ∧
      (∃ ts : List D, m[m4.length]? = some (.lst ts) ∧ ts.length = i ∧ ts.all tabB = true ∧ okL ts = true ∧ ts.map fst0 = (us.take i).map D.str) ∧ i ≤ us.length ∧ HandOk m k (n + 11 * (us.length - i)) ∧ (∀ j, j < m4.length → j ≠ k → m[j]? = m4[j]?) ∧ m4.length < m.length) (us.map D.str) 0
      [some (.ref k), some (.int a), some (.int b), some (.int c), some (.lst (us.map D.str)), some (.lst (ws.map D.str)), some (.lst (st.map D.str)), some (.ref m4.length), none, none, none, none, none, none, none, none] (m4 ++ [MO.lst []])
      ⟨⟨_, _, _, _, _, _, _, _, rfl⟩, ⟨[], by simp, rfl, rfl, rfl, by simp⟩, Nat.zero_le _, f4.hand.app.mono (by omega), fun j hj _ => List.getElem?_append_left hj, by simp⟩ fun j d ro m ed hi => by
    obtain ⟨⟨y8, y9, y10, y11, y12, y13, y14, y15, rfl⟩, ⟨ts, hF, tl, ta, to, tn⟩, hle, hh, hkeep, hlen⟩ := hi
    rw [List.getElem?_map] at ed
    cases q : us[j]? with
    | none => rw [q] at ed; cases ed
    | some x =>
      rw [q] at ed
      have ed' : D.str x = d := by simpa using ed
      subst ed'
      obtain ⟨hj, ex⟩ := List.getElem?_eq_some_iff.mp q
      have hxm : x ∈ nm := up.mem_iff.mp (by rw [← ex]; exact List.getElem_mem hj)
      obtain ⟨z9, z10, z11, z12, z13, z14, z15, m', cs, p, g1, g2, g3, g4, g5, g6, g7⟩ := tab_step (n := n + 11 * (us.length - (0 + j + 1))) (a := .int a) (b := b) (c := c) (nms := .lst (us.map D.str)) (nm := x) (x9 := y9) (x10 := y10) (x11 := y11) (x12 := y12) (x13 := y13) (x14 := y14) (x15 := y15) (ws := ws) (st := st) hb hb4 hc hc4 (by omega) wd wW (by omega) sd sW (nW x hxm) hF (by omega) (by omega) (hh.mono (by omega))
      refine ⟨_, m, _, m', rfl, g1, ⟨_, _, _, _, _, _, _, _, rfl⟩, ⟨_, g2, by simp [tl], ?_, ?_, ?_⟩, by omega, g5, fun i hi hik => ?_, by omega⟩
      · rw [List.all_append, ta, List.all_cons, g3]
        rfl
      · rw [okL_mem] at to ⊢
        intro d hd
        rcases List.mem_append.mp hd with hd | hd
        · exact to d hd
        · rw [List.mem_singleton.mp hd]
          exact g4
      · rw [List.map_append, tn]
        have := List.take_add_one (l := us) (i := 0 + j)
        rw [this, Nat.zero_add, q, List.map_append]
        rfl
      · rw [g6 i (by omega) hik (by omega), hkeep i hi hik]
  obtain ⟨ro', m5, e5, ⟨_, _, _, _, _, _, _, _, rfl⟩, ⟨ts, b1, b2, b3, b4, b5⟩, _, b6, b7, b8⟩ := key
  rw [List.length_map, Nat.zero_add] at b2 b5 b6
  rw [List.take_length] at b5
  have okT : okD (.tup ts) = true := by
    simp only [okD, b4, Bool.and_true, decide_eq_true_eq]
    omega
  have f5 : Fr k n mu (m5.take mu.length) := by
    refine ⟨?_, fun j hj => ?_, by rw [List.length_take]; omega⟩
    · obtain ⟨x, y, z, q, r1, r2, r3⟩ := b6
      exact ⟨x, y, z, by rw [List.getElem?_take_of_lt (by omega)]; exact q, r1, r2, by omega⟩
    · by_cases hj' : j < mu.length
      · rw [List.getElem?_take_of_lt hj', b7 j (by omega) hj, fr.keep j hj]
      · rw [List.getElem?_eq_none (by rw [List.length_take]; omega), List.getElem?_eq_none (by omega)]
  refine ⟨.tup ts, m5.take mu.length, ?_, f5, ts, rfl, ?_, okT⟩
  · have s64 : nm.length < 64 := by omega
    unfold tBody cBody at e5
    simp only [f_law_schema, m_law_schema, e1, e2, z_srtWL s64, ue, e3, e4, e5, z_tupR b1, z_fnG, List.map_cons, List.map_nil, List.length_cons, List.length_nil, Nat.zero_add, Nat.reduceAdd, Nat.reduceSub, List.replicate_succ, List.replicate_zero, List.cons_append, List.nil_append, z_seq, z_set, z_call, z_aC, z_v0, z_bin, z_C, z_v1, z_aN, z_bM, z_addI, z_gNm, List.set_cons_succ, List.set_cons_zero, z_seqB, z_tup, z_v2, z_v3, z_gTp2, z_gsC, z_gsN, z_lstM, z_for, z_iV, z_v4, z_wL, z_rt, z_v7, z_outGR]
    exact cut_run (ok_low okT) (f5.flat hfl)
  · have W : schB (.tup ts) = ((tupB 1 4 (.tup ts) && ts.all tabB) && risB (ts.map fst0)) := rfl
    have rs : risB (us.map D.str) = true := by
      have r := ris_srt us
      rw [once_nd (nd_strs.mpr ud)] at r
      rw [← r, decide_eq_true_eq]
      rw [← ue]
      exact (srtD_same (fun d hd => by
        obtain ⟨x, _, rfl⟩ := List.mem_map.mp hd
        rfl) (srtD_perm (nm.map D.str))).symm
    rw [W, b3, b5, rs]
    simp only [tupB, Bool.and_true, Bool.and_eq_true, decide_eq_true_eq]
    omega
end PG
namespace PV
open PySem L2 PyProof.Rows K1
variable {mu : Sto}
theorem lc_eff {m0 : Sto} {tg : Gx} {el : Ex} {ro : Ro} (Inv : Nat → Sto → Prop) (P : Nat → D → Prop) : ∀ (ds : List D) (i : Nat) (mu : Sto), Inv i mu → (∀ j d mu, ds[j]? = some d → Inv (i + j) mu → ∃ ro1 y m1, tg d ro mu = some (ro1, mu) ∧ el ro1 mu = some (y, m1) ∧ P (i + j) y ∧ Inv (i + j + 1) m1) →
    ∃ ys mu', lcGo none m0 tg tY el ro ds mu = some (ys, mu') ∧ Inv (i + ds.length) mu' ∧ ys.length = ds.length ∧ ∀ j y, ys[j]? = some y → P (i + j) y
  | [], i, mu, h, _ => ⟨[], mu, rfl, h, rfl, fun j y e => by simp at e⟩
  | d :: ds, i, mu, h, st => by
    obtain ⟨ro1, y, m1, e1, e2, p, h2⟩ := st 0 d mu rfl h
    obtain ⟨ys, mu', e3, h3, h4, h5⟩ := lc_eff (m0 := m0) (tg := tg) (el := el) (ro := ro) Inv P ds (i + 1) m1 h2 fun j d' mu ed hi => by
      have := st (j + 1) d' mu (by simpa using ed) (by rw [show i + (j + 1) = i + 1 + j by omega]; exact hi)
      rw [show i + (j + 1) + 1 = i + 1 + j + 1 by omega, show i + (j + 1) = i + 1 + j by omega] at this
      exact this
    refine ⟨y :: ys, mu', ?_, by rw [List.length_cons, show i + (ds.length + 1) = i + 1 + ds.length by omega]; exact h3, by simp [h4], fun j z e => ?_⟩
    · unfold lcGo
      rw [e1, bM_some]
      simp only [z_tY, z_bM, if_true]
      rw [e2, bM_some, guard', if_pos (show gOk none m0 m1 from True.intro), e3]
      rfl
    · cases j with
      | zero => cases e; exact p
      | succ j => have := h5 j z (by simpa using e); rw [show i + (j + 1) = i + 1 + j by omega]; exact this
theorem eq_K {d e : D} (hd : hasK d = true) (he : hasK e = true) : eqB mu d e = some (decide (d = e)) := by
  have a := hasK_inv hd
  have b := hasK_inv he
  have sd : seen mu d = d := by cases d <;> first | rfl | (simp [hasK, hsh] at hd)
  have se : seen mu e = e := by cases e <;> first | rfl | (simp [hasK, hsh] at he)
  unfold eqB
  rw [sd, se, hsh_pure a.1, hsh_pure b.1, if_pos, eqv_iff a.1 b.1]
  rw [dpt_py a.1, dpt_py b.1]
  simp only [Bool.true_and, decide_eq_true_eq]
  omega
theorem z_eqK {d e : D} (hd : hasK d = true) (he : hasK e = true) : eqD d e mu = some (.bl (decide (d = e)), mu) := by unfold eqD; rw [eq_K hd he]; rfl
theorem z_neK {d e : D} (hd : hasK d = true) (he : hasK e = true) : neD d e mu = some (.bl (!decide (d = e)), mu) := by unfold neD; rw [eq_K hd he]; rfl
theorem dpts_strs (ss : List Str) : dpts (ss.map D.str) ≤ 1 := by
  rw [← dpts_py (hsh_strs ss)]
  exact dep_strs ss
theorem hasK_strs (ss : List Str) : hasK (.tup (ss.map D.str)) = true := by
  unfold hasK
  rw [Bool.and_eq_true, decide_eq_true_eq]
  refine ⟨by unfold hsh; exact hsh_strs ss, ?_⟩
  have := dpts_strs ss
  unfold dpt
  omega
end PV
namespace PG
open PySem L2 PV PyProof.Rows K1
variable {mu : Sto}
structure Tb where
  nm : Str
  cs : List (Str × List Str)
  ks : Nat
def clD (p : Str × List Str) : D := .tup [.str p.1, .tup (p.2.map D.str)]
def tbD (t : Tb) : D := .tup [.str t.nm, .tup (t.cs.map clD), .int t.ks]
structure TbOk (t : Tb) : Prop where
  c1 : 1 ≤ t.cs.length
  c4 : t.cs.length ≤ 4
  k1 : 1 ≤ t.ks
  k4 : t.ks ≤ t.cs.length
  vs : ∀ p ∈ t.cs, p.2 ≠ [] ∧ p.2.length ≤ 4
theorem words_inv {d : D} (h : wordsB d = true) : ∃ ss : List Str, d = .tup (ss.map D.str) ∧ ss ≠ [] ∧ ss.length ≤ 4 := by
  unfold wordsB at h
  rw [Bool.and_eq_true, Bool.and_eq_true] at h
  cases d with
  | tup ds =>
    obtain ⟨ss, rfl, _⟩ := word_strs (show ds.all wordB = true from h.2.1)
    have := h.1
    simp only [tupB, List.length_map, Bool.and_eq_true, decide_eq_true_eq] at this
    exact ⟨ss, rfl, fun e => by rw [e] at this; simp at this, by omega⟩
  | _ => simp [tupB] at h
theorem col_inv {d : D} (h : colB d = true) : ∃ p : Str × List Str, d = clD p ∧ p.2 ≠ [] ∧ p.2.length ≤ 4 := by
  unfold colB at h
  split at h
  · rename_i a b
    rw [Bool.and_eq_true] at h
    obtain ⟨ss, rfl, h1, h2⟩ := words_inv h.2
    cases a with
    | str x => exact ⟨(x, ss), rfl, h1, h2⟩
    | _ => simp [wordB] at h
  · cases h
theorem cols_inv {ds : List D} (h : ds.all colB = true) : ∃ cs : List (Str × List Str), ds = cs.map clD ∧ ∀ p ∈ cs, p.2 ≠ [] ∧ p.2.length ≤ 4 := by
  induction ds with
  | nil => exact ⟨[], rfl, fun _ h => nomatch h⟩
  | cons d ds ih =>
    (rw [List.all_cons, Bool.and_eq_true] at h)
    obtain ⟨cs, rfl, hc⟩ := ih h.2
    obtain ⟨p, rfl, h1⟩ := col_inv h.1
    refine ⟨p :: cs, rfl, fun q hq => ?_⟩
    (rcases List.mem_cons.mp hq with rfl | hq)
    · exact h1
    · exact hc q hq
theorem tab_inv {d : D} (h : tabB d = true) : ∃ t, d = tbD t ∧ TbOk t := by
  unfold tabB at h
  split at h
  · rename_i n c k
    rw [Bool.and_eq_true, Bool.and_eq_true] at h
    obtain ⟨⟨h1, h2⟩, h3⟩ := h
    cases n with
    | str x =>
      cases c with
      | tup ds =>
        have h2' : ((tupB 1 4 (.tup ds) && ds.all colB) && ndB (ds.map fst0)) = true := h2
        rw [Bool.and_eq_true, Bool.and_eq_true] at h2'
        obtain ⟨cs, rfl, hv⟩ := cols_inv h2'.1.2
        have hl := h2'.1.1
        simp only [tupB, List.length_map, Bool.and_eq_true, decide_eq_true_eq] at hl
        cases k with
        | int i =>
          simp only [keyB, lenT, List.length_map, Bool.and_eq_true, decide_eq_true_eq] at h3
          refine ⟨⟨x, cs, i.toNat⟩, ?_, ⟨by show 1 ≤ cs.length; omega, by show cs.length ≤ 4; omega, by show 1 ≤ i.toNat; omega, by show i.toNat ≤ cs.length; omega, hv⟩⟩
          unfold tbD
          rw [Int.toNat_of_nonneg (by omega)]
        | _ => simp [keyB] at h3
      | _ => simp [colsB] at h2
    | _ => simp [wordB] at h1
  · cases h
theorem tabs_inv {ds : List D} (h : ds.all tabB = true) : ∃ ts : List Tb, ds = ts.map tbD ∧ ∀ t ∈ ts, TbOk t := by
  induction ds with
  | nil => exact ⟨[], rfl, fun _ h => nomatch h⟩
  | cons d ds ih =>
    (rw [List.all_cons, Bool.and_eq_true] at h)
    obtain ⟨ts, rfl, hc⟩ := ih h.2
    obtain ⟨t, rfl, h1⟩ := tab_inv h.1
    refine ⟨t :: ts, rfl, fun q hq => ?_⟩
    (rcases List.mem_cons.mp hq with rfl | hq)
    · exact h1
    · exact hc q hq
structure SOk (ts : List Tb) : Prop where
  l1 : 1 ≤ ts.length
  l4 : ts.length ≤ 4
  ok : ∀ t ∈ ts, TbOk t
  nd : (ts.map Tb.nm).Nodup
theorem sch_inv {d : D} (h : schB d = true) : ∃ ts, d = .tup (ts.map tbD) ∧ SOk ts := by
  cases d with
  | tup ds =>
    have h' : ((tupB 1 4 (.tup ds) && ds.all tabB) && risB (ds.map fst0)) = true := h
    (rw [Bool.and_eq_true, Bool.and_eq_true] at h')
    obtain ⟨ts, rfl, ho⟩ := tabs_inv h'.1.2
    have hl := h'.1.1
    simp only [tupB, List.length_map, Bool.and_eq_true, decide_eq_true_eq] at hl
    refine ⟨ts, rfl, by omega, by omega, ho, ?_⟩
    have e : (ts.map tbD).map fst0 = (ts.map Tb.nm).map D.str := by
      (rw [List.map_map, List.map_map])
      rfl
    have r := h'.2
    rw [e, ris_pw] at r
    exact ris_nd r
  | _ => simp [schB] at h
structure RwOk (t : Tb) (r : List Str) : Prop where
  len : r.length = t.cs.length
  at' : ∀ (i : Nat) x p, r[i]? = some x → t.cs[i]? = some p → x ∈ p.2
def rwD (r : List Str) : D := .tup (r.map D.str)
theorem strsD {ds : List D} (h : ∀ (j : Nat) (d : D), ds[j]? = some d → ∃ x, d = D.str x) : ∃ ss : List Str, ds = ss.map D.str := by
  induction ds with
  | nil => exact ⟨[], rfl⟩
  | cons d ds ih =>
    obtain ⟨x, rfl⟩ := h 0 d rfl
    obtain ⟨ss, rfl⟩ := ih fun j d e => h (j + 1) d (by simpa using e)
    exact ⟨x :: ss, rfl⟩
theorem row_run {k n : Nat} {t : Tb} (ht : TbOk t) {m0 : Sto} (h : HandOk mu k (n + 4)) : ∃ r mu', lcGo none m0 (gTp 2 (gsCons (gNm 0) (gsCons (gNm 1) (gsNil)))) tY (eCall f_law_pick (aCons (eVar 2) (aCons (eVar 1) (aNil)))) [none, none, some (.ref k)] (t.cs.map clD) mu = some (r.map D.str, mu') ∧ Fr k n mu mu' ∧ RwOk t r := by
  obtain ⟨ys, mu', e, fr, hl, hp⟩ := lc_eff (m0 := m0) (tg := gTp 2 (gsCons (gNm 0) (gsCons (gNm 1) (gsNil)))) (el := eCall f_law_pick (aCons (eVar 2) (aCons (eVar 1) (aNil)))) (ro := [none, none, some (.ref k)]) (fun i m => Fr k (n + 4 - i) mu m) (fun i d => ∃ x, d = D.str x ∧ ∀ p, t.cs[i]? = some p → x ∈ p.2) (t.cs.map clD) 0 mu (.refl h) fun j d m ed fr => by
    rw [List.getElem?_map] at ed
    cases q : t.cs[j]? with
    | none => rw [q] at ed; cases ed
    | some p =>
      rw [q] at ed
      have ed' : clD p = d := Option.some.inj ed
      subst ed'
      have hj := (List.getElem?_eq_some_iff.mp q).1
      have hm : p ∈ t.cs := List.mem_of_getElem? q
      have c4 := ht.c4
      obtain ⟨y, m1, e1, f1, hy⟩ := pick_run (s := .tup (p.2.map D.str)) (n := n + 4 - (0 + j + 1)) (.inr rfl) (by simpa using (ht.vs p hm).1) (by rw [List.length_map]; have := (ht.vs p hm).2; omega) (fr.hand.mono (by omega))
      obtain ⟨x, hx, rfl⟩ := List.mem_map.mp hy
      refine ⟨_, .str x, m1, rfl, ?_, ⟨x, rfl, fun p' hp' => ?_⟩, fr.trans f1⟩
      · simp only [clD, e1, List.set_cons_zero, List.set_cons_succ, z_call, z_aC, z_v2, z_v1, z_aN, z_bM]
      · rw [Nat.zero_add, q] at hp'
        cases hp'
        exact hx
  obtain ⟨r, rfl⟩ := strsD fun j d ed => by
    obtain ⟨x, hx, _⟩ := hp j d ed
    exact ⟨x, hx⟩
  refine ⟨r, mu', e, fr.mono ?_, ⟨by simpa using hl, fun i x p hx hpp => ?_⟩⟩
  · rw [List.length_map]
    have := ht.c4
    omega
  · obtain ⟨y, ey, h2⟩ := hp i (.str x) (by rw [List.getElem?_map, hx]; rfl)
    cases ey
    exact h2 p (by rw [Nat.zero_add]; exact hpp)
theorem cut_to {α : Type} {xs : List α} {j : Nat} (h : j ≤ xs.length) : PV.cutD xs none (some (j : Int)) = xs.take j := by
  unfold PV.cutD
  rw [HT.sIx_none, HT.sIx_nat]
  simp [Nat.min_eq_left h]
theorem cut_from {α : Type} {xs : List α} {j : Nat} (h : j ≤ xs.length) : PV.cutD xs (some (j : Int)) none = xs.drop j := by
  unfold PV.cutD
  rw [HT.sIx_none, HT.sIx_nat]
  rw [Nat.min_eq_left h]
  apply List.take_of_length_le
  simp
end PG
namespace PV
open PySem L2 PyProof.Rows K1
variable {mu : Sto}
theorem dRep_len (k v : D) : ∀ ks ds : List D, (dRep k v ks ds).length = ds.length
  | [], _ => rfl
  | _ :: _, [] => rfl
  | _ :: ks, _ :: ds => by rw [dRep, List.length_cons, List.length_cons, dRep_len k v ks ds]
theorem dRep_mem (k v : D) : ∀ ks ds : List D, ∀ d ∈ dRep k v ks ds, d ∈ ds ∨ d = v
  | [], _, d, h => .inl h
  | _ :: _, [], d, h => .inl h
  | k' :: ks, e :: ds, d, h => by
    rw [dRep] at h
    rcases List.mem_cons.mp h with h | h
    · split at h
      · exact .inr h
      · exact .inl (by rw [h]; exact .head _)
    · rcases dRep_mem k v ks ds d h with h | h
      · exact .inl (.tail _ h)
      · exact .inr h
structure DictOk (ks ds : List D) (n : Nat) : Prop where
  len : ks.length ≤ n
  eq : ds.length = ks.length
  nd : ks.Nodup
theorem DictOk.put {ks ds : List D} {n : Nat} (h : DictOk ks ds n) (k v : D) : DictOk (dPut k v ks ds).1 (dPut k v ks ds).2 (n + 1) ∧ (∀ d ∈ (dPut k v ks ds).2, d ∈ ds ∨ d = v) ∧ ∀ d ∈ (dPut k v ks ds).1, d ∈ ks ∨ d = k := by
  unfold dPut
  by_cases c : k ∈ ks
  · rw [if_pos c]
    exact ⟨⟨by have := h.len; show ks.length ≤ n + 1; omega, by rw [dRep_len]; exact h.eq, h.nd⟩, dRep_mem k v ks ds, fun d hd => .inl hd⟩
  · rw [if_neg c]
    refine ⟨⟨by have := h.len; simp; omega, by simp [h.eq], ?_⟩, fun d hd => ?_, fun d hd => ?_⟩
    · rw [List.nodup_append]
      exact ⟨h.nd, by simp, fun a ha b hb e => by rw [List.mem_singleton.mp hb] at e; rw [e] at ha; exact c ha⟩
    · rcases List.mem_append.mp hd with hd | hd
      · exact .inl hd
      · exact .inr (List.mem_singleton.mp hd)
    · rcases List.mem_append.mp hd with hd | hd
      · exact .inl hd
      · exact .inr (List.mem_singleton.mp hd)
theorem z_putD {k : Nat} {ks ds : List D} {e v : D} (h : mu[k]? = some (.dct ks ds)) (he : hasK e = true) (hl : ks.length < sizeLine) : putG (.ref k) e v mu = some ((), mu.set k (.dct (dPut e v ks ds).1 (dPut e v ks ds).2)) := by
  simp only [putG, h, he, hl, and_self, if_true]
theorem lex_strs : ∀ xs ys : List Str, (lexB (xs.map D.str) (ys.map D.str)).isSome = true
  | [], [] => rfl
  | [], _ :: _ => rfl
  | _ :: _, [] => rfl
  | x :: xs, y :: ys => by
    have ih := lex_strs xs ys
    rw [List.map_cons, List.map_cons, lexB]
    simp only [pureD, Bool.and_self, if_true]
    split
    · exact ih
    · rfl
theorem ord_strs (ss : List Str) : ordKs (ss.map D.str) = true := by
  induction ss with
  | nil => rfl
  | cons x xs ih => simp [ordKs, ordK, ih]
end PV
namespace PG
open PySem L2 PV PyProof.Rows K1
variable {mu : Sto}
theorem rows_ok {rs : List (List Str)} (h64 : rs.length < 64) (hne : ∀ r ∈ rs, r ≠ []) : srtOk (rs.map rwD) = true := by
  unfold srtOk
  simp only [Bool.and_eq_true, decide_eq_true_eq, List.length_map, List.all_eq_true, Bool.or_eq_true, cmpOk]
  refine ⟨⟨⟨h64, fun d hd => ?_⟩, fun d hd e he => ?_⟩, .inr fun d hd => ?_⟩
  · obtain ⟨r, _, rfl⟩ := List.mem_map.mp hd
    unfold rwD ordK
    exact ord_strs r
  · obtain ⟨r, _, rfl⟩ := List.mem_map.mp hd
    obtain ⟨q, _, rfl⟩ := List.mem_map.mp he
    unfold rwD ltB
    exact lex_strs r q
  · obtain ⟨r, hr, rfl⟩ := List.mem_map.mp hd
    cases r with
    | nil => exact (hne _ hr rfl).elim
    | cons x xs =>
      have d1 := dep_strs xs
      simp only [rwD, List.map_cons, tupS, pure_strs, Bool.true_and, decide_eq_true_eq]
      omega
theorem rows_of {t : Tb} {ds : List D} (h : ∀ d ∈ ds, ∃ r, d = rwD r ∧ RwOk t r) : ∃ rs : List (List Str), ds = rs.map rwD ∧ ∀ r ∈ rs, RwOk t r := by
  induction ds with
  | nil => exact ⟨[], rfl, fun _ h => nomatch h⟩
  | cons d ds ih =>
    obtain ⟨r, rfl, hr⟩ := h d (.head _)
    obtain ⟨rs, rfl, hs⟩ := ih fun d hd => h d (.tail _ hd)
    refine ⟨r :: rs, rfl, fun q hq => ?_⟩
    (rcases List.mem_cons.mp hq with rfl | hq)
    · exact hr
    · exact hs q hq
theorem RwOk.ne {t : Tb} {r : List Str} (ht : TbOk t) (h : RwOk t r) : r ≠ [] := fun e => by
  have := h.len
  rw [e] at this
  have := ht.c1
  simp at *
  omega
structure FlOk (t : Tb) (rs : List (List Str)) : Prop where
  len : rs.length ≤ 6
  ok : ∀ r ∈ rs, RwOk t r
def flD (rs : List (List Str)) : D := .tup (rs.map rwD)
noncomputable def rBody : Sx := (sSeq (sSet (eCall tupF (aCons (eLC (iVal (eVar 5)) 2 [0] (gTp 2 (gsCons (gNm 0) (gsCons (gNm 1) (gsNil)))) (tY) (eCall f_law_pick (aCons (eVar 2) (aCons (eVar 1) (aNil))))) (aNil))) (gNm 9)) (sSet (eVar 9) (gIx (eVar 7) (eSl (eVar 9) (pNo) (pSome (eVar 6))))))
theorem rows_run {k n Dk c : Nat} {t : Tb} (ht : TbOk t) {sc fnd : D} {x4 x8 x9 : Option D} (hc : c ≤ 6) (hD : mu[Dk]? = some (.dct [] [])) (hkD : Dk ≠ k) (h : HandOk mu k (n + 4 * c)) {m0 : Sto} :
    ∃ y8 y9 m' ks rs, forGo none m0 (gNm 8) rBody (rngD 0 c) [some (.ref k), some sc, some (.int 6), some fnd, x4, some (.tup (t.cs.map clD)), some (.int t.ks), some (.ref Dk), x8, x9] mu = some ((.nx, [some (.ref k), some sc, some (.int 6), some fnd, x4, some (.tup (t.cs.map clD)), some (.int t.ks), some (.ref Dk), y8, y9]), m') ∧
      m'[Dk]? = some (.dct ks (rs.map rwD)) ∧ FlOk t rs ∧ HandOk m' k n ∧ (∀ j, j ≠ k → j ≠ Dk → m'[j]? = mu[j]?) ∧ m'.length = mu.length := by
  obtain ⟨ro', m', e, ⟨y8, y9, rfl⟩, ⟨ks, ds, a1, a2, a3⟩, a4, a5, a6⟩ := for_ind (m0 := m0) (tg := gNm 8) (body := rBody) (fun i ro m => (∃ y8 y9, ro = [some (.ref k), some sc, some (.int 6), some fnd, x4, some (.tup (t.cs.map clD)), some (.int t.ks), some (.ref Dk), y8, y9]) ∧ (∃ ks ds, m[Dk]? = some (.dct ks ds) ∧ DictOk ks ds i ∧ ∀ d ∈ ds, ∃ r, d = rwD r ∧ RwOk t r) ∧ HandOk m k (n + 4 * (c - i)) ∧ (∀ j, j ≠ k → j ≠ Dk → m[j]? = mu[j]?) ∧ m.length = mu.length) (rngD 0 c) 0 _ mu ⟨⟨x8, x9, rfl⟩, ⟨[], [], hD, ⟨Nat.le_refl _, rfl, List.nodup_nil⟩, fun _ h => nomatch h⟩, h, fun _ _ _ => rfl, rfl⟩ fun j d ro m ed hi => by
      obtain ⟨⟨y8, y9, rfl⟩, ⟨ks, ds, a1, a2, a3⟩, hh, hk, hl⟩ := hi
      obtain ⟨rfl, hj⟩ := rng_at ed
      obtain ⟨r, m1, e1, f1, hr⟩ := row_run (n := n + 4 * (c - (0 + j + 1))) ht (m0 := m) (hh.mono (by omega))
      have a1' : m1[Dk]? = some (.dct ks ds) := (f1.keep Dk hkD).trans a1
      have kl : t.ks ≤ (r.map D.str).length := by rw [List.length_map, hr.len]; exact ht.k4
      have ct := cut_to kl
      have hK : hasK (.tup ((r.map D.str).take t.ks)) = true := by rw [← List.map_take]; exact hasK_strs _
      obtain ⟨p1, p2, _⟩ := a2.put (.tup ((r.map D.str).take t.ks)) (rwD r)
      have z := z_putD (v := rwD r) a1' hK (by have := a2.len; rw [sizeLine_eq]; omega)
      refine ⟨_, m, _, _, rfl, ?_, ⟨some (.int j), some (rwD r), rfl⟩, ⟨_, _, set_hand a1', by rw [show 0 + j + 1 = 0 + j + 1 from rfl]; exact p1, fun d hd => ?_⟩, (f1.hand.mono (by omega)).set hkD, fun i hik hiD => ?_, ?_⟩
      · unfold rBody
        have rw' : rwD r = .tup (r.map D.str) := rfl
        rw [rw'] at z
        simp only [e1, z_gIx, ct, z, List.set_cons_succ, List.set_cons_zero, z_seq, z_set, z_call, z_aC, z_lc, z_iV, z_v5, z_bM, z_wT, z_r0, List.replicate_succ, List.replicate_zero, List.map_cons, List.getD_cons_zero, List.map_nil, List.cons_append, List.nil_append, z_aN, z_tupF, z_gNm, z_seqB, z_v9, z_v7, z_sl, z_pNo, z_pS, z_v6, z_pB, z_slT]
        rfl
      · rcases p2 d hd with hd | rfl
        · exact a3 d hd
        · exact ⟨r, rfl, hr⟩
      · rw [List.getElem?_set_ne hiD.symm, f1.keep i hik, hk i hik hiD]
      · rw [List.length_set, f1.len, hl]
  rw [rng_len] at a2 a4
  obtain ⟨rs, rfl, hr⟩ := rows_of a3
  refine ⟨y8, y9, m', ks, rs, e, a1, ⟨?_, hr⟩, a4.mono (by omega), a5, a6⟩
  have := a2.eq
  have := a2.len
  simp at *
  omega
end PG
namespace PG
open PySem L2 PV PyProof.Rows K1
variable {mu : Sto}
noncomputable def fBody : Sx := (sSeq (sSet (eDctM) (gNm 7)) (sSeq (sFor (iRg (aCons (eCall f_law_take (aCons (eVar 0) (aCons (eBin addD (eVar 2) (eC (.int 1))) (aNil)))) (aNil))) (gNm 8) rBody) (sEx (eApp (eVar 3) (aCons (eCall tupF (aCons (eSrtV (eVar 7)) (aNil))) (aNil))))))
theorem z_srtV {k : Nat} {ks ds : List D} {e : Ex} {ro : Ro} {m1 : Sto} (he : e ro mu = some (.ref k, m1)) (h : m1[k]? = some (.dct ks ds)) (ok : srtOk ds = true) : eSrtV e ro mu = some (.lst (srtD ds), m1) := by
  unfold eSrtV
  rw [he]
  simp only [z_bM, dctOf, h, ok, if_true]
theorem fl_step {k n F : Nat} {t : Tb} (ht : TbOk t) {sc : D} {fs : List D} {x7 x8 x9 : Option D} (hF : mu[F]? = some (.lst fs)) (hfs : fs.length ≤ 100) (hkF : F ≠ k) (h : HandOk mu k (n + 25)) :
    ∃ y7 y8 y9 m' rs, fBody [some (.ref k), some sc, some (.int 6), some (.ref F), some (.str t.nm), some (.tup (t.cs.map clD)), some (.int t.ks), x7, x8, x9] mu = some ((.nx, [some (.ref k), some sc, some (.int 6), some (.ref F), some (.str t.nm), some (.tup (t.cs.map clD)), some (.int t.ks), y7, y8, y9]), m') ∧
      m'[F]? = some (.lst (fs ++ [flD rs])) ∧ FlOk t rs ∧ HandOk m' k n ∧ (∀ j, j < mu.length → j ≠ k → j ≠ F → m'[j]? = mu[j]?) ∧ mu.length ≤ m'.length := by
  have hFl : F < mu.length := (List.getElem?_eq_some_iff.mp hF).1
  have hkl := h.lt
  have h0 : HandOk (mu ++ [MO.dct [] []]) k (n + 25) := h.app
  obtain ⟨_, m1, e1, f1, t1, rfl, a0, a1⟩ := take_run (m := 7) (n := n + 24) h0 (by decide) (by decide)
  obtain ⟨c, rfl⟩ : ∃ c : Nat, t1 = (c : Int) := ⟨t1.toNat, by omega⟩
  have l1 := f1.len
  simp only [List.length_append, List.length_cons, List.length_nil] at l1
  have hD : m1[mu.length]? = some (.dct [] []) := by
    rw [f1.keep _ (by omega)]
    simp
  obtain ⟨y8, y9, m2, ks, rs, e2, g1, g2, g3, g4, g5⟩ := rows_run (mu := m1) (k := k) (n := n) (Dk := mu.length) (c := c) (t := t) ht (sc := sc) (fnd := .ref F) (x4 := some (.str t.nm)) (x8 := x8) (x9 := x9) (by omega) hD (by omega) (f1.hand.mono (by omega)) (m0 := m1)
  have F2 : m2[F]? = some (.lst fs) := by
    rw [g4 F hkF (by omega), f1.keep F hkF, List.getElem?_append_left hFl, hF]
  have ok := rows_ok (rs := rs) (by have := g2.len; omega) fun r hr => (g2.ok r hr).ne ht
  obtain ⟨rs', er, hr'⟩ := rows_of (t := t) (ds := srtD (rs.map rwD)) fun d hd => by
    obtain ⟨r, hr, rfl⟩ := List.mem_map.mp ((srtD_perm _).mem_iff.mp hd)
    exact ⟨r, rfl, g2.ok r hr⟩
  have ll : rs'.length ≤ 6 := by
    have := congrArg List.length er
    rw [(srtD_perm _).length_eq, List.length_map, List.length_map] at this
    have := g2.len
    omega
  have ap := append_at (ro := [some (.ref k), some sc, some (.int 6), some (.ref F), some (.str t.nm), some (.tup (t.cs.map clD)), some (.int t.ks), some (.ref mu.length), y8, y9]) (i := 3) F2 F2 (y := flD rs') (by rw [sizeLine_eq]; omega) rfl (e := (eCall tupF (aCons (eSrtV (eVar 7)) (aNil)))) (by
    have z := z_srtV (mu := m2) (e := eVar 7) (ro := [some (.ref k), some sc, some (.int 6), some (.ref F), some (.str t.nm), some (.tup (t.cs.map clD)), some (.int t.ks), some (.ref mu.length), y8, y9]) rfl g1 ok
    rw [er] at z
    simp only [z, z_call, z_aC, z_aN, z_bM, z_tupF]
    rfl)
  have rg := z_iR (mu := mu ++ [MO.dct [] []]) (ro := [some (.ref k), some sc, some (.int 6), some (.ref F), some (.str t.nm), some (.tup (t.cs.map clD)), some (.int t.ks), some (.ref mu.length), x8, x9]) (r := (aCons (eCall f_law_take (aCons (eVar 0) (aCons (eBin addD (eVar 2) (eC (.int 1))) (aNil)))) (aNil))) (n := c) (m := m1) (by simp only [Int.reduceAdd, e1, z_aC, z_call, z_v0, z_bin, z_v2, z_C, z_bM, z_addI, z_aN]) (by omega) (by rw [sizeLine_eq]; omega)
  rw [Int.toNat_natCast] at rg
  refine ⟨some (.ref mu.length), y8, y9, _, rs', ?_, set_hand F2, ⟨ll, hr'⟩, g3.set hkF, fun i hi hik hiF => ?_, ?_⟩
  · unfold fBody
    simp only [rg, e2, ap, z_seq, z_set, z_dctM, z_gNm, List.set_cons_succ, List.set_cons_zero, z_bM, z_seqB, z_for, z_ex]
  · rw [List.getElem?_set_ne hiF.symm, g4 i hik (by omega), f1.keep i hik, List.getElem?_append_left hi]
  · rw [List.length_set]
    omega
structure FillOk (ts : List Tb) (gs : List (List (List Str))) : Prop where
  len : gs.length = ts.length
  ok : ∀ (j : Nat) rs t, gs[j]? = some rs → ts[j]? = some t → FlOk t rs
theorem fill_low (gs : List (List (List Str))) : lowD 0 (.tup (gs.map flD)) = true := by
  have hs : ∀ ss : List Str, lowL 0 (ss.map D.str) = true := fun ss => by
    rw [low_mem]
    intro d hd
    obtain ⟨x, _, rfl⟩ := List.mem_map.mp hd
    rfl
  have hr : ∀ rs : List (List Str), lowL 0 (rs.map rwD) = true := fun rs => by
    rw [low_mem]
    intro d hd
    obtain ⟨x, _, rfl⟩ := List.mem_map.mp hd
    simpa [rwD, lowD] using hs x
  simp only [lowD]
  rw [low_mem]
  intro d hd
  obtain ⟨x, _, rfl⟩ := List.mem_map.mp hd
  simpa [flD, lowD] using hr x
theorem filling_run {k n : Nat} {ts : List Tb} (hS : SOk ts) (hfl : Flat mu) (h : HandOk mu k (n + 100)) : Run (f_law_filling [.ref k, .tup (ts.map tbD), .int 6] mu) k n mu fun d => ∃ gs, d = .tup (gs.map flD) ∧ FillOk ts gs := by
  have hkl := h.lt
  have s4 := hS.l4
  obtain ⟨ro', m5, e5, ⟨_, _, _, _, _, _, rfl⟩, ⟨gs, b1, b2, b3⟩, b6, b7, b8⟩ := for_ind (m0 := mu ++ [MO.lst []]) (tg := (gTp 3 (gsCons (gNm 4) (gsCons (gNm 5) (gsCons (gNm 6) (gsNil)))))) (body := fBody) (fun i ro m => (∃ y4 y5 y6 y7 y8 y9, ro = [some (.ref k), some (.tup (ts.map tbD)), some (.int 6), some (.ref mu.length), y4, y5, y6, y7, y8, y9]) ∧
      (∃ gs : List (List (List Str)), m[mu.length]? = some (.lst (gs.map flD)) ∧ gs.length = i ∧ ∀ (j : Nat) rs t, gs[j]? = some rs → ts[j]? = some t → FlOk t rs) ∧ HandOk m k (n + 25 * (ts.length - i)) ∧ (∀ j, j < mu.length → j ≠ k → m[j]? = mu[j]?) ∧ mu.length < m.length) (ts.map tbD) 0
      [some (.ref k), some (.tup (ts.map tbD)), some (.int 6), some (.ref mu.length), none, none, none, none, none, none] (mu ++ [MO.lst []])
      ⟨⟨_, _, _, _, _, _, rfl⟩, ⟨[], by simp, rfl, fun j rs t e => by simp at e⟩, (h.app).mono (by omega), fun j hj _ => List.getElem?_append_left hj, by simp⟩ fun j d ro m ed hi => by
    obtain ⟨⟨y4, y5, y6, y7, y8, y9, rfl⟩, ⟨gs, hF, gl, gk⟩, hh, hkeep, hlen⟩ := hi
    rw [List.getElem?_map] at ed
    cases q : ts[j]? with
    | none => rw [q] at ed; cases ed
    | some t =>
      rw [q] at ed
      have ed' : tbD t = d := Option.some.inj ed
      subst ed'
      have hj := (List.getElem?_eq_some_iff.mp q).1
      obtain ⟨z7, z8, z9, m', rs, g1, g2, g3, g4, g5, g6⟩ := fl_step (n := n + 25 * (ts.length - (0 + j + 1))) (hS.ok t (List.mem_of_getElem? q)) (sc := .tup (ts.map tbD)) (x7 := y7) (x8 := y8) (x9 := y9) hF (by rw [List.length_map]; omega) (by omega) (hh.mono (by omega))
      refine ⟨[some (.ref k), some (.tup (ts.map tbD)), some (.int 6), some (.ref mu.length), some (.str t.nm), some (.tup (t.cs.map clD)), some (.int t.ks), y7, y8, y9], m, _, m', rfl, g1, ⟨_, _, _, _, _, _, rfl⟩, ⟨gs ++ [rs], by rw [g2, List.map_append]; rfl, by simp [gl], fun i r t' hr ht' => ?_⟩, g4, fun i hi hik => ?_, by omega⟩
      · by_cases c : i < gs.length
        · rw [List.getElem?_append_left c] at hr
          exact gk i r t' hr ht'
        · have hil := (List.getElem?_eq_some_iff.mp hr).1
          simp only [List.length_append, List.length_cons, List.length_nil] at hil
          have : i = gs.length := by omega
          subst this
          rw [List.getElem?_append_right (Nat.le_refl _), Nat.sub_self] at hr
          cases hr
          rw [gl, Nat.zero_add, q] at ht'
          cases ht'
          exact g3
      · rw [g5 i (by omega) hik (by omega), hkeep i hi hik]
  rw [List.length_map, Nat.zero_add] at b2 b6
  have f5 : Fr k n mu (m5.take mu.length) := by
    refine ⟨?_, fun j hj => ?_, by rw [List.length_take]; omega⟩
    · obtain ⟨x, y, z, q, r1, r2, r3⟩ := b6
      exact ⟨x, y, z, by rw [List.getElem?_take_of_lt (by omega)]; exact q, r1, r2, by omega⟩
    · by_cases hj' : j < mu.length
      · rw [List.getElem?_take_of_lt hj', b7 j hj' hj]
      · rw [List.getElem?_eq_none (by rw [List.length_take]; omega), List.getElem?_eq_none (by omega)]
  refine ⟨.tup (gs.map flD), m5.take mu.length, ?_, f5, gs, rfl, ⟨b2, b3⟩⟩
  unfold fBody rBody at e5
  simp only [f_law_filling, m_law_filling, e5, z_tupR b1, z_fnG, List.map_cons, List.map_nil, List.length_cons, List.length_nil, Nat.zero_add, Nat.reduceAdd, Nat.reduceSub, List.replicate_succ, List.replicate_zero, List.cons_append, List.nil_append, z_seq, z_set, z_lstM, z_aN, z_bM, z_gNm, List.set_cons_succ, List.set_cons_zero, z_seqB, z_for, z_iV, z_v1, z_wT, z_rt, z_call, z_aC, z_v3, z_outGR]
  exact cut_run (fill_low gs) (f5.flat hfl)
end PG
namespace PV
open PySem L2 PyProof.Rows K1
variable {mu : Sto}
theorem z_addL {xs ys : List D} (h : xs.length + ys.length ≤ sizeLine) : addD (.lst xs) (.lst ys) mu = some (.lst (xs ++ ys), mu) := by
  simp only [addD, lstOf, h, if_true]
theorem z_addT {xs ys : List D} (h : xs.length + ys.length ≤ sizeLine) : addD (.tup xs) (.tup ys) mu = some (.tup (xs ++ ys), mu) := by
  simp only [addD, h, if_true]
theorem hshs_mem {ds : List D} : hshs ds = true ↔ ∀ d ∈ ds, hsh d = true := by
  induction ds with
  | nil => simp [hshs]
  | cons d ds ih => simp [hshs, ih]
theorem dpts_mem {n : Nat} {ds : List D} (h : ∀ d ∈ ds, dpt d ≤ n) : dpts ds ≤ n := by
  induction ds with
  | nil => simp [dpts]
  | cons d ds ih =>
    have a := h d (.head _)
    have b := ih fun d hd => h d (.tail _ hd)
    simp only [dpts]
    omega
def Hn (n : Nat) (d : D) : Prop := hsh d = true ∧ dpt d ≤ n
theorem Hn.tup {n : Nat} {ds : List D} (h : ∀ d ∈ ds, Hn n d) : Hn (n + 1) (.tup ds) := by
  refine ⟨by unfold hsh; exact hshs_mem.mpr fun d hd => (h d hd).1, ?_⟩
  have := dpts_mem fun d hd => (h d hd).2
  unfold dpt
  omega
theorem Hn.up {n m : Nat} {d : D} (h : Hn n d) (l : n ≤ m) : Hn m d := ⟨h.1, Nat.le_trans h.2 l⟩
theorem Hn.K {n : Nat} {d : D} (h : Hn n d) (l : n ≤ 8) : hasK d = true := by
  unfold hasK
  rw [h.1, Bool.true_and, decide_eq_true_eq]
  exact Nat.le_trans h.2 l
theorem Hn.str (x : Str) : Hn 1 (.str x) := ⟨rfl, by simp [dpt]⟩
theorem Hn.non : Hn 1 .non := ⟨rfl, by simp [dpt]⟩
theorem Hn.strs (ss : List Str) : Hn 2 (.tup (ss.map D.str)) := Hn.tup fun d hd => by
  obtain ⟨x, _, rfl⟩ := List.mem_map.mp hd
  exact .str x
end PV
namespace PG
open PySem L2 PV PyProof.Rows K1
variable {mu : Sto}
theorem Hn.row (r : List Str) : Hn 2 (rwD r) := Hn.strs r
theorem Hn.fl (rs : List (List Str)) : Hn 3 (flD rs) := Hn.tup fun d hd => by
  obtain ⟨x, _, rfl⟩ := List.mem_map.mp hd
  exact Hn.row x
def RN (t : Tb) (d : D) : Prop := d = .non ∨ ∃ r, d = rwD r ∧ RwOk t r
theorem RN.hn {t : Tb} {d : D} (h : RN t d) : Hn 2 d := by
  rcases h with rfl | ⟨r, rfl, _⟩
  · exact Hn.non.up (by decide)
  · exact Hn.row r
structure Pt where
  nm : Str
  key : List Str
  be : D
  af : D
def ptD (p : Pt) : D := .tup [.str p.nm, .tup (p.key.map D.str), p.be, p.af]
structure PtOk (ts : List Tb) (p : Pt) : Prop where
  ex : ∃ t ∈ ts, t.nm = p.nm ∧ RN t p.be ∧ RN t p.af
  ne : p.be ≠ p.af
def kyD (p : Str × List Str) : D := .tup [.str p.1, .tup (p.2.map D.str)]
noncomputable def sBd : Sx := (sIf (tAn (tV (eBin neD (eBin ixG (eVar 2) (eVar 6)) (eTup (aNil)))) (tV (eBin eqD (eCall f_law_take (aCons (eVar 0) (aCons (eC (.int 2)) (aNil)))) (eC (.int 0))))) (sSet (eBin addD (eSl (eCall f_law_pick (aCons (eVar 0) (aCons (eBin ixG (eVar 2) (eVar 6)) (aNil)))) (pNo) (pSome (eVar 9))) (eSl (eVar 10) (pSome (eVar 9)) (pNo))) (gNm 10)) (sNx))
theorem mix_ok {t : Tb} (ht : TbOk t) {r q : List Str} (hr : RwOk t r) (hq : RwOk t q) : RwOk t (q.take t.ks ++ r.drop t.ks) := by
  have l1 := hr.len
  have l2 := hq.len
  have k4 := ht.k4
  refine ⟨by simp; omega, fun i x p hx hp => ?_⟩
  by_cases c : i < t.ks
  · rw [List.getElem?_append_left (by simp; omega), List.getElem?_take_of_lt c] at hx
    exact hq.at' i x p hx hp
  · rw [List.getElem?_append_right (by simp; omega), List.getElem?_drop] at hx
    refine hr.at' i x p ?_ hp
    rw [← hx]
    congr 1
    simp
    omega
theorem swap_run {k n pl : Nat} {t : Tb} (ht : TbOk t) {rs : List (List Str)} (hrs : FlOk t rs) {gs : List (List (List Str))} (hg : gs[pl]? = some rs) {r : List Str} (hr : RwOk t r) {sc fd x5 : D} {x11 x12 : Option D} (h : HandOk mu k (n + 2)) :
    ∃ q m', sBd [some (.ref k), some sc, some (.tup (gs.map flD)), some (.int 8), some fd, some x5, some (.int pl), some (.str t.nm), some (.tup (t.cs.map clD)), some (.int t.ks), some (rwD r), x11, x12] mu = some ((.nx, [some (.ref k), some sc, some (.tup (gs.map flD)), some (.int 8), some fd, some x5, some (.int pl), some (.str t.nm), some (.tup (t.cs.map clD)), some (.int t.ks), some (rwD q), x11, x12]), m') ∧ Fr k n mu m' ∧ RwOk t q := by
  have ix : ∀ m, ixG (.tup (gs.map flD)) (.int pl) m = some (flD rs, m) := fun m => z_ix _ (.inr rfl) (by rw [List.getElem?_map, hg]; rfl)
  have ne : ∀ m, neD (flD rs) (.tup []) m = some (.bl (!decide (flD rs = .tup [])), m) := fun m => z_neK ((Hn.fl rs).K (by decide)) (by decide)
  cases rs with
  | nil =>
    refine ⟨r, mu, ?_, (Fr.refl h).mono (by omega), hr⟩
    have e : decide (flD [] = .tup []) = true := by rw [decide_eq_true_eq]; rfl
    unfold sBd
    simp only [ix, ne, e, z_sIf, z_tAn, z_tV, z_bin, z_v2, z_v6, z_bM, z_tup, z_aN, Bool.not_true, z_asB, Option.map_some, z_call, z_aC, z_v0, z_C, Bool.false_eq_true, ↓reduceIte, z_set, z_sl, z_pNo, z_pS, z_v9, z_pB, z_v10, z_gNm, List.set_cons_succ, List.set_cons_zero, z_sNx]
  | cons r0 rs =>
    have e : decide (flD (r0 :: rs) = .tup []) = false := by simp [flD]
    obtain ⟨_, m1, e1, f1, t1, rfl, a0, a1⟩ := take_run (m := 2) (n := n + 1) h (by decide) (by decide)
    by_cases c : t1 = 0
    · obtain ⟨y, m2, e2, f2, hy⟩ := pick_run (s := flD (r0 :: rs)) (ds := (r0 :: rs).map rwD) (n := n) (.inr rfl) (by simp) (by rw [List.length_map]; have := hrs.len; omega) f1.hand
      obtain ⟨q, hq, rfl⟩ := List.mem_map.mp hy
      have hq' := hrs.ok q hq
      have l1 := hr.len
      have l2 := hq'.len
      have k4 := ht.k4
      have c1 : PV.cutD (q.map D.str) none (some (t.ks : Int)) = (q.map D.str).take t.ks := cut_to (by rw [List.length_map]; omega)
      have c2 : PV.cutD (r.map D.str) (some (t.ks : Int)) none = (r.map D.str).drop t.ks := cut_from (by rw [List.length_map]; omega)
      have ad : addD (.tup ((q.map D.str).take t.ks)) (.tup ((r.map D.str).drop t.ks)) m2 = some (rwD (q.take t.ks ++ r.drop t.ks), m2) := by
        rw [z_addT]
        · simp [rwD]
        · rw [sizeLine_eq]
          have := ht.c4
          simp
          omega
      refine ⟨q.take t.ks ++ r.drop t.ks, m2, ?_, f1.trans f2, mix_ok ht hr hq'⟩
      unfold sBd
      have rq : rwD q = .tup (q.map D.str) := rfl
      have rr : rwD r = .tup (r.map D.str) := rfl
      rw [rr]
      rw [rq] at e2
      simp only [ix, ne, e, e1, c, e2, c1, c2, ad, z_sIf, z_tAn, z_tV, z_bin, z_v2, z_v6, z_bM, z_tup, z_aN, Bool.not_false, z_asB, Option.map_some, z_call, z_aC, z_v0, z_C, ↓reduceIte, z_eqI, decide_true, z_set, z_sl, z_pNo, z_pS, z_v9, z_pB, z_v10, z_slT, z_gNm, List.set_cons_succ, List.set_cons_zero, z_sNx]
    · refine ⟨r, m1, ?_, f1.mono (by omega), hr⟩
      have c' : decide (t1 = 0) = false := by simp [c]
      unfold sBd
      simp only [ix, ne, e, e1, c', z_sIf, z_tAn, z_tV, z_bin, z_v2, z_v6, z_bM, z_tup, z_aN, Bool.not_false, z_asB, Option.map_some, z_call, z_aC, z_v0, z_C, ↓reduceIte, z_eqI, z_set, z_sl, z_pNo, z_pS, z_v9, z_pB, z_v10, z_gNm, List.set_cons_succ, List.set_cons_zero, z_sNx, Bool.false_eq_true]
end PG
namespace PG
open PySem L2 PV PyProof.Rows K1
variable {mu : Sto}
noncomputable def gBd : Sx := (sSeq (sSet (eCall f_law_take (aCons (eVar 0) (aCons (eCall lenG (aCons (eVar 1) (aNil))) (aNil)))) (gNm 6)) (sSeq (sSet (eBin ixG (eVar 1) (eVar 6)) (gTp 3 (gsCons (gNm 7) (gsCons (gNm 8) (gsCons (gNm 9) (gsNil)))))) (sSeq (sSet (eCall tupF (aCons (eLC (iVal (eVar 8)) 2 [0] (gTp 2 (gsCons (gNm 0) (gsCons (gNm 1) (gsNil)))) (tY) (eCall f_law_pick (aCons (eVar 2) (aCons (eVar 1) (aNil))))) (aNil))) (gNm 10)) (sSeq sBd (sSeq (sSet (eBin ixG (eBin addD (eLC (iVal (eBin ixG (eVar 2) (eVar 6))) 1 [9, 10] (gNm 0) (tV (eBin eqD (eSl (eVar 0) (pNo) (pSome (eVar 1))) (eSl (eVar 2) (pNo) (pSome (eVar 1))))) (eVar 0)) (eLst (aCons (eC .non) (aNil)))) (eC (.int 0))) (gNm 11)) (sSeq (sSet (eBin ixG (eLst (aCons (eVar 10) (aCons (eVar 10) (aCons (eC .non) (aNil))))) (eCall f_law_take (aCons (eVar 0) (aCons (eC (.int 3)) (aNil))))) (gNm 12)) (sIf (tV (eBin neD (eVar 12) (eVar 11))) (sSet (eTup (aCons (eVar 7) (aCons (eSl (eVar 10) (pNo) (pSome (eVar 9))) (aCons (eVar 11) (aCons (eVar 12) (aNil)))))) (gIx (eVar 4) (eTup (aCons (eVar 7) (aCons (eSl (eVar 10) (pNo) (pSome (eVar 9))) (aNil)))))) (sNx))))))))
structure FdOk (ts : List Tb) (ks ds : List D) (i : Nat) : Prop where
  dk : DictOk ks ds i
  ky : ∀ d ∈ ks, ∃ p, d = kyD p
  pt : ∀ d ∈ ds, ∃ p, d = ptD p ∧ PtOk ts p
theorem Hn.ky (p : Str × List Str) : Hn 3 (kyD p) := Hn.tup fun d hd => by
  simp only [List.mem_cons, List.not_mem_nil, or_false] at hd
  rcases hd with rfl | rfl
  · exact (Hn.str _).up (by decide)
  · exact Hn.strs _
theorem g_step {k n Dk i : Nat} {ts : List Tb} {gs : List (List (List Str))} (hS : SOk ts) (hG : FillOk ts gs) {ks ds : List D} (hD : mu[Dk]? = some (.dct ks ds)) (fd : FdOk ts ks ds i) (hi : i ≤ 8) (hkD : Dk ≠ k) (h : HandOk mu k (n + 8)) {j : Nat} {x6 x7 x8 x9 x10 x11 x12 : Option D} :
    ∃ y6 y7 y8 y9 y10 y11 y12 m' ks' ds', gBd [some (.ref k), some (.tup (ts.map tbD)), some (.tup (gs.map flD)), some (.int 8), some (.ref Dk), some (.int j), x6, x7, x8, x9, x10, x11, x12] mu = some ((.nx, [some (.ref k), some (.tup (ts.map tbD)), some (.tup (gs.map flD)), some (.int 8), some (.ref Dk), some (.int j), y6, y7, y8, y9, y10, y11, y12]), m') ∧
      m'[Dk]? = some (.dct ks' ds') ∧ FdOk ts ks' ds' (i + 1) ∧ HandOk m' k n ∧ (∀ j, j ≠ k → j ≠ Dk → m'[j]? = mu[j]?) ∧ m'.length = mu.length := by
  have s1 := hS.l1
  have s4 := hS.l4
  obtain ⟨_, m1, e1, f1, pl, rfl, a0, a1⟩ := take_run (m := ts.length) (n := n + 7) h (by omega) (by omega)
  obtain ⟨p, rfl⟩ : ∃ p : Nat, pl = (p : Int) := ⟨pl.toNat, by omega⟩
  have hp : p < ts.length := by omega
  obtain ⟨t, et⟩ : ∃ t, ts[p]? = some t := ⟨_, List.getElem?_eq_getElem hp⟩
  obtain ⟨rs, er⟩ : ∃ rs, gs[p]? = some rs := ⟨_, List.getElem?_eq_getElem (by rw [hG.len]; exact hp)⟩
  have tm := List.mem_of_getElem? et
  have ht := hS.ok t tm
  have hrs := hG.ok p rs t er et
  have ix1 : ixG (.tup (ts.map tbD)) (.int p) m1 = some (tbD t, m1) := z_ix _ (.inr rfl) (by rw [List.getElem?_map, et]; rfl)
  obtain ⟨r, m2, e2, f2, hr⟩ := row_run (n := n + 3) ht (m0 := m1) f1.hand
  obtain ⟨q, m3, e3, f3, hq⟩ := swap_run (n := n + 1) ht hrs er hr (sc := .tup (ts.map tbD)) (fd := .ref Dk) (x5 := .int j) (x11 := x11) (x12 := x12) f2.hand
  have ix2 : ixG (.tup (gs.map flD)) (.int p) m3 = some (flD rs, m3) := z_ix _ (.inr rfl) (by rw [List.getElem?_map, er]; rfl)
  have k4 := ht.k4
  have ql := hq.len
  have cq : PV.cutD (q.map D.str) none (some (t.ks : Int)) = (q.take t.ks).map D.str := by rw [cut_to (by rw [List.length_map]; omega), List.map_take]
  have lc := lc_pure (m0 := m3) (tg := gNm 0) (tt := (tV (eBin eqD (eSl (eVar 0) (pNo) (pSome (eVar 1))) (eSl (eVar 2) (pNo) (pSome (eVar 1)))))) (el := eVar 0) (ro := [none, some (.int t.ks), some (rwD q)]) (mu := m3) (fun d => match d with | .tup es => decide (D.tup (es.take t.ks) = .tup ((q.map D.str).take t.ks)) | _ => false) id (rs.map rwD) (fun d hd => by
    obtain ⟨r', hr', rfl⟩ := List.mem_map.mp hd
    have rl := (hrs.ok r' hr').len
    have cr : PV.cutD (r'.map D.str) none (some (t.ks : Int)) = (r'.map D.str).take t.ks := cut_to (by rw [List.length_map]; omega)
    have cq0 : PV.cutD (q.map D.str) none (some (t.ks : Int)) = (q.map D.str).take t.ks := cut_to (by rw [List.length_map]; omega)
    have ek := z_eqK (mu := m3) ((Hn.strs (r'.take t.ks)).K (by decide)) ((Hn.strs (q.take t.ks)).K (by decide))
    rw [List.map_take, List.map_take] at ek
    refine ⟨[some (rwD r'), some (.int t.ks), some (rwD q)], rfl, ?_, fun _ => rfl⟩
    unfold rwD
    simp only [cr, cq0, ek, z_tV, z_bin, z_sl, z_v0, z_pNo, z_pS, z_v1, z_bM, z_pB, z_slT, z_v2, z_asB, Option.map_some])
  rw [List.map_id] at lc
  generalize hfl : (rs.map rwD).filter _ = fl at lc
  have flm : ∀ d ∈ fl, RN t d := fun d hd => by
    rw [← hfl] at hd
    obtain ⟨r', hr', rfl⟩ := List.mem_map.mp (List.mem_filter.mp hd).1
    exact .inr ⟨r', rfl, hrs.ok r' hr'⟩
  have fll : fl.length ≤ 6 := by
    rw [← hfl]
    have := List.length_filter_le (fun d => match d with | D.tup es => decide (D.tup (es.take t.ks) = .tup ((q.map D.str).take t.ks)) | _ => false) (rs.map rwD)
    rw [List.length_map] at this
    have := hrs.len
    omega
  have ad : addD (.lst fl) (.lst [.non]) m3 = some (.lst (fl ++ [.non]), m3) := z_addL (by rw [sizeLine_eq]; simp; omega)
  obtain ⟨be, hbe, eb⟩ : ∃ be, RN t be ∧ ∀ m, ixG (.lst (fl ++ [.non])) (.int 0) m = some (be, m) := by
    cases fl with
    | nil => exact ⟨.non, .inl rfl, fun m => by simp only [List.nil_append, z_ixL0]⟩
    | cons d fl => exact ⟨d, flm d (.head _), fun m => by simp only [List.cons_append, z_ixL0]⟩
  obtain ⟨_, m4, e4, f4, w, rfl, b0, b1⟩ := take_run (m := 3) (n := n) f3.hand (by decide) (by decide)
  obtain ⟨af, haf, ea⟩ := at_int (ds := [rwD q, rwD q, .non]) b0 (by simpa using b1)
  have ix4 := z_ixI (mu := m4) (.lst [rwD q, rwD q, .non]) (.inl rfl) b0 ea
  have raf : RN t af := by
    simp only [List.mem_cons, List.not_mem_nil, or_false] at haf
    rcases haf with rfl | rfl | rfl
    · exact .inr ⟨q, rfl, hq⟩
    · exact .inr ⟨q, rfl, hq⟩
    · exact .inl rfl
  have ne := z_neK (mu := m4) (raf.hn.K (by decide)) (hbe.hn.K (by decide))
  have fr := ((f1.trans f2).trans f3).trans f4
  have D4 : m4[Dk]? = some (.dct ks ds) := (fr.keep Dk hkD).trans hD
  have rq : rwD q = .tup (q.map D.str) := rfl
  have tt : tbD t = .tup [.str t.nm, .tup (t.cs.map clD), .int t.ks] := rfl
  have fe : flD rs = .tup (rs.map rwD) := rfl
  have rr : rwD r = .tup (r.map D.str) := rfl
  rw [fe] at ix2
  rw [tt] at ix1
  by_cases c : af = be
  · refine ⟨some (.int p), some (.str t.nm), some (.tup (t.cs.map clD)), some (.int t.ks), some (rwD q), some be, some af, m4, ks, ds, ?_, D4, ⟨⟨by have := fd.dk.len; omega, fd.dk.eq, fd.dk.nd⟩, fd.ky, fd.pt⟩, fr.hand, fun j hj _ => fr.keep j hj, fr.len⟩
    have c' : decide (af = be) = true := by simp [c]
    rw [rr] at e3
    unfold gBd
    simp only [List.length_map, e1, ix1, e2, e3, ix2, lc, ad, eb, e4, ix4, ne, c', z_seq, z_set, z_call, z_aC, z_v0, z_v1, z_aN, z_bM, z_lenT, z_gNm, List.set_cons_succ, List.set_cons_zero, z_seqB, z_bin, z_v6, z_gTp3, z_gsC, z_gsN, z_lc, z_iV, z_v8, z_wT, z_r0, List.replicate_succ, List.replicate_zero, List.map_cons, List.getD_cons_zero, List.map_nil, List.cons_append, List.nil_append, z_tupF, z_v2, List.getD_cons_succ, z_lst, z_C, z_v10, z_sIf, z_tV, z_v12, z_v11, Bool.not_true, z_asB, Option.map_some, z_tup, z_v7, z_sl, z_pNo, z_pS, z_v9, z_pB, z_sNx, Bool.false_eq_true, ↓reduceIte]
  · have c' : decide (af = be) = false := by simp [c]
    have z := z_putD (v := .tup [.str t.nm, .tup ((q.take t.ks).map D.str), be, af]) D4 ((Hn.ky (t.nm, q.take t.ks)).K (by decide)) (by have := fd.dk.len; rw [sizeLine_eq]; omega)
    obtain ⟨p1, p2, p3⟩ := fd.dk.put (kyD (t.nm, q.take t.ks)) (.tup [.str t.nm, .tup ((q.take t.ks).map D.str), be, af])
    refine ⟨some (.int p), some (.str t.nm), some (.tup (t.cs.map clD)), some (.int t.ks), some (rwD q), some be, some af, _, _, _, ?_, set_hand D4, ⟨p1, fun d hd => ?_, fun d hd => ?_⟩, fr.hand.set hkD, fun j hj hjD => ?_, ?_⟩
    · rw [rr] at e3
      have kk : kyD (t.nm, q.take t.ks) = .tup [.str t.nm, .tup ((q.take t.ks).map D.str)] := rfl
      rw [kk] at z
      unfold gBd
      simp only [List.length_map, e1, ix1, e2, e3, ix2, lc, ad, eb, e4, ix4, ne, c', z_seq, z_set, z_call, z_aC, z_v0, z_v1, z_aN, z_bM, z_lenT, z_gNm, List.set_cons_succ, List.set_cons_zero, z_seqB, z_bin, z_v6, z_gTp3, z_gsC, z_gsN, z_lc, z_iV, z_v8, z_wT, z_r0, List.replicate_succ, List.replicate_zero, List.map_cons, List.getD_cons_zero, List.map_nil, List.cons_append, List.nil_append, z_tupF, z_v2, List.getD_cons_succ, z_lst, z_C, z_v10, z_sIf, z_tV, z_v12, z_v11, Bool.not_false, z_asB, Option.map_some, z_tup, z_v7, z_sl, z_pNo, z_pS, z_v9, z_pB, z_sNx, ↓reduceIte]
      rw [rq]
      simp only [cq, z_gIx, z, z_slT, z_bM, z_v4, z_tup, z_aC, z_v7, z_sl, z_v10, z_pNo, z_pS, z_v9, z_pB, z_aN]
      rfl
    · rcases p3 d hd with hd | rfl
      · exact fd.ky d hd
      · exact ⟨_, rfl⟩
    · rcases p2 d hd with hd | rfl
      · exact fd.pt d hd
      · exact ⟨⟨t.nm, q.take t.ks, be, af⟩, rfl, ⟨t, tm, rfl, hbe, raf⟩, fun e => c e.symm⟩
    · rw [List.getElem?_set_ne hjD.symm, fr.keep j hj]
    · rw [List.length_set, fr.len]
end PG
namespace PV
open PySem L2 PyProof.Rows K1
variable {mu : Sto}
theorem z_ixD {k : Nat} {ks ds es : List D} {v : D} (h : mu[k]? = some (.dct ks ds)) (he : hasK (.tup es) = true) (hv : dGet (.tup es) ks ds = some v) : ixG (.ref k) (.tup es) mu = some (v, mu) := by
  have e1 : ixD (.ref k) (.tup es) mu = none := rfl
  unfold ixG
  rw [e1]
  simp only [ixC, dctOf, h, he, hv, if_true, Option.map_some]
theorem z_srtD {k : Nat} {ks ds : List D} (h : mu[k]? = some (.dct ks ds)) (ok : srtOk ks = true) : srtW [.ref k] mu = some (.lst (srtD ks), mu) := by
  have e1 : srtU [.ref k] mu = none := by simp only [srtU, arg1, gthD, seqOf, lstOf, h]
  unfold srtW
  rw [e1]
  simp only [srtK, arg1, dctOf, h, ok, if_true]
end PV
namespace PG
open PySem L2 PV PyProof.Rows K1
variable {mu : Sto}
theorem keys_ok {ks : List D} (h64 : ks.length < 64) (hk : ∀ d ∈ ks, ∃ p, d = kyD p) : srtOk ks = true := by
  unfold srtOk
  simp only [Bool.and_eq_true, decide_eq_true_eq, List.all_eq_true, Bool.or_eq_true, cmpOk]
  refine ⟨⟨⟨h64, fun d hd => ?_⟩, fun d hd e he => ?_⟩, .inr fun d hd => ?_⟩
  · obtain ⟨p, rfl⟩ := hk d hd
    simp only [kyD, ordK, ordKs, ord_strs, Bool.and_self]
  · obtain ⟨p, rfl⟩ := hk d hd
    obtain ⟨q, rfl⟩ := hk e he
    have lx := lex_strs p.2 q.2
    simp only [kyD, ltB, lexB, pureD, pure_strs, Bool.and_self, if_true]
    split
    · split
      · rfl
      · exact lx
    · rfl
  · obtain ⟨p, rfl⟩ := hk d hd
    have := dep_strs p.2
    simp only [kyD, tupS, pureL, pureD, pure_strs, Bool.and_self, Bool.true_and, decide_eq_true_eq, toPys, toPy, PyData.depthAll, PyData.depth]
    omega
theorem RN.low {t : Tb} {d : D} (h : RN t d) : lowD 0 d = true := by
  rcases h with rfl | ⟨r, rfl, _⟩
  · rfl
  · simp only [rwD, lowD]
    rw [low_mem]
    intro d hd
    obtain ⟨x, _, rfl⟩ := List.mem_map.mp hd
    rfl
theorem pts_of {ts : List Tb} {ds : List D} (h : ∀ d ∈ ds, ∃ p, d = ptD p ∧ PtOk ts p) : ∃ ps : List Pt, ds = ps.map ptD ∧ ∀ p ∈ ps, PtOk ts p := by
  induction ds with
  | nil => exact ⟨[], rfl, fun _ h => nomatch h⟩
  | cons d ds ih =>
    obtain ⟨r, rfl, hr⟩ := h d (.head _)
    obtain ⟨rs, rfl, hs⟩ := ih fun d hd => h d (.tail _ hd)
    refine ⟨r :: rs, rfl, fun q hq => ?_⟩
    (rcases List.mem_cons.mp hq with rfl | hq)
    · exact hr
    · exact hs q hq
theorem pts_low {ts : List Tb} {ps : List Pt} (h : ∀ p ∈ ps, PtOk ts p) : lowD 0 (.tup (ps.map ptD)) = true := by
  simp only [lowD]
  rw [low_mem]
  intro d hd
  obtain ⟨p, hp, rfl⟩ := List.mem_map.mp hd
  obtain ⟨t, _, _, h1, h2⟩ := (h p hp).ex
  have hs : lowL 0 (p.key.map D.str) = true := by
    rw [low_mem]
    intro d hd
    obtain ⟨x, _, rfl⟩ := List.mem_map.mp hd
    rfl
  simp only [ptD, lowD, lowL, hs, h1.low, h2.low, Bool.and_self]
theorem change_run {k n : Nat} {ts : List Tb} {gs : List (List (List Str))} (hS : SOk ts) (hG : FillOk ts gs) (hfl : Flat mu) (h : HandOk mu k (n + 100)) : Run (f_law_change [.ref k, .tup (ts.map tbD), .tup (gs.map flD), .int 8] mu) k n mu fun d => ∃ ps : List Pt, d = .tup (ps.map ptD) ∧ ps.length ≤ 8 ∧ ∀ p ∈ ps, PtOk ts p := by
  have hkl := h.lt
  have h0 : HandOk (mu ++ [MO.dct [] []]) k (n + 100) := h.app
  obtain ⟨_, m1, e1, f1, t1, rfl, a0, a1⟩ := take_run (m := 9) (n := n + 99) h0 (by decide) (by decide)
  obtain ⟨c, rfl⟩ : ∃ c : Nat, t1 = (c : Int) := ⟨t1.toNat, by omega⟩
  have l1 := f1.len
  simp only [List.length_append, List.length_cons, List.length_nil] at l1
  have hD : m1[mu.length]? = some (.dct [] []) := by
    rw [f1.keep _ (by omega)]
    simp
  obtain ⟨ro', m5, e5, ⟨y5, y6, y7, y8, y9, y10, y11, y12, rfl⟩, ⟨ks, ds, b1, b2⟩, b6, b7, b8⟩ := for_ind (m0 := m1) (tg := gNm 5) (body := gBd) (fun i ro m => (∃ y5 y6 y7 y8 y9 y10 y11 y12, ro = [some (.ref k), some (.tup (ts.map tbD)), some (.tup (gs.map flD)), some (.int 8), some (.ref mu.length), y5, y6, y7, y8, y9, y10, y11, y12]) ∧
      (∃ ks ds, m[mu.length]? = some (.dct ks ds) ∧ FdOk ts ks ds i) ∧ HandOk m k (n + 8 * (c - i)) ∧ (∀ j, j ≠ k → j ≠ mu.length → m[j]? = m1[j]?) ∧ m.length = m1.length) (rngD 0 c) 0
      [some (.ref k), some (.tup (ts.map tbD)), some (.tup (gs.map flD)), some (.int 8), some (.ref mu.length), none, none, none, none, none, none, none, none] m1
      ⟨⟨_, _, _, _, _, _, _, _, rfl⟩, ⟨[], [], hD, ⟨⟨Nat.le_refl _, rfl, List.nodup_nil⟩, fun _ h => (nomatch h), fun _ h => (nomatch h)⟩⟩, f1.hand.mono (by omega), fun _ _ _ => rfl, rfl⟩ fun j d ro m ed hi => by
    obtain ⟨⟨y5, y6, y7, y8, y9, y10, y11, y12, rfl⟩, ⟨ks, ds, b1, b2⟩, hh, hkeep, hlen⟩ := hi
    obtain ⟨rfl, hj⟩ := rng_at ed
    obtain ⟨z6, z7, z8, z9, z10, z11, z12, m', ks', ds', g1, g2, g3, g4, g5, g6⟩ := g_step (n := n + 8 * (c - (0 + j + 1))) hS hG b1 b2 (by omega) (by omega) (hh.mono (by omega)) (j := j) (x6 := y6) (x7 := y7) (x8 := y8) (x9 := y9) (x10 := y10) (x11 := y11) (x12 := y12)
    exact ⟨_, m, _, m', rfl, g1, ⟨_, _, _, _, _, _, _, _, rfl⟩, ⟨ks', ds', g2, g3⟩, g4, fun i hi hiD => (g5 i hi hiD).trans (hkeep i hi hiD), g6.trans hlen⟩
  rw [rng_len] at b2 b6
  have kl := b2.dk.len
  have sok := keys_ok (ks := ks) (by omega) b2.ky
  have lc := lc_all (m0 := m5) (tg := gNm 0) (el := (eBin ixG (eVar 1) (eVar 0))) (ro := [none, some (.ref mu.length)]) (mu := m5) (fun d => (dGet d ks ds).getD .non) (srtD ks) (fun d hd => by
    have hm := (srtD_perm ks).mem_iff.mp hd
    obtain ⟨p, rfl⟩ := b2.ky d hm
    have sm := dGet_mem (k := kyD p) b2.dk.nd b2.dk.eq
    rw [decide_eq_true hm] at sm
    obtain ⟨v, hv⟩ := Option.isSome_iff_exists.mp sm
    refine ⟨_, rfl, ?_⟩
    have z := z_ixD (mu := m5) b1 ((Hn.ky p).K (by decide)) hv
    have kk : kyD p = .tup [.str p.1, .tup (p.2.map D.str)] := rfl
    rw [hv, kk]
    simp only [z, Option.getD_some, List.set_cons_zero, z_bin, z_v1, z_v0, z_bM])
  have all : ∀ d ∈ (srtD ks).map fun d => (dGet d ks ds).getD .non, ∃ p, d = ptD p ∧ PtOk ts p := fun d hd => by
    obtain ⟨e, he, rfl⟩ := List.mem_map.mp hd
    have hm := (srtD_perm ks).mem_iff.mp he
    obtain ⟨j, hj⟩ := List.mem_iff_getElem?.mp hm
    have hg := dGet_at (ds := ds) b2.dk.nd hj
    have jl : j < ds.length := by rw [b2.dk.eq]; exact (List.getElem?_eq_some_iff.mp hj).1
    rw [hg, List.getElem?_eq_getElem jl, Option.getD_some]
    exact b2.pt _ (List.getElem_mem jl)
  obtain ⟨ps, ep, hps⟩ := pts_of all
  rw [ep] at lc
  have pl : ps.length ≤ 8 := by
    have := congrArg List.length ep
    rw [List.length_map, List.length_map, (srtD_perm ks).length_eq] at this
    omega
  have f5 : Fr k n mu (m5.take mu.length) := by
    refine ⟨?_, fun j hj => ?_, by rw [List.length_take]; omega⟩
    · obtain ⟨x, y, z, q, r1, r2, r3⟩ := b6
      exact ⟨x, y, z, by rw [List.getElem?_take_of_lt (by omega)]; exact q, r1, r2, by omega⟩
    · by_cases hj' : j < mu.length
      · rw [List.getElem?_take_of_lt hj', b7 j hj (by omega), f1.keep j hj, List.getElem?_append_left hj']
      · rw [List.getElem?_eq_none (by rw [List.length_take]; omega), List.getElem?_eq_none (by omega)]
  refine ⟨.tup (ps.map ptD), m5.take mu.length, ?_, f5, ps, rfl, pl, hps⟩
  have rg := z_iR (mu := mu ++ [MO.dct [] []]) (ro := [some (.ref k), some (.tup (ts.map tbD)), some (.tup (gs.map flD)), some (.int 8), some (.ref mu.length), none, none, none, none, none, none, none, none]) (r := (aCons (eCall f_law_take (aCons (eVar 0) (aCons (eBin addD (eVar 3) (eC (.int 1))) (aNil)))) (aNil))) (n := c) (m := m1) (by simp only [Int.reduceAdd, e1, z_aC, z_call, z_v0, z_bin, z_v3, z_C, z_bM, z_addI, z_aN]) (by omega) (by rw [sizeLine_eq]; omega)
  rw [Int.toNat_natCast] at rg
  unfold gBd sBd at e5
  simp only [f_law_change, m_law_change, rg, e5, z_srtD b1 sok, lc, z_fnG, List.map_cons, List.map_nil, List.length_cons, List.length_nil, Nat.zero_add, Nat.reduceAdd, Nat.reduceSub, List.replicate_succ, List.replicate_zero, List.cons_append, List.nil_append, z_seq, z_set, z_dctM, z_gNm, List.set_cons_succ, List.set_cons_zero, z_bM, z_seqB, z_for, z_rt, z_call, z_aC, z_lc, z_iV, z_v4, z_aN, z_wL, z_r0, List.getD_cons_succ, List.getD_cons_zero, z_tupF, z_outGR]
  exact cut_run (pts_low hps) (f5.flat hfl)
end PG
namespace PV
open PySem L2 PyProof.Rows K1
variable {mu : Sto}
theorem z_isN : isD .non .non mu = some (.bl true, mu) := rfl
theorem z_isT {ds : List D} : isD (.tup ds) .non mu = some (.bl false, mu) := rfl
def Sm (f : Nat → Nat) : Nat → Nat
  | 0 => 0
  | n + 1 => Sm f n + f n
def bN (p : D → Bool) (ks : Nat) (Z : List D) (i : Nat) : Nat := match Z[i]? with
  | some d => if ks ≤ i ∧ p d = true then 1 else 0
  | none => 0
theorem cnt_take (p : D → Bool) (ks : Nat) (Z : List D) : ∀ j, j ≤ Z.length → (((Z.take j).drop ks).filter p).length = Sm (bN p ks Z) j
  | 0, _ => by simp [Sm]
  | j + 1, h => by
    have ih := cnt_take p ks Z j (by omega)
    have hj : j < Z.length := h
    have eb : bN p ks Z j = if ks ≤ j ∧ p Z[j] = true then 1 else 0 := by unfold bN; rw [List.getElem?_eq_getElem hj]
    rw [Sm, ← ih, eb, List.take_add_one, List.getElem?_eq_getElem hj]
    by_cases c : ks ≤ j
    · rw [List.drop_append_of_le_length (by rw [List.length_take]; omega), List.filter_append, List.length_append]
      congr 1
      cases q : p Z[j] <;> simp [q, c]
    · have e1 : (Z.take j ++ (some Z[j]).toList).drop ks = [] := List.drop_eq_nil_of_le (by simp; omega)
      have e2 : (Z.take j).drop ks = [] := List.drop_eq_nil_of_le (by simp; omega)
      rw [e1, e2]
      simp [c]
theorem cnt_all (p : D → Bool) (ks : Nat) (Z : List D) : ((Z.drop ks).filter p).length = Sm (bN p ks Z) Z.length := by
  have := cnt_take p ks Z Z.length (Nat.le_refl _)
  rwa [List.take_length] at this
end PV
namespace PG
open PySem L2 PV PyProof.Rows K1
variable {mu : Sto}
theorem nm_inj {ts : List Tb} (hS : SOk ts) {t u : Tb} (h1 : t ∈ ts) (h2 : u ∈ ts) (e : u.nm = t.nm) : u = t := by
  obtain ⟨i, hi, rfl⟩ := List.getElem_of_mem h1
  obtain ⟨j, hj, rfl⟩ := List.getElem_of_mem h2
  have := (List.getElem_inj (i := j) (j := i) (h₀ := by simpa using hj) (h₁ := by simpa using hi) hS.nd).mp (by simpa using e)
  subst this
  rfl
theorem head_is {α : Type} {l : List α} {a : α} (h0 : a ∈ l) (h : ∀ x ∈ l, x = a) : ∃ r, l = a :: r := by
  cases l with
  | nil => cases h0
  | cons b r => exact ⟨r, by rw [h b (.head _)]⟩
theorem named {ts : List Tb} (hS : SOk ts) {t : Tb} (ht : t ∈ ts) : ∃ r, (ts.map tbD).filter (fun d => decide (fst0 d = .str t.nm)) = tbD t :: r := by
  refine head_is ?_ fun d hd => ?_
  · rw [List.mem_filter]
    exact ⟨List.mem_map_of_mem ht, by simp [tbD, fst0]⟩
  · obtain ⟨h1, h2⟩ := List.mem_filter.mp hd
    obtain ⟨u, hu, rfl⟩ := List.mem_map.mp h1
    have : u.nm = t.nm := by simpa [tbD, fst0] using h2
    rw [nm_inj hS ht hu this]
theorem table_run {ts : List Tb} (hS : SOk ts) {t : Tb} (ht : t ∈ ts) : f_table_of [.tup (ts.map tbD), .str t.nm] mu = some (tbD t, mu) := by
  have lc := lc_pure (m0 := mu) (tg := gNm 0) (tt := (tV (eBin eqD (eBin ixG (eVar 0) (eC (.int 0))) (eVar 1)))) (el := eVar 0) (ro := [none, some (.str t.nm)]) (mu := mu) (fun d => decide (fst0 d = .str t.nm)) id (ts.map tbD) (fun d hd => by
    obtain ⟨u, hu, rfl⟩ := List.mem_map.mp hd
    refine ⟨[some (tbD u), some (.str t.nm)], rfl, ?_, fun _ => rfl⟩
    have e : tbD u = .tup [.str u.nm, .tup (u.cs.map clD), .int u.ks] := rfl
    have ek := z_eqK (mu := mu) ((Hn.str u.nm).K (by decide)) ((Hn.str t.nm).K (by decide))
    rw [e]
    simp only [ek, fst0, z_tV, z_bin, z_v0, z_C, z_bM, z_ixT0, z_v1, z_asB, Option.map_some]
    have : (D.str u.nm = D.str t.nm) ↔ u.nm = t.nm := ⟨fun e => by injection e, fun e => by rw [e]⟩
    simp [this])
  obtain ⟨r, er⟩ := named hS ht
  rw [List.map_id, er] at lc
  simp only [f_table_of, m_table_of, lc, z_fnB, List.map_cons, List.map_nil, List.length_cons, List.length_nil, Nat.zero_add, Nat.reduceAdd, Nat.reduceSub, List.replicate_zero, List.cons_append, List.nil_append, z_rt, z_bin, z_lc, z_iV, z_v0, z_bM, z_wT, z_r0, List.replicate_succ, List.getD_cons_succ, List.getD_cons_zero, z_C, z_ixL0, z_outR]
noncomputable def pF (d : D) : Bool := match d with
  | .tup [x, .tup [_, .tup (v :: _)]] => !decide (x = v)
  | _ => false
noncomputable def pE (d : D) : Bool := match d with
  | .tup [x, y] => !decide (x = y)
  | _ => false
def comeZ (t : Tb) (r : List Str) : List D := zipD (r.map D.str) (t.cs.map clD)
def bothZ (a b : List Str) : List D := zipD (a.map D.str) (b.map D.str)
theorem comeZ_at {t : Tb} {r : List Str} (hr : RwOk t r) {i : Nat} (hi : i < t.cs.length) : ∃ x p, r[i]? = some x ∧ t.cs[i]? = some p ∧ (comeZ t r)[i]? = some (.tup [.str x, clD p]) := by
  have h1 : i < r.length := by rw [hr.len]; exact hi
  refine ⟨r[i], t.cs[i], List.getElem?_eq_getElem h1, List.getElem?_eq_getElem hi, ?_⟩
  unfold comeZ zipD
  rw [List.getElem?_map, (List.getElem?_zip_eq_some (z := (.str r[i], clD t.cs[i]))).mpr ⟨by simp [h1], by simp [hi]⟩]
  rfl
theorem comeZ_len {t : Tb} {r : List Str} (hr : RwOk t r) : (comeZ t r).length = t.cs.length := by
  unfold comeZ zipD
  rw [List.length_map, List.length_zip, List.length_map, List.length_map, hr.len, Nat.min_self]
theorem come_run {t : Tb} (ht : TbOk t) {r : List Str} (hr : RwOk t r) : f_cost_to_come [tbD t, rwD r] mu = some (.int ((t.cs.length + Sm (bN pF t.ks (comeZ t r)) t.cs.length : Nat) : Int), mu) := by
  have lz : ∀ ro, eVar 1 ro mu = some (rwD r, mu) → eVar 3 ro mu = some (.tup (t.cs.map clD), mu) → eLZ (aCons (eVar 1) (aCons (eVar 3) (aNil))) ro mu = some (.lst (comeZ t r), mu) := fun ro h1 h2 => by
    unfold eLZ
    simp only [z_aC, z_aN, h1, h2, z_bM]
    rfl
  have cl := comeZ_len hr
  have ct : PV.cutD (comeZ t r) (some (t.ks : Int)) none = (comeZ t r).drop t.ks := cut_from (by rw [cl]; exact ht.k4)
  have lc := lc_pure (m0 := mu) (tg := (gTp 2 (gsCons (gNm 0) (gsCons (gTp 2 (gsCons (gNm 1) (gsCons (gNm 2) (gsNil)))) (gsNil))))) (tt := (tV (eBin neD (eVar 0) (eBin ixG (eVar 2) (eC (.int 0)))))) (el := eVar 0) (ro := [none, none, none]) (mu := mu) pF (fun d => match d with | .tup [x, _] => x | _ => .non) ((comeZ t r).drop t.ks) (fun d hd => by
    obtain ⟨i, hi⟩ := List.mem_iff_getElem?.mp (List.mem_of_mem_drop hd)
    have hl := (List.getElem?_eq_some_iff.mp hi).1
    rw [cl] at hl
    obtain ⟨x, p, h1, h2, h3⟩ := comeZ_at hr hl
    rw [hi] at h3
    cases h3
    obtain ⟨v, vs, ev⟩ : ∃ v vs, p.2 = v :: vs := by
      have := (ht.vs p (List.mem_of_getElem? h2)).1
      cases q : p.2 with
      | nil => exact (this q).elim
      | cons v vs => exact ⟨v, vs, rfl⟩
    have ec : clD p = .tup [.str p.1, .tup (.str v :: vs.map D.str)] := by unfold clD; rw [ev]; rfl
    rw [ec]
    have nk := z_neK (mu := mu) ((Hn.str x).K (by decide)) ((Hn.str v).K (by decide))
    refine ⟨[some (.str x), some (.str p.1), some (.tup (.str v :: vs.map D.str))], rfl, ?_, fun _ => rfl⟩
    simp only [nk, pF, z_tV, z_bin, z_v0, z_v2, z_C, z_bM, z_ixT0, z_asB, Option.map_some])
  have ln : ((((comeZ t r).drop t.ks).filter pF).map fun d => match d with | .tup [x, _] => x | _ => .non).length = Sm (bN pF t.ks (comeZ t r)) t.cs.length := by
    rw [List.length_map, cnt_all, cl]
  have rl := hr.len
  have tt : tbD t = .tup [.str t.nm, .tup (t.cs.map clD), .int t.ks] := rfl
  have l2 := lz [some (tbD t), some (rwD r), some (.str t.nm), some (.tup (t.cs.map clD)), some (.int t.ks), none] rfl rfl
  have lr : lenG [rwD r] mu = some (.int (r.length : Nat), mu) := by unfold rwD; rw [z_lenT, List.length_map]
  rw [tt] at l2 ⊢
  simp only [f_cost_to_come, m_cost_to_come, l2, ct, lc, lr, ln, rl, z_fnB, List.map_cons, List.map_nil, List.length_cons, List.length_nil, Nat.zero_add, Nat.reduceAdd, Nat.reduceSub, List.replicate_succ, List.replicate_zero, List.cons_append, List.nil_append, z_seq, z_set, z_v0, z_bM, z_gTp3, z_gsC, z_gNm, List.set_cons_succ, List.set_cons_zero, z_gsN, z_seqB, z_sl, z_pS, z_v4, z_pB, z_pNo, z_slL, z_rt, z_bin, z_call, z_aC, z_v1, z_aN, z_lc, z_iV, z_v5, z_wL, z_r0, z_lenL, z_addI, z_outR]
  rfl
theorem bothZ_at {a b : List Str} (h : a.length = b.length) {i : Nat} (hi : i < a.length) : ∃ x y, a[i]? = some x ∧ b[i]? = some y ∧ (bothZ a b)[i]? = some (.tup [.str x, .str y]) := by
  have h1 : i < b.length := by omega
  refine ⟨a[i], b[i], List.getElem?_eq_getElem hi, List.getElem?_eq_getElem h1, ?_⟩
  unfold bothZ zipD
  rw [List.getElem?_map, (List.getElem?_zip_eq_some (z := (.str a[i], .str b[i]))).mpr ⟨by simp [hi], by simp [h1]⟩]
  rfl
theorem bothZ_len {a b : List Str} (h : a.length = b.length) : (bothZ a b).length = a.length := by
  unfold bothZ zipD
  rw [List.length_map, List.length_zip, List.length_map, List.length_map, h, Nat.min_self]
noncomputable def cost (t : Tb) (be af : D) : Nat := match be, af with
  | .non, .tup r => t.cs.length + Sm (bN pF t.ks (zipD r (t.cs.map clD))) t.cs.length
  | .tup b, .tup a => Sm (bN pE 0 (zipD a b)) t.cs.length
  | _, _ => t.cs.length
theorem between_run {t : Tb} (ht : TbOk t) {be af : D} (hb : RN t be) (ha : RN t af) (ne : be ≠ af) : f_cost_between [tbD t, be, af] mu = some (.int (cost t be af : Nat), mu) := by
  rcases hb with rfl | ⟨b, rfl, hb⟩
  · rcases ha with rfl | ⟨a, rfl, ha⟩
    · exact (ne rfl).elim
    · have cr := come_run (mu := mu) ht ha
      have ce : cost t .non (rwD a) = t.cs.length + Sm (bN pF t.ks (comeZ t a)) t.cs.length := rfl
      have ra : rwD a = .tup (a.map D.str) := rfl
      rw [ce]
      rw [ra] at cr ⊢
      simp only [f_cost_between, m_cost_between, z_isN, z_isT, cr, z_fnB, List.map_cons, List.map_nil, List.length_cons, List.length_nil, Nat.zero_add, Nat.reduceAdd, Nat.reduceSub, List.replicate_zero, List.cons_append, List.nil_append, z_seq, z_sIf, z_tV, z_bin, z_v1, z_C, z_bM, z_asB, Option.map_some, z_rt, z_if, z_v2, z_call, z_aC, z_v0, z_aN, Bool.false_eq_true, ↓reduceIte, z_sNx, z_seqR, z_outR]
  · rcases ha with rfl | ⟨a, rfl, ha⟩
    · have ce : cost t (rwD b) .non = t.cs.length := rfl
      have rb : rwD b = .tup (b.map D.str) := rfl
      have bl := hb.len
      rw [ce, rb]
      simp only [f_cost_between, m_cost_between, z_isN, z_isT, List.length_map, bl, z_fnB, List.map_cons, List.map_nil, List.length_cons, List.length_nil, Nat.zero_add, Nat.reduceAdd, Nat.reduceSub, List.replicate_zero, List.cons_append, List.nil_append, z_seq, z_sIf, z_tV, z_bin, z_v1, z_C, z_bM, z_asB, Option.map_some, z_rt, z_if, z_v2, z_call, z_aC, z_v0, z_aN, ↓reduceIte, z_sNx, Bool.false_eq_true, z_seqB, z_lenT, z_seqR, z_outR]
    · have ll : a.length = b.length := by rw [ha.len, hb.len]
      have zl := bothZ_len ll
      have lc := lc_pure (m0 := mu) (tg := (gTp 2 (gsCons (gNm 0) (gsCons (gNm 1) (gsNil))))) (tt := (tV (eBin neD (eVar 0) (eVar 1)))) (el := eVar 0) (ro := [none, none]) (mu := mu) pE (fun d => match d with | .tup [x, _] => x | _ => .non) (bothZ a b) (fun d hd => by
        obtain ⟨i, hi⟩ := List.mem_iff_getElem?.mp hd
        have hl := (List.getElem?_eq_some_iff.mp hi).1
        rw [zl] at hl
        obtain ⟨x, y, h1, h2, h3⟩ := bothZ_at ll hl
        rw [hi] at h3
        cases h3
        have nk := z_neK (mu := mu) ((Hn.str x).K (by decide)) ((Hn.str y).K (by decide))
        refine ⟨[some (.str x), some (.str y)], rfl, ?_, fun _ => rfl⟩
        simp only [nk, pE, z_tV, z_bin, z_v0, z_v1, z_bM, z_asB, Option.map_some])
      have ln : (((bothZ a b).filter pE).map fun d => match d with | .tup [x, _] => x | _ => .non).length = Sm (bN pE 0 (bothZ a b)) t.cs.length := by
        have := cnt_all pE 0 (bothZ a b)
        rw [List.drop_zero, zl, ha.len] at this
        rw [List.length_map, this]
      have ce : cost t (rwD b) (rwD a) = Sm (bN pE 0 (bothZ a b)) t.cs.length := rfl
      have rb : rwD b = .tup (b.map D.str) := rfl
      have ra : rwD a = .tup (a.map D.str) := rfl
      have zp : iZpG (aCons (eVar 2) (aCons (eVar 1) (aNil))) [some (tbD t), some (.tup (b.map D.str)), some (.tup (a.map D.str))] mu = some ((bothZ a b, none), mu) := rfl
      rw [ce, rb, ra]
      simp only [f_cost_between, m_cost_between, z_isN, z_isT, zp, lc, ln, z_fnB, List.map_cons, List.map_nil, List.length_cons, List.length_nil, Nat.zero_add, Nat.reduceAdd, Nat.reduceSub, List.replicate_zero, List.cons_append, List.nil_append, z_seq, z_sIf, z_tV, z_bin, z_v1, z_C, z_bM, z_asB, Option.map_some, z_rt, z_if, z_v2, z_call, z_aC, z_v0, z_aN, Bool.false_eq_true, ↓reduceIte, z_sNx, z_seqB, z_lenT, z_lc, z_r0, List.replicate_succ, z_lenL, z_outR]
end PG
namespace PV
open PySem L2 PyProof.Rows K1
variable {mu : Sto}
theorem z_sum {is : List Int} : sumF [.lst (is.map D.int)] mu = some (.int is.sum, mu) := by
  simp only [sumF, arg1, lstOf, intsOf_map, Option.map_some]
theorem z_intB {b : Bool} : intF [.bl b] mu = some (.int (if b = true then 1 else 0), mu) := rfl
theorem py_strs (vs : List Str) : toPys (vs.map D.str) = vs.map PyData.str := by
  induction vs with
  | nil => rfl
  | cons v vs ih => rw [List.map_cons, toPys, ih]; rfl
theorem spot_lt {vs : List Str} {x : Str} (h : x ∈ vs) : spot (vs.map D.str) (.str x) < (toPys (vs.map D.str)).length := by
  unfold spot
  refine List.findIdx_lt_length_of_exists ⟨.str x, ?_, ?_⟩
  · rw [py_strs]
    exact List.mem_map_of_mem h
  · simp [toPy, PyData.eqv]
theorem spot_pos {v : Str} {vs : List Str} {x : Str} : decide ((0 : Int) < ((spot ((v :: vs).map D.str) (.str x) : Nat) : Int)) = !decide (D.str x = D.str v) := by
  have e : (D.str x = D.str v) ↔ v = x := ⟨fun e => by injection e with e; exact e.symm, fun e => by rw [e]⟩
  unfold spot
  rw [List.map_cons, toPys, List.findIdx_cons]
  by_cases c : v = x
  · subst c
    simp [toPy, PyData.eqv]
  · have : ¬ x = v := fun z => c z.symm
    simp [toPy, PyData.eqv, c, this]
    rw [beq_false_of_ne c]
    exact Nat.succ_pos _
theorem idx_run {vs : List Str} {x : Str} (h : x ∈ vs) : idxD (.tup (vs.map D.str)) [.str x] mu = some (.int (spot (vs.map D.str) (.str x) : Nat), mu) := by
  have hd : min (PyData.depthAll (toPys (vs.map D.str))) (toPy (.str x)).depth ≤ 60 := Nat.le_trans (Nat.min_le_right _ _) (dep_str x)
  have hp : pureD (.str x) = true := rfl
  have hl := spot_lt h
  simp only [idxD, arg1, hp, pure_strs, hd, hl, decide_true, Bool.and_self, if_true]
def idB (a : Exs) (ro : Ro) : D → Sto → Rs D
  | .tup ds, m1 => bM (a ro m1) fun xs m2 => idxD (.tup ds) xs m2
  | _, _ => none
theorem z_idx {a : Ex} {e : Exs} {ro : Ro} : eIdx a e ro mu = bM (a ro mu) (idB e ro) := by
  unfold eIdx
  congr 1
  funext x m
  cases x <;> rfl
theorem z_idB {e : Exs} {ro : Ro} {ds : List D} : idB e ro (.tup ds) mu = bM (e ro mu) fun xs m2 => idxD (.tup ds) xs m2 := rfl
theorem z_en {a : Ex} {ro : Ro} {ds : List D} {m1 : Sto} (h : a ro mu = some (.tup ds, m1)) : iEn (aCons a aNil) ro mu = some ((enD ds, none), m1) := by
  unfold iEn
  simp only [z_aC, z_aN, h, z_bM]
  rfl
end PV
namespace PG
open PySem L2 PV PyProof.Rows K1
variable {mu : Sto}
noncomputable def cst (ts : List Tb) (nm : Str) (be af : D) : Nat := match ts.find? (fun t => decide (t.nm = nm)) with
  | some t => cost t be af
  | none => 0
theorem cst_is {ts : List Tb} (hS : SOk ts) {t : Tb} (ht : t ∈ ts) (be af : D) : cst ts t.nm be af = cost t be af := by
  unfold cst
  cases q : ts.find? (fun u => decide (u.nm = t.nm)) with
  | none =>
    have := List.find?_eq_none.mp q t ht
    simp at this
  | some u =>
    have h1 := List.mem_of_find?_eq_some q
    have h2 := List.find?_some q
    rw [nm_inj hS ht h1 (by simpa using h2)]
noncomputable def cstP (ts : List Tb) (p : Pt) : Nat := cst ts p.nm p.be p.af
theorem cost_run {ts : List Tb} (hS : SOk ts) {ps : List Pt} (hp : ∀ p ∈ ps, PtOk ts p) : f_cost_of [.tup (ts.map tbD), .tup (ps.map ptD)] mu = some (.int ((ps.map fun p => ((cstP ts p : Nat) : Int)).sum), mu) := by
  have lc := lc_all (m0 := mu) (tg := gTp 4 (gsCons (gNm 0) (gsCons (gNm 1) (gsCons (gNm 2) (gsCons (gNm 3) (gsNil)))))) (el := (eCall f_cost_between (aCons (eCall f_table_of (aCons (eVar 4) (aCons (eVar 0) (aNil)))) (aCons (eVar 2) (aCons (eVar 3) (aNil)))))) (ro := [none, none, none, none, some (.tup (ts.map tbD))]) (mu := mu) (fun d => match d with | .tup [.str nm, _, be, af] => .int (cst ts nm be af : Nat) | _ => .non) (ps.map ptD) (fun d hd => by
    obtain ⟨p, hpm, rfl⟩ := List.mem_map.mp hd
    obtain ⟨t, ht, en, hb, ha⟩ := (hp p hpm).ex
    have tr := table_run (mu := mu) hS ht
    have br := between_run (mu := mu) (hS.ok t ht) hb ha (hp p hpm).ne
    have ci := cst_is hS ht p.be p.af
    rw [en] at tr ci
    refine ⟨[some (.str p.nm), some (.tup (p.key.map D.str)), some p.be, some p.af, some (.tup (ts.map tbD))], rfl, ?_⟩
    simp only [tr, br, ptD, ci, z_call, z_aC, z_v4, z_v0, z_aN, z_bM, z_v2, z_v3])
  have e : ((ps.map ptD).map fun d => match d with | .tup [.str nm, _, be, af] => D.int (cst ts nm be af : Nat) | _ => .non) = (ps.map fun p => ((cstP ts p : Nat) : Int)).map D.int := by
    (rw [List.map_map, List.map_map])
    rfl
  rw [e] at lc
  simp only [f_cost_of, m_cost_of, lc, z_sum, z_fnB, List.map_cons, List.map_nil, List.length_cons, List.length_nil, Nat.zero_add, Nat.reduceAdd, Nat.reduceSub, List.replicate_zero, List.cons_append, List.nil_append, z_rt, z_call, z_aC, z_lc, z_iV, z_v1, z_bM, z_wT, z_r0, List.replicate_succ, List.getD_cons_zero, z_aN, z_outR]
noncomputable def pco (t : Tb) (be af : D) (j : Nat) : Nat := match be, af with
  | .non, .tup r => j + Sm (bN pF t.ks (zipD r (t.cs.map clD))) j
  | .tup b, .tup a => Sm (bN pE 0 (zipD a b)) j
  | _, _ => j
noncomputable def lBd : Sx := (sIf (tV (eBin isD (eVar 5) (eC .non))) (sSet (eBin addD (eBin addD (eVar 2) (eC (.int 1))) (eCall intF (aCons (eAn (eBin geD (eVar 9) (eVar 8)) (eBin gtD (eIdx (eVar 11) (aCons (eBin ixG (eVar 6) (eVar 9)) (aNil))) (eC (.int 0)))) (aNil)))) (gNm 2)) (sIf (tV (eBin isD (eVar 6) (eC .non))) (sSet (eBin addD (eVar 2) (eC (.int 1))) (gNm 2)) (sIf (tV (eBin neD (eBin ixG (eVar 5) (eVar 9)) (eBin ixG (eVar 6) (eVar 9)))) (sSet (eBin addD (eVar 2) (eC (.int 1))) (gNm 2)) (sNx))))
theorem l_step {t : Tb} (ht : TbOk t) {be af : D} (hb : RN t be) (ha : RN t af) (ne : be ≠ af) {j : Nat} {p : Str × List Str} (hj : t.cs[j]? = some p) {T : Nat} {x0 x1 x3 x4 x7 : Option D} :
    lBd [x0, x1, some (.int (T + pco t be af j : Nat)), x3, x4, some be, some af, x7, some (.int t.ks), some (.int j), some (.str p.1), some (.tup (p.2.map D.str))] mu = some ((.nx, [x0, x1, some (.int (T + pco t be af (j + 1) : Nat)), x3, x4, some be, some af, x7, some (.int t.ks), some (.int j), some (.str p.1), some (.tup (p.2.map D.str))]), mu) := by
  have jl := (List.getElem?_eq_some_iff.mp hj).1
  unfold lBd
  rcases hb with rfl | ⟨b, rfl, hb⟩
  · rcases ha with rfl | ⟨a, rfl, ha⟩
    · exact (ne rfl).elim
    · obtain ⟨x, p', h1, h2, h3⟩ := comeZ_at ha jl
      rw [hj] at h2
      cases h2
      have hx : x ∈ p.2 := ha.at' j x p h1 hj
      obtain ⟨v, vs, ev⟩ : ∃ v vs, p.2 = v :: vs := by
        cases q : p.2 with
        | nil => rw [q] at hx; cases hx
        | cons v vs => exact ⟨v, vs, rfl⟩
      have ix : ixG (.tup (a.map D.str)) (.int j) mu = some (.str x, mu) := z_ix _ (.inr rfl) (by rw [List.getElem?_map, h1]; rfl)
      have id := idx_run (mu := mu) hx
      have sp := spot_pos (v := v) (vs := vs) (x := x)
      rw [← ev] at sp
      have pe : pco t .non (rwD a) (j + 1) = pco t .non (rwD a) j + 1 + (if (decide ((t.ks : Int) ≤ (j : Int)) && !decide (D.str x = D.str v)) = true then 1 else 0) := by
        have e1 : pco t .non (rwD a) (j + 1) = j + 1 + (Sm (bN pF t.ks (comeZ t a)) j + bN pF t.ks (comeZ t a) j) := rfl
        have e2 : pco t .non (rwD a) j = j + Sm (bN pF t.ks (comeZ t a)) j := rfl
        have e3 : bN pF t.ks (comeZ t a) j = if t.ks ≤ j ∧ pF (.tup [.str x, clD p]) = true then 1 else 0 := by unfold bN; rw [h3]
        have e4 : pF (.tup [.str x, clD p]) = !decide (D.str x = D.str v) := by unfold clD; rw [ev]; rfl
        rw [e1, e2, e3, e4]
        by_cases c1 : t.ks ≤ j
        · have c1' : (t.ks : Int) ≤ (j : Int) := by omega
          cases q : decide (D.str x = D.str v) <;> simp [c1, c1', q] <;> omega
        · have c1' : ¬ (t.ks : Int) ≤ (j : Int) := by omega
          simp [c1, c1']
          omega
      have ra : rwD a = .tup (a.map D.str) := rfl
      rw [pe, ra]
      simp only [z_isN, z_idx, z_idB, ix, id, z_intB, sp, Int.natCast_add, Int.natCast_one, z_sIf, z_tV, z_bin, z_v5, z_C, z_bM, z_asB, Option.map_some, z_set, z_v2, z_addI, z_call, z_aC, z_an2, z_v9, z_v8, z_geI, z_anB, z_v11, z_v6, z_aN, z_gNm, List.set_cons_succ, List.set_cons_zero, z_sNx, ↓reduceIte, z_gtI, z_iA, Bool.decide_eq_true]
      congr 1
      cases (decide ((t.ks : Int) ≤ (j : Int)) && !decide (D.str x = D.str v)) <;> simp <;> omega
  · have rb : rwD b = .tup (b.map D.str) := rfl
    rcases ha with rfl | ⟨a, rfl, ha⟩
    · have e1 : pco t (rwD b) .non (j + 1) = j + 1 := rfl
      have e2 : pco t (rwD b) .non j = j := rfl
      rw [e1, e2, rb]
      simp only [z_isN, z_isT, z_sIf, z_tV, z_bin, z_v5, z_C, z_bM, z_asB, Option.map_some, z_set, z_v2, z_addI, z_call, z_aC, z_an2, z_v9, z_v8, z_geI, z_anB, z_aN, z_gNm, List.set_cons_succ, List.set_cons_zero, z_v6, z_sNx, ↓reduceIte, Bool.false_eq_true]
      rfl
    · have ll : a.length = b.length := by rw [ha.len, hb.len]
      obtain ⟨x, y, h1, h2, h3⟩ := bothZ_at ll (show j < a.length by rw [ha.len]; exact jl)
      have ix : ixG (.tup (a.map D.str)) (.int j) mu = some (.str x, mu) := z_ix _ (.inr rfl) (by rw [List.getElem?_map, h1]; rfl)
      have iy : ixG (.tup (b.map D.str)) (.int j) mu = some (.str y, mu) := z_ix _ (.inr rfl) (by rw [List.getElem?_map, h2]; rfl)
      have nk := z_neK (mu := mu) ((Hn.str y).K (by decide)) ((Hn.str x).K (by decide))
      have e1 : pco t (rwD b) (rwD a) (j + 1) = pco t (rwD b) (rwD a) j + bN pE 0 (bothZ a b) j := rfl
      have e3 : bN pE 0 (bothZ a b) j = if 0 ≤ j ∧ pE (.tup [.str x, .str y]) = true then 1 else 0 := by unfold bN; rw [h3]
      have e4 : pE (.tup [.str x, .str y]) = !decide (D.str x = D.str y) := rfl
      have ra : rwD a = .tup (a.map D.str) := rfl
      rw [e1, e3, e4]
      by_cases c : x = y
      · subst c
        have d1 : decide (D.str x = D.str x) = true := by simp
        rw [rb, ra]
        simp only [z_isT, ix, iy, nk, d1, Nat.zero_le, true_and, Nat.add_zero, z_sIf, z_tV, z_bin, z_v5, z_C, z_bM, z_asB, Option.map_some, z_set, z_v2, z_addI, z_call, z_aC, z_an2, z_v9, z_v8, z_geI, z_anB, z_aN, z_gNm, List.set_cons_succ, List.set_cons_zero, z_v6, z_sNx, Bool.false_eq_true, ↓reduceIte, decide_true, Bool.not_true]
      · have d1 : decide (D.str y = D.str x) = false := by simp [Ne.symm c]
        have d2 : decide (D.str x = D.str y) = false := by simp [c]
        rw [rb, ra]
        simp only [z_isT, ix, iy, nk, d1, d2, Nat.zero_le, true_and, z_sIf, z_tV, z_bin, z_v5, z_C, z_bM, z_asB, Option.map_some, z_set, z_v2, z_addI, z_call, z_aC, z_an2, z_v9, z_v8, z_geI, z_anB, z_aN, z_gNm, List.set_cons_succ, List.set_cons_zero, z_v6, z_sNx, Bool.false_eq_true, ↓reduceIte, Bool.not_false]
        rfl
end PG
namespace PG
open PySem L2 PV PyProof.Rows K1
variable {mu : Sto}
noncomputable def pBd : Sx := (sSeq (sSet (eBin ixG (eLC (iVal (eVar 0)) 1 [3] (gNm 0) (tV (eBin eqD (eBin ixG (eVar 0) (eC (.int 0))) (eVar 1))) (eSl (eVar 0) (pSome (eC (.int 1))) (pNo))) (eC (.int 0))) (gTp 2 (gsCons (gNm 7) (gsCons (gNm 8) (gsNil))))) (sFor (iEn (aCons (eVar 7) (aNil))) (gTp 2 (gsCons (gNm 9) (gsCons (gTp 2 (gsCons (gNm 10) (gsCons (gNm 11) (gsNil)))) (gsNil)))) lBd))
theorem cost_pco (t : Tb) (be af : D) : pco t be af t.cs.length = cost t be af := by
  unfold pco cost
  cases be <;> cases af <;> rfl
theorem pco_zero (t : Tb) {be af : D} (hb : RN t be) (ha : RN t af) : pco t be af 0 = 0 := by
  rcases hb with rfl | ⟨b, rfl, _⟩ <;> rcases ha with rfl | ⟨a, rfl, _⟩ <;> rfl
theorem p_step {ts : List Tb} (hS : SOk ts) {p : Pt} (hp : PtOk ts p) {T : Nat} {x1 : D} {x7 x8 x9 x10 x11 : Option D} :
    ∃ y7 y8 y9 y10 y11, pBd [some (.tup (ts.map tbD)), some x1, some (.int (T : Nat)), some (.str p.nm), some (.tup (p.key.map D.str)), some p.be, some p.af, x7, x8, x9, x10, x11] mu = some ((.nx, [some (.tup (ts.map tbD)), some x1, some (.int (T + cstP ts p : Nat)), some (.str p.nm), some (.tup (p.key.map D.str)), some p.be, some p.af, y7, y8, y9, y10, y11]), mu) := by
  obtain ⟨t, ht, en, hb, ha⟩ := hp.ex
  have ci : cstP ts p = cost t p.be p.af := by
    have := cst_is hS ht p.be p.af
    rw [en] at this
    exact this
  have lc := lc_pure (m0 := mu) (tg := gNm 0) (tt := (tV (eBin eqD (eBin ixG (eVar 0) (eC (.int 0))) (eVar 1)))) (el := (eSl (eVar 0) (pSome (eC (.int 1))) (pNo))) (ro := [none, some (.str t.nm)]) (mu := mu) (fun d => decide (fst0 d = .str t.nm)) (fun d => match d with | .tup [_, c, k] => .tup [c, k] | _ => .non) (ts.map tbD) (fun d hd => by
    obtain ⟨u, hu, rfl⟩ := List.mem_map.mp hd
    have e : tbD u = .tup [.str u.nm, .tup (u.cs.map clD), .int u.ks] := rfl
    have ek := z_eqK (mu := mu) ((Hn.str u.nm).K (by decide)) ((Hn.str t.nm).K (by decide))
    rw [e]
    refine ⟨[some (.tup [.str u.nm, .tup (u.cs.map clD), .int u.ks]), some (.str t.nm)], rfl, ?_, fun _ => ?_⟩
    · simp only [ek, fst0, z_tV, z_bin, z_v0, z_C, z_bM, z_ixT0, z_v1, z_asB, Option.map_some]
      have : (D.str u.nm = D.str t.nm) ↔ u.nm = t.nm := ⟨fun e => by injection e, fun e => by rw [e]⟩
      simp [this]
    · simp only [List.drop_succ_cons, List.drop_zero, z_sl, z_v0, z_pS, z_C, z_bM, z_pB, z_pNo, z_slT, z_cut1])
  obtain ⟨r, er⟩ := named hS ht
  rw [er, List.map_cons, en] at lc
  have tt : tbD t = .tup [.str t.nm, .tup (t.cs.map clD), .int t.ks] := rfl
  rw [tt] at lc
  dsimp only at lc
  obtain ⟨ro', m', e, ⟨y9, y10, y11, er'⟩, em⟩ := for_ind (m0 := mu) (tg := (gTp 2 (gsCons (gNm 9) (gsCons (gTp 2 (gsCons (gNm 10) (gsCons (gNm 11) (gsNil)))) (gsNil))))) (body := lBd) (fun i ro m => (∃ y9 y10 y11, ro = [some (.tup (ts.map tbD)), some x1, some (.int (T + pco t p.be p.af i : Nat)), some (.str p.nm), some (.tup (p.key.map D.str)), some p.be, some p.af, some (.tup (t.cs.map clD)), some (.int t.ks), y9, y10, y11]) ∧ m = mu) (enD (t.cs.map clD)) 0
    [some (.tup (ts.map tbD)), some x1, some (.int (T : Nat)), some (.str p.nm), some (.tup (p.key.map D.str)), some p.be, some p.af, some (.tup (t.cs.map clD)), some (.int t.ks), x9, x10, x11] mu ⟨⟨x9, x10, x11, by rw [pco_zero t hb ha, Nat.add_zero]⟩, rfl⟩ fun j d ro m ed ⟨⟨y9, y10, y11, er⟩, em⟩ => by
      subst er em
      obtain ⟨y, hy, rfl⟩ := enD_at ed
      rw [List.getElem?_map] at hy
      cases q : t.cs[j]? with
      | none => rw [q] at hy; cases hy
      | some c =>
        rw [q] at hy
        have hy' : clD c = y := Option.some.inj hy
        subst hy'
        rw [Nat.zero_add]
        exact ⟨_, m, _, m, rfl, l_step (hS.ok t ht) hb ha hp.ne q, ⟨_, _, _, rfl⟩, rfl⟩
  subst er' em
  rw [enD_len, List.length_map, Nat.zero_add, cost_pco, ← ci] at e
  have en' := z_en (mu := m') (a := eVar 7) (ro := [some (.tup (ts.map tbD)), some x1, some (.int (T : Nat)), some (.str p.nm), some (.tup (p.key.map D.str)), some p.be, some p.af, some (.tup (t.cs.map clD)), some (.int t.ks), x9, x10, x11]) rfl
  refine ⟨some (.tup (t.cs.map clD)), some (.int t.ks), y9, y10, y11, ?_⟩
  unfold pBd
  simp only [lc, en', e, z_seq, z_set, z_bin, z_lc, z_iV, z_v0, z_bM, z_wT, z_r0, List.replicate_succ, List.replicate_zero, List.map_cons, List.getD_cons_succ, List.getD_cons_zero, List.map_nil, List.cons_append, List.nil_append, z_C, z_ixL0, z_gTp2, z_gsC, z_gNm, List.set_cons_succ, List.set_cons_zero, z_gsN, z_seqB, z_for]
theorem lawcost_run {ts : List Tb} (hS : SOk ts) {ps : List Pt} (hp : ∀ p ∈ ps, PtOk ts p) : f_law_cost [.tup (ts.map tbD), .tup (ps.map ptD)] mu = some (.int ((ps.map (cstP ts)).sum : Nat), mu) := by
  obtain ⟨ro', m', e, ⟨y3, y4, y5, y6, y7, y8, y9, y10, y11, er'⟩, em⟩ := for_ind (m0 := mu) (tg := (gTp 4 (gsCons (gNm 3) (gsCons (gNm 4) (gsCons (gNm 5) (gsCons (gNm 6) (gsNil))))))) (body := pBd) (fun i ro m => (∃ y3 y4 y5 y6 y7 y8 y9 y10 y11, ro = [some (.tup (ts.map tbD)), some (.tup (ps.map ptD)), some (.int (((ps.take i).map (cstP ts)).sum : Nat)), y3, y4, y5, y6, y7, y8, y9, y10, y11]) ∧ m = mu) (ps.map ptD) 0
    [some (.tup (ts.map tbD)), some (.tup (ps.map ptD)), some (.int 0), none, none, none, none, none, none, none, none, none] mu ⟨⟨_, _, _, _, _, _, _, _, _, rfl⟩, rfl⟩ fun j d ro m ed ⟨⟨y3, y4, y5, y6, y7, y8, y9, y10, y11, er⟩, em⟩ => by
      subst er em
      rw [List.getElem?_map] at ed
      cases q : ps[j]? with
      | none => rw [q] at ed; cases ed
      | some p =>
        rw [q] at ed
        have ed' : ptD p = d := Option.some.inj ed
        subst ed'
        obtain ⟨z7, z8, z9, z10, z11, es⟩ := p_step (mu := m) hS (hp p (List.mem_of_getElem? q)) (T := ((ps.take (0 + j)).map (cstP ts)).sum) (x1 := .tup (ps.map ptD)) (x7 := y7) (x8 := y8) (x9 := y9) (x10 := y10) (x11 := y11)
        have st : ((ps.take (0 + j)).map (cstP ts)).sum + cstP ts p = ((ps.take (0 + j + 1)).map (cstP ts)).sum := by
          rw [List.take_add_one, Nat.zero_add, q, List.map_append, List.sum_append]
          simp
        rw [st] at es
        exact ⟨[some (.tup (ts.map tbD)), some (.tup (ps.map ptD)), some (.int (((ps.take (0 + j)).map (cstP ts)).sum : Nat)), some (.str p.nm), some (.tup (p.key.map D.str)), some p.be, some p.af, y7, y8, y9, y10, y11], m, _, m, rfl, es, ⟨_, _, _, _, _, _, _, _, _, rfl⟩, rfl⟩
  subst er' em
  rw [List.length_map, Nat.zero_add, List.take_length] at e
  unfold pBd lBd at e
  simp only [f_law_cost, m_law_cost, e, z_fnB, List.map_cons, List.map_nil, List.length_cons, List.length_nil, Nat.zero_add, Nat.reduceAdd, Nat.reduceSub, List.replicate_succ, List.replicate_zero, List.cons_append, List.nil_append, z_seq, z_set, z_C, z_gNm, List.set_cons_succ, List.set_cons_zero, z_bM, z_seqB, z_for, z_iV, z_v1, z_wT, z_rt, z_v2, z_outR]
theorem sum_cast (ts : List Tb) (ps : List Pt) : (ps.map fun p => ((cstP ts p : Nat) : Int)).sum = (((ps.map (cstP ts)).sum : Nat) : Int) := by
  induction ps with
  | nil => rfl
  | cons p ps ih => simp only [List.map_cons, List.sum_cons, ih, Int.natCast_add]
theorem Sm_le {f : Nat → Nat} (h : ∀ i, f i ≤ 1) : ∀ n, Sm f n ≤ n
  | 0 => Nat.le_refl _
  | n + 1 => by have := Sm_le h n; have := h n; unfold Sm; omega
theorem bN_le (p : D → Bool) (ks : Nat) (Z : List D) (i : Nat) : bN p ks Z i ≤ 1 := by
  unfold bN
  split
  · split <;> omega
  · omega
theorem cost_le {t : Tb} (ht : TbOk t) (be af : D) : cost t be af ≤ 8 := by
  have c4 := ht.c4
  unfold cost
  split
  · rename_i r
    have := Sm_le (bN_le pF t.ks (zipD r (t.cs.map clD))) t.cs.length
    omega
  · rename_i b a
    have := Sm_le (bN_le pE 0 (zipD a b)) t.cs.length
    omega
  · omega
theorem sum_le {ts : List Tb} (hS : SOk ts) {ps : List Pt} (hp : ∀ p ∈ ps, PtOk ts p) : (ps.map (cstP ts)).sum ≤ 8 * ps.length := by
  induction ps with
  | nil => simp
  | cons p ps ih =>
    have a := ih fun p hp' => hp p (.tail _ hp')
    obtain ⟨t, ht, en, _, _⟩ := (hp p (.head _)).ex
    have ci := cst_is hS ht p.be p.af
    rw [en] at ci
    have b := cost_le (hS.ok t ht) p.be p.af
    have c : cstP ts p = cost t p.be p.af := ci
    (simp only [List.map_cons, List.sum_cons, List.length_cons])
    omega
theorem shw_small : ∀ n : Nat, n < 65 → shwOk (.int n) = true := by decide +kernel
theorem z_repr {n : Nat} (h : n < 65) : reprF [.int (n : Nat)] mu = some (.str (PyData.shown (.int n)), mu) := by
  have s := shw_small n h
  simp only [reprF, arg1, PV.seen, pureD, toPy, s, Bool.and_self, if_true]
end PG
namespace PG
open PySem L2 PV PyProof.Rows K1
variable {mu : Sto}
noncomputable def iBody : Sx := (sSeq (sSet (eCall f_law_change (aCons (eVar 2) (aCons (eVar 3) (aCons (eVar 4) (aCons (eC (.int 8)) (aNil)))))) (gNm 6)) (sIf (tV (eBin neD (eCall reprF (aCons (eCall f_cost_of (aCons (eVar 3) (aCons (eVar 6) (aNil)))) (aNil))) (eCall reprF (aCons (eCall f_law_cost (aCons (eVar 3) (aCons (eVar 6) (aNil)))) (aNil))))) (sRt (eC (.bl false))) (sNx)))
noncomputable def kBody : Sx := (sSeq (sSet (eCall f_law_hand (aCons (eVar 0) (aCons (eVar 1) (aNil)))) (gNm 2)) (sSeq (sSet (eCall f_law_schema (aCons (eVar 2) (aCons (eC (.int 4)) (aCons (eC (.int 4)) (aCons (eC (.int 4)) (aNil)))))) (gNm 3)) (sSeq (sSet (eCall f_law_filling (aCons (eVar 2) (aCons (eVar 3) (aCons (eC (.int 6)) (aNil))))) (gNm 4)) (sSeq (sFor (iRg (aCons (eC (.int 6)) (aNil))) (gNm 5) iBody) (sIf (tV (eBin neD (eCall reprF (aCons (eCall f_cost_of (aCons (eVar 3) (aCons (eTup (aNil)) (aNil)))) (aNil))) (eC (.str "0")))) (sRt (eC (.bl false))) (sNx))))))
theorem inner_run {k n : Nat} {ns d1 : D} {ts : List Tb} (hS : SOk ts) {gs : List (List (List Str))} (hG : FillOk ts gs) {x5 x6 : Option D} (hfl : Flat mu) (h : HandOk mu k (n + 600)) {m0 : Sto} :
    ∃ y5 y6 m', forGo none m0 (gNm 5) iBody (rngD 0 6) [some ns, some d1, some (.ref k), some (.tup (ts.map tbD)), some (.tup (gs.map flD)), x5, x6] mu = some ((.nx, [some ns, some d1, some (.ref k), some (.tup (ts.map tbD)), some (.tup (gs.map flD)), y5, y6]), m') ∧ Fr k n mu m' := by
  obtain ⟨ro', mu', e, ⟨y5, y6, rfl⟩, fr⟩ := for_ind (m0 := m0) (tg := gNm 5) (body := iBody) (fun i ro m => (∃ y5 y6, ro = [some ns, some d1, some (.ref k), some (.tup (ts.map tbD)), some (.tup (gs.map flD)), y5, y6]) ∧ Fr k (n + 600 - 100 * i) mu m) (rngD 0 6) 0 [some ns, some d1, some (.ref k), some (.tup (ts.map tbD)), some (.tup (gs.map flD)), x5, x6] mu ⟨⟨_, _, rfl⟩, .refl h⟩ fun j d ro m ed ⟨⟨y5, y6, er⟩, fr⟩ => by
      subst er
      obtain ⟨rfl, hj⟩ := rng_at ed
      obtain ⟨_, m2, e2, f2, ps, rfl, pl, hp⟩ := change_run (n := n + 600 - 100 * (0 + j + 1)) hS hG (fr.flat hfl) (fr.hand.mono (by omega))
      have c1 := cost_run (mu := m2) hS hp
      rw [sum_cast] at c1
      have c2 := lawcost_run (mu := m2) hS hp
      have sl := sum_le hS hp
      have zr := z_repr (mu := m2) (n := (ps.map (cstP ts)).sum) (by omega)
      have nn := z_neK (mu := m2) ((Hn.str (PyData.shown (.int ((ps.map (cstP ts)).sum : Nat)))).K (by decide)) ((Hn.str (PyData.shown (.int ((ps.map (cstP ts)).sum : Nat)))).K (by decide))
      refine ⟨_, m, _, m2, rfl, ?_, ⟨some (.int j), some (.tup (ps.map ptD)), rfl⟩, fr.trans f2⟩
      unfold iBody
      simp only [e2, c1, c2, zr, nn, List.set_cons_succ, List.set_cons_zero, z_seq, z_set, z_call, z_aC, z_v2, z_v3, z_v4, z_C, z_aN, z_bM, z_gNm, z_seqB, z_sIf, z_tV, z_bin, z_v6, decide_true, Bool.not_true, z_asB, Option.map_some, z_rt, z_sNx, Bool.false_eq_true, ↓reduceIte]
  exact ⟨y5, y6, mu', e, fr.mono (by rw [rng_len]; omega)⟩
theorem k_step {i : Nat} {ns : List Int} {x2 x3 x4 x5 x6 : Option D} (hi : i < 64) (hfl : Flat mu) :
    ∃ y2 y3 y4 y5 y6 m', kBody [some (.lst (ns.map D.int)), some (.int i), x2, x3, x4, x5, x6] mu = some ((.nx, [some (.lst (ns.map D.int)), some (.int i), y2, y3, y4, y5, y6]), m') ∧ Flat m' := by
  obtain ⟨o, e1, h1⟩ := hand_run (mu := mu) (k := i) (n := 2000) (ns := ns) hi (by decide)
  have fl1 : Flat (mu ++ [o]) := by
    intro j q hq
    by_cases c : j = mu.length
    · subst c
      obtain ⟨_, _, _, h, _⟩ := h1
      rw [h] at hq
      cases hq
      rfl
    · have : j < (mu ++ [o]).length := (List.getElem?_eq_some_iff.mp hq).1
      simp at this
      rw [List.getElem?_append_left (by omega)] at hq
      exact hfl j q hq
  obtain ⟨_, m2, e2, f2, ds, rfl, sb, ok⟩ := schema_run (n := 1900) (a := 4) (b := 4) (c := 4) (by decide) (by decide) (by decide) (by decide) (by decide) (by decide) fl1 (h1.mono (by decide))
  obtain ⟨ts, et, hS⟩ := sch_inv sb
  injection et with et
  subst et
  have e2' : f_law_schema [.ref mu.length, .int 4, .int 4, .int 4] (mu ++ [o]) = some (.tup (ts.map tbD), m2) := e2
  have fl2 := f2.flat fl1
  obtain ⟨_, m3, e3, f3, gs, rfl, hG⟩ := filling_run (n := 1800) hS fl2 (f2.hand.mono (by decide))
  have fl3 := f3.flat fl2
  obtain ⟨y5, y6, m4, e4, f4⟩ := inner_run (mu := m3) (n := 1000) (ns := .lst (ns.map D.int)) (d1 := .int i) hS hG (x5 := x5) (x6 := x6) fl3 (f3.hand.mono (by decide)) (m0 := m3)
  have rg1 : ∀ (ro : Ro) (m : Sto), iRg (aCons (eC (.int 6)) aNil) ro m = some ((rngD 0 6, none), m) := fun ro m => z_iR (n := 6) rfl (by decide) (by rw [sizeLine_eq]; decide)
  have c0 := cost_run (mu := m4) hS (ps := []) (fun p h => nomatch h)
  have c0' : f_cost_of [.tup (ts.map tbD), .tup []] m4 = some (.int 0, m4) := c0
  have zr : reprF [.int 0] m4 = some (.str "0", m4) := by
    have := z_repr (mu := m4) (n := 0) (by decide)
    have e : PyData.shown (.int ((0 : Nat) : Int)) = "0" := by decide +kernel
    rw [e] at this
    exact this
  have nn := z_neK (mu := m4) ((Hn.str "0").K (by decide)) ((Hn.str "0").K (by decide))
  refine ⟨some (.ref mu.length), some (.tup (ts.map tbD)), some (.tup (gs.map flD)), y5, y6, m4, ?_, f4.flat fl3⟩
  unfold kBody iBody
  unfold iBody at e4
  simp only [e1, e2', e3, rg1, e4, c0', zr, nn, z_seq, z_set, z_call, z_aC, z_v0, z_v1, z_aN, z_bM, z_gNm, List.set_cons_succ, List.set_cons_zero, z_seqB, z_v2, z_C, z_v3, z_for, z_sIf, z_tV, z_bin, z_tup, decide_true, Bool.not_true, z_asB, Option.map_some, z_rt, z_sNx, Bool.false_eq_true, ↓reduceIte]
theorem law_run (ns : List Int) : ∃ mu', f_law [.lst (ns.map .int)] [] = some (.bl true, mu') := by
  obtain ⟨N, hN, h2, h5⟩ : ∃ N : Nat, (if (if (ns.length : Int) < 6 then (ns.length : Int) else 6) > 2 then (if (ns.length : Int) < 6 then (ns.length : Int) else 6) else 2) = (N : Int) ∧ 2 ≤ N ∧ N ≤ 6 := by
    refine ⟨(if (if (ns.length : Int) < 6 then (ns.length : Int) else 6) > 2 then (if (ns.length : Int) < 6 then (ns.length : Int) else 6) else 2).toNat, ?_, ?_, ?_⟩ <;> split <;> split <;> omega
  obtain ⟨ro', mu', e, ⟨y1, y2, y3, y4, y5, y6, er⟩, _⟩ := for_ind (m0 := []) (tg := gNm 1) (body := kBody) (fun i ro m => (∃ y1 y2 y3 y4 y5 y6, ro = [some (.lst (ns.map D.int)), y1, y2, y3, y4, y5, y6]) ∧ Flat m) (rngD 0 N) 0 [some (.lst (ns.map D.int)), none, none, none, none, none, none] [] ⟨⟨_, _, _, _, _, _, rfl⟩, fun j o h => by simp at h⟩ fun j d ro m ed ⟨⟨y1, y2, y3, y4, y5, y6, er⟩, fl⟩ => by
      subst er
      obtain ⟨rfl, hj⟩ := rng_at ed
      obtain ⟨z2, z3, z4, z5, z6, m', e, fl'⟩ := k_step (i := j) (ns := ns) (x2 := y2) (x3 := y3) (x4 := y4) (x5 := y5) (x6 := y6) (by omega) fl
      exact ⟨_, m, _, m', rfl, e, ⟨_, _, _, _, _, _, rfl⟩, fl'⟩
  subst er
  refine ⟨mu', ?_⟩
  have mn : minF [.int 6, .int (ns.length : Int)] [] = some (.int (if (ns.length : Int) < 6 then (ns.length : Int) else 6), []) := rfl
  have mx : maxF [.int 2, .int (if (ns.length : Int) < 6 then (ns.length : Int) else 6)] [] = some (.int N, []) := by
    rw [← hN]
    rfl
  have rg := z_iR (mu := []) (ro := [some (.lst (ns.map D.int)), none, none, none, none, none, none]) (r := (aCons (eCall maxF (aCons (eC (.int 2)) (aCons (eCall minF (aCons (eC (.int 6)) (aCons (eCall lenG (aCons (eVar 0) (aNil))) (aNil)))) (aNil)))) (aNil))) (n := N) (m := []) (by simp only [List.length_map, mn, mx, z_aC, z_call, z_C, z_v0, z_aN, z_bM, z_lenL]) (by omega) (by rw [sizeLine_eq]; omega)
  rw [Int.toNat_natCast] at rg
  unfold kBody iBody at e
  simp only [f_law, m_law, rg, e, z_fnB, List.map_cons, List.map_nil, List.length_cons, List.length_nil, Nat.zero_add, Nat.reduceSub, List.replicate_succ, List.replicate_zero, List.cons_append, List.nil_append, z_seq, z_for, z_bM, z_seqB, z_rt, z_C, z_outR]
end PG
namespace PG
open PySem L2 PV PyProof.Rows
theorem all_mk {l : PySem.W.OpenLaw} {w : World} {K : PySem.W.Frag} {h : Heap} {mg : Str → Option Value} {fa f1 f2 f3 f4 f5 f6 f7 f8 f9 f10 f11 f12 f13 : Addr} (X : K.In h) (G : h.Ns mainGlobals mg) (hfa : mg "law" = some (.ref fa))
    {od1 an1 od2 an2 od3 an3 od4 an4 od5 an5 od6 an6 od7 an7 od8 an8 od9 an9 od10 an10 od11 an11 od12 an12 od13 an13 : Option Addr} {sl1 sl2 sl3 sl4 sl5 sl6 sl7 sl8 sl9 sl10 sl11 sl12 sl13 : Array (Option Value)} {oc1 kV1 dc1 pm1 cd1 ct1 oc2 kV2 dc2 pm2 cd2 ct2 oc3 kV3 dc3 pm3 cd3 ct3 oc4 kV4 dc4 pm4 cd4 ct4 oc5 kV5 dc5 pm5 cd5 ct5 oc6 kV6 dc6 pm6 cd6 ct6 oc7 kV7 dc7 pm7 cd7 ct7 oc8 kV8 dc8 pm8 cd8 ct8 oc9 kV9 dc9 pm9 cd9 ct9 oc10 kV10 dc10 pm10 cd10 ct10 oc11 kV11 dc11 pm11 cd11 ct11 oc12 kV12 dc12 pm12 cd12 ct12 oc13 kV13 dc13 pm13 cd13 ct13 : Value}
    (a1 : PySem.W.nsIn K mainGlobals "table_of" = some (some (.ref f1))) (l1 : K.lookup f1 = some ⟨oc1, od1, .func (PySem.W.fnOf "table_of" "table_of" (defArgs s_table_of) (defBody s_table_of) (defScope s_table_of) .none kV1 dc1 pm1 an1 cd1 ct1), sl1⟩) (c1 : PySem.W.codeIn K cd1 "table_of" = true) (k1 : PySem.W.keepIn K (.ref f1) = true)
    (a2 : PySem.W.nsIn K mainGlobals "cost_to_come" = some (some (.ref f2))) (l2 : K.lookup f2 = some ⟨oc2, od2, .func (PySem.W.fnOf "cost_to_come" "cost_to_come" (defArgs s_cost_to_come) (defBody s_cost_to_come) (defScope s_cost_to_come) .none kV2 dc2 pm2 an2 cd2 ct2), sl2⟩) (c2 : PySem.W.codeIn K cd2 "cost_to_come" = true) (k2 : PySem.W.keepIn K (.ref f2) = true)
    (a3 : PySem.W.nsIn K mainGlobals "cost_between" = some (some (.ref f3))) (l3 : K.lookup f3 = some ⟨oc3, od3, .func (PySem.W.fnOf "cost_between" "cost_between" (defArgs s_cost_between) (defBody s_cost_between) (defScope s_cost_between) .none kV3 dc3 pm3 an3 cd3 ct3), sl3⟩) (c3 : PySem.W.codeIn K cd3 "cost_between" = true) (k3 : PySem.W.keepIn K (.ref f3) = true)
    (a4 : PySem.W.nsIn K mainGlobals "cost_of" = some (some (.ref f4))) (l4 : K.lookup f4 = some ⟨oc4, od4, .func (PySem.W.fnOf "cost_of" "cost_of" (defArgs s_cost_of) (defBody s_cost_of) (defScope s_cost_of) .none kV4 dc4 pm4 an4 cd4 ct4), sl4⟩) (c4 : PySem.W.codeIn K cd4 "cost_of" = true) (k4 : PySem.W.keepIn K (.ref f4) = true)
    (a5 : PySem.W.nsIn K mainGlobals "_law_hand" = some (some (.ref f5))) (l5 : K.lookup f5 = some ⟨oc5, od5, .func (PySem.W.fnOf "_law_hand" "_law_hand" (defArgs s_law_hand) (defBody s_law_hand) (defScope s_law_hand) .none kV5 dc5 pm5 an5 cd5 ct5), sl5⟩) (c5 : PySem.W.codeIn K cd5 "_law_hand" = true) (k5 : PySem.W.keepIn K (.ref f5) = true)
    (a6 : PySem.W.nsIn K mainGlobals "_law_take" = some (some (.ref f6))) (l6 : K.lookup f6 = some ⟨oc6, od6, .func (PySem.W.fnOf "_law_take" "_law_take" (defArgs s_law_take) (defBody s_law_take) (defScope s_law_take) .none kV6 dc6 pm6 an6 cd6 ct6), sl6⟩) (c6 : PySem.W.codeIn K cd6 "_law_take" = true) (k6 : PySem.W.keepIn K (.ref f6) = true)
    (a7 : PySem.W.nsIn K mainGlobals "_law_pick" = some (some (.ref f7))) (l7 : K.lookup f7 = some ⟨oc7, od7, .func (PySem.W.fnOf "_law_pick" "_law_pick" (defArgs s_law_pick) (defBody s_law_pick) (defScope s_law_pick) .none kV7 dc7 pm7 an7 cd7 ct7), sl7⟩) (c7 : PySem.W.codeIn K cd7 "_law_pick" = true) (k7 : PySem.W.keepIn K (.ref f7) = true)
    (a8 : PySem.W.nsIn K mainGlobals "_law_words" = some (some (.ref f8))) (l8 : K.lookup f8 = some ⟨oc8, od8, .func (PySem.W.fnOf "_law_words" "_law_words" (defArgs s_law_words) (defBody s_law_words) (defScope s_law_words) .none kV8 dc8 pm8 an8 cd8 ct8), sl8⟩) (c8 : PySem.W.codeIn K cd8 "_law_words" = true) (k8 : PySem.W.keepIn K (.ref f8) = true)
    (a9 : PySem.W.nsIn K mainGlobals "_law_schema" = some (some (.ref f9))) (l9 : K.lookup f9 = some ⟨oc9, od9, .func (PySem.W.fnOf "_law_schema" "_law_schema" (defArgs s_law_schema) (defBody s_law_schema) (defScope s_law_schema) .none kV9 dc9 pm9 an9 cd9 ct9), sl9⟩) (c9 : PySem.W.codeIn K cd9 "_law_schema" = true) (k9 : PySem.W.keepIn K (.ref f9) = true)
    (a10 : PySem.W.nsIn K mainGlobals "_law_filling" = some (some (.ref f10))) (l10 : K.lookup f10 = some ⟨oc10, od10, .func (PySem.W.fnOf "_law_filling" "_law_filling" (defArgs s_law_filling) (defBody s_law_filling) (defScope s_law_filling) .none kV10 dc10 pm10 an10 cd10 ct10), sl10⟩) (c10 : PySem.W.codeIn K cd10 "_law_filling" = true) (k10 : PySem.W.keepIn K (.ref f10) = true)
    (a11 : PySem.W.nsIn K mainGlobals "_law_change" = some (some (.ref f11))) (l11 : K.lookup f11 = some ⟨oc11, od11, .func (PySem.W.fnOf "_law_change" "_law_change" (defArgs s_law_change) (defBody s_law_change) (defScope s_law_change) .none kV11 dc11 pm11 an11 cd11 ct11), sl11⟩) (c11 : PySem.W.codeIn K cd11 "_law_change" = true) (k11 : PySem.W.keepIn K (.ref f11) = true)
    (a12 : PySem.W.nsIn K mainGlobals "_law_cost" = some (some (.ref f12))) (l12 : K.lookup f12 = some ⟨oc12, od12, .func (PySem.W.fnOf "_law_cost" "_law_cost" (defArgs s_law_cost) (defBody s_law_cost) (defScope s_law_cost) .none kV12 dc12 pm12 an12 cd12 ct12), sl12⟩) (c12 : PySem.W.codeIn K cd12 "_law_cost" = true) (k12 : PySem.W.keepIn K (.ref f12) = true)
    (a13 : PySem.W.nsIn K mainGlobals "law" = some (some (.ref f13))) (l13 : K.lookup f13 = some ⟨oc13, od13, .func (PySem.W.fnOf "law" "law" (defArgs s_law) (defBody s_law) (defScope s_law) .none kV13 dc13 pm13 an13 cd13 ct13), sl13⟩) (c13 : PySem.W.codeIn K cd13 "law" = true) (k13 : PySem.W.keepIn K (.ref f13) = true)
    (z1 : PySem.W.nsIn K mainGlobals "enumerate" = some none) (z2 : PySem.W.nsIn K mainGlobals "int" = some none) (z3 : PySem.W.nsIn K mainGlobals "len" = some none) (z4 : PySem.W.nsIn K mainGlobals "list" = some none) (z5 : PySem.W.nsIn K mainGlobals "max" = some none) (z6 : PySem.W.nsIn K mainGlobals "min" = some none) (z7 : PySem.W.nsIn K mainGlobals "range" = some none) (z8 : PySem.W.nsIn K mainGlobals "repr" = some none) (z9 : PySem.W.nsIn K mainGlobals "sorted" = some none) (z10 : PySem.W.nsIn K mainGlobals "sum" = some none) (z11 : PySem.W.nsIn K mainGlobals "tuple" = some none) (z12 : PySem.W.nsIn K mainGlobals "zip" = some none)
     :
    ∃ fd : FuncData, (∀ (s : Shared) (v : Value), BindsTo s fd ⟨[v], []⟩ [("_law_script", v)]) ∧ ∀ base : Heap, K.In base → base.Ns mainGlobals mg → FnOk l.prog w K mg base CX0 5 fa fd ["_law_script"] (spF ⟨K, l.prog, w⟩ f_law 1) := by
  have e := hfa.symm.trans (PySem.W.mg_of X G a13)
  cases e
  have T : Tx mg := ⟨PySem.W.mg_none_of X G z1, PySem.W.mg_none_of X G z2, PySem.W.mg_none_of X G z3, PySem.W.mg_none_of X G z4, PySem.W.mg_none_of X G z5, PySem.W.mg_none_of X G z6, PySem.W.mg_none_of X G z7, PySem.W.mg_none_of X G z8, PySem.W.mg_none_of X G z9, PySem.W.mg_none_of X G z10, PySem.W.mg_none_of X G z11, PySem.W.mg_none_of X G z12⟩
  have F1 := fun_mk (st := s_table_of) l1 c1 k1
  have b1 := F1.binds (ps := ["schema", "name"]) fun _ _ _ _ _ _ us hl => match us, hl with | [_, _], _ => rfl
  have F2 := fun_mk (st := s_cost_to_come) l2 c2 k2
  have b2 := F2.binds (ps := ["table", "row"]) fun _ _ _ _ _ _ us hl => match us, hl with | [_, _], _ => rfl
  have F3 := fun_mk (st := s_cost_between) l3 c3 k3
  have b3 := F3.binds (ps := ["table", "before", "after"]) fun _ _ _ _ _ _ us hl => match us, hl with | [_, _, _], _ => rfl
  have F4 := fun_mk (st := s_cost_of) l4 c4 k4
  have b4 := F4.binds (ps := ["schema", "change"]) fun _ _ _ _ _ _ us hl => match us, hl with | [_, _], _ => rfl
  have F5 := fun_mk (st := s_law_hand) l5 c5 k5
  have b5 := F5.binds (ps := ["_law_script", "_law_k"]) fun _ _ _ _ _ _ us hl => match us, hl with | [_, _], _ => rfl
  have F6 := fun_mk (st := s_law_take) l6 c6 k6
  have b6 := F6.binds (ps := ["_law_hand_here", "_law_many"]) fun _ _ _ _ _ _ us hl => match us, hl with | [_, _], _ => rfl
  have F7 := fun_mk (st := s_law_pick) l7 c7 k7
  have b7 := F7.binds (ps := ["_law_hand_here", "_law_some"]) fun _ _ _ _ _ _ us hl => match us, hl with | [_, _], _ => rfl
  have F8 := fun_mk (st := s_law_words) l8 c8 k8
  have b8 := F8.binds (ps := ["_law_hand_here", "_law_many", "_law_most"]) fun _ _ _ _ _ _ us hl => match us, hl with | [_, _, _], _ => rfl
  have F9 := fun_mk (st := s_law_schema) l9 c9 k9
  have b9 := F9.binds (ps := ["_law_hand_here", "_law_tables", "_law_columns", "_law_values"]) fun _ _ _ _ _ _ us hl => match us, hl with | [_, _, _, _], _ => rfl
  have F10 := fun_mk (st := s_law_filling) l10 c10 k10
  have b10 := F10.binds (ps := ["_law_hand_here", "_law_schema_here", "_law_most"]) fun _ _ _ _ _ _ us hl => match us, hl with | [_, _, _], _ => rfl
  have F11 := fun_mk (st := s_law_change) l11 c11 k11
  have b11 := F11.binds (ps := ["_law_hand_here", "_law_schema_here", "_law_filling_here", "_law_most"]) fun _ _ _ _ _ _ us hl => match us, hl with | [_, _, _, _], _ => rfl
  have F12 := fun_mk (st := s_law_cost) l12 c12 k12
  have b12 := F12.binds (ps := ["_law_schema_here", "_law_change_here"]) fun _ _ _ _ _ _ us hl => match us, hl with | [_, _], _ => rfl
  have F13 := fun_mk (st := s_law) l13 c13 k13
  refine ⟨PySem.W.fnOf "law" "law" (defArgs s_law) (defBody s_law) (defScope s_law) .none kV13 dc13 pm13 an13 cd13 ct13, fun s v => .of_eq rfl, fun base _ _ => ?_⟩
  have C1 := cal_mk (P := l.prog) (w := w) (base := base) F1 (PySem.W.mg_of X G a1) (ok_table_of F1 T ) b1
  have C2 := cal_mk (P := l.prog) (w := w) (base := base) F2 (PySem.W.mg_of X G a2) (ok_cost_to_come F2 T ) b2
  have C3 := cal_mk (P := l.prog) (w := w) (base := base) F3 (PySem.W.mg_of X G a3) (ok_cost_between F3 T C2) b3
  have C4 := cal_mk (P := l.prog) (w := w) (base := base) F4 (PySem.W.mg_of X G a4) (ok_cost_of F4 T C3 C1) b4
  have C5 := cal_mk (P := l.prog) (w := w) (base := base) F5 (PySem.W.mg_of X G a5) (ok_law_hand F5 T ) b5
  have C6 := cal_mk (P := l.prog) (w := w) (base := base) F6 (PySem.W.mg_of X G a6) (ok_law_take F6 T ) b6
  have C7 := cal_mk (P := l.prog) (w := w) (base := base) F7 (PySem.W.mg_of X G a7) (ok_law_pick F7 T C6) b7
  have C8 := cal_mk (P := l.prog) (w := w) (base := base) F8 (PySem.W.mg_of X G a8) (ok_law_words F8 T C6 C7) b8
  have C9 := cal_mk (P := l.prog) (w := w) (base := base) F9 (PySem.W.mg_of X G a9) (ok_law_schema F9 T C8 C6) b9
  have C10 := cal_mk (P := l.prog) (w := w) (base := base) F10 (PySem.W.mg_of X G a10) (ok_law_filling F10 T C6 C7) b10
  have C11 := cal_mk (P := l.prog) (w := w) (base := base) F11 (PySem.W.mg_of X G a11) (ok_law_change F11 T C6 C7) b11
  have C12 := cal_mk (P := l.prog) (w := w) (base := base) F12 (PySem.W.mg_of X G a12) (ok_law_cost F12 T ) b12
  exact ok_law F13 T C5 C9 C10 C11 C4 C12
theorem rep_ints {K : Zc} {th : List Addr} {H : Hp} : ∀ ns : List Int, RepL K th H (ns.map D.int) (ns.map V.int)
  | [] => .nil
  | i :: ns => .cons rfl (rep_ints ns)
theorem walk {l : PySem.W.OpenLaw} {q : Program} {loose : List Str} {XP : (Str → Option Value) → Heap → Prop} {YP : World → Heap → Prop} {d : DefRec} {K : Params → PySem.W.Frag} (hn : l.most = some 63) (hdf : d.params.defaults = [])
    (hY : ∀ (w : World) (h : Heap), YP w h → (K w.params).In h)
    (F : ∀ (w : World) (mg : Str → Option Value) (fa : Addr) (h : Heap), (K w.params).In h → h.Ns mainGlobals mg → mg d.name = some (.ref fa) →
      ∃ fd : FuncData, (∀ (s : Shared) (u : Value), BindsTo s fd ⟨[u], []⟩ [("_law_script", u)]) ∧ ∀ base : Heap, (K w.params).In base → base.Ns mainGlobals mg → FnOk l.prog w (K w.params) mg base CX0 5 fa fd ["_law_script"] (spF ⟨K w.params, l.prog, w⟩ f_law 1)) :
    PySem.W.WalkO q loose XP YP l.row.toRowW d [] (fun f vs => PySem.call f vs) :=
  L2.walk_of (n := 63) (k := 5) (x := "_law_script") (CX := fun _ => CX0) (sp := fun w => spF ⟨K w.params, l.prog, w⟩ f_law 1) hn (by decide) hdf ⟨rfl, by decide, by decide, rfl⟩ hY F (fun w H a ns hl _ hS => by
    obtain ⟨mu', e⟩ := law_run ns
    refine ⟨[], [], [.lst (ns.map D.int)], ⟨rfl, List.nodup_nil, fun k a o e => by simp at e⟩, .cons ?_ .nil, rfl, .bl true, mu', e, fun th' H' _ _ v rv => rv⟩
    unfold Rep
    refine ⟨a, ns.map V.int, rfl, ?_, rep_ints ns, by rw [List.length_map]; exact Nat.le_trans hl (by decide)⟩
    rcases hS with hS | hS
    · exact .inl ⟨by simp, hS⟩
    · exact .inr hS) fun _ _ _ _ _ z => z
end PG
open PySem PySem.W PyProof.Rows
set_option maxRecDepth 100000 in
set_option maxHeartbeats 0 in
theorem PySem.Challenge.cw_lookback_k11_costs_holds : PySem.Challenge.rw_lookback_k11_costs.Holds := by
  w_on; o_law; k_head; (case hw => w_witness2)
  k_fill
  refine PG.walk (l := PySem.Challenge.rw_lookback_k11_costs) rfl rfl (fun w h Y => PySem.W.kIn_of Y) ?F
  case F =>
    intro w mg fa h KX G hmg
    refine' PG.all_mk KX G hmg ?a1 ?l1 ?c1 ?k1 ?a2 ?l2 ?c2 ?k2 ?a3 ?l3 ?c3 ?k3 ?a4 ?l4 ?c4 ?k4 ?a5 ?l5 ?c5 ?k5 ?a6 ?l6 ?c6 ?k6 ?a7 ?l7 ?c7 ?k7 ?a8 ?l8 ?c8 ?k8 ?a9 ?l9 ?c9 ?k9 ?a10 ?l10 ?c10 ?k10 ?a11 ?l11 ?c11 ?k11 ?a12 ?l12 ?c12 ?k12 ?a13 ?l13 ?c13 ?k13 ?z1 ?z2 ?z3 ?z4 ?z5 ?z6 ?z7 ?z8 ?z9 ?z10 ?z11 ?z12
    (case a1 => k_is); (case l1 => k_is); (case c1 => k_is); (case k1 => k_is); (case a2 => k_is); (case l2 => k_is)
    (case c2 => k_is); (case k2 => k_is); (case a3 => k_is); (case l3 => k_is); (case c3 => k_is); (case k3 => k_is)
    (case a4 => k_is); (case l4 => k_is); (case c4 => k_is); (case k4 => k_is); (case a5 => k_is); (case l5 => k_is)
    (case c5 => k_is); (case k5 => k_is); (case a6 => k_is); (case l6 => k_is); (case c6 => k_is); (case k6 => k_is)
    (case a7 => k_is); (case l7 => k_is); (case c7 => k_is); (case k7 => k_is); (case a8 => k_is); (case l8 => k_is)
    (case c8 => k_is); (case k8 => k_is); (case a9 => k_is); (case l9 => k_is); (case c9 => k_is); (case k9 => k_is)
    (case a10 => k_is); (case l10 => k_is); (case c10 => k_is); (case k10 => k_is); (case a11 => k_is); (case l11 => k_is)
    (case c11 => k_is); (case k11 => k_is); (case a12 => k_is); (case l12 => k_is); (case c12 => k_is); (case k12 => k_is)
    (case a13 => k_is); (case l13 => k_is); (case c13 => k_is); (case k13 => k_is); (case z1 => k_is); (case z2 => k_is)
    (case z3 => k_is); (case z4 => k_is); (case z5 => k_is); (case z6 => k_is); (case z7 => k_is); (case z8 => k_is)
    (case z9 => k_is); (case z10 => k_is); (case z11 => k_is); (case z12 => k_is)
