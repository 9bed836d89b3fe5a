import PyProof.Rows.All
import Wide.All
import OpenK.AllK
import Wide.FinOn
import Lean
import PyProof.EqAt
import PyProof.EqKinds
import PyProof.TupleCall
import PySem.Challenge.RW_rootspan_k37_roots_known
set_option Elab.async false
set_option linter.all false
set_option maxRecDepth 100000
/-! THE HAND LAYER, for ints, bools, texts, own classes, LISTS and tuples (index, slices, in, append, pop ..), calls, loops. Paste it whole ahead of your own text; what your proof does not reach may be deleted. -/
namespace L2
open PySem PySem.Spec PyProof.Rows

/-- a key: an int or a str -/
abbrev Key := Sum Int Str
def keyIs : Key → Value → Bool
  | .inl k, v => Value.isInt k v
  | .inr x, v => Value.isStrOf x v
def keyH (w : World) : Key → Int
  | .inl k => hashInt k
  | .inr x => hashStr w x
theorem keyIs_shape : ∀ {k : Key} {v : Value}, keyIs k v = true → (∃ i t, k = Sum.inl i ∧ v = Value.int i t) ∨ (∃ x t, k = Sum.inr x ∧ v = Value.str x t)
  | .inl i, v, h => by
    obtain ⟨t, e⟩ := Value.isInt_shape (k := i) (v := v) h
    exact .inl ⟨i, t, rfl, e⟩
  | .inr x, v, h => by
    obtain ⟨t, e⟩ := Value.isStrOf_shape (x := x) (v := v) h
    exact .inr ⟨x, t, rfl, e⟩
theorem keyIs_int (i : Int) (t : Tok) : keyIs (.inl i) (.int i t) = true := by simp [keyIs, Value.isInt]
theorem keyIs_str (x : Str) (t : Tok) : keyIs (.inr x) (.str x t) = true := by simp [keyIs, Value.isStrOf]
theorem key_ll (a b : Int) : decide ((Sum.inl a : Key) = Sum.inl b) = (a == b) := by
  by_cases e : a = b
  · subst e; simp
  · have h : ¬ (Sum.inl a : Key) = Sum.inl b := fun q => e (Sum.inl.inj q)
    rw [decide_eq_false h]
    exact (beq_eq_false_iff_ne.mpr e).symm
theorem key_rr (a b : Str) : decide ((Sum.inr a : Key) = Sum.inr b) = decide (a = b) := by
  by_cases e : a = b
  · subst e; simp
  · have h : ¬ (Sum.inr a : Key) = Sum.inr b := fun q => e (Sum.inr.inj q)
    rw [decide_eq_false h, decide_eq_false e]
theorem key_lr (a : Int) (b : Str) : decide ((Sum.inl a : Key) = Sum.inr b) = false := decide_eq_false (fun q => nomatch q)
theorem key_rl (a : Str) (b : Int) : decide ((Sum.inr a : Key) = Sum.inl b) = false := decide_eq_false (fun q => nomatch q)

def mixKind (prog : Program) (w : World) : PySem.KeyKind prog w Key where
  is := keyIs
  hash := keyH w
  inj := fun v a b ha hb => by
    rcases keyIs_shape ha with ⟨i, t, rfl, rfl⟩ | ⟨x, t, rfl, rfl⟩
    · rcases keyIs_shape hb with ⟨j, u, rfl, e⟩ | ⟨y, u, rfl, e⟩
      · injection e with e1 _; rw [e1]
      · exact nomatch e
    · rcases keyIs_shape hb with ⟨j, u, rfl, e⟩ | ⟨y, u, rfl, e⟩
      · exact nomatch e
      · injection e with e1 _; rw [e1]
  byValue := fun k v h => by
    rcases keyIs_shape h with ⟨i, t, rfl, rfl⟩ | ⟨x, t, rfl, rfl⟩ <;> rfl
  pyHash := fun hv h => by
    rcases keyIs_shape hv with ⟨i, t, rfl, rfl⟩ | ⟨x, t, rfl, rfl⟩
    · exact wpAny_pyHash_int h
    · exact wpAny_pyHash_str h
  eqBool := fun hu hv h => by
    rcases keyIs_shape hu with ⟨i, t, rfl, rfl⟩ | ⟨x, t, rfl, rfl⟩
    · rcases keyIs_shape hv with ⟨j, u, rfl, rfl⟩ | ⟨y, u, rfl, rfl⟩
      · rw [key_ll] at h; exact wpAny_eqBool_int h
      · rw [key_lr] at h; exact SeqAt.EqAt.int_str i t y u _ _ _ _ h
    · rcases keyIs_shape hv with ⟨j, u, rfl, rfl⟩ | ⟨y, u, rfl, rfl⟩
      · rw [key_rl] at h; exact SeqAt.EqAt.str_int x t j u _ _ _ _ h
      · rw [key_rr] at h; exact wpAny_eqBool_str h
  «strs» := fun k x t v h => by
    rcases keyIs_shape h with ⟨i, u, rfl, e⟩ | ⟨y, u, rfl, e⟩
    · exact nomatch e
    · injection e with e1 _
      subst e1
      cases v <;> rfl

theorem mixKind_is (prog : Program) (w : World) (k : Key) (v : Value) : (mixKind prog w).is k v = keyIs k v := rfl
theorem mixKind_int (prog : Program) (w : World) (i : Int) (t : Tok) : (mixKind prog w).is (.inl i) (.int i t) = true := keyIs_int i t
theorem mixKind_str (prog : Program) (w : World) (x : Str) (t : Tok) : (mixKind prog w).is (.inr x) (.str x t) = true := keyIs_str x t
end L2

namespace L2
open PySem PySem.Spec PyProof.Rows

/-- a value, without the heap -/
inductive V where
  | non | bl (b : Bool) | int (i : Int) | str (x : Str) | byt (b : Array UInt8) | flt (b : UInt64) | ref (a : Addr) | ty (n : String)
  deriving DecidableEq

def RelV : V → Value → Prop
  | .non, u => u = Value.none
  | .bl b, u => u = Value.bool b
  | .int i, u => ∃ t, u = Value.int i t
  | .str x, u => ∃ t, u = Value.str x t
  | .byt b, u => ∃ t, u = Value.bytes b t
  | .flt b, u => ∃ t, u = Value.float b t
  | .ref a, u => u = Value.ref a
  | .ty n, u => u = Value.type n

abbrev Vals : List V → List Value → Prop := Paired RelV
theorem Vals.length {xs : List V} {us : List Value} (r : Vals xs us) : xs.length = us.length := Paired.length r
theorem Vals.get : ∀ {xs : List V} {us : List Value} {i : Nat} {x : V}, Vals xs us → xs[i]? = some x → ∃ u, us[i]? = some u ∧ RelV x u
  | _, _, _, _, .nil, e => by simp at e
  | _, _, 0, _, .cons r _, e => by simp at e; subst e; exact ⟨_, rfl, r⟩
  | _, _, i + 1, x, .cons _ t, e => by
    obtain ⟨u, h1, h2⟩ := Vals.get (i := i) (x := x) t (by simpa using e)
    exact ⟨u, by simpa using h1, h2⟩
theorem Vals.set {x : V} {u : Value} (r : RelV x u) : ∀ {xs : List V} {us : List Value} (i : Nat), Vals xs us → Vals (xs.set i x) (us.set i u)
  | _, _, _, .nil => .nil
  | _, _, 0, .cons _ t => .cons r t
  | _, _, i + 1, .cons q t => .cons q (Vals.set r i t)
theorem Vals.append : ∀ {xs ys : List V} {us ws : List Value}, Vals xs us → Vals ys ws → Vals (xs ++ ys) (us ++ ws)
  | _, _, _, _, .nil, s => s
  | _, _, _, _, .cons r t, s => .cons r (Vals.append t s)
theorem Vals.take : ∀ {xs : List V} {us : List Value} (n : Nat), Vals xs us → Vals (xs.take n) (us.take n)
  | _, _, 0, _ => .nil
  | _, _, _ + 1, .nil => .nil
  | _, _, n + 1, .cons r t => .cons r (Vals.take n t)
theorem Vals.drop : ∀ {xs : List V} {us : List Value} (n : Nat), Vals xs us → Vals (xs.drop n) (us.drop n)
  | _, _, 0, r => r
  | _, _, _ + 1, .nil => .nil
  | _, _, n + 1, .cons _ t => Vals.drop n t
theorem Vals.none_of : ∀ {xs : List V} {us : List Value} {i : Nat}, Vals xs us → xs[i]? = none → us[i]? = none := fun {xs us i} r e => by
  have h1 := r.length
  have h2 : xs.length ≤ i := List.getElem?_eq_none_iff.mp e
  exact List.getElem?_eq_none_iff.mpr (by omega)

def RelO : Option V → Option Value → Prop
  | some v, some u => RelV v u
  | none, none => True
  | _, _ => False
def KV {κ : Type} : List (κ × V) → List (κ × Value) → Prop := Paired fun (p : κ × V) (q : κ × Value) => p.1 = q.1 ∧ RelV p.2 q.2

/-- a key of a dict (00_mix): an int or a text -/
def kV : Key → V
  | .inl i => .int i
  | .inr x => .str x

/-- what stands at a tracked address -/
inductive HO where
  /-- a list -/
  | lst (xs : List V)
  /-- a tuple (never changes) -/
  | tup (xs : List V)
  /-- a dict whose keys are ints and texts; one whose keys are tuples of ints and texts (the empty one is both) -/
  | dK (kvs : List (Key × V)) | dT (kvs : List (List Key × V))
  /-- a set of ints: its members, its size -/
  | set (S : Int → Bool) (n : Nat)
  /-- an instance of the class at C, its dict at dx, its attributes -/
  | ins (C dx : Addr) (fs : List (Str × V))
  /-- the dict of the instance at x -/
  | own (x : Addr)
  /-- the dict of an exception -/
  | xd (fs : List (Str × V))
  /-- a bound method, f of x -/
  | met (f x : Addr)
  /-- a range object lo, lo + 1, .. below hi -/
  | rng (lo hi : Int)
  /-- a thing that is known to the object (the script; a dict while a loop walks it): read, never written while it is so -/
  | frz (o : Obj) (u : HO)
  /-- a code object's table -/
  | tbl (ps : Array Value)
  /-- any other thing, by what is true of its one object (a def of one's own: SetO a S n := HO.ext fun h => ..) -/
  | ext (φ : Heap → Prop)

abbrev Hp := Addr → Option HO
def upd (H : Hp) (a : Addr) (o : HO) : Hp := fun b => if b = a then some o else H b
theorem upd_same {H : Hp} {a : Addr} {o : HO} : upd H a o a = some o := by unfold upd; rw [if_pos rfl]
theorem upd_ne {H : Hp} {a b : Addr} {o : HO} (h : b ≠ a) : upd H a o b = H b := by unfold upd; rw [if_neg h]
theorem upd_upd {H : Hp} {a : Addr} {o u : HO} : upd (upd H a o) a u = upd H a u := by
  funext b; unfold upd; split <;> rfl
/-- two objects of different content stand apart -/
theorem ne_of {H : Hp} {a b : Addr} {o u : HO} (h : H a = some o) (h' : H b = some u) (d : o ≠ u) : a ≠ b := by
  intro e; subst e; rw [h] at h'; exact d (Option.some.inj h')
theorem ne_of_none {H : Hp} {a b : Addr} {o : HO} (h : H a = some o) (h' : H b = none) : a ≠ b := by
  intro e; subst e; rw [h] at h'; cases h'

section
variable (P : Program) (w : World)
def ObjOk (H : Hp) (h : Heap) (a : Addr) : HO → Prop
  | .lst xs => xs.length ≤ sizeLine ∧ ∃ (its : List Value) (n : Nat), Vals xs its ∧ h.get? a = some { cls := .type "list", data := .seq its.toArray n }
  | .tup xs => xs.length ≤ sizeLine ∧ ∃ its : List Value, Vals xs its ∧ IsTup h a its.toArray
  | .dK kvs => kvs.length ≤ sizeLine ∧ (a == sysModules) = false ∧ ∃ vs, KV kvs vs ∧ h.DictOf (mixKind P w) a vs
  | .dT kvs => kvs.length ≤ sizeLine ∧ (a == sysModules) = false ∧ ∃ xs : List (List Key × Addr × Value),
      Paired (fun (p : List Key × V) (q : List Key × Addr × Value) => p.1 = q.1 ∧ H q.2.1 = some (.tup (p.1.map kV)) ∧ RelV p.2 q.2.2) kvs xs ∧
      ∃ o es ep, h.get? a = some o ∧ o.ExactDict ∧ o.data = .dict es ep ∧ es.toList = xs.map (entryOfKey (tupleKind (mixKind P w))) ∧ (xs.map (·.1)).Nodup
  | .set S n => h.SetOf (intKind P w) a S n
  | .ins C dx fs => H dx = some (.own a) ∧ fs.length ≤ 1000 ∧ dx ≠ a ∧ h.get? a = some (PySem.W.instObj C dx) ∧
      ∃ mA, h.Ns1 dx mA ∧ (∀ f, RelO (fs.lookup f) (mA f)) ∧ PySem.Within mA (fs.map (·.1))
  | .own _ => ∃ o, h.get? a = some o
  | .xd fs => ∃ mA, h.Ns1 a mA ∧ ∀ f, RelO (fs.lookup f) (mA f)
  | .rng lo hi => ∃ t u v, h.get? a = some { cls := .type "range", data := .fields #[.int lo t, .int hi u, .int 1 v] }
  | .frz o u => h.get? a = some o ∧ ObjOk H h a u
  | .tbl ps => h.get? a = some { cls := .none, data := .fields ps }
  | .met f x => h.get? a = some (PySem.W.methodObj (.ref f) (.ref x))
  | .ext φ => φ h ∧ (∃ o, h.get? a = some o) ∧ ∀ h1 h2 : Heap, φ h1 → (∀ o, h1.get? a = some o → h2.get? a = some o) → φ h2
/-- the abstract heap is held -/
def HOk (H : Hp) (h : Heap) : Prop := ∀ a o, H a = some o → ObjOk P w H h a o
end

section
variable {P : Program} {w : World} {H H' : Hp} {h h' : Heap} {a : Addr} {o : HO}
theorem ObjOk.lt (x : ObjOk P w H h a o) : a < h.objs.size := by
  cases o with
  | lst xs => obtain ⟨_, _, _, _, e⟩ := x; exact Heap.lt_size e
  | tup xs => obtain ⟨_, _, _, p⟩ := x; exact p.lt
  | dK kvs => obtain ⟨_, _, _, _, o, _, _, e, _⟩ := x; exact Heap.lt_size e
  | dT kvs => obtain ⟨_, _, _, _, o, _, _, e, _⟩ := x; exact Heap.lt_size e
  | set S n => obtain ⟨o, _, _, _, e, _⟩ := x; exact Heap.lt_size e
  | ins C dx fs => obtain ⟨_, _, _, e, _⟩ := x; exact Heap.lt_size e
  | own y => obtain ⟨_, e⟩ := x; exact Heap.lt_size e
  | xd fs => obtain ⟨_, ⟨_, _, _, e, _⟩, _⟩ := x; exact Heap.lt_size e
  | rng lo hi => obtain ⟨_, _, _, e⟩ := x; exact Heap.lt_size e
  | frz ob u => obtain ⟨e, _⟩ := x; exact Heap.lt_size e
  | tbl ps => exact Heap.lt_size (show h.get? a = some _ from x)
  | met f y => exact Heap.lt_size (show h.get? a = some _ from x)
  | ext φ => obtain ⟨_, ⟨_, e⟩, _⟩ := x; exact Heap.lt_size e
theorem Paired.mapP {α β : Type} {F G : α → β → Prop} : ∀ {l₁ : List α} {l₂ : List β}, Paired F l₁ l₂ → (∀ a b, F a b → G a b) → Paired G l₁ l₂
  | _, _, .nil, _ => .nil
  | _, _, .cons r t, f => .cons (f _ _ r) (Paired.mapP t f)
theorem Paired.imp' {α β : Type} {F G : α → β → Prop} (f : ∀ a b, F a b → G a b) {l₁ : List α} {l₂ : List β} (r : Paired F l₁ l₂) : Paired G l₁ l₂ := Paired.mapP r f
/-- what an object's description leans on: its own object, its own dict, the tuples -/
theorem ObjOk.stay (x : ObjOk P w H h a o) (k : ∀ b u, (b = a ∨ H b = some (.own a)) → h.get? b = some u → h'.get? b = some u)
    (ho : ∀ b, H b = some (.own a) → H' b = some (.own a)) (ht : ∀ b xs, H b = some (.tup xs) → H' b = some (.tup xs)) : ObjOk P w H' h' a o := by
  induction o with
  | lst xs => obtain ⟨z, its, n, r, e⟩ := x; exact ⟨z, its, n, r, k _ _ (.inl rfl) e⟩
  | tup xs => obtain ⟨z, its, r, ob, e, c⟩ := x; exact ⟨z, its, r, ob, k _ _ (.inl rfl) e, c⟩
  | dK kvs => obtain ⟨z, y, vs, r, ob, es, ep, e, c⟩ := x; exact ⟨z, y, vs, r, ob, es, ep, k _ _ (.inl rfl) e, c⟩
  | dT kvs =>
    obtain ⟨z, y, xs, r, ob, es, ep, e, c⟩ := x
    exact ⟨z, y, xs, Paired.mapP r fun p q z => ⟨z.1, ht _ _ z.2.1, z.2.2⟩, ob, es, ep, k _ _ (.inl rfl) e, c⟩
  | set S n => obtain ⟨ob, es, ep, t, e, c⟩ := x; exact ⟨ob, es, ep, t, k _ _ (.inl rfl) e, c⟩
  | ins C dx fs =>
    obtain ⟨d, z, ne, e, mA, ⟨od, es, ep, e2, c⟩, r⟩ := x
    exact ⟨ho _ d, z, ne, k _ _ (.inl rfl) e, mA, ⟨od, es, ep, k _ _ (.inr d) e2, c⟩, r⟩
  | own y => obtain ⟨ob, e⟩ := x; exact ⟨ob, k _ _ (.inl rfl) e⟩
  | xd fs => obtain ⟨mA, ⟨od, es, ep, e, c⟩, r⟩ := x; exact ⟨mA, ⟨od, es, ep, k _ _ (.inl rfl) e, c⟩, r⟩
  | rng lo hi => obtain ⟨t, u, v, e⟩ := x; exact ⟨t, u, v, k _ _ (.inl rfl) e⟩
  | frz ob u ih => obtain ⟨e, q⟩ := x; exact ⟨k _ _ (.inl rfl) e, ih q⟩
  | tbl ps =>
    have e : h.get? a = some { cls := .none, data := .fields ps } := x
    show h'.get? a = some { cls := .none, data := .fields ps }
    exact k a _ (.inl rfl) e
  | met f y =>
    have e : h.get? a = some (PySem.W.methodObj (.ref f) (.ref y)) := x
    show h'.get? a = some (PySem.W.methodObj (.ref f) (.ref y))
    exact k a _ (.inl rfl) e
  | ext φ => obtain ⟨p, ⟨o, e⟩, st⟩ := x; exact ⟨st _ _ p fun o q => k _ _ (.inl rfl) q, ⟨o, k _ _ (.inl rfl) e⟩, st⟩
theorem HOk.lt (x : HOk P w H h) (e : H a = some o) : a < h.objs.size := (x a o e).lt
theorem HOk.fresh (x : HOk P w H h) (e : h.objs.size ≤ a) : H a = none := by
  cases q : H a with
  | none => rfl
  | some u => exact absurd (Nat.lt_of_lt_of_le (x.lt q) e) (Nat.lt_irrefl _)
/-- every object of the heap is kept -/
theorem HOk.kept (x : HOk P w H h) (k : ∀ b u, h.get? b = some u → h'.get? b = some u) : HOk P w H h' := fun a o e =>
  (x a o e).stay (fun b u _ q => k b u q) (fun _ q => q) fun _ _ q => q
/-- a new object is laid and tracked -/
theorem HOk.laid (x : HOk P w H h) (k : ∀ b u, h.get? b = some u → h'.get? b = some u) (hp : h.objs.size ≤ a) (new : ObjOk P w (upd H a o) h' a o) : HOk P w (upd H a o) h' := fun b u e => by
  have hn := x.fresh hp
  by_cases hb : b = a
  · subst hb; rw [upd_same] at e; cases e; exact new
  · rw [upd_ne hb] at e
    exact (x b u e).stay (fun c v _ q => k c v q) (fun c q => by rw [upd_ne (ne_of_none q hn)]; exact q) fun c xs q => by rw [upd_ne (ne_of_none q hn)]; exact q
end

/-- what may be read as u: it is u, or a known u -/
def Rd (H : Hp) (a : Addr) (u : HO) : Prop := H a = some u ∨ ∃ o, H a = some (.frz o u)
theorem Rd.of {H : Hp} {a : Addr} {u : HO} (h : H a = some u) : Rd H a u := .inl h
theorem Rd.ok {P : Program} {w : World} {H : Hp} {h : Heap} {a : Addr} {u : HO} (r : Rd H a u) (x : HOk P w H h) : ObjOk P w H h a u := by
  rcases r with r | ⟨o, r⟩
  · exact x a u r
  · obtain ⟨_, q⟩ := x a _ r
    exact q
/-- what may be written -/
def Mut : Option HO → Prop
  | some (.lst _) => True
  | some (.dK _) => True
  | some (.dT _) => True
  | some (.set _ _) => True
  | some (.ins _ _ _) => True
  | some (.ext _) => True
  | _ => False
section
variable {P : Program} {w : World} {H : Hp} {h h' : Heap} {x e : Addr} {o' : HO}
/-- the object at e is changed: x itself, or the dict of the instance x -/
theorem HOk.write (ok : HOk P w H h) (mu : Mut (H x)) (he : e = x ∨ H e = some (.own x)) (k : ∀ b u, b ≠ e → h.get? b = some u → h'.get? b = some u) (heo : ∃ u, h'.get? e = some u)
    (new : ObjOk P w (upd H x o') h' x o') : HOk P w (upd H x o') h' := fun b u q => by
  have nown : ∀ c y, H c = some (.own y) → c ≠ x := fun c y r z => by subst z; rw [r] at mu; exact mu
  have ntup : ∀ c xs, H c = some (.tup xs) → c ≠ x := fun c xs r z => by subst z; rw [r] at mu; exact mu
  by_cases hb : b = x
  · subst hb; rw [upd_same] at q; cases q; exact new
  · rw [upd_ne hb] at q
    by_cases hbe : b = e
    · have q' : H b = some (.own x) := by
        rcases he with z | z
        · exact absurd (hbe.trans z) hb
        · rw [hbe]; exact z
      rw [q] at q'; cases q'
      obtain ⟨v, hv⟩ := heo
      exact ⟨v, by rw [hbe]; exact hv⟩
    · refine (ok b u q).stay (fun c v hc r => k c v ?_ r) (fun c r => by rw [upd_ne (nown c b r)]; exact r) fun c xs r => by rw [upd_ne (ntup c xs r)]; exact r
      rcases hc with rfl | hc
      · exact hbe
      · rintro rfl
        rcases he with z | z
        · exact nown c b hc z
        · rw [hc] at z; cases z; exact hb rfl
end

/-! ### kept unless tracked; of the frames at fs (the callers') the slots may change (an exception that passes writes there); of the records at ex (iterators) nothing is said -/
structure Un (fs ex : List Addr) (H H' : Hp) (h h' : Heap) : Prop where
  keep : ∀ b o, h.get? b = some o → H b = none → b ∉ fs → b ∉ ex → h'.get? b = some o
  slot : ∀ b o, h.get? b = some o → H b = none → b ∈ fs → b ∉ ex → ∃ sl, h'.get? b = some { o with slots := sl }
  free : ∀ b o, h.get? b = some o → H b = none → b ∉ ex → H' b = none
  there : ∀ b o, h.get? b = some o → b ∉ ex → ∃ o', h'.get? b = some o'
  tups : ∀ b xs, H b = some (.tup xs) → H' b = some (.tup xs)
  frzs : ∀ b o u, H b = some (.frz o u) → H' b = some (.frz o u)
  tbls : ∀ b ps, H b = some (.tbl ps) → ∃ more, H' b = some (.tbl (ps ++ more))
section
variable {fs fs' ex ex' : List Addr} {H H1 H2 : Hp} {h h1 h2 h' : Heap} {a x e : Addr} {o : HO}
theorem Un.any (u : Un fs ex H H1 h h1) {b : Addr} {ob : Obj} (q : h.get? b = some ob) (n : H b = none) (hx : b ∉ ex) : ∃ sl, h1.get? b = some { ob with slots := sl } := by
  by_cases hb : b ∈ fs
  · exact u.slot b ob q n hb hx
  · exact ⟨ob.slots, u.keep b ob q n hb hx⟩
theorem Un.trans (a : Un fs ex H H1 h h1) (b : Un fs ex H1 H2 h1 h2) : Un fs ex H H2 h h2 where
  keep := fun c ob q n hc hx => b.keep c ob (a.keep c ob q n hc hx) (a.free c ob q n hx) hc hx
  slot := fun c ob q n hc hx => by
    obtain ⟨sl, e1⟩ := a.slot c ob q n hc hx
    obtain ⟨sl', e2⟩ := b.slot c _ e1 (a.free c ob q n hx) hc hx
    exact ⟨sl', e2⟩
  free := fun c ob q n hx => by
    obtain ⟨o', e1⟩ := a.there c ob q hx
    exact b.free c o' e1 (a.free c ob q n hx) hx
  there := fun c ob q hx => by
    obtain ⟨o', e1⟩ := a.there c ob q hx
    exact b.there c o' e1 hx
  tups := fun c xs q => b.tups c xs (a.tups c xs q)
  frzs := fun c ob xs q => b.frzs c ob xs (a.frzs c ob xs q)
  tbls := fun c ps q => by
    obtain ⟨m1, e1⟩ := a.tbls c ps q
    obtain ⟨m2, e2⟩ := b.tbls c _ e1
    exact ⟨m1 ++ m2, by rw [e2, Array.append_assoc]⟩
theorem Un.kept (k : ∀ b u, h.get? b = some u → h'.get? b = some u) : Un fs ex H H h h' :=
  ⟨fun b ob q _ _ _ => k b ob q, fun b ob q _ _ _ => ⟨ob.slots, k b ob q⟩, fun _ _ _ n _ => n, fun b ob q _ => ⟨ob, k b ob q⟩, fun _ _ q => q, fun _ _ _ q => q, fun _ ps q => ⟨#[], by rw [q]; simp⟩⟩
theorem Un.refl : Un fs ex H H h h := Un.kept fun _ _ q => q
theorem Un.laid (k : ∀ b u, h.get? b = some u → h'.get? b = some u) (hp : h.objs.size ≤ a) (hn : H a = none) : Un fs ex H (upd H a o) h h' where
  keep := fun b u q _ _ _ => k b u q
  slot := fun b u q _ _ _ => ⟨u.slots, k b u q⟩
  free := fun b u q n _ => by rw [upd_ne (Nat.ne_of_lt (Nat.lt_of_lt_of_le (Heap.lt_size q) hp))]; exact n
  there := fun b u q _ => ⟨u, k b u q⟩
  tups := fun b xs q => by rw [upd_ne (ne_of_none q hn)]; exact q
  frzs := fun b u xs q => by rw [upd_ne (ne_of_none q hn)]; exact q
  tbls := fun b ps q => ⟨#[], by rw [upd_ne (ne_of_none q hn), q]; simp⟩
theorem Un.write (mu : Mut (H x)) (he : e = x ∨ H e = some (.own x)) (k : ∀ b u, b ≠ e → h.get? b = some u → h'.get? b = some u) (heo : ∃ u, h'.get? e = some u) : Un fs ex H (upd H x o) h h' := by
  have hx : ∀ b, H b = none → b ≠ x := fun b n z => by subst z; rw [n] at mu; exact mu
  have hb : ∀ b, H b = none → b ≠ e := fun b n z => by
    subst z
    rcases he with r | r
    · exact hx b n r
    · rw [n] at r; cases r
  have hm : ∀ b u, H b = some u → ¬ Mut (some u) → b ≠ x := fun b u q nm z => by subst z; rw [q] at mu; exact nm mu
  refine ⟨fun b u q n _ _ => k b u (hb b n) q, fun b u q n _ _ => ⟨u.slots, k b u (hb b n) q⟩, fun b u q n _ => by rw [upd_ne (hx b n)]; exact n, fun b u q _ => ?_,
    fun b xs q => by rw [upd_ne (hm b _ q fun z => z)]; exact q, fun b u xs q => by rw [upd_ne (hm b _ q fun z => z)]; exact q, fun b ps q => ⟨#[], by rw [upd_ne (hm b _ q fun z => z), q]; simp⟩⟩
  by_cases hbe : b = e
  · subst hbe; exact heo
  · exact ⟨u, k b u hbe q⟩
theorem Un.mono (u : Un fs ex H H1 h h1) (hs : ∀ b ∈ fs, b ∈ fs') (hx : ∀ b ∈ ex, b ∈ ex') : Un fs' ex' H H1 h h1 :=
  ⟨fun b ob q n hb he => u.keep b ob q n (fun z => hb (hs b z)) fun z => he (hx b z), fun _ _ q n _ he => u.any q n fun z => he (hx _ z), fun b ob q n he => u.free b ob q n fun z => he (hx b z), fun b ob q he => u.there b ob q fun z => he (hx b z), u.tups, u.frzs, u.tbls⟩
end

/-! ### the heap without what is tracked -/
def trk (h : Heap) (H : Hp) : List Addr := (List.range h.objs.size).filter fun a => (H a).isSome
def hidT (h : Heap) (H : Hp) : Heap := PySem.W.hideAll h (trk h H)
theorem hidT_size (h : Heap) (H : Hp) : (hidT h H).objs.size = h.objs.size := PySem.W.hideAll_size _ _
theorem hidT_get {h : Heap} {H : Hp} {b : Addr} {o : Obj} (e : h.get? b = some o) (n : H b = none) : (hidT h H).get? b = some o :=
  PySem.W.hideAll_get _ e fun hm => by
    have q : (H b).isSome = true := (List.mem_filter.mp hm).2
    rw [n] at q; simp at q
theorem of_hidT {h : Heap} {H : Hp} {b : Addr} {o : Obj} (e : (hidT h H).get? b = some o) : h.get? b = some o ∧ H b = none := by
  have e' : h.get? b = some o := PySem.W.of_hideAll (trk h H) e
  refine ⟨e', ?_⟩
  cases q : H b with
  | none => rfl
  | some x =>
    have hm : b ∈ trk h H := List.mem_filter.mpr ⟨List.mem_range.mpr (Heap.lt_size e'), by simp [q]⟩
    have z : (hidT h H).get? b = none := PySem.W.hideAll_none (trk h H) hm
    rw [z] at e; cases e

/-! ### OpenK's ledger, filled with every new object but one -/
def allNews (g h : Heap) (L : Addr) : List (Addr × Obj) := (List.range h.objs.size).filterMap fun a => if a = L ∨ (g.get? a).isSome = true then none else (h.get? a).map fun o => (a, o)
theorem mem_allNews {g h : Heap} {L a : Addr} {o : Obj} (h1 : a ≠ L) (h2 : g.get? a = none) (h3 : h.get? a = some o) : (a, o) ∈ allNews g h L :=
  List.mem_filterMap.mpr ⟨a, List.mem_range.mpr (Heap.lt_size h3), by simp [h1, h2, h3]⟩
theorem of_mem_allNews {g h : Heap} {L : Addr} {p : Addr × Obj} (hp : p ∈ allNews g h L) : p.1 ≠ L ∧ g.get? p.1 = none ∧ h.get? p.1 = some p.2 := by
  obtain ⟨b, _, e⟩ := List.mem_filterMap.mp hp
  split at e
  · cases e
  · rename_i hn
    cases q : h.get? b with
    | none => rw [q] at e; simp at e
    | some u =>
      rw [q] at e
      simp only [Option.map_some, Option.some.injEq] at e
      subst e
      refine ⟨fun z => hn (.inl z), ?_, q⟩
      show g.get? b = none
      cases r : g.get? b with
      | none => rfl
      | some v => exact (hn (.inr (by simp [r]))).elim
def rest (g h : Heap) (L d : Addr) : List (Addr × Obj) := (allNews g h L).filter fun p => decide (p.1 ≠ d)
theorem rest_ne {g h : Heap} {L d : Addr} : ∀ p ∈ rest g h L d, p.1 ≠ d := fun p hp => of_decide_eq_true (List.mem_filter.mp hp).2
theorem mem_rest {g h : Heap} {L d a : Addr} {o : Obj} (h1 : a ≠ L) (h2 : g.get? a = none) (h3 : h.get? a = some o) (h4 : a ≠ d) : (a, o) ∈ rest g h L d :=
  List.mem_filter.mpr ⟨mem_allNews h1 h2 h3, decide_eq_true h4⟩
theorem news_all {g h : Heap} {L : Addr} : News g L h (allNews g h L) := fun p hp => let ⟨a, b, c⟩ := of_mem_allNews hp; ⟨c, a, b⟩
theorem news_at {g h : Heap} {L d : Addr} {o : Obj} (h1 : d ≠ L) (h2 : g.get? d = none) (h3 : h.get? d = some o) : News g L h ((d, o) :: rest g h L d) := fun p hp => by
  rcases List.mem_cons.mp hp with rfl | hp
  · exact ⟨h3, h1, h2⟩
  · exact news_all p (List.mem_filter.mp hp).1
/-- behind a rule that changed d alone: all else but the frame is kept -/
theorem kept_of_news {g h h' : Heap} {L d : Addr} {m : Str → Option Value} (k : ∀ b o, g.get? b = some o → h.get? b = some o) (F : Fr g L h' m) (N : News g L h' (rest g h L d)) :
    ∀ b o, b ≠ L → b ≠ d → h.get? b = some o → h'.get? b = some o := fun b o h1 h2 e => by
  cases q : g.get? b with
  | some u =>
    have := k b u q
    rw [e] at this; cases this
    exact F.keep b _ q
  | none => exact (N (b, o) (mem_rest h1 q e h2)).1
end L2

namespace L2
open PySem PySem.Spec PyProof.Rows

/-- the module's facts, over the base: the heap at the law's entry without what is tracked there -/
structure Mod (K : PySem.W.Frag) (mg : Str → Option Value) (base : Heap) : Prop where
  kin : K.In base
  glob : base.Ns mainGlobals mg
  blt : ∃ mb, base.Ns builtinsNs mb ∧ ∀ x : Str, x ≠ "__name__" → mb x = bootBuiltins x
  nolimit : base.NoLimit

/-- the context: a def's body (or a comprehension's block) running. base: fixed through the whole law; s₀, H₀: the entry; outer: the frames whose slots others may change (a def's callers); stack: all frames that run;
   ex: iterators that were made ahead of the entry and are walked here (a comprehension's); fn: the names whose cells were made at the entry (a def: all; a comprehension's block: its own); calm: not within an except suite; pn: pins that every state bears; xe: what is wanted of an exception that leaves the code -/
structure Cx where
  prog : Program
  w : World
  K : PySem.W.Frag
  mg : Str → Option Value
  base : Heap
  A : Around
  N : List Str
  s₀ : Shared
  H₀ : Hp
  env : Env
  outer : List Env
  stack : List Env
  ex : List Addr
  fn : Str → Bool
  calm : Bool
  pn : List (Addr × Obj)
  xe : Value → Shared → Prop
/-- the callers' frames -/
def frs (l : List Env) : List Addr := l.filterMap (·.frame)
abbrev Cx.fs (X : Cx) : List Addr := frs X.outer

def Vis (sc : Scope) (x : Str) : Prop := sc.names.lookup x = some .local ∨ sc.names.lookup x = some .cell ∨ sc.names.lookup x = some .free
def Loc (sc : Scope) (x : Str) : Prop := sc.names.lookup x = some .local ∨ sc.names.lookup x = some .cell
def Look (env : Env) (h : Heap) (m : Str → Option Value) (x : Str) (u : Value) : Prop :=
  (env.kindOf x = some .local ∧ m x = some u) ∨ ((env.kindOf x = some .cell ∨ env.kindOf x = some .free) ∧ ∃ c, env.cells.lookup x = some c ∧ h.IsCell c (some u))

structure Cx.Ok (X : Cx) : Prop where
  mod : Mod X.K X.mg X.base
  kind : X.env.scope.kind = .function
  glob : X.env.globals = mainGlobals
  blt : X.env.builtins = builtinsNs
  above : X.s₀.heap.objs.size ≤ X.env.locals
  inj : ∀ x y c, X.env.cells.lookup x = some c → X.env.cells.lookup y = some c → x = y
  has : ∀ x, (X.env.kindOf x = some .cell ∨ X.env.kindOf x = some .free) → ∃ c, X.env.cells.lookup x = some c
  cab : ∀ x c, X.fn x = true → X.env.cells.lookup x = some c → X.s₀.heap.objs.size ≤ c
  hd : X.calm = true → X.A.handled = none
  frames : X.A.frames = some X.stack
  stk : X.stack = X.outer ∨ (X.stack = X.env :: X.outer ∧ X.env.frame = some X.env.locals)
  exf : ∀ b ∈ X.ex, b ≠ X.env.locals ∧ ∀ x c, X.env.cells.lookup x = some c → c ≠ b
  bs : ∀ b o, X.base.get? b = some o → X.s₀.heap.get? b = some o ∧ X.H₀ b = none
  bsz : X.base.objs.size ≤ X.s₀.heap.objs.size
  noex : ∀ b o, X.base.get? b = some o → b ∉ X.ex
  exfs : ∀ b ∈ X.ex, b ∉ X.fs
  funs : X.s₀.heap.FunFrames X.base X.outer
  frf : ∀ b ∈ X.fs, X.H₀ b = none

structure Inv (X : Cx) (pins : List (Addr × Obj)) (σ : List (Option V)) (H : Hp) (s : Shared) : Prop where
  ok : X.Ok
  os : s.os = X.s₀.os
  bare : AllBare s.gens
  base : Un X.fs X.ex X.H₀ H X.s₀.heap s.heap
  loc : ∃ m, s.heap.Ns X.env.locals m ∧ ∀ (i : Nat) (x : Str) (v : V), X.N[i]? = some x → σ[i]? = some (some v) → Vis X.env.scope x → ∃ u, RelV v u ∧ Look X.env s.heap m x u
  cell : ∀ x c, X.env.cells.lookup x = some c → ∃ v, s.heap.IsCell c v
  free : H X.env.locals = none
  freeC : ∀ x c, X.env.cells.lookup x = some c → H c = none
  pin : ∀ p ∈ X.pn ++ pins, s.heap.get? p.1 = some p.2 ∧ H p.1 = none ∧ p.1 ≠ X.env.locals ∧ p.1 ∉ X.fs ∧ ∀ v, p.2.data ≠ .cell v
  hok : HOk X.prog X.w H s.heap
  len : σ.length = X.N.length

section
variable {X : Cx} {pins : List (Addr × Obj)} {σ : List (Option V)} {H H' : Hp} {s : Shared} {h' : Heap}

theorem Cx.Ok.nofr (ok : X.Ok) {b : Addr} {o : Obj} (e : X.base.get? b = some o) : b ∉ X.fs := fun hb => by
  have := (ok.funs.mem hb).1
  rw [e] at this; cases this
theorem Inv.bs (I : Inv X pins σ H s) : ∀ b o, X.base.get? b = some o → s.heap.get? b = some o ∧ H b = none := fun b o e =>
  ⟨I.base.keep b o (I.ok.bs b o e).1 (I.ok.bs b o e).2 (I.ok.nofr e) (I.ok.noex b o e), I.base.free b o (I.ok.bs b o e).1 (I.ok.bs b o e).2 (I.ok.noex b o e)⟩
theorem Inv.bk (I : Inv X pins σ H s) : ∀ b o, X.base.get? b = some o → s.heap.get? b = some o := fun b o e => (I.bs b o e).1
theorem Inv.mod (I : Inv X pins σ H s) : Mod X.K X.mg X.base := I.ok.mod
theorem Inv.kIn (I : Inv X pins σ H s) : X.K.In s.heap := I.ok.mod.kin.keeps I.bk
theorem Inv.nolimit (I : Inv X pins σ H s) : s.heap.NoLimit := I.ok.mod.nolimit.keeps I.bk
/-- the frame over the base: for OpenK's rules (K.In X.base is I.mod.kin) -/
theorem Inv.fr (I : Inv X pins σ H s) : ∃ m, Fr X.base X.env.locals s.heap m :=
  let ⟨m, hn, _⟩ := I.loc
  ⟨m, hn, I.bk, Nat.le_trans I.ok.bsz I.ok.above⟩
theorem Inv.lt (I : Inv X pins σ H s) : X.env.locals < s.heap.objs.size := let ⟨_, hn, _⟩ := I.loc; hn.lt
theorem Inv.sz (I : Inv X pins σ H s) : X.s₀.heap.objs.size ≤ s.heap.objs.size := Nat.le_trans I.ok.above (Nat.le_of_lt I.lt)
theorem Inv.nofs (I : Inv X pins σ H s) {a : Addr} (h : s.heap.objs.size ≤ a) : a ∉ X.fs := fun hb => by
  obtain ⟨_, o, ho, _⟩ := I.ok.funs.mem hb
  exact absurd (Nat.lt_of_lt_of_le (Heap.lt_size ho) (Nat.le_trans I.sz h)) (Nat.lt_irrefl _)
theorem Inv.cne (I : Inv X pins σ H s) : ∀ x c, X.env.cells.lookup x = some c → c ≠ X.env.locals := fun x c e z => by
  obtain ⟨v, o, ho, hd⟩ := I.cell x c e
  obtain ⟨m, ⟨o', es, ep, ho', hd', _⟩, _⟩ := I.loc
  rw [z, ho'] at ho; cases ho; rw [hd'] at hd; cases hd
theorem Inv.funs (I : Inv X pins σ H s) : s.heap.FunFrames X.base X.outer := by
  have all : ∀ (l : List Env), (∀ b ∈ frs l, b ∈ X.fs) → X.s₀.heap.FunFrames X.base l → s.heap.FunFrames X.base l := by
    intro l
    induction l with
    | nil => intro _ _; trivial
    | cons env r ih =>
      intro hs hl
      obtain ⟨hk, ⟨L, o, hf, hn, ho, hd⟩, hr⟩ := hl
      have hL : L ∈ X.fs := hs L (by unfold frs; rw [List.filterMap_cons, hf]; exact List.mem_cons_self)
      obtain ⟨sl, e⟩ := I.base.slot L o ho (I.ok.frf L hL) hL fun z => I.ok.exfs L z hL
      exact ⟨hk, ⟨L, _, hf, hn, e, hd⟩, ih (fun b hb => hs b (by unfold frs; rw [List.filterMap_cons, hf]; exact List.mem_cons_of_mem _ hb)) hr⟩
  exact all X.outer (fun _ hb => hb) I.ok.funs

/-- the frames that run, for a call -/
theorem Inv.stack (I : Inv X pins σ H s) : s.heap.FunFrames X.base X.stack := by
  rcases I.ok.stk with e | ⟨e, hf⟩
  · rw [e]; exact I.funs
  · rw [e]
    obtain ⟨m, hn, _⟩ := I.loc
    refine .cons (by rw [I.ok.kind]; decide) hf hn ?_ I.funs
    exact Heap.get?_none_of_le (Nat.le_trans I.ok.bsz I.ok.above)
theorem Inv.stkSub (I : Inv X pins σ H s) : ∀ b ∈ frs X.stack, b ∈ X.env.locals :: X.fs := fun b hb => by
  rcases I.ok.stk with e | ⟨e, hf⟩
  · rw [e] at hb; exact List.mem_cons_of_mem _ hb
  · rw [e] at hb
    unfold frs at hb
    rw [List.filterMap_cons, hf] at hb
    exact hb
theorem Inv.stkFree (I : Inv X pins σ H s) : ∀ b ∈ frs X.stack, H b = none := fun b hb => by
  rcases List.mem_cons.mp (I.stkSub b hb) with e | hb
  · rw [e]; exact I.free
  · obtain ⟨_, o, ho, _⟩ := I.ok.funs.mem hb
    exact I.base.free b o ho (I.ok.frf b hb) fun z => I.ok.exfs b z hb

/-- THE STEP: the untracked objects but the frame and the records at ch are kept (the callers' frames up to slots), the frame's map is kept, the new abstract heap is held -/
theorem Inv.step {g' : Array GenState} {t' : Nat} {d' : Drawn} {ch : List Addr} (I : Inv X pins σ H s)
    (hch : ∀ b ∈ ch, (b ∈ X.ex ∨ X.s₀.heap.objs.size ≤ b) ∧ b ≠ X.env.locals ∧ (∀ x c, X.env.cells.lookup x = some c → c ≠ b) ∧ ∀ p ∈ X.pn ++ pins, p.1 ≠ b)
    (keep : ∀ b o, b ≠ X.env.locals → b ∉ X.fs → b ∉ ch → s.heap.get? b = some o → H b = none → h'.get? b = some o)
    (slot : ∀ b o, b ≠ X.env.locals → b ∈ X.fs → b ∉ ch → s.heap.get? b = some o → H b = none → ∃ sl, h'.get? b = some { o with slots := sl }) (free : ∀ b o, b ∉ ch → s.heap.get? b = some o → H b = none → H' b = none)
    (there : ∀ b o, b ∉ ch → s.heap.get? b = some o → ∃ o', h'.get? b = some o')
    (tups : ∀ b xs, H b = some (.tup xs) → H' b = some (.tup xs)) (frzs : ∀ b o u, H b = some (.frz o u) → H' b = some (.frz o u)) (tbls : ∀ b ps, H b = some (.tbl ps) → ∃ more, H' b = some (.tbl (ps ++ more)))
    (ns : ∀ m, s.heap.Ns X.env.locals m → h'.Ns X.env.locals m) (hok : HOk X.prog X.w H' h') (hg : AllBare g') :
    Inv X pins σ H' { s with heap := h', gens := g', drawn := d', toks := t' } := by
  have neL : ∀ b o, X.s₀.heap.get? b = some o → b ≠ X.env.locals := fun b o e => Nat.ne_of_lt (Nat.lt_of_lt_of_le (Heap.lt_size e) I.ok.above)
  have neC : ∀ b o, X.s₀.heap.get? b = some o → b ∉ X.ex → b ∉ ch := fun b o e hx hb => by
    rcases (hch b hb).1 with z | z
    · exact hx z
    · exact absurd (Nat.lt_of_lt_of_le (Heap.lt_size e) z) (Nat.lt_irrefl _)
  have cellK : ∀ x c, X.env.cells.lookup x = some c → ∀ v, s.heap.IsCell c v → h'.IsCell c v := fun x c e v ⟨o, ho, hd⟩ => by
    have nch : c ∉ ch := fun z => (hch c z).2.2.1 x c e rfl
    by_cases hc : c ∈ X.fs
    · obtain ⟨sl, q⟩ := slot c o (I.cne x c e) hc nch ho (I.freeC x c e)
      exact ⟨_, q, hd⟩
    · exact ⟨o, keep c o (I.cne x c e) hc nch ho (I.freeC x c e), hd⟩
  refine ⟨I.ok, I.os, hg, ⟨fun b o e n hb hx => ?_, fun b o e n hb hx => ?_, fun b o e n hx => ?_, fun b o e hx => ?_, fun b xs e => tups b xs (I.base.tups b xs e), fun b o xs e => frzs b o xs (I.base.frzs b o xs e), fun b ps e => ?_⟩, ?_, fun x c e => ?_, ?_, fun x c e => ?_, fun p hp => ?_, hok, I.len⟩
  · exact keep b o (neL b o e) hb (neC b o e hx) (I.base.keep b o e n hb hx) (I.base.free b o e n hx)
  · obtain ⟨sl, e1⟩ := I.base.slot b o e n hb hx
    obtain ⟨sl', e2⟩ := slot b _ (neL b o e) hb (neC b o e hx) e1 (I.base.free b o e n hx)
    exact ⟨sl', e2⟩
  · obtain ⟨o', e1⟩ := I.base.there b o e hx
    exact free b o' (neC b o e hx) e1 (I.base.free b o e n hx)
  · obtain ⟨o', e1⟩ := I.base.there b o e hx
    exact there b o' (neC b o e hx) e1
  · obtain ⟨m1, e1⟩ := I.base.tbls b ps e
    obtain ⟨m2, e2⟩ := tbls b _ e1
    exact ⟨m1 ++ m2, by rw [e2, Array.append_assoc]⟩
  · obtain ⟨m, hn, hl⟩ := I.loc
    refine ⟨m, ns m hn, fun i x v e1 e2 e3 => ?_⟩
    obtain ⟨u, r, l⟩ := hl i x v e1 e2 e3
    refine ⟨u, r, ?_⟩
    rcases l with l | ⟨k, c, e, z⟩
    · exact .inl l
    · exact .inr ⟨k, c, e, cellK x c e _ z⟩
  · obtain ⟨v, z⟩ := I.cell x c e
    exact ⟨v, cellK x c e v z⟩
  · obtain ⟨m, ⟨o, _, _, ho, _⟩, _⟩ := I.loc
    exact free _ o (fun z => (hch _ z).2.1 rfl) ho I.free
  · obtain ⟨v, o, ho, hd⟩ := I.cell x c e
    exact free c o (fun z => (hch c z).2.2.1 x c e rfl) ho (I.freeC x c e)
  · obtain ⟨e, n, ne, nf, d⟩ := I.pin p hp
    have nch : p.1 ∉ ch := fun z => (hch p.1 z).2.2.2 p hp rfl
    exact ⟨keep p.1 p.2 ne nf nch e n, free p.1 p.2 nch e n, ne, nf, d⟩
/-- .. where the frame's own object is kept too -/
theorem Inv.un {t' : Nat} (I : Inv X pins σ H s) (u : Un X.fs [] H H' s.heap h') (hok : HOk X.prog X.w H' h') : Inv X pins σ H' { s with heap := h', toks := t' } := by
  obtain ⟨m, ⟨o, es, ep, ho, r⟩, _⟩ := id I.loc
  obtain ⟨sl, hL⟩ := u.any ho I.free (by simp)
  exact I.step (g' := s.gens) (d' := s.drawn) (ch := []) (fun _ z => nomatch z) (fun b o _ hb _ e n => u.keep b o e n hb (by simp)) (fun b o _ hb _ e n => u.slot b o e n hb (by simp)) (fun b o _ e n => u.free b o e n (by simp)) (fun b o _ e => u.there b o e (by simp)) u.tups u.frzs u.tbls (fun m' hm => by
    obtain ⟨o', es', ep', ho', r'⟩ := hm
    rw [ho] at ho'; cases ho'
    exact ⟨_, es', ep', hL, r'⟩) hok I.bare
/-- behind a call (or a comprehension's block): the slots of this frame may have changed too, the records at ch may have turned -/
theorem Inv.call {g' : Array GenState} {t' : Nat} {d' : Drawn} {ch : List Addr} (I : Inv X pins σ H s) (u : Un (frs X.stack) ch H H' s.heap h') (hok : HOk X.prog X.w H' h') (hg : AllBare g')
    (hch : ∀ b ∈ ch, (b ∈ X.ex ∨ X.s₀.heap.objs.size ≤ b) ∧ b ≠ X.env.locals ∧ (∀ x c, X.env.cells.lookup x = some c → c ≠ b) ∧ ∀ p ∈ X.pn ++ pins, p.1 ≠ b) :
    Inv X pins σ H' { s with heap := h', gens := g', drawn := d', toks := t' } := by
  obtain ⟨m, ⟨o, es, ep, ho, r⟩, _⟩ := id I.loc
  obtain ⟨sl, hL⟩ := u.any ho I.free fun z => (hch _ z).2.1 rfl
  exact I.step (ch := ch) hch (fun b o hL hb hc e n => u.keep b o e n (fun z => (List.mem_cons.mp (I.stkSub b z)).elim hL hb) hc) (fun b o _ _ hc e n => u.any e n hc) (fun b o hc e n => u.free b o e n hc) (fun b o hc e => u.there b o e hc) u.tups u.frzs u.tbls (fun m' hm => by
    obtain ⟨o', es', ep', ho', r'⟩ := hm
    rw [ho] at ho'; cases ho'
    exact ⟨_, es', ep', hL, r'⟩) hok hg
/-- an untracked record of ours (an iterator) has turned -/
theorem Inv.turned {t' : Nat} {it : Addr} (I : Inv X pins σ H s) (k : ∀ b o, b ≠ it → s.heap.get? b = some o → h'.get? b = some o) (hn : H it = none) (hL : it ≠ X.env.locals)
    (h1 : it ∈ X.ex ∨ X.s₀.heap.objs.size ≤ it) (h2 : ∀ x c, X.env.cells.lookup x = some c → c ≠ it) (h3 : ∀ p ∈ X.pn ++ pins, p.1 ≠ it) : Inv X pins σ H { s with heap := h', toks := t' } := by
  have nit : ∀ b u, H b = some u → b ≠ it := fun b u e z => by rw [z, hn] at e; cases e
  refine I.step (g' := s.gens) (d' := s.drawn) (ch := [it]) (fun b hb => ?_) (fun b o _ _ hc e _ => k b o (fun z => hc (by simp [z])) e) (fun b o _ _ hc e _ => ⟨o.slots, k b o (fun z => hc (by simp [z])) e⟩) (fun _ _ _ _ n => n)
    (fun b o hc e => ⟨o, k b o (fun z => hc (by simp [z])) e⟩) (fun _ _ e => e) (fun _ _ _ e => e) (fun b ps e => ⟨#[], by rw [e]; simp⟩) (fun m hm => ?_) (fun b u e => ?_) I.bare
  · have e : b = it := by simpa using hb
    subst e
    exact ⟨h1, hL, h2, h3⟩
  · obtain ⟨o, es, ep, ho, r⟩ := hm
    exact ⟨o, es, ep, k _ o (Ne.symm hL) ho, r⟩
  · refine (I.hok b u e).stay (fun c v hc q => k c v ?_ q) (fun _ q => q) fun _ _ q => q
    rcases hc with z | z
    · rw [z]; exact nit b u e
    · exact nit c _ z
theorem Inv.tok (I : Inv X pins σ H s) (t : Nat) : Inv X pins σ H { s with toks := t } := I.un (h' := s.heap) (t' := t) Un.refl I.hok
/-- all objects kept -/
theorem Inv.kept {t' : Nat} (I : Inv X pins σ H s) (k : ∀ b u, s.heap.get? b = some u → h'.get? b = some u) : Inv X pins σ H { s with heap := h', toks := t' } := I.un (Un.kept k) (I.hok.kept k)
/-- a new object laid and tracked -/
theorem Inv.laid {a : Addr} {o : HO} {t' : Nat} (I : Inv X pins σ H s) (k : ∀ b u, s.heap.get? b = some u → h'.get? b = some u) (hp : s.heap.objs.size ≤ a) (new : ObjOk X.prog X.w (upd H a o) h' a o) :
    Inv X pins σ (upd H a o) { s with heap := h', toks := t' } := I.un (Un.laid k hp (I.hok.fresh hp)) (I.hok.laid k hp new)
/-- an object written -/
theorem Inv.write {x e : Addr} {o : HO} {t' : Nat} (I : Inv X pins σ H s) (mu : Mut (H x)) (he : e = x ∨ H e = some (.own x)) (k : ∀ b u, b ≠ e → s.heap.get? b = some u → h'.get? b = some u) (heo : ∃ u, h'.get? e = some u)
    (new : ObjOk X.prog X.w (upd H x o) h' x o) : Inv X pins σ (upd H x o) { s with heap := h', toks := t' } := I.un (Un.write mu he k heo) (I.hok.write mu he k heo new)
/-- forgetting slots, pins -/
theorem Inv.weak {σ' : List (Option V)} (I : Inv X pins σ H s) (hl : σ'.length = σ.length) (w : ∀ (i : Nat) v, σ'[i]? = some (some v) → σ[i]? = some (some v)) : Inv X pins σ' H s :=
  ⟨I.ok, I.os, I.bare, I.base, let ⟨m, hn, hl'⟩ := I.loc; ⟨m, hn, fun i x v e1 e2 e3 => hl' i x v e1 (w i v e2) e3⟩, I.cell, I.free, I.freeC, I.pin, I.hok, hl.trans I.len⟩
theorem Inv.pins_of {pins' : List (Addr × Obj)} (I : Inv X pins σ H s) (h : ∀ p ∈ pins', s.heap.get? p.1 = some p.2 ∧ H p.1 = none ∧ p.1 ≠ X.env.locals ∧ p.1 ∉ X.fs ∧ ∀ v, p.2.data ≠ .cell v) : Inv X pins' σ H s :=
  ⟨I.ok, I.os, I.bare, I.base, I.loc, I.cell, I.free, I.freeC, fun p hp => (List.mem_append.mp hp).elim (fun z => I.pin p (List.mem_append_left _ z)) (h p), I.hok, I.len⟩

theorem nodup_ix {N : List Str} (hN : N.Nodup) {i j : Nat} {x : Str} (a : N[i]? = some x) (b : N[j]? = some x) : i = j := by
  obtain ⟨h1, e1⟩ := List.getElem?_eq_some_iff.mp a
  obtain ⟨h2, e2⟩ := List.getElem?_eq_some_iff.mp b
  exact (List.getElem_inj hN).mp (e1.trans e2.symm)

/-- a name is stored; what changed -/
theorem store_ok2 {M : Model} {A : Around} {E : Value → Shared → Prop} {i : Nat} {x : Str} {v : V} {u : Value} {Q : Unit → Shared → Prop} (I : Inv X pins σ H s) (hN : X.N.Nodup) (hi : X.N[i]? = some x) (hx : Loc X.env.scope x) (r : RelV v u)
    (h : ∀ s', Inv X pins (σ.set i (some v)) H s' → (∃ a, Heap.SameBut a s.heap s'.heap ∧ (a = X.env.locals ∨ X.env.cells.lookup x = some a)) → Q () s') (hf : X.fn x = true ∨ X.env.scope.names.lookup x = some .local := by first | exact .inl rfl | exact .inr rfl | assumption) : wpAny M A (storeName X.env x u) Q E s := by
  obtain ⟨m, hn, hl⟩ := id I.loc
  have hcls : (X.env.scope.kind == .class || (X.env.scope.kind == .module && X.env.locals != X.env.globals)) = false := by rw [I.ok.kind]; rfl
  have hiσ : i < σ.length := by rw [I.len]; exact (List.getElem?_eq_some_iff.mp hi).1
  have cne := I.cne
  have tracked : ∀ {a : Addr} {h' : Heap}, (∃ o, s.heap.get? a = some o ∧ H a = none) → Heap.SameBut a s.heap h' → HOk X.prog X.w H h' := fun {a h'} ha hs b ob e => by
    obtain ⟨_, _, hfree⟩ := ha
    refine (I.hok b ob e).stay (fun c w' hc q => (hs.2 c ?_).trans q) (fun _ q => q) fun _ _ q => q
    rintro rfl
    rcases hc with rfl | hc
    · rw [hfree] at e; cases e
    · rw [hfree] at hc; cases hc
  rcases hx with hk | hk
  · refine wpAny_storeName_local hk hn (fun h' hn' hs => ?_) hcls
    obtain ⟨oL, _, _, hoL, _⟩ := id hn
    refine h _ ⟨I.ok, I.os, I.bare, ⟨fun b o e n hb hx => ?_, fun b o e n hb hx => ?_, I.base.free, fun b o e hx => ?_, I.base.tups, I.base.frzs, I.base.tbls⟩, ⟨_, hn', fun j y v' e1 e2 e3 => ?_⟩, fun y c e => ?_, I.free, I.freeC, fun p hp => ?_, tracked ⟨oL, hoL, I.free⟩ hs, by simpa using I.len⟩ ⟨_, hs, .inl rfl⟩
    · exact (hs.2 b (Nat.ne_of_lt (Nat.lt_of_lt_of_le (Heap.lt_size e) I.ok.above))).trans (I.base.keep b o e n hb hx)
    · obtain ⟨sl, e1⟩ := I.base.slot b o e n hb hx
      exact ⟨sl, (hs.2 b (Nat.ne_of_lt (Nat.lt_of_lt_of_le (Heap.lt_size e) I.ok.above))).trans e1⟩
    · obtain ⟨o', e1⟩ := I.base.there b o e hx
      exact ⟨o', (hs.2 b (Nat.ne_of_lt (Nat.lt_of_lt_of_le (Heap.lt_size e) I.ok.above))).trans e1⟩
    · by_cases hj : j = i
      · subst hj
        rw [hi] at e1; cases e1
        rw [List.getElem?_set_self hiσ] at e2
        cases e2
        exact ⟨u, r, .inl ⟨hk, by simp⟩⟩
      · rw [List.getElem?_set_ne (Ne.symm hj)] at e2
        obtain ⟨u', r', q⟩ := hl j y v' e1 e2 e3
        refine ⟨u', r', ?_⟩
        rcases q with ⟨k, e⟩ | ⟨k, c, e, z⟩
        · refine .inl ⟨k, ?_⟩
          have : y ≠ x := fun e => hj (nodup_ix hN e1 (e ▸ hi))
          simp [this, e]
        · exact .inr ⟨k, c, e, z.sameBut hs (cne y c e)⟩
    · obtain ⟨w', z⟩ := I.cell y c e
      exact ⟨w', z.sameBut hs (cne y c e)⟩
    · obtain ⟨e, n, ne, nf, d⟩ := I.pin p hp
      exact ⟨(hs.2 p.1 ne).trans e, n, ne, nf, d⟩
  · have hfn : X.fn x = true := by
      rcases hf with z | z
      · exact z
      · rw [z] at hk; cases hk
    obtain ⟨c, hc⟩ := I.ok.has x (.inl hk)
    obtain ⟨w', z⟩ := I.cell x c hc
    refine wpAny_storeName_cell I.ok.kind hk hc z (fun h' hc' hs => ?_)
    obtain ⟨oc, hoc, hocd⟩ := id z
    refine h { s with heap := h' } ⟨I.ok, I.os, I.bare, ⟨fun b o e n hb hx => ?_, fun b o e n hb hx => ?_, I.base.free, fun b o e hx => ?_, I.base.tups, I.base.frzs, I.base.tbls⟩, ⟨m, hn.sameBut hs (Ne.symm (cne x c hc)), fun j y v' e1 e2 e3 => ?_⟩, fun y c' e => ?_, I.free, I.freeC, fun p hp => ?_, tracked ⟨oc, hoc, I.freeC x c hc⟩ hs, by simpa using I.len⟩ ⟨c, hs, .inr hc⟩
    · exact (hs.2 b (Nat.ne_of_lt (Nat.lt_of_lt_of_le (Heap.lt_size e) (I.ok.cab x c hfn hc)))).trans (I.base.keep b o e n hb hx)
    · obtain ⟨sl, e1⟩ := I.base.slot b o e n hb hx
      exact ⟨sl, (hs.2 b (Nat.ne_of_lt (Nat.lt_of_lt_of_le (Heap.lt_size e) (I.ok.cab x c hfn hc)))).trans e1⟩
    · obtain ⟨o', e1⟩ := I.base.there b o e hx
      exact ⟨o', (hs.2 b (Nat.ne_of_lt (Nat.lt_of_lt_of_le (Heap.lt_size e) (I.ok.cab x c hfn hc)))).trans e1⟩
    · by_cases hj : j = i
      · subst hj
        rw [hi] at e1; cases e1
        rw [List.getElem?_set_self hiσ] at e2
        cases e2
        exact ⟨u, r, .inr ⟨.inl hk, c, hc, hc'⟩⟩
      · rw [List.getElem?_set_ne (Ne.symm hj)] at e2
        obtain ⟨u', r', q⟩ := hl j y v' e1 e2 e3
        refine ⟨u', r', ?_⟩
        rcases q with q | ⟨k, c', e, z'⟩
        · exact .inl q
        · refine .inr ⟨k, c', e, z'.sameBut hs ?_⟩
          rintro rfl
          exact hj (nodup_ix hN e1 (I.ok.inj _ _ _ e hc ▸ hi))
    · by_cases hcc : c' = c
      · subst hcc; exact ⟨_, hc'⟩
      · obtain ⟨w2, z2⟩ := I.cell y c' e
        exact ⟨w2, z2.sameBut hs hcc⟩
    · obtain ⟨e, n, ne, nf, d⟩ := I.pin p hp
      refine ⟨(hs.2 p.1 ?_).trans e, n, ne, nf, d⟩
      intro q
      rw [q, hoc] at e
      have q' : oc = p.2 := Option.some.inj e
      exact d w' (by rw [← q']; exact hocd)
theorem store_ok {M : Model} {A : Around} {E : Value → Shared → Prop} {i : Nat} {x : Str} {v : V} {u : Value} {Q : Unit → Shared → Prop} (I : Inv X pins σ H s) (hN : X.N.Nodup) (hi : X.N[i]? = some x) (hx : Loc X.env.scope x) (r : RelV v u)
    (h : ∀ s', Inv X pins (σ.set i (some v)) H s' → Q () s') (hf : X.fn x = true ∨ X.env.scope.names.lookup x = some .local := by first | exact .inl rfl | exact .inr rfl | assumption) : wpAny M A (storeName X.env x u) Q E s :=
  store_ok2 I hN hi hx r (fun s' I' _ => h s' I') hf
/-- behind a call or a block, the state as it is -/
theorem Inv.call' {s' : Shared} {ch : List Addr} (I : Inv X pins σ H s) (ho : s'.os = s.os) (u : Un (frs X.stack) ch H H' s.heap s'.heap) (hok : HOk X.prog X.w H' s'.heap) (hg : AllBare s'.gens)
    (hch : ∀ b ∈ ch, (b ∈ X.ex ∨ X.s₀.heap.objs.size ≤ b) ∧ b ≠ X.env.locals ∧ (∀ x c, X.env.cells.lookup x = some c → c ≠ b) ∧ ∀ p ∈ X.pn ++ pins, p.1 ≠ b) : Inv X pins σ H' s' := by
  obtain ⟨h', g', d', t', o'⟩ := s'
  have e : o' = s.os := ho
  subst e
  exact I.call (g' := g') (t' := t') (d' := d') u hok hg hch
end

/-! ### the judgements -/
/-- an exception: its class, its own dict's address (where it has one), the abstract heap behind it -/
abbrev XK := Value → Option Addr → Hp → Prop
abbrev St := List (Option V)
abbrev VK := V → Hp → Prop
/-- an expression's reading; a test's; an argument list's -/
abbrev TE := St → Hp → VK → Prop
abbrev TT := St → Hp → (Bool → Hp → Prop) → Prop
abbrev TA := St → Hp → (List V → Hp → Prop) → Prop
/-- what is wanted behind a statement -/
structure Ends where
  nx : St → Hp → Prop
  rt : VK
  bk : St → Hp → Prop := fun _ _ => False
  ct : St → Hp → Prop := fun _ _ => False
abbrev TS := Ends → St → Hp → Prop

def EP (X : Cx) (pins : List (Addr × Obj)) (σ : St) (Q : VK) (u : Value) (s' : Shared) : Prop := ∃ v H', Inv X pins σ H' s' ∧ RelV v u ∧ Q v H'
def TP (X : Cx) (pins : List (Addr × Obj)) (σ : St) (Q : Bool → Hp → Prop) (b : Bool) (s' : Shared) : Prop := ∃ H', Inv X pins σ H' s' ∧ Q b H'
def AP (X : Cx) (pins : List (Addr × Obj)) (σ : St) (Q : List V → Hp → Prop) (us : List Value) (s' : Shared) : Prop := ∃ vs H', Inv X pins σ H' s' ∧ Vals vs us ∧ Q vs H'
def SP (X : Cx) (pins : List (Addr × Obj)) (D : Ends) (f : Flow) (s' : Shared) : Prop :=
  match f with
  | .next => ∃ σ' H', Inv X pins σ' H' s' ∧ D.nx σ' H'
  | .brk => ∃ σ' H', Inv X pins σ' H' s' ∧ D.bk σ' H'
  | .cont => ∃ σ' H', Inv X pins σ' H' s' ∧ D.ct σ' H'
  | .ret u => ∃ v σ' H', Inv X pins σ' H' s' ∧ RelV v u ∧ D.rt v H'

def PE (X : Cx) (e : Expr) (t : TE) : Prop :=
  ∀ (pins : List (Addr × Obj)) (s : Shared) (σ : St) (H : Hp) (Q : VK), Inv X pins σ H s → t σ H Q → wpAny (model X.prog X.w) X.A (eval e X.env) (EP X pins σ Q) X.xe s
def PT (X : Cx) (e : Expr) (t : TT) : Prop :=
  ∀ (pins : List (Addr × Obj)) (s : Shared) (σ : St) (H : Hp) (Q : Bool → Hp → Prop), Inv X pins σ H s → t σ H Q → wpAny (model X.prog X.w) X.A (isTrue e X.env (eval e X.env)) (TP X pins σ Q) X.xe s
/-- a test whatever its 'whole' is (and, or) -/
def PW (X : Cx) (e : Expr) (t : TT) : Prop :=
  ∀ (whole : Sem Value) (pins : List (Addr × Obj)) (s : Shared) (σ : St) (H : Hp) (Q : Bool → Hp → Prop), Inv X pins σ H s → t σ H Q → wpAny (model X.prog X.w) X.A (isTrue e X.env whole) (TP X pins σ Q) X.xe s
theorem PW.pt {X : Cx} {e : Expr} {t : TT} (h : PW X e t) : PT X e t := h _
/-- an argument list (no star), from the left -/
def PA (X : Cx) (es : List Expr) (t : TA) : Prop :=
  ∀ (pos : Pos) (pins : List (Addr × Obj)) (s : Shared) (σ : St) (H : Hp) (Q : List V → Hp → Prop), Inv X pins σ H s → t σ H Q → wpAny (model X.prog X.w) X.A (spliced (backTo pos (starEach es X.env))) (AP X pins σ Q) X.xe s
def PS (X : Cx) (st : Stmt) (t : TS) : Prop :=
  ∀ (pins : List (Addr × Obj)) (s : Shared) (σ : St) (H : Hp) (D : Ends), Inv X pins σ H s → t D σ H → wpAny (model X.prog X.w) X.A (exec st X.env) (SP X pins D) X.xe s
def PSs (X : Cx) (st : List Stmt) (t : TS) : Prop :=
  ∀ (pins : List (Addr × Obj)) (s : Shared) (σ : St) (H : Hp) (D : Ends), Inv X pins σ H s → t D σ H → wpAny (model X.prog X.w) X.A (execs st X.env) (SP X pins D) X.xe s
/-- weaken the end -/
theorem thn {α : Type} {t : Sem α} {Q Q' : α → Shared → Prop} {M : Model} {A : Around} {E : Value → Shared → Prop} {s : Shared} (h : wpAny M A t Q E s) (hQ : ∀ a s, Q a s → Q' a s) : wpAny M A t Q' E s := wpAny_mono h hQ fun _ _ x => x
end L2

namespace L2
open PySem PySem.Spec PyProof.Rows
section
variable {X : Cx}

/-- two expressions in a row -/
theorem bin {a b : Expr} {ta tb : TE} (ha : PE X a ta) (hb : PE X b tb) {pins : List (Addr × Obj)} {s : Shared} {σ : St} {H : Hp} {R : V → V → Hp → Prop} (I : Inv X pins σ H s) (h : ta σ H fun x H1 => tb σ H1 fun y H2 => R x y H2)
    {α : Type} {Q : α → Shared → Prop} {f : Value → Value → Sem α}
    (hf : ∀ v u s2 x y H2, Inv X pins σ H2 s2 → RelV x v → RelV y u → R x y H2 → wpAny (model X.prog X.w) X.A (f v u) Q X.xe s2) :
    wpAny (model X.prog X.w) X.A (eval a X.env) (fun v s₁ => wpAny (model X.prog X.w) X.A (eval b X.env) (fun u s₂ => wpAny (model X.prog X.w) X.A (f v u) Q X.xe s₂) X.xe s₁) X.xe s := by
  refine thn (ha pins s σ H _ I h) fun v s1 ⟨x, H1, I1, r1, q1⟩ => ?_
  refine thn (hb pins s1 σ H1 _ I1 q1) fun u s2 ⟨y, H2, I2, r2, q2⟩ => ?_
  exact hf v u s2 x y H2 I2 r1 r2 q2

/-! ### names and constants -/
def tVar (i : Nat) : TE := fun σ H Q => ∃ v, σ[i]? = some (some v) ∧ Q v H
def tC (v : V) : TE := fun _ H Q => Q v H
theorem pe_var {i : Nat} {x : Str} {pos : Pos} (hN : X.N[i]? = some x) (hv : Vis X.env.scope x) (hd : (x == ("__debug__" : Str)) = false := by decide) (hcd : (x == ("__classdict__" : Str)) = false := by decide) : PE X (.Name x pos) (tVar i) := by
  intro pins s σ H Q I h
  obtain ⟨v, e, h⟩ := h
  obtain ⟨m, hn, hl⟩ := I.loc
  obtain ⟨u, r, l⟩ := hl i x v hN e hv
  have fin : EP X pins σ Q u s := ⟨v, H, I, r, h⟩
  rcases l with ⟨hk, hm⟩ | ⟨hk, c, hc, hcell⟩
  · exact wpAny_Name (wpAny_loadName_local I.ok.kind hk hn hm fin) hd
  · rcases hk with hk | hk
    · exact wpAny_Name (wpAny_loadName_cell I.ok.kind hk hc hcell fin) hd
    · exact wpAny_Name (wpAny_loadName_free I.ok.kind hk hc hcell fin hcd) hd
theorem pe_int {i j pos} : PE X (.Constant (.int i) j pos) (tC (.int i)) := fun _ _ _ H _ I h => wpAny_Constant_int ⟨.int i, H, I.tok _, ⟨_, rfl⟩, h⟩
theorem pe_bl {b j pos} : PE X (.Constant (.bool b) j pos) (tC (.bl b)) := fun _ _ _ H _ I h => Constant_bool ⟨.bl b, H, I, rfl, h⟩
theorem pe_non {j pos} : PE X (.Constant .none j pos) (tC .non) := fun _ _ _ H _ I h => Constant_none ⟨.non, H, I, rfl, h⟩
theorem pe_str {x j pos} : PE X (.Constant (.str x) j pos) (tC (.str x)) := fun _ _ _ H _ I h => Calls.Constant_str ⟨.str x, H, I.tok _, ⟨_, rfl⟩, h⟩

/-- a global name of the def -/
def Gl (X : Cx) (x : Str) : Prop := X.env.kindOf x = some .globalImplicit
theorem ld_glob {E : Value → Shared → Prop} {pins : List (Addr × Obj)} {s : Shared} {σ : St} {H : Hp} {x : Str} {u : Value} {pos : Pos} {Q : Value → Shared → Prop} (I : Inv X pins σ H s) (hg : Gl X x) (hm : X.mg x = some u) (h : Q u s)
    (hd : (x == ("__debug__" : Str)) = false := by decide) : wpAny (model X.prog X.w) X.A (eval (.Name x pos) X.env) Q E s :=
  Calls.Name_function_global I.ok.kind hg (Calls.loadGlobal_global (by rw [I.ok.glob]; exact I.mod.glob.keeps I.bk) hm h) hd
theorem ld_blt {E : Value → Shared → Prop} {pins : List (Addr × Obj)} {s : Shared} {σ : St} {H : Hp} {x : Str} {u : Value} {pos : Pos} {Q : Value → Shared → Prop} (I : Inv X pins σ H s) (hg : Gl X x) (hm : X.mg x = none) (hv : bootBuiltins x = some u) (h : Q u s)
    (hn : x ≠ "__name__" := by decide) (hd : (x == ("__debug__" : Str)) = false := by decide) : wpAny (model X.prog X.w) X.A (eval (.Name x pos) X.env) Q E s := by
  obtain ⟨mb, h1, h2⟩ := I.mod.blt
  exact Calls.Name_function_global I.ok.kind hg (Calls.loadGlobal_builtin (by rw [I.ok.glob]; exact I.mod.glob.keeps I.bk) hm (by rw [I.ok.blt]; exact h1.keeps I.bk) ((h2 x hn).trans hv) h) hd
/-- a module's constant, a class, a function, as a value -/
theorem pe_glob {x : Str} {v : V} {u : Value} {pos : Pos} (hg : Gl X x) (hm : X.mg x = some u) (r : RelV v u) (hd : (x == ("__debug__" : Str)) = false := by decide) : PE X (.Name x pos) (tC v) :=
  fun _ _ _ H _ I h => ld_glob I hg hm ⟨v, H, I, r, h⟩ hd
theorem pe_bltn {x : Str} {v : V} {u : Value} {pos : Pos} (hg : Gl X x) (hm : X.mg x = none) (hv : bootBuiltins x = some u) (r : RelV v u) (hn : x ≠ "__name__" := by decide) (hd : (x == ("__debug__" : Str)) = false := by decide) : PE X (.Name x pos) (tC v) :=
  fun _ _ _ H _ I h => ld_blt I hg hm hv ⟨v, H, I, r, h⟩ hn hd

/-! ### arithmetic -/
/-- two ints -/
def t2I (ta tb : TE) (k : Int → Int → Hp → Prop) : St → Hp → Prop := fun σ H => ta σ H fun x H1 => tb σ H1 fun y H2 => ∃ i j, x = .int i ∧ y = .int j ∧ k i j H2
def tAdd (ta tb : TE) : TE := fun σ H Q => t2I ta tb (fun i j H2 => Q (.int (i + j)) H2) σ H
def tSub (ta tb : TE) : TE := fun σ H Q => t2I ta tb (fun i j H2 => Q (.int (i - j)) H2) σ H
/-- the left factor below 2^64 -/
def tMul (ta tb : TE) : TE := fun σ H Q => t2I ta tb (fun i j H2 => (-(2 ^ 64) < i ∧ i < 2 ^ 64) ∧ Q (.int (i * j)) H2) σ H
variable {a b : Expr} {ta tb : TE} {pos : Pos}
theorem pe_add (ha : PE X a ta) (hb : PE X b tb) : PE X (.BinOp a .Add b pos) (tAdd ta tb) := by
  intro pins s σ H Q I h
  refine wpAny_BinOp (bin ha hb I h fun v u s2 x y H2 I2 rx ry q => ?_)
  obtain ⟨i, j, rfl, rfl, q⟩ := q
  obtain ⟨t, rfl⟩ := rx
  obtain ⟨t', rfl⟩ := ry
  exact add_int ⟨.int _, H2, I2.tok _, ⟨_, rfl⟩, q⟩
theorem pe_sub (ha : PE X a ta) (hb : PE X b tb) : PE X (.BinOp a .Sub b pos) (tSub ta tb) := by
  intro pins s σ H Q I h
  refine wpAny_BinOp (bin ha hb I h fun v u s2 x y H2 I2 rx ry q => ?_)
  obtain ⟨i, j, rfl, rfl, q⟩ := q
  obtain ⟨t, rfl⟩ := rx
  obtain ⟨t', rfl⟩ := ry
  exact sub_int ⟨.int _, H2, I2.tok _, ⟨_, rfl⟩, q⟩
theorem pe_mul (ha : PE X a ta) (hb : PE X b tb) : PE X (.BinOp a .Mult b pos) (tMul ta tb) := by
  intro pins s σ H Q I h
  refine wpAny_BinOp (bin ha hb I h fun v u s2 x y H2 I2 rx ry q => ?_)
  obtain ⟨i, j, rfl, rfl, ⟨q1, q2⟩, q⟩ := q
  obtain ⟨t, rfl⟩ := rx
  obtain ⟨t', rfl⟩ := ry
  exact mul_int ⟨.int _, H2, I2.tok _, ⟨_, rfl⟩, q⟩ (.of_left (intBits_le_64 q1 q2))

/-! ### comparisons -/
def PC (X : Cx) (op : CmpOp) (a b : Expr) (t : TE) : Prop :=
  ∀ (pins : List (Addr × Obj)) (s : Shared) (σ : St) (H : Hp) (Q : VK), Inv X pins σ H s → t σ H Q →
    wpAny (model X.prog X.w) X.A (eval a X.env) (fun v s₁ => wpAny (model X.prog X.w) X.A (eval b X.env) (fun u s₂ => wpAny (model X.prog X.w) X.A (compareOp op v u) (EP X pins σ Q) X.xe s₂) X.xe s₁) X.xe s
theorem nobehind (b : Expr) {op : CmpOp} (h : op ≠ .In) (h2 : op ≠ .NotIn) : behindInMarks op b = false := by
  have e1 : (op == CmpOp.In) = false := by cases op <;> first | rfl | exact absurd rfl h
  have e2 : (op == CmpOp.NotIn) = false := by cases op <;> first | rfl | exact absurd rfl h2
  cases b <;> simp [behindInMarks, e1, e2]
def tCmp (p : Int → Int → Bool) (ta tb : TE) : TE := fun σ H Q => t2I ta tb (fun i j H2 => Q (.bl (p i j)) H2) σ H
abbrev tLt : TE → TE → TE := tCmp fun i j => decide (i < j)
abbrev tLe : TE → TE → TE := tCmp fun i j => decide (i ≤ j)
abbrev tGt : TE → TE → TE := tCmp fun i j => decide (j < i)
abbrev tGe : TE → TE → TE := tCmp fun i j => decide (j ≤ i)
abbrev tEqI : TE → TE → TE := tCmp fun i j => decide (i = j)
abbrev tNeI : TE → TE → TE := tCmp fun i j => !decide (i = j)
/-- a comparison of two ints, by its rule -/
theorem pc_int {op : CmpOp} {p : Int → Int → Bool} (ha : PE X a ta) (hb : PE X b tb)
    (rule : ∀ (i j : Int) (t u : Tok) (Q : Value → Shared → Prop) (s : Shared), Q (.bool (p i j)) s → wpAny (model X.prog X.w) X.A (compareOp op (.int i t) (.int j u)) Q X.xe s) : PC X op a b (tCmp p ta tb) := by
  intro pins s σ H Q I h
  refine bin ha hb I h fun v u s2 x y H2 I2 rx ry q => ?_
  obtain ⟨i, j, rfl, rfl, q⟩ := q
  obtain ⟨t, rfl⟩ := rx
  obtain ⟨t', rfl⟩ := ry
  exact rule i j t t' _ s2 ⟨.bl _, H2, I2, rfl, q⟩
theorem pc_lt (ha : PE X a ta) (hb : PE X b tb) : PC X .Lt a b (tLt ta tb) := pc_int ha hb fun _ _ _ _ _ _ h => lt_int h
theorem pc_le (ha : PE X a ta) (hb : PE X b tb) : PC X .LtE a b (tLe ta tb) := pc_int ha hb fun _ _ _ _ _ _ h => le_int h
theorem pc_gt (ha : PE X a ta) (hb : PE X b tb) : PC X .Gt a b (tGt ta tb) := pc_int ha hb fun _ _ _ _ _ _ h => gt_int h
theorem pc_ge (ha : PE X a ta) (hb : PE X b tb) : PC X .GtE a b (tGe ta tb) := pc_int ha hb fun _ _ _ _ _ _ h => ge_int h
theorem pc_eqI (ha : PE X a ta) (hb : PE X b tb) : PC X .Eq a b (tEqI ta tb) := pc_int ha hb fun _ _ _ _ _ _ h => eq_int (by rw [Bool.beq_eq_decide_eq]; exact h)
theorem pc_neI (ha : PE X a ta) (hb : PE X b tb) : PC X .NotEq a b (tNeI ta tb) := pc_int ha hb fun _ _ _ _ _ _ h => ne_int (by rw [bne, Bool.beq_eq_decide_eq]; exact h)
/-- is None -/
def tIsN (ta : TE) : TE := fun σ H Q => ta σ H fun x H1 => Q (.bl (decide (x = .non))) H1
def tNotN (ta : TE) : TE := fun σ H Q => ta σ H fun x H1 => Q (.bl (!decide (x = .non))) H1
theorem RelV.none_iff {x : V} {v : Value} (r : RelV x v) : (v == Value.none) = decide (x = .non) := by
  cases x with
  | non => cases r; rfl
  | bl _ => cases r; rfl
  | int _ => obtain ⟨t, rfl⟩ := r; rfl
  | str _ => obtain ⟨t, rfl⟩ := r; rfl
  | byt _ => obtain ⟨t, rfl⟩ := r; rfl
  | flt _ => obtain ⟨t, rfl⟩ := r; rfl
  | ref _ => cases r; rfl
  | ty _ => cases r; rfl
theorem pc_isN {j pos'} (ha : PE X a ta) : PC X .Is a (.Constant .none j pos') (tIsN ta) := by
  intro pins s σ H Q I h
  refine thn (ha pins s σ H _ I h) fun v s1 ⟨x, H1, I1, r1, q1⟩ => ?_
  exact Constant_none (is_none_gen ⟨.bl _, H1, I1, by rw [r1.none_iff]; rfl, q1⟩)
theorem pc_notN {j pos'} (ha : PE X a ta) : PC X .IsNot a (.Constant .none j pos') (tNotN ta) := by
  intro pins s σ H Q I h
  refine thn (ha pins s σ H _ I h) fun v s1 ⟨x, H1, I1, r1, q1⟩ => ?_
  exact Constant_none (isnot_none_gen ⟨.bl _, H1, I1, by rw [r1.none_iff]; rfl, q1⟩)
/-- a comparison as a value, as a test -/
def tB (t : TE) : TT := fun σ H Q => t σ H fun x H1 => ∃ c, x = .bl c ∧ Q c H1
theorem pe_cmp {op : CmpOp} {t : TE} (h : PC X op a b t) (h1 : behindInMarks op b = false := by first | exact nobehind _ (by decide) (by decide) | rfl) : PE X (.Compare a [op] [b] pos) t := fun pins s σ H Q I hw => wpAny_Compare1 (h pins s σ H Q I hw) h1
theorem pt_cmp {op : CmpOp} {t : TE} (h : PC X op a b t) (h1 : behindInMarks op b = false := by first | exact nobehind _ (by decide) (by decide) | rfl) : PT X (.Compare a [op] [b] pos) (tB t) := by
  intro pins s σ H Q I hw
  refine wpAny_isTrue_Compare1 (thn (h pins s σ H _ I hw) fun v s1 h1 => thn h1 fun u s2 h2 => thn h2 fun c s3 ⟨x, H1, I1, r1, q1⟩ => ?_) h1
  obtain ⟨d, rfl, q⟩ := q1
  cases r1
  exact wpAny_truthy_bool ⟨H1, I1, q⟩
/-- an expression whose value is a bool, as a test -/
theorem pt_val {e : Expr} {t : TE} (h : PE X e t) (he : ∀ whole, isTrue e X.env whole = (do let v ← whole; standAt e.pos; holding [v] (truthy v)) := by intro _; rfl) : PT X e (tB t) := by
  intro pins s σ H Q I hw
  refine isTrue_plain (thn (h pins s σ H _ I hw) fun v s1 ⟨x, H1, I1, r1, q1⟩ => ?_) (he _)
  obtain ⟨d, rfl, q⟩ := q1
  cases r1
  exact wpAny_truthy_bool ⟨H1, I1, q⟩

/-! ### and, or, not -/
variable {tA tB' : TT} {rest : List Expr}
def tAnd (t u : TT) : TT := fun σ H Q => t σ H fun c H1 => if c = true then u σ H1 Q else Q false H1
def tOr (t u : TT) : TT := fun σ H Q => t σ H fun c H1 => if c = true then Q true H1 else u σ H1 Q
def tNot (t : TT) : TT := fun σ H Q => t σ H fun c H1 => Q (!c) H1
theorem pw_and1 (ha : PT X a tA) : PW X (.BoolOp .And [a] pos) tA := by
  intro wh pins s σ H Q I h
  refine isTrue_and (thn (ha pins s σ H Q I h) fun c s1 e => ?_)
  cases c with
  | true => exact isTrue_and_nil e
  | false => exact e
theorem pw_or1 (ha : PT X a tA) : PW X (.BoolOp .Or [a] pos) tA := by
  intro wh pins s σ H Q I h
  refine isTrue_or (thn (ha pins s σ H Q I h) fun c s1 e => ?_)
  cases c with
  | false => exact isTrue_or_nil e
  | true => exact e
theorem pw_and (ha : PT X a tA) (hb : PW X (.BoolOp .And (b :: rest) pos) tB') : PW X (.BoolOp .And (a :: b :: rest) pos) (tAnd tA tB') := by
  intro wh pins s σ H Q I h
  refine isTrue_and (thn (ha pins s σ H _ I h) fun c s1 ⟨H1, I1, q1⟩ => ?_)
  cases c with
  | true => exact hb wh pins s1 σ H1 Q I1 q1
  | false => exact ⟨H1, I1, q1⟩
theorem pw_or (ha : PT X a tA) (hb : PW X (.BoolOp .Or (b :: rest) pos) tB') : PW X (.BoolOp .Or (a :: b :: rest) pos) (tOr tA tB') := by
  intro wh pins s σ H Q I h
  refine isTrue_or (thn (ha pins s σ H _ I h) fun c s1 ⟨H1, I1, q1⟩ => ?_)
  cases c with
  | true => exact ⟨H1, I1, q1⟩
  | false => exact hb wh pins s1 σ H1 Q I1 q1
theorem pt_not (ha : PT X a tA) : PT X (.UnaryOp .Not a pos) (tNot tA) := by
  intro pins s σ H Q I h
  exact isTrue_not (ha pins s σ H (fun c H1 => Q (!c) H1) I h)
/-- .. as values (bools) -/
def tAndV (ta tb : TE) : TE := fun σ H Q => ta σ H fun x H1 => ∃ c, x = .bl c ∧ if c = true then tb σ H1 Q else Q (.bl false) H1
def tOrV (ta tb : TE) : TE := fun σ H Q => ta σ H fun x H1 => ∃ c, x = .bl c ∧ if c = true then Q (.bl true) H1 else tb σ H1 Q
def tNotV (ta : TE) : TE := fun σ H Q => ta σ H fun x H1 => ∃ c, x = .bl c ∧ Q (.bl (!c)) H1
theorem pe_one {op} {t : TE} (h : PE X a t) : PE X (.BoolOp op [a] pos) t := fun pins s σ H Q I hw => BoolOp_one (h pins s σ H Q I hw)
theorem pe_and (ha : PE X a ta) (hb : PE X (.BoolOp .And (b :: rest) pos) tb) : PE X (.BoolOp .And (a :: b :: rest) pos) (tAndV ta tb) := by
  intro pins s σ H Q I h
  refine BoolOp_and (thn (ha pins s σ H _ I h) fun v s1 ⟨x, H1, I1, r1, q1⟩ => ?_)
  obtain ⟨c, rfl, q1⟩ := q1
  cases r1
  refine wpAny_truthy_bool ?_
  cases c with
  | true => exact hb pins s1 σ H1 Q I1 q1
  | false => exact ⟨.bl false, H1, I1, rfl, q1⟩
theorem pe_or (ha : PE X a ta) (hb : PE X (.BoolOp .Or (b :: rest) pos) tb) : PE X (.BoolOp .Or (a :: b :: rest) pos) (tOrV ta tb) := by
  intro pins s σ H Q I h
  refine BoolOp_or (thn (ha pins s σ H _ I h) fun v s1 ⟨x, H1, I1, r1, q1⟩ => ?_)
  obtain ⟨c, rfl, q1⟩ := q1
  cases r1
  refine wpAny_truthy_bool ?_
  cases c with
  | false => exact hb pins s1 σ H1 Q I1 q1
  | true => exact ⟨.bl true, H1, I1, rfl, q1⟩
theorem pe_not (ha : PE X a ta) : PE X (.UnaryOp .Not a pos) (tNotV ta) := by
  intro pins s σ H Q I h
  refine UnaryOp_ (thn (ha pins s σ H _ I h) fun v s1 ⟨x, H1, I1, r1, q1⟩ => ?_)
  obtain ⟨c, rfl, q1⟩ := q1
  cases r1
  exact not_of (wpAny_truthy_bool ⟨.bl (!c), H1, I1, rfl, q1⟩)
/-- a if t else b -/
def tIf (t : TT) (ta tb : TE) : TE := fun σ H Q => t σ H fun c H1 => if c = true then ta σ H1 Q else tb σ H1 Q
theorem pe_ifExp {c : Expr} (hc : PT X c tA) (ha : PE X a ta) (hb : PE X b tb) : PE X (.IfExp c a b pos) (tIf tA ta tb) := by
  intro pins s σ H Q I h
  refine wpAny_IfExp (thn (hc pins s σ H _ I h) fun d s1 ⟨H1, I1, q1⟩ => ?_)
  cases d with
  | true => exact ha pins s1 σ H1 Q I1 q1
  | false => exact hb pins s1 σ H1 Q I1 q1
end
end L2

namespace L2
open PySem PySem.Spec PyProof.Rows

/-! ### a list, a tuple that is read: tracked, frozen, or an object of the module -/
def SqL (K : PySem.W.Frag) (H : Hp) (a : Addr) (xs : List V) : Prop :=
  Rd H a (.lst xs) ∨
    ∃ (o : Obj) (its : Array Value) (n : Nat), K.lookup a = some o ∧ o.cls = .type "list" ∧ o.dict = none ∧ o.data = .seq its n ∧ its.size ≤ sizeLine ∧ Vals xs its.toList
def SqT (K : PySem.W.Frag) (H : Hp) (a : Addr) (xs : List V) : Prop :=
  Rd H a (.tup xs) ∨
    ∃ (o : Obj) (its : Array Value) (n : Nat), K.lookup a = some o ∧ o.cls = .type "tuple" ∧ o.data = .seq its n ∧ its.size ≤ sizeLine ∧ Vals xs its.toList
def absV : Value → Option V
  | .none => some .non
  | .bool b => some (.bl b)
  | .int i _ => some (.int i)
  | .str x _ => some (.str x)
  | .bytes b _ => some (.byt b)
  | .float b _ => some (.flt b)
  | .ref a => some (.ref a)
  | .type n => some (.ty n)
  | _ => none
theorem RelV.abs {x : V} {u : Value} (r : RelV x u) : absV u = some x := by
  cases x with
  | non => cases r; rfl
  | bl _ => cases r; rfl
  | int _ => obtain ⟨t, rfl⟩ := r; rfl
  | str _ => obtain ⟨t, rfl⟩ := r; rfl
  | byt _ => obtain ⟨t, rfl⟩ := r; rfl
  | flt _ => obtain ⟨t, rfl⟩ := r; rfl
  | ref _ => cases r; rfl
  | ty _ => cases r; rfl
theorem RelV.inj {x y : V} {u : Value} (r : RelV x u) (q : RelV y u) : x = y := Option.some.inj (r.abs.symm.trans q.abs)
theorem Vals.inj : ∀ {xs ys : List V} {us : List Value}, Vals xs us → Vals ys us → xs = ys
  | _, _, _, .nil, .nil => rfl
  | _, _, _, .cons r t, .cons r' t' => by rw [r.inj r', Vals.inj t t']
section
variable {X : Cx} {pins : List (Addr × Obj)} {σ : St} {H : Hp} {s : Shared} {a : Addr} {xs ys : List V}
theorem SqL.of {K : PySem.W.Frag} (h : H a = some (.lst xs)) : SqL K H a xs := .inl (.inl h)
theorem SqT.of {K : PySem.W.Frag} (h : H a = some (.tup xs)) : SqT K H a xs := .inl (.inl h)
theorem Inv.list (I : Inv X pins σ H s) (h : SqL X.K H a xs) : ∃ its : List Value, Vals xs its ∧ PlainL s.heap a its.toArray ∧ xs.length ≤ sizeLine := by
  rcases h with h | ⟨o, its, n, hk, hc, hd, hs, hz, r⟩
  · obtain ⟨z, its, n, r, e⟩ := h.ok I.hok
    exact ⟨its, r, ⟨_, n, e, rfl, rfl, rfl⟩, z⟩
  · refine ⟨its.toList, r, ⟨o, n, I.kIn a o hk, hc, hd, by simpa using hs⟩, ?_⟩
    have e := r.length
    simp only [Array.length_toList] at e
    omega
theorem Inv.tuple (I : Inv X pins σ H s) (h : SqT X.K H a xs) : ∃ its : List Value, Vals xs its ∧ IsTup s.heap a its.toArray ∧ xs.length ≤ sizeLine := by
  rcases h with h | ⟨o, its, n, hk, hc, hs, hz, r⟩
  · obtain ⟨z, its, r, p⟩ := h.ok I.hok
    exact ⟨its, r, p, z⟩
  · refine ⟨its.toList, r, ⟨o, I.kIn a o hk, hc, n, by simpa using hs⟩, ?_⟩
    have e := r.length
    simp only [Array.length_toList] at e
    omega
theorem Inv.list_inj (I : Inv X pins σ H s) (h : SqL X.K H a xs) (h' : SqL X.K H a ys) : xs = ys := by
  obtain ⟨its, r, ⟨o, n, e, _, _, d⟩, _⟩ := I.list h
  obtain ⟨its', r', ⟨o', n', e', _, _, d'⟩, _⟩ := I.list h'
  rw [e] at e'; cases e'
  rw [d] at d'
  injection d' with d1 _
  have : its = its' := by simpa using congrArg Array.toList d1
  subst this
  exact r.inj r'
theorem Inv.tuple_inj (I : Inv X pins σ H s) (h : SqT X.K H a xs) (h' : SqT X.K H a ys) : xs = ys := by
  obtain ⟨its, r, ⟨o, e, _, n, d⟩, _⟩ := I.tuple h
  obtain ⟨its', r', ⟨o', e', _, n', d'⟩, _⟩ := I.tuple h'
  rw [e] at e'; cases e'
  rw [d] at d'
  injection d' with d1 _
  have : its = its' := by simpa using congrArg Array.toList d1
  subst this
  exact r.inj r'
end

/-! ### another wish about exceptions -/
abbrev Cx.wish (X : Cx) (E : Value → Shared → Prop) : Cx := { X with xe := E }
/-- no exception leaves -/
abbrev Cx.nox (X : Cx) : Cx := X.wish fun _ _ => False
theorem Cx.Ok.wish {X : Cx} (ok : X.Ok) (E : Value → Shared → Prop) : (X.wish E).Ok :=
  ⟨ok.mod, ok.kind, ok.glob, ok.blt, ok.above, ok.inj, ok.has, ok.cab, ok.hd, ok.frames, ok.stk, ok.exf, ok.bs, ok.bsz, ok.noex, ok.exfs, ok.funs, ok.frf⟩
theorem Cx.Ok.unwish {X : Cx} {E : Value → Shared → Prop} (ok : (X.wish E).Ok) : X.Ok :=
  ⟨ok.mod, ok.kind, ok.glob, ok.blt, ok.above, ok.inj, ok.has, ok.cab, ok.hd, ok.frames, ok.stk, ok.exf, ok.bs, ok.bsz, ok.noex, ok.exfs, ok.funs, ok.frf⟩
section
variable {X : Cx} {pins : List (Addr × Obj)} {σ : St} {H : Hp} {s : Shared} {E : Value → Shared → Prop}
theorem Inv.wish (I : Inv X pins σ H s) (E : Value → Shared → Prop) : Inv (X.wish E) pins σ H s := ⟨I.ok.wish E, I.os, I.bare, I.base, I.loc, I.cell, I.free, I.freeC, I.pin, I.hok, I.len⟩
theorem Inv.unwish (I : Inv (X.wish E) pins σ H s) : Inv X pins σ H s := ⟨I.ok.unwish, I.os, I.bare, I.base, I.loc, I.cell, I.free, I.freeC, I.pin, I.hok, I.len⟩
theorem SP.unwish {D : Ends} {f : Flow} {s' : Shared} (h : SP (X.wish E) pins D f s') : SP X pins D f s' := by
  cases f with
  | next => obtain ⟨σ', H', I, q⟩ := h; exact ⟨σ', H', I.unwish, q⟩
  | brk => obtain ⟨σ', H', I, q⟩ := h; exact ⟨σ', H', I.unwish, q⟩
  | cont => obtain ⟨σ', H', I, q⟩ := h; exact ⟨σ', H', I.unwish, q⟩
  | ret u => obtain ⟨v, σ', H', I, r, q⟩ := h; exact ⟨v, σ', H', I.unwish, r, q⟩
theorem PE.nox {e : Expr} {t : TE} (h : PE X.nox e t) : PE X e t := fun pins s σ H Q I hw =>
  wpAny_mono (h pins s σ H Q (I.wish _) hw) (fun _ _ ⟨v, H', I', r, q⟩ => ⟨v, H', I'.unwish, r, q⟩) fun _ _ z => False.elim z
theorem PT.nox {e : Expr} {t : TT} (h : PT X.nox e t) : PT X e t := fun pins s σ H Q I hw =>
  wpAny_mono (h pins s σ H Q (I.wish _) hw) (fun _ _ ⟨H', I', q⟩ => ⟨H', I'.unwish, q⟩) fun _ _ z => False.elim z
theorem PSs.nox {st : List Stmt} {t : TS} (h : PSs X.nox st t) : PSs X st t := fun pins s σ H D I hw =>
  wpAny_mono (h pins s σ H D (I.wish _) hw) (fun _ _ q => q.unwish) fun _ _ z => False.elim z
end

/-! ### blocks and small statements -/
section
variable {X : Cx} {st : Stmt} {rest : List Stmt} {t u : TS} {e : Expr} {te : TE} {pos : Pos}
def tNext : TS := fun D σ H => D.nx σ H
def tSeq (t u : TS) : TS := fun D σ H => t { D with nx := u D } σ H
theorem pss_nil : PSs X [] tNext := fun _ _ σ H _ I h => wpAny_execs_nil ⟨σ, H, I, h⟩
theorem pss_cons (h1 : PS X st t) (h2 : PSs X rest u) : PSs X (st :: rest) (tSeq t u) := by
  intro pins s σ H D I h
  refine wpAny_execs_cons (thn (h1 pins s σ H { D with nx := u D } I h) fun f s1 q => ?_)
  cases f with
  | next =>
    obtain ⟨σ', H', I', q⟩ := q
    exact h2 pins s1 σ' H' D I' q
  | ret v => exact q
  | brk => exact q
  | cont => exact q
theorem pss_one (h1 : PS X st t) : PSs X [st] t := by
  intro pins s σ H D I h
  refine wpAny_execs_cons (thn (h1 pins s σ H D I h) fun f s1 q => ?_)
  cases f with
  | next => exact wpAny_execs_nil q
  | ret v => exact q
  | brk => exact q
  | cont => exact q
def tBreak : TS := fun D σ H => D.bk σ H
def tCont : TS := fun D σ H => D.ct σ H
theorem ps_pass : PS X (.Pass pos) tNext := fun _ _ σ H _ I h => wpAny_Pass ⟨σ, H, I, h⟩
theorem ps_break : PS X (.Break pos) tBreak := fun _ _ σ H _ I h => wpAny_Break ⟨σ, H, I, h⟩
theorem ps_continue : PS X (.Continue pos) tCont := fun _ _ σ H _ I h => wpAny_Continue ⟨σ, H, I, h⟩
/-- in a def's body nothing is shown -/
theorem Inv.quiet {pins : List (Addr × Obj)} {σ : St} {H : Hp} {s : Shared} (I : Inv X pins σ H s) : interactive X.env = false := by simp [interactive, I.ok.kind]
/-- a docstring -/
theorem ps_doc {x j pos pos'} : PS X (.Expr (.Constant (.str x) j pos) pos') tNext := fun _ s σ H _ I h => wpAny_Expr (Calls.Constant_str (show SP X _ _ .next { s with toks := s.toks + 1 } from ⟨σ, H, I.tok _, h⟩)) I.quiet
/-- an expression whose value is dropped -/
def tDrop (te : TE) : TS := fun D σ H => te σ H fun _ H1 => D.nx σ H1
theorem ps_expr (he : PE X e te) (hs : swapsWith e none pos.line X.env = pure false := by rfl) : PS X (.Expr e pos) (tDrop te) := by
  intro pins s σ H D I h
  exact wpAny_Expr_any (thn (he pins s σ H _ I h) fun v s1 ⟨x, H1, I1, r1, q1⟩ => ⟨σ, H1, I1, q1⟩) I.quiet hs
def tRet (te : TE) : TS := fun D σ H => te σ H D.rt
theorem ps_ret (he : PE X e te) : PS X (.Return (some e) pos) (tRet te) := by
  intro pins s σ H D I h
  exact wpAny_Return_some (thn (he pins s σ H _ I h) fun v s1 ⟨x, H1, I1, r1, q1⟩ => ⟨x, σ, H1, I1, r1, q1⟩)
def tRetN : TS := fun D _ H => D.rt .non H
theorem ps_retN : PS X (.Return none pos) tRetN := fun _ _ σ H _ I h => wpAny_Return_none ⟨.non, σ, H, I, rfl, h⟩
def tIfS (c : TT) (t u : TS) : TS := fun D σ H => c σ H fun b H1 => if b = true then t D σ H1 else u D σ H1
theorem ps_if {c : Expr} {a b : List Stmt} {tc : TT} (hc : PT X c tc) (ha : PSs X a t) (hb : PSs X b u) : PS X (.If c a b pos) (tIfS tc t u) := by
  intro pins s σ H D I h
  refine wpAny_If (thn (hc pins s σ H _ I h) fun d s1 ⟨H1, I1, q1⟩ => ?_)
  cases d with
  | true => exact ha pins s1 σ H1 D I1 q1
  | false => exact hb pins s1 σ H1 D I1 q1
/-- code that the proof never comes to -/
def tNever : TS := fun _ _ _ => False
theorem ps_never : PS X st tNever := fun _ _ _ _ _ _ h => h.elim
theorem pss_never {sts : List Stmt} : PSs X sts tNever := fun _ _ _ _ _ _ h => h.elim
end

/-! ### targets -/
abbrev TG := V → St → Hp → (St → Hp → Prop) → Prop
abbrev TGs := List V → St → Hp → (St → Hp → Prop) → Prop
def PG (X : Cx) (target : Expr) (t : TG) : Prop :=
  ∀ (pins : List (Addr × Obj)) (s : Shared) (σ : St) (H : Hp) (v : V) (u : Value) (Q : St → Hp → Prop), Inv X pins σ H s → RelV v u → t v σ H Q →
    wpAny (model X.prog X.w) X.A (assign target X.env u) (fun _ s' => ∃ σ' H', Inv X pins σ' H' s' ∧ Q σ' H') X.xe s
/-- several targets, one after another -/
def PGs (X : Cx) (ts : List Expr) (t : TGs) : Prop :=
  ∀ (pins : List (Addr × Obj)) (s : Shared) (σ : St) (H : Hp) (vs : List V) (us : List Value) (Q : St → Hp → Prop), Inv X pins σ H s → Vals vs us → t vs σ H Q →
    wpAny (model X.prog X.w) X.A (assignInOrder ((assignEach ts X.env).map (·.2)) us) (fun _ s' => ∃ σ' H', Inv X pins σ' H' s' ∧ Q σ' H') X.xe s
/-- o[i] = v, by values -/
abbrev TSet := V → V → V → Hp → (Hp → Prop) → Prop
def PSet (X : Cx) (t : TSet) : Prop :=
  ∀ (pins : List (Addr × Obj)) (s : Shared) (σ : St) (H : Hp) (o i v : V) (ov iv u : Value) (Q : Hp → Prop), Inv X pins σ H s → RelV o ov → RelV i iv → RelV v u → t o i v H Q →
    wpAny (model X.prog X.w) X.A (setItem ov iv u) (fun _ s' => ∃ H', Inv X pins σ H' s' ∧ Q H') X.xe s
/-- a op= b, by values -/
abbrev TIp := V → V → Hp → VK → Prop
def PIp (X : Cx) (op : Operator) (t : TIp) : Prop :=
  ∀ (pins : List (Addr × Obj)) (s : Shared) (σ : St) (H : Hp) (x y : V) (v u : Value) (Q : VK), Inv X pins σ H s → RelV x v → RelV y u → t x y H Q →
    wpAny (model X.prog X.w) X.A (inplaceOp op v u) (EP X pins σ Q) X.xe s
section
variable {X : Cx} {pos : Pos}
def gName (i : Nat) : TG := fun v σ H Q => Q (σ.set i (some v)) H
theorem pg_name {i : Nat} {x : Str} (hN : X.N.Nodup) (hi : X.N[i]? = some x) (hx : Loc X.env.scope x) (hf : X.fn x = true ∨ X.env.scope.names.lookup x = some .local := by first | exact .inl rfl | exact .inr rfl | assumption) : PG X (.Name x pos) (gName i) := by
  intro pins s σ H v u Q I r h
  exact wpAny_assign_Name (store_ok I hN hi hx r (fun s' I' => ⟨_, H, I', h⟩) hf)
def gNil : TGs := fun vs σ H Q => vs = [] ∧ Q σ H
def gCons (t : TG) (u : TGs) : TGs := fun vs σ H Q => ∃ v r, vs = v :: r ∧ t v σ H fun σ' H' => u r σ' H' Q
theorem pgs_nil : PGs X [] gNil := by
  intro pins s σ H vs us Q I r h
  obtain ⟨e, h⟩ := h
  subst e
  cases r
  exact assignInOrder_nil ⟨σ, H, I, h⟩
theorem pgs_cons {e : Expr} {es : List Expr} {t : TG} {u : TGs} (h1 : PG X e t) (h2 : PGs X es u)
    (hs : (assignEach (e :: es) X.env).map (·.2) = assign e X.env :: (assignEach es X.env).map (·.2) := by rfl) : PGs X (e :: es) (gCons t u) := by
  intro pins s σ H vs us Q I r h
  obtain ⟨v, vr, e1, h⟩ := h
  subst e1
  cases r with
  | cons r rr =>
    rw [hs]
    refine assignInOrder_cons (thn (h1 pins s σ H _ _ _ I r h) fun _ s1 ⟨σ1, H1, I1, q1⟩ => ?_)
    exact h2 pins s1 σ1 H1 _ _ Q I1 rr q1
/-- (a, b, ..) = a tuple of that length -/
def gTup (K : PySem.W.Frag) (n : Nat) (t : TGs) : TG := fun v σ H Q => ∃ a xs, v = .ref a ∧ SqT K H a xs ∧ xs.length = n ∧ t xs σ H Q
theorem pg_tup {es : List Expr} {k : Nat} {t : TGs} {n : Nat} (hc : X.calm = true) (h : PGs X es t)
    (hn : (assignEach es X.env).length = n := by rfl) (hst : (assignEach es X.env).findIdx? (·.1) = none := by rfl) : PG X (.Tuple es k pos) (gTup X.K n t) := by
  intro pins s σ H v u Q I r hw
  obtain ⟨a, xs, e1, hq, hl, hw⟩ := hw
  subst e1
  cases r
  obtain ⟨its, rv, ht, hz⟩ := I.tuple hq
  refine assign_Tuple_tuple (I.ok.hd hc) ht (by simp [hn, ← hl, rv.length]) hst fun h' hx => ?_
  have I1 : Inv X pins σ H { s with heap := h' } := I.kept (t' := s.toks) fun b o e => hx b o (Nat.ne_of_lt (Heap.lt_size e)) e
  exact h pins _ σ H xs _ Q I1 (by simpa using rv) hw
/-- o[i] = .. -/
def gSub (to ti : TE) (t : TSet) : TG := fun v σ H Q => to σ H fun o H1 => ti σ H1 fun i H2 => t o i v H2 fun H3 => Q σ H3
theorem pg_sub {o i : Expr} {to ti : TE} {t : TSet} (ho : PE X o to) (hi : PE X i ti) (hs : PSet X t)
    (ha : ∀ v, assign (.Subscript o i pos) X.env v = (do
      let ov ← holding [v] (eval o X.env)
      let iv ← holding [v, ov] (eval i X.env)
      standAt pos
      holding [v, ov, iv] (setItem ov iv v)
      release [v, ov, iv] []) := by intro _; rfl) : PG X (.Subscript o i pos) (gSub to ti t) := by
  intro pins s σ H v u Q I r h
  rw [ha]
  refine wpAny_bind (wpAny_holding (thn (ho pins s σ H _ I h) fun ov s1 ⟨x, H1, I1, r1, q1⟩ => ?_))
  refine wpAny_bind (wpAny_holding (thn (hi pins s1 σ H1 _ I1 q1) fun iv s2 ⟨y, H2, I2, r2, q2⟩ => ?_))
  refine wpAny_bind (wpAny_standAt (wpAny_bind (wpAny_holding (thn (hs pins s2 σ H2 x y v ov iv u _ I2 r1 r2 r q2) fun _ s3 ⟨H3, I3, q3⟩ => ?_))))
  exact wpAny_release ⟨σ, H3, I3, q3⟩
/-- target = value -/
def tAsg (te : TE) (g : TG) : TS := fun D σ H => te σ H fun x H1 => g x σ H1 D.nx
theorem ps_asg {tg e : Expr} {te : TE} {g : TG} (he : PE X e te) (hg : PG X tg g) (hs : swapsWithSole [tg] e pos.line X.env = pure false := by rfl) (hw : swappedStores [tg] e X.env = pure none := by rfl)
    (h1 : (assignEach [tg] X.env).map (·.2) = [assign tg X.env] := by rfl) : PS X (.Assign [tg] e pos) (tAsg te g) := by
  intro pins s σ H D I h
  refine wpAny_Assign_stores (thn (he pins s σ H _ I h) fun v s1 ⟨x, H1, I1, r1, q1⟩ => ?_) hs hw
  rw [h1]
  exact thn (hg pins s1 σ H1 x v _ I1 r1 q1) fun _ s2 q => q
/-- name = value -/
theorem ps_set {i : Nat} {x : Str} {e : Expr} {te : TE} {pos' : Pos} (hN : X.N.Nodup) (hi : X.N[i]? = some x) (hx : Loc X.env.scope x) (he : PE X e te) (hs : swapsWith e (some (.Name x pos')) pos.line X.env = pure false := by rfl) (hf : X.fn x = true ∨ X.env.scope.names.lookup x = some .local := by first | exact .inl rfl | exact .inr rfl | assumption) :
    PS X (.Assign [.Name x pos'] e pos) (tAsg te (gName i)) := by
  intro pins s σ H D I h
  refine wpAny_Assign_Name (thn (he pins s σ H _ I h) fun v s1 ⟨y, H1, I1, r1, q1⟩ => ?_) hs
  exact store_ok I1 hN hi hx r1 (fun s2 I2 => ⟨_, H1, I2, q1⟩) hf
/-- a, b = x, y with plain local names: stored from the right; the pair itself is not tracked (the opening rows as in PyProof/Rows/TupAssign.lean:23) -/
def tPar (i j : Nat) (ta : TA) : TS := fun D σ H => ta σ H fun vs H1 => ∃ v w, vs = [v, w] ∧ D.nx ((σ.set i (some v)).set j (some w)) H1
theorem ps_par {i j : Nat} {x y : Str} {a b : Expr} {ta : TA} {px py pt : Pos} {kt k2 pt2} (hc : X.calm = true) (hN : X.N.Nodup) (hi : X.N[i]? = some x) (hj : X.N[j]? = some y) (hij : i ≠ j)
    (hx : X.env.scope.names.lookup x = some .local) (hy : X.env.scope.names.lookup y = some .local) (ha : PA X [a, b] ta)
    (hw : swappedStores [.Tuple [.Name x px, .Name y py] kt pt] (.Tuple [a, b] k2 pt2) X.env = pure (some [x, y]))
    (hs : swapsWithSole [.Tuple [.Name x px, .Name y py] kt pt] (.Tuple [a, b] k2 pt2) pos.line X.env = pure false := by rfl) :
    PS X (.Assign [.Tuple [.Name x px, .Name y py] kt pt] (.Tuple [a, b] k2 pt2) pos) (tPar i j ta) := by
  intro pins s σ H D I h
  rw [exec_Assign_arm]
  refine wpAny_bind (wpAny_standAt ?_)
  rw [hs]
  refine wpAny_bind (wpAny_pure ?_)
  rw [if_neg (by decide)]
  refine wpAny_bind (Tuple_ (thn (ha _ pins s σ H _ I h) fun us s1 ⟨vs, H1, I1, r1, q1⟩ => ?_))
  obtain ⟨v, w, e1, q1⟩ := q1
  subst e1
  obtain ⟨u1, u2, rfl, rv, rw'⟩ : ∃ u1 u2, us = [u1, u2] ∧ RelV v u1 ∧ RelV w u2 := by
    cases r1 with
    | cons p q =>
      cases q with
      | cons p' q' =>
        cases q'
        exact ⟨_, _, rfl, p, p'⟩
  refine wpAny_newObj_type ?_ (by show 2 ≤ sizeLine; decide)
  have I2 : Inv X pins σ H1 { s1 with heap := s1.heap.push { cls := .type "tuple", data := .seq [u1, u2].toArray } } := I1.kept (t' := s1.toks) fun b o e => Heap.get?_push_of_some _ e
  rw [hw]
  refine wpAny_bind (wpAny_pure ?_)
  show wpAny (model X.prog X.w) X.A (do rule "assign.swapped-stores"; let items ← unpackItems (.ref s1.heap.objs.size) 2 none; assignInOrder [fun v => bindName X.env y v, fun v => bindName X.env x v] items.reverse; pure Flow.next) _ _ _
  refine wpAny_bind (wpAny_rule (wpAny_bind (unpackItems_tuple (items := #[u1, u2]) (I.ok.hd hc) (IsTup.new s1.heap _) fun h' hx' => ?_)))
  have I3 := I2.kept (h' := h') (t' := s1.toks) fun b o e => hx' b o (Nat.ne_of_lt (Heap.lt_size e)) e
  show wpAny _ _ (assignInOrder [fun v => bindName X.env y v, fun v => bindName X.env x v] [u2, u1] >>= fun _ => pure Flow.next) _ _ _
  refine wpAny_bind (assignInOrder_cons (wpAny_bindName (store_ok I3 hN hj (.inl hy) rw' (fun s2 I4 => ?_) (.inr hy))))
  refine assignInOrder_cons (wpAny_bindName (store_ok I4 hN hi (.inl hx) rv (fun s3 I5 => assignInOrder_nil (wpAny_pure ?_)) (.inr hx)))
  rw [List.set_comm _ _ (Ne.symm hij)] at I5
  exact ⟨_, H1, I5, q1⟩
/-- name op= e -/
def tAug (i : Nat) (te : TE) (ti : TIp) : TS := fun D σ H => ∃ x, σ[i]? = some (some x) ∧ te σ H fun y H1 => ti x y H1 fun z H2 => D.nx (σ.set i (some z)) H2
theorem ps_aug {i : Nat} {x : Str} {e : Expr} {te : TE} {op : Operator} {ti : TIp} {pos' : Pos} (hN : X.N.Nodup) (hi : X.N[i]? = some x) (hx : Loc X.env.scope x) (he : PE X e te) (ho : PIp X op ti) (hf : X.fn x = true ∨ X.env.scope.names.lookup x = some .local := by first | exact .inl rfl | exact .inr rfl | assumption) :
    PS X (.AugAssign (.Name x pos') op e pos) (tAug i te ti) := by
  intro pins s σ H D I h
  obtain ⟨v, e1, h⟩ := h
  obtain ⟨m, hn, hl⟩ := I.loc
  have vis : Vis X.env.scope x := by rcases hx with k | k; exact .inl k; exact .inr (.inl k)
  obtain ⟨u, r, l⟩ := hl i x v hi e1 vis
  refine wpAny_AugAssign_Name ?_
  have go : wpAny (model X.prog X.w) X.A (eval e X.env) (fun w s₂ => wpAny (model X.prog X.w) X.A (inplaceOp op u w) (fun r s₃ => wpAny (model X.prog X.w) X.A (storeName X.env x r) (fun _ => SP X pins D .next) X.xe s₃) X.xe s₂) X.xe s := by
    refine thn (he pins s σ H _ I h) fun w s1 ⟨y, H1, I1, r1, q1⟩ => ?_
    refine thn (ho pins s1 σ H1 v y u w _ I1 r r1 q1) fun z s2 ⟨zv, H2, I2, r2, q2⟩ => ?_
    exact store_ok I2 hN hi hx r2 (fun s3 I3 => ⟨_, H2, I3, q2⟩) hf
  rcases l with ⟨hk, hm⟩ | ⟨hk, c, hc, hcell⟩
  · exact wpAny_loadName_local I.ok.kind hk hn hm go
  · rcases hk with hk | hk
    · exact wpAny_loadName_cell I.ok.kind hk hc hcell go
    · rcases hx with k | k
      · have : X.env.scope.names.lookup x = some .free := hk
        rw [k] at this; cases this
      · have : X.env.scope.names.lookup x = some .free := hk
        rw [k] at this; cases this
/-- o[i] op= e -/
def tAugS (to ti te : TE) (tget : V → V → Hp → VK → Prop) (tip : TIp) (tset : TSet) : TS := fun D σ H => to σ H fun o H1 => ti σ H1 fun i H2 => tget o i H2 fun x H3 => te σ H3 fun y H4 => tip x y H4 fun z H5 => tset o i z H5 fun H6 => D.nx σ H6
/-- o[i], by values -/
def PGet (X : Cx) (t : V → V → Hp → VK → Prop) : Prop :=
  ∀ (pins : List (Addr × Obj)) (s : Shared) (σ : St) (H : Hp) (o i : V) (ov iv : Value) (Q : VK), Inv X pins σ H s → RelV o ov → RelV i iv → t o i H Q →
    wpAny (model X.prog X.w) X.A (getItem ov iv) (EP X pins σ Q) X.xe s
theorem ps_augS {o i e : Expr} {to ti te : TE} {tget : V → V → Hp → VK → Prop} {tip : TIp} {tset : TSet} {op : Operator} {tpos : Pos} (ho : PE X o to) (hi : PE X i ti) (hg : PGet X tget) (he : PE X e te) (hp : PIp X op tip) (hs : PSet X tset)
    (ha : ∀ ov iv new, augStore i ov iv new = (do holding [new, ov, iv] (setItem ov iv new); release [new, ov, iv] []; pure .next) := by intros; rfl) : PS X (.AugAssign (.Subscript o i tpos) op e pos) (tAugS to ti te tget tip tset) := by
  intro pins s σ H D I h
  refine wpAny_AugAssign_SubscriptAny (thn (ho pins s σ H _ I h) fun ov s1 ⟨x1, H1, I1, r1, q1⟩ => ?_) ha
  refine thn (hi pins s1 σ H1 _ I1 q1) fun iv s2 ⟨x2, H2, I2, r2, q2⟩ => ?_
  refine thn (hg pins s2 σ H2 x1 x2 ov iv _ I2 r1 r2 q2) fun old s3 ⟨x3, H3, I3, r3, q3⟩ => ?_
  refine thn (he pins s3 σ H3 _ I3 q3) fun v s4 ⟨x4, H4, I4, r4, q4⟩ => ?_
  refine thn (hp pins s4 σ H4 x3 x4 old v _ I4 r3 r4 q4) fun new s5 ⟨x5, H5, I5, r5, q5⟩ => ?_
  exact thn (hs pins s5 σ H5 x1 x2 x5 ov iv new _ I5 r1 r2 r5 q5) fun _ s6 ⟨H6, I6, q6⟩ => ⟨σ, H6, I6, q6⟩
/-- ints -/
def ipI (f : Int → Int → Int) : TIp := fun x y H Q => ∃ i j, x = .int i ∧ y = .int j ∧ Q (.int (f i j)) H
theorem ip_add : PIp X .Add (ipI fun i j => i + j) := by
  intro pins s σ H x y v u Q I r1 r2 h
  obtain ⟨i, j, e1, e2, q⟩ := h
  subst e1; subst e2
  obtain ⟨t, rfl⟩ := r1
  obtain ⟨t', rfl⟩ := r2
  exact iadd_int ⟨.int _, H, I.tok _, ⟨_, rfl⟩, q⟩
theorem ip_sub : PIp X .Sub (ipI fun i j => i - j) := by
  intro pins s σ H x y v u Q I r1 r2 h
  obtain ⟨i, j, e1, e2, q⟩ := h
  subst e1; subst e2
  obtain ⟨t, rfl⟩ := r1
  obtain ⟨t', rfl⟩ := r2
  exact isub_int ⟨.int _, H, I.tok _, ⟨_, rfl⟩, q⟩
end

/-! ### while -/
section
variable {X : Cx} {pos : Pos}
/-- the invariant W with its measure -/
def tWhile (c : TT) (tb : TS) : TS := fun D σ H => ∃ W : Nat → St → Hp → Prop, (∃ m, W m σ H) ∧ ∀ m σ H, W m σ H →
  c σ H fun b H1 => if b = true then ∃ N : St → Hp → Prop, (∀ σ' H', N σ' H' → ∃ m', m' < m ∧ W m' σ' H') ∧ tb { D with nx := N, ct := N, bk := D.nx } σ H1 else D.nx σ H1
theorem ps_while {c : Expr} {body : List Stmt} {tc : TT} {tb : TS} (hp : PassesOwn (model X.prog X.w) X.A X.env X.xe) (hc : PT X c tc) (hb : PSs X body tb) : PS X (.While c body [] pos) (tWhile tc tb) := by
  intro pins s σ H D I h
  obtain ⟨W, ⟨m0, w0⟩, turn⟩ := h
  refine wpAny_While (codeAny_whileLoop (fun n s' => ∃ σ' H', Inv X pins σ' H' s' ∧ W n σ' H') ?_ m0 ⟨σ, H, I, w0⟩)
  rintro n s1 ⟨σ1, H1, I1, w1⟩
  refine wpAny_passesOwn hp (thn (hc pins s1 σ1 H1 _ I1 (turn n σ1 H1 w1)) fun b s2 ⟨H2, I2, q2⟩ => ?_)
  cases b with
  | true =>
    obtain ⟨N, hN, q2⟩ := q2
    rw [if_pos rfl]
    refine wpAny_passesOwn hp (thn (hb pins s2 σ1 H2 _ I2 q2) fun f s3 q3 => ?_)
    cases f with
    | next =>
      obtain ⟨σ3, H3, I3, n3⟩ := q3
      obtain ⟨m', hm, w3⟩ := hN σ3 H3 n3
      exact ⟨m', hm, σ3, H3, I3, w3⟩
    | cont =>
      obtain ⟨σ3, H3, I3, n3⟩ := q3
      obtain ⟨m', hm, w3⟩ := hN σ3 H3 n3
      exact ⟨m', hm, σ3, H3, I3, w3⟩
    | brk => exact q3
    | ret v => exact q3
  | false =>
    rw [if_neg Bool.false_ne_true]
    exact wpAny_execs_nil ⟨σ1, H2, I2, q2⟩
end

/-! ### what a loop or a comprehension walks -/
/-- at turn i: it yields x (the heap may grow), or it stops -/
structure It where
  go : Nat → Hp → Prop
  yld : Nat → Hp → V → Hp → Prop
  stop : Nat → Hp → Prop
/-- the iterator's own objects may turn: they are not the frame's, not pinned, younger than the entry (or a comprehension's own) -/
def FpOk (X : Cx) (pins : List (Addr × Obj)) (H : Hp) (b : Addr) : Prop :=
  H b = none ∧ b ≠ X.env.locals ∧ b ∉ X.fs ∧ (b ∈ X.ex ∨ X.s₀.heap.objs.size ≤ b) ∧ (∀ x c, X.env.cells.lookup x = some c → c ≠ b) ∧ ∀ p ∈ X.pn ++ pins, p.1 ≠ b
theorem Inv.fpOk {X : Cx} {pins : List (Addr × Obj)} {σ : St} {H H' : Hp} {s : Shared} {b : Addr} (I : Inv X pins σ H s) (hb : s.heap.objs.size ≤ b) (hn : H' b = none) : FpOk X pins H' b := by
  refine ⟨hn, Nat.ne_of_gt (Nat.lt_of_lt_of_le I.lt hb), I.nofs hb, .inr (Nat.le_trans I.sz hb), fun x c e z => ?_, fun p hp z => ?_⟩
  · obtain ⟨v, q⟩ := I.cell x c e
    exact absurd (Nat.lt_of_lt_of_le q.lt (by rw [z]; exact hb)) (Nat.lt_irrefl _)
  · exact absurd (Nat.lt_of_lt_of_le (Heap.lt_size (I.pin p hp).1) (by rw [z]; exact hb)) (Nat.lt_irrefl _)
structure Turn (P : Program) (w : World) (K : PySem.W.Frag) (tg : Expr) (J : It) (fp : List Addr) (it : Addr) (tn : Nat → Heap → Prop) : Prop where
  mem : it ∈ fp
  obj : ∀ i h, tn i h → ∀ b ∈ fp, ∃ o, h.get? b = some o ∧ ∀ v, o.data ≠ .cell v
  keep : ∀ i h h', tn i h → (∀ b ∈ fp, ∀ o, h.get? b = some o → h'.get? b = some o) → tn i h'
  item : ∀ (X : Cx), X.prog = P → X.w = w → X.K = K → X.calm = true → ∀ (i : Nat) (pins : List (Addr × Obj)) (s : Shared) (σ : St) (H : Hp) (E : Value → Shared → Prop), Inv X pins σ H s → (∀ b ∈ fp, FpOk X pins H b) → tn i s.heap → J.go i H →
    wpAny (model P w) X.A (pyNext (.ref it)) (fun r s1 => ∃ u, r = some u ∧
      wpAny (model P w) X.A (letOwnedTupleGo tg (.ref it) u) (fun _ s2 => ∃ x H', Inv X pins σ H' s2 ∧ RelV x u ∧ J.yld i H x H' ∧ tn (i + 1) s2.heap ∧ ∀ b ∈ fp, H' b = none) E s1) E s
  done : ∀ (X : Cx), X.prog = P → X.w = w → X.K = K → X.calm = true → ∀ (i : Nat) (pins : List (Addr × Obj)) (s : Shared) (σ : St) (H : Hp) (E : Value → Shared → Prop), Inv X pins σ H s → (∀ b ∈ fp, FpOk X pins H b) → tn i s.heap → J.stop i H →
    wpAny (model P w) X.A (pyNext (.ref it)) (fun r s1 => r = none ∧ Inv X pins σ H s1) E s
  self : ∀ (A : Around) (i : Nat) (s : Shared) (Q : Value → Shared → Prop) (E : Value → Shared → Prop), tn i s.heap → Q (.ref it) s → wpAny (model P w) A (pyIter (.ref it)) Q E s
abbrev TI := St → Hp → (It → Hp → Prop) → Prop
/-- an iterator has come -/
def PIE (X : Cx) (pins : List (Addr × Obj)) (σ : St) (tg : Expr) (R : It → Hp → Prop) (itv : Value) (s2 : Shared) : Prop :=
  ∃ (it : Addr) (fp : List Addr) (tn : Nat → Heap → Prop) (J : It) (H' : Hp), itv = .ref it ∧ Inv X pins σ H' s2 ∧ Turn X.prog X.w X.K tg J fp it tn ∧ tn 0 s2.heap ∧ (∀ b ∈ fp, FpOk X pins H' b) ∧ R J H'
def PI (X : Cx) (tg iter : Expr) (wi : TI) : Prop :=
  ∀ (pins : List (Addr × Obj)) (s : Shared) (σ : St) (H : Hp) (R : It → Hp → Prop), Inv X pins σ H s → wi σ H R →
    wpAny (model X.prog X.w) X.A (eval iter X.env) (fun v s1 => wpAny (model X.prog X.w) X.A (pyIter v) (PIE X pins σ tg R) X.xe s1) X.xe s

/-- the step ahead of the store is nothing for an iterator that keeps no tuple -/
theorem go_of {M : Model} {A : Around} {E : Value → Shared → Prop} {s : Shared} {tg : Expr} {it : Addr} {u : Value} {o : Obj} {n : String} {vs : Array Value} {Q : Unit → Shared → Prop} (ho : s.heap.get? it = some o) (hc : o.cls = .type n) (hd : o.data = .fields vs)
    (hn : ["enumerate", "zip", "dict_itemiterator", "dict_reverseitemiterator", "odict_iterator", "itertools.zip_longest", "itertools.pairwise"].contains n = false) (hQ : Q () s) : wpAny M A (letOwnedTupleGo tg (.ref it) u) Q E s := by
  unfold letOwnedTupleGo
  cases tg <;> first
    | exact wpAny_pure hQ
    | (cases u <;> first
        | exact wpAny_pure hQ
        | (refine wpAny_bind (wpAny_load ho ?_)
           rw [hc, hd]
           show wpAny M A (if (["enumerate", "zip", "dict_itemiterator", "dict_reverseitemiterator", "odict_iterator", "itertools.zip_longest", "itertools.pairwise"].contains n && vs[0]? == some (rawInt _)) = true then _ else _) Q E s
           rw [if_neg (by intro h; rw [hn, Bool.false_and] at h; cases h)]
           exact wpAny_pure hQ))

/-- the list at a, as it stands at each turn (a loop may append to it) -/
def Itl (K : PySem.W.Frag) (a : Addr) : It :=
  ⟨fun i H => ∃ xs x, SqL K H a xs ∧ xs[i]? = some x, fun i H x H' => H' = H ∧ ∀ xs, SqL K H a xs → xs[i]? = some x, fun i H => ∃ xs, SqL K H a xs ∧ xs.length ≤ i⟩
def Itt (K : PySem.W.Frag) (a : Addr) : It :=
  ⟨fun i H => ∃ xs x, SqT K H a xs ∧ xs[i]? = some x, fun i H x H' => H' = H ∧ ∀ xs, SqT K H a xs → xs[i]? = some x, fun i H => ∃ xs, SqT K H a xs ∧ xs.length ≤ i⟩
/-- lo, lo + 1, .. (n of them) -/
def Itr (lo : Int) (n : Nat) : It := ⟨fun i _ => i < n, fun i H x H' => H' = H ∧ x = .int (lo + i), fun i _ => n ≤ i⟩
theorem turn_list {P : Program} {w : World} {K : PySem.W.Frag} {tg : Expr} (a it : Addr) : Turn P w K tg (Itl K a) [it] it (fun i h => h.IsListIter it a i) where
  mem := by simp
  obj := fun i h st b hb => by
    have e : b = it := by simpa using hb
    subst e
    obtain ⟨o, e, c, d⟩ := st
    exact ⟨o, e, fun v z => by rw [d] at z; cases z⟩
  keep := fun i h h' st k => st.at fun o e => k it (by simp) o e
  item := by
    intro X hP hw hK hc i pins s σ H E I hf st hg
    subst hP hw hK
    obtain ⟨xs, x, hq, hx⟩ := hg
    obtain ⟨its, rv, p, hz⟩ := I.list hq
    obtain ⟨u, hu, ru⟩ := rv.get hx
    obtain ⟨f0, f1, f2, f3, f4, f5⟩ := hf it (by simp)
    refine wpAny_pyNext_list_item st p.isList (x := u) (by simpa using hu) fun h' st' sb => ?_
    have I1 : Inv X pins σ H { s with heap := h' } := I.turned (t' := s.toks) (fun b o hb e => (sb.2 b hb).trans e) f0 f1 f3 f4 f5
    obtain ⟨o, e, c, d⟩ := id st'
    exact ⟨u, rfl, go_of (s := { s with heap := h' }) e c d (by decide) ⟨x, H, I1, ru, ⟨rfl, fun ys hy => by rw [I.list_inj hy hq]; exact hx⟩, st', fun b hb => (hf b hb).1⟩⟩
  done := by
    intro X hP hw hK hc i pins s σ H E I hf st hg
    subst hP hw hK
    obtain ⟨xs, hq, hx⟩ := hg
    obtain ⟨its, rv, p, hz⟩ := I.list hq
    obtain ⟨f0, f1, f2, f3, f4, f5⟩ := hf it (by simp)
    have hl := rv.length
    exact wpAny_pyNext_list_end (I.ok.hd hc) st p.isList (by simp; omega) fun h' eb => ⟨rfl, I.turned (t' := s.toks) (fun b o hb e => eb b o hb e) f0 f1 f3 f4 f5⟩
  self := fun _ _ _ _ _ st h => wpAny_pyIter_listiter st h
theorem turn_tuple {P : Program} {w : World} {K : PySem.W.Frag} {tg : Expr} (a it : Addr) : Turn P w K tg (Itt K a) [it] it (fun i h => h.IsTupleIter it a i) where
  mem := by simp
  obj := fun i h st b hb => by
    have e : b = it := by simpa using hb
    subst e
    obtain ⟨o, e, c, d⟩ := st
    exact ⟨o, e, fun v z => by rw [d] at z; cases z⟩
  keep := fun i h h' st k => st.at fun o e => k it (by simp) o e
  item := by
    intro X hP hw hK hc i pins s σ H E I hf st hg
    subst hP hw hK
    obtain ⟨xs, x, hq, hx⟩ := hg
    obtain ⟨its, rv, p, hz⟩ := I.tuple hq
    obtain ⟨u, hu, ru⟩ := rv.get hx
    obtain ⟨f0, f1, f2, f3, f4, f5⟩ := hf it (by simp)
    refine wpAny_pyNext_tuple_item st (show s.heap.IsTuple a its.toArray from p) (x := u) (by simpa using hu) fun h' st' sb => ?_
    have I1 : Inv X pins σ H { s with heap := h' } := I.turned (t' := s.toks) (fun b o hb e => (sb.2 b hb).trans e) f0 f1 f3 f4 f5
    obtain ⟨o, e, c, d⟩ := id st'
    exact ⟨u, rfl, go_of (s := { s with heap := h' }) e c d (by decide) ⟨x, H, I1, ru, ⟨rfl, fun ys hy => by rw [I.tuple_inj hy hq]; exact hx⟩, st', fun b hb => (hf b hb).1⟩⟩
  done := by
    intro X hP hw hK hc i pins s σ H E I hf st hg
    subst hP hw hK
    obtain ⟨xs, hq, hx⟩ := hg
    obtain ⟨its, rv, p, hz⟩ := I.tuple hq
    obtain ⟨f0, f1, f2, f3, f4, f5⟩ := hf it (by simp)
    have hl := rv.length
    exact wpAny_pyNext_tuple_end (I.ok.hd hc) st (show s.heap.IsTuple a its.toArray from p) (by simp; omega) fun h' eb => ⟨rfl, I.turned (t' := s.toks) (fun b o hb e => eb b o hb e) f0 f1 f3 f4 f5⟩
  self := fun _ _ _ _ _ st h => wpAny_pyIter_tupleiter st h
theorem turn_range {P : Program} {w : World} {K : PySem.W.Frag} {tg : Expr} (it : Addr) (lo : Int) (n : Nat) : Turn P w K tg (Itr lo n) [it] it (fun i h => IsRangeIter h it (lo + (i : Nat) * 1) ((n : Int) - (i : Nat)) 1) where
  mem := by simp
  obj := fun i h st b hb => by
    have e : b = it := by simpa using hb
    subst e
    exact ⟨_, st, fun v z => by
      have z' : Data.fields _ = Data.cell v := z
      cases z'⟩
  keep := fun i h h' st k => k it (by simp) _ st
  item := by
    intro X hP hw hK hc i pins s σ H E I hf st hg
    subst hP hw hK
    obtain ⟨f0, f1, f2, f3, f4, f5⟩ := hf it (by simp)
    have W := Walks.range (prog := X.prog) (w := X.w) (I.ok.hd hc) it lo 1 n
    refine W.item i s _ _ hg st fun v h' tk hv st' kk => ?_
    obtain ⟨t, rfl⟩ := hv
    have I1 : Inv X pins σ H { s with heap := h', toks := tk } := I.turned (fun b o hb e => kk b o (by simpa using hb) e) f0 f1 f3 f4 f5
    refine ⟨_, rfl, go_of (s := { s with heap := h', toks := tk }) (n := "range_iterator") st' rfl rfl (by decide) ⟨.int (lo + i), H, I1, ⟨t, ?_⟩, ⟨rfl, rfl⟩, st', fun b hb => (hf b hb).1⟩⟩
    rw [Int.mul_one]
  done := by
    intro X hP hw hK hc i pins s σ H E I hf st hg
    subst hP hw hK
    obtain ⟨f0, f1, f2, f3, f4, f5⟩ := hf it (by simp)
    exact wpAny_pyNext_range_end (I.ok.hd hc) st (by have : n ≤ i := hg; omega) fun h' eb => ⟨rfl, I.turned (t' := s.toks) (fun b o hb e => eb b o hb e) f0 f1 f3 f4 f5⟩
  self := fun _ _ _ _ _ st h => wpAny_pyIter_rangeiter st h
end L2

namespace L2
open PySem PySem.Spec PyProof.Rows
section
variable {X : Cx} {tg : Expr}
def iList (K : PySem.W.Frag) (tl : TE) : TI := fun σ H R => tl σ H fun x H1 => ∃ a, x = .ref a ∧ (∃ xs, SqL K H1 a xs) ∧ R (Itl K a) H1
def iTup (K : PySem.W.Frag) (tl : TE) : TI := fun σ H R => tl σ H fun x H1 => ∃ a, x = .ref a ∧ (∃ xs, SqT K H1 a xs) ∧ R (Itt K a) H1
theorem pi_list {l : Expr} {tl : TE} (hl : PE X l tl) : PI X tg l (iList X.K tl) := by
  intro pins s σ H R I h
  refine thn (hl pins s σ H _ I h) fun v s1 ⟨x, H1, I1, r1, q1⟩ => ?_
  obtain ⟨a, e, ⟨xs, hq⟩, q⟩ := q1
  subst e
  cases r1
  obtain ⟨its, rv, p, hz⟩ := I1.list hq
  refine wpAny_pyIter_list p.isList ?_
  refine ⟨s1.heap.objs.size, [s1.heap.objs.size], _, _, H1, rfl, I1.kept (t' := s1.toks) fun b o e => Heap.get?_push_of_some _ e, turn_list a _, ⟨_, Heap.get?_push_size _ rfl, rfl, rfl⟩, fun b hb => ?_, q⟩
  have e : b = s1.heap.objs.size := by simpa using hb
  subst e
  exact I1.fpOk (Nat.le_refl _) (I1.hok.fresh (Nat.le_refl _))
theorem pi_tup {l : Expr} {tl : TE} (hl : PE X l tl) : PI X tg l (iTup X.K tl) := by
  intro pins s σ H R I h
  refine thn (hl pins s σ H _ I h) fun v s1 ⟨x, H1, I1, r1, q1⟩ => ?_
  obtain ⟨a, e, ⟨xs, hq⟩, q⟩ := q1
  subst e
  cases r1
  obtain ⟨its, rv, p, hz⟩ := I1.tuple hq
  refine wpAny_pyIter_tuple (show s1.heap.IsTuple a its.toArray from p) ?_
  refine ⟨s1.heap.objs.size, [s1.heap.objs.size], _, _, H1, rfl, I1.kept (t' := s1.toks) fun b o e => Heap.get?_push_of_some _ e, turn_tuple a _, ⟨_, Heap.get?_push_size _ rfl, rfl, rfl⟩, fun b hb => ?_, q⟩
  have e : b = s1.heap.objs.size := by simpa using hb
  subst e
  exact I1.fpOk (Nat.le_refl _) (I1.hok.fresh (Nat.le_refl _))
/-- a range object just made, walked -/
theorem range_it {pins : List (Addr × Obj)} {σ : St} {H : Hp} {s : Shared} {R : It → Hp → Prop} {E : Value → Shared → Prop} {lo hi : Int} {t u v : Tok} {tk : Nat} (I : Inv X pins σ H s) (h1 : -(2 ^ 62) ≤ lo) (h2 : lo < 2 ^ 62) (h3 : -(2 ^ 62) ≤ hi) (h4 : hi < 2 ^ 62)
    (q : R (Itr lo (hi - lo).toNat) H) : wpAny (model X.prog X.w) X.A (pyIter (.ref s.heap.objs.size)) (PIE X pins σ tg R) E { s with heap := s.heap.push { cls := .type "range", data := .fields #[.int lo t, .int hi u, .int 1 v] }, toks := tk } := by
  refine wpAny_pyIter_range (IsRange.new ..) (small_one h1 h2 h3 h4) ?_
  have I1 : Inv X pins σ H { s with heap := s.heap.push { cls := .type "range", data := .fields #[.int lo t, .int hi u, .int 1 v] }, toks := tk } := I.kept fun b o e => Heap.get?_push_of_some _ e
  refine ⟨(s.heap.push { cls := .type "range", data := .fields #[.int lo t, .int hi u, .int 1 v] }).objs.size, [(s.heap.push { cls := .type "range", data := .fields #[.int lo t, .int hi u, .int 1 v] }).objs.size], _, _, H, rfl,
    I1.kept (t' := tk) fun b o e => Heap.get?_push_of_some _ e, turn_range _ lo (hi - lo).toNat, ?_, fun b hb => ?_, q⟩
  · have e1 : lo + ((0 : Nat) : Int) * 1 = lo := by simp
    have e2 : (((hi - lo).toNat : Nat) : Int) - ((0 : Nat) : Int) = Builtin.Range.rangeSize lo hi 1 := by rw [rangeSize_one]; split <;> omega
    show IsRangeIter _ _ (lo + ((0 : Nat) : Int) * 1) ((((hi - lo).toNat : Nat) : Int) - ((0 : Nat) : Int)) 1
    rw [e1, e2]
    exact Heap.get?_push_size _ rfl
  · have e : b = (s.heap.push { cls := .type "range", data := .fields #[.int lo t, .int hi u, .int 1 v] }).objs.size := by simpa using hb
    subst e
    exact I1.fpOk (Nat.le_refl _) (I1.hok.fresh (Nat.le_refl _))
def iRng1 (ta : TA) : TI := fun σ H R => ta σ H fun vs H1 => ∃ j : Int, vs = [.int j] ∧ -(2 ^ 62) ≤ j ∧ j < 2 ^ 62 ∧ R (Itr 0 j.toNat) H1
def iRng2 (ta : TA) : TI := fun σ H R => ta σ H fun vs H1 => ∃ i j : Int, vs = [.int i, .int j] ∧ (-(2 ^ 62) ≤ i ∧ i < 2 ^ 62 ∧ -(2 ^ 62) ≤ j ∧ j < 2 ^ 62) ∧ R (Itr i (j - i).toNat) H1
theorem pi_range1 {a : Expr} {ta : TA} {p pos : Pos} (hg : Gl X "range") (hm : X.mg "range" = none) (ha : PA X [a] ta) (hs : starEach [a] X.env = [(false, eval a X.env)] := by rfl) : PI X tg (.Call (.Name "range" p) [a] [] pos) (iRng1 ta) := by
  intro pins s σ H R I h
  refine Call_ (ld_blt I hg hm boot_range (PyProof.Rows.callWith_type1 (thn (ha pos pins s σ H _ I h) fun us s1 ⟨vs, H1, I1, r1, q1⟩ => ?_) hs rfl))
  obtain ⟨j, e, q1, q2, q⟩ := q1
  subst e
  cases r1 with
  | cons r rr =>
    cases rr
    obtain ⟨t, rfl⟩ := r
    exact call_range_1 (range_it I1 (by omega) (by omega) q1 q2 (by simpa using q))
theorem pi_range2 {a b : Expr} {ta : TA} {p pos : Pos} (hg : Gl X "range") (hm : X.mg "range" = none) (ha : PA X [a, b] ta) (hs : starEach [a, b] X.env = [(false, eval a X.env), (false, eval b X.env)] := by rfl) (hs2 : starEach [b] X.env = [(false, eval b X.env)] := by rfl) :
    PI X tg (.Call (.Name "range" p) [a, b] [] pos) (iRng2 ta) := by
  intro pins s σ H R I h
  refine Call_ (ld_blt I hg hm boot_range (PyProof.Rows.callWith_type1 (thn (ha pos pins s σ H _ I h) fun us s1 ⟨vs, H1, I1, r1, q1⟩ => ?_) (by rw [hs, hs2]) (by rw [hs2]; rfl)))
  obtain ⟨i, j, e, ⟨q1, q2, q3, q4⟩, q⟩ := q1
  subst e
  cases r1 with
  | cons r rr =>
    cases rr with
    | cons r' rr =>
      cases rr
      obtain ⟨t, rfl⟩ := r
      obtain ⟨t', rfl⟩ := r'
      exact call_range_2 (range_it I1 q1 q2 q3 q4 q)

/-! ### for -/
/-- W: the invariant by the turn and a measure; N: what the body is to reach -/
def tFor (wi : TI) (g : TG) (tb : TS) : TS := fun D σ H => wi σ H fun J H1 => ∃ W : Nat → Nat → St → Hp → Prop, (∃ m, W 0 m σ H1) ∧ ∀ i m σ H, W i m σ H →
  (J.stop i H ∧ D.nx σ H) ∨ (J.go i H ∧ ∃ N : St → Hp → Prop, (∀ σ' H', N σ' H' → ∃ m', m' < m ∧ W (i + 1) m' σ' H') ∧ ∀ x H', J.yld i H x H' → g x σ H' fun σ2 H2 => tb { D with nx := N, ct := N, bk := D.nx } σ2 H2)
/-- the records at fp as they stand -/
def pinsAt (fp : List Addr) (h : Heap) : List (Addr × Obj) := fp.filterMap fun b => (h.get? b).map fun o => (b, o)
theorem mem_pinsAt {fp : List Addr} {h : Heap} {b : Addr} {o : Obj} (hb : b ∈ fp) (e : h.get? b = some o) : (b, o) ∈ pinsAt fp h := List.mem_filterMap.mpr ⟨b, hb, by rw [e]; rfl⟩
theorem of_pinsAt {fp : List Addr} {h : Heap} {p : Addr × Obj} (hp : p ∈ pinsAt fp h) : p.1 ∈ fp ∧ h.get? p.1 = some p.2 := by
  obtain ⟨b, hb, e⟩ := List.mem_filterMap.mp hp
  cases q : h.get? b with
  | none => rw [q] at e; cases e
  | some o =>
    rw [q] at e
    have e' : (b, o) = p := Option.some.inj e
    subst e'
    exact ⟨hb, q⟩
theorem Inv.pinned {pins : List (Addr × Obj)} {σ : St} {H : Hp} {s : Shared} {fp : List Addr} (I : Inv X pins σ H s) (hf : ∀ b ∈ fp, FpOk X pins H b) (ho : ∀ b ∈ fp, ∃ o, s.heap.get? b = some o ∧ ∀ v, o.data ≠ .cell v) : Inv X (pins ++ pinsAt fp s.heap) σ H s :=
  I.pins_of fun p hp => (List.mem_append.mp hp).elim (fun z => I.pin p (List.mem_append_right _ z)) fun z => by
    obtain ⟨hb, e⟩ := of_pinsAt z
    obtain ⟨f0, f1, f2, _⟩ := hf p.1 hb
    obtain ⟨o, e', d⟩ := ho p.1 hb
    rw [e] at e'; cases e'
    exact ⟨e, f0, f1, f2, d⟩
theorem Inv.unpinned {pins pl : List (Addr × Obj)} {σ : St} {H : Hp} {s : Shared} (I : Inv X (pins ++ pl) σ H s) : Inv X pins σ H s := I.pins_of fun p hp => I.pin p (List.mem_append_right _ (List.mem_append_left _ hp))
theorem ps_for {iter : Expr} {body : List Stmt} {wi : TI} {g : TG} {tb : TS} {pos : Pos} (hp : PassesOwn (model X.prog X.w) X.A X.env X.xe) (hc : X.calm = true) (hi : PI X tg iter wi) (hg : PG X tg g) (hb : PSs X body tb)
    (hs : ∀ x, foldedSetIterable iter X.env x = pure x := by intro _; rfl) : PS X (.For tg iter body [] pos) (tFor wi g tb) := by
  intro pins s σ H D I h
  refine wpAny_For (thn (hi pins s σ H _ I h) fun v s1 h1 => thn h1 fun itv s2 h2 => ?_) hs
  obtain ⟨it, fp, tn, J, H2, e, I2, T, st2, f2, W, ⟨m0, w0⟩, turn⟩ := h2
  subst e
  -- what stays true of the iterator's objects through the loop
  have stat : ∀ {H' : Hp}, (∀ b ∈ fp, H' b = none) → ∀ b ∈ fp, FpOk X pins H' b := fun hn b hb => ⟨hn b hb, (f2 b hb).2⟩
  refine codeAny_forLoop_any (fun n s' => ∃ i σ' H', Inv X pins σ' H' s' ∧ tn i s'.heap ∧ (∀ b ∈ fp, H' b = none) ∧ W i n σ' H') ?_ m0 ⟨0, σ, H2, I2, st2, fun b hb => (f2 b hb).1, w0⟩
  rintro n s3 ⟨i, σ3, H3, I3, st3, fr3, w3⟩
  rcases turn i n σ3 H3 w3 with ⟨stop, qn⟩ | ⟨go, N, hN, step⟩
  · refine wpAny_passesOwn hp (thn (T.done X rfl rfl rfl hc i pins s3 σ3 H3 X.xe I3 (stat fr3) st3 stop) fun r s4 ⟨hr, I4⟩ => ?_)
    subst hr
    exact wpAny_execs_nil ⟨σ3, H3, I4, qn⟩
  · refine wpAny_passesOwn hp (thn (T.item X rfl rfl rfl hc i pins s3 σ3 H3 X.xe I3 (stat fr3) st3 go) fun r s4 ⟨u, hr, h4⟩ => ?_)
    subst hr
    refine wpAny_passesOwn hp (thn h4 fun _ s5 ⟨x, H5, I5, r5, y5, st5, fr5⟩ => ?_)
    have I5' := I5.pinned (stat fr5) (T.obj _ _ st5)
    refine wpAny_passesOwn hp (thn (hg _ s5 σ3 H5 x u _ I5' r5 (step x H5 y5)) fun _ s6 ⟨σ6, H6, I6, q6⟩ => ?_)
    refine wpAny_passesOwn hp (thn (hb _ s6 σ6 H6 _ I6 q6) fun f s7 q7 => ?_)
    have again : ∀ {σ7 : St} {H7 : Hp}, Inv X (pins ++ pinsAt fp s5.heap) σ7 H7 s7 → N σ7 H7 → ∃ m, m < n ∧ ∃ i σ' H', Inv X pins σ' H' s7 ∧ tn i s7.heap ∧ (∀ b ∈ fp, H' b = none) ∧ W i m σ' H' := fun {σ7 H7} I7 n7 => by
      obtain ⟨m', hm, w7⟩ := hN σ7 H7 n7
      refine ⟨m', hm, i + 1, σ7, H7, I7.unpinned, T.keep _ _ _ st5 fun b hb o e => (I7.pin (b, o) (List.mem_append_right _ (List.mem_append_right _ (mem_pinsAt hb e)))).1, fun b hb => ?_, w7⟩
      obtain ⟨o, e, d⟩ := T.obj _ _ st5 b hb
      exact (I7.pin (b, o) (List.mem_append_right _ (List.mem_append_right _ (mem_pinsAt hb e)))).2.1
    cases f with
    | next => obtain ⟨σ7, H7, I7, n7⟩ := q7; exact again I7 n7
    | cont => obtain ⟨σ7, H7, I7, n7⟩ := q7; exact again I7 n7
    | brk => obtain ⟨σ7, H7, I7, q7⟩ := q7; exact ⟨σ7, H7, I7.unpinned, q7⟩
    | ret v => obtain ⟨x7, σ7, H7, I7, r7, q7⟩ := q7; exact ⟨x7, σ7, H7, I7.unpinned, r7, q7⟩
end

/-! ### the forms one uses -/
/-- over a list that the body leaves as it is -/
theorem for_list {K : PySem.W.Frag} {a : Addr} {xs : List V} {g : TG} {tb : TS} {D : Ends} {σ : St} {H : Hp} (Pv : Nat → St → Hp → Prop) (h0 : Pv 0 σ H) (hl : ∀ i σ H, i ≤ xs.length → Pv i σ H → SqL K H a xs)
    (hs : ∀ i x σ H, xs[i]? = some x → Pv i σ H → g x σ H fun σ2 H2 => tb { D with nx := Pv (i + 1), ct := Pv (i + 1), bk := D.nx } σ2 H2) (hd : ∀ σ H, Pv xs.length σ H → D.nx σ H) :
    ∃ W : Nat → Nat → St → Hp → Prop, (∃ m, W 0 m σ H) ∧ ∀ i m σ H, W i m σ H →
      ((Itl K a).stop i H ∧ D.nx σ H) ∨ ((Itl K a).go i H ∧ ∃ N : St → Hp → Prop, (∀ σ' H', N σ' H' → ∃ m', m' < m ∧ W (i + 1) m' σ' H') ∧ ∀ x H', (Itl K a).yld i H x H' → g x σ H' fun σ2 H2 => tb { D with nx := N, ct := N, bk := D.nx } σ2 H2) := by
  refine ⟨fun i m σ H => m = xs.length - i ∧ i ≤ xs.length ∧ Pv i σ H, ⟨xs.length, by simp, Nat.zero_le _, h0⟩, ?_⟩
  rintro i m σ H ⟨rfl, hi, p⟩
  have q := hl i σ H hi p
  by_cases hlt : i < xs.length
  · refine .inr ⟨⟨xs, xs[i], q, by simp [hlt]⟩, Pv (i + 1), fun σ' H' p' => ⟨xs.length - (i + 1), by omega, rfl, hlt, p'⟩, fun x H' y => ?_⟩
    obtain ⟨e, y⟩ := y
    subst e
    exact hs i x σ _ (y xs q) p
  · have e : i = xs.length := by omega
    subst e
    exact .inl ⟨⟨xs, q, Nat.le_refl _⟩, hd σ H p⟩
theorem for_tup {K : PySem.W.Frag} {a : Addr} {xs : List V} {g : TG} {tb : TS} {D : Ends} {σ : St} {H : Hp} (Pv : Nat → St → Hp → Prop) (h0 : Pv 0 σ H) (hl : ∀ i σ H, i ≤ xs.length → Pv i σ H → SqT K H a xs)
    (hs : ∀ i x σ H, xs[i]? = some x → Pv i σ H → g x σ H fun σ2 H2 => tb { D with nx := Pv (i + 1), ct := Pv (i + 1), bk := D.nx } σ2 H2) (hd : ∀ σ H, Pv xs.length σ H → D.nx σ H) :
    ∃ W : Nat → Nat → St → Hp → Prop, (∃ m, W 0 m σ H) ∧ ∀ i m σ H, W i m σ H →
      ((Itt K a).stop i H ∧ D.nx σ H) ∨ ((Itt K a).go i H ∧ ∃ N : St → Hp → Prop, (∀ σ' H', N σ' H' → ∃ m', m' < m ∧ W (i + 1) m' σ' H') ∧ ∀ x H', (Itt K a).yld i H x H' → g x σ H' fun σ2 H2 => tb { D with nx := N, ct := N, bk := D.nx } σ2 H2) := by
  refine ⟨fun i m σ H => m = xs.length - i ∧ i ≤ xs.length ∧ Pv i σ H, ⟨xs.length, by simp, Nat.zero_le _, h0⟩, ?_⟩
  rintro i m σ H ⟨rfl, hi, p⟩
  have q := hl i σ H hi p
  by_cases hlt : i < xs.length
  · refine .inr ⟨⟨xs, xs[i], q, by simp [hlt]⟩, Pv (i + 1), fun σ' H' p' => ⟨xs.length - (i + 1), by omega, rfl, hlt, p'⟩, fun x H' y => ?_⟩
    obtain ⟨e, y⟩ := y
    subst e
    exact hs i x σ _ (y xs q) p
  · have e : i = xs.length := by omega
    subst e
    exact .inl ⟨⟨xs, q, Nat.le_refl _⟩, hd σ H p⟩
theorem for_range {lo : Int} {n : Nat} {g : TG} {tb : TS} {D : Ends} {σ : St} {H : Hp} (Pv : Nat → St → Hp → Prop) (h0 : Pv 0 σ H)
    (hs : ∀ i σ H, i < n → Pv i σ H → g (.int (lo + i)) σ H fun σ2 H2 => tb { D with nx := Pv (i + 1), ct := Pv (i + 1), bk := D.nx } σ2 H2) (hd : ∀ σ H, Pv n σ H → D.nx σ H) :
    ∃ W : Nat → Nat → St → Hp → Prop, (∃ m, W 0 m σ H) ∧ ∀ i m σ H, W i m σ H →
      ((Itr lo n).stop i H ∧ D.nx σ H) ∨ ((Itr lo n).go i H ∧ ∃ N : St → Hp → Prop, (∀ σ' H', N σ' H' → ∃ m', m' < m ∧ W (i + 1) m' σ' H') ∧ ∀ x H', (Itr lo n).yld i H x H' → g x σ H' fun σ2 H2 => tb { D with nx := N, ct := N, bk := D.nx } σ2 H2) := by
  refine ⟨fun i m σ H => m = n - i ∧ i ≤ n ∧ Pv i σ H, ⟨n, by simp, Nat.zero_le _, h0⟩, ?_⟩
  rintro i m σ H ⟨rfl, hi, p⟩
  by_cases hlt : i < n
  · refine .inr ⟨hlt, Pv (i + 1), fun σ' H' p' => ⟨n - (i + 1), by omega, rfl, hlt, p'⟩, fun x H' y => ?_⟩
    obtain ⟨e, y⟩ := y
    subst e y
    exact hs i σ _ hlt p
  · have e : i = n := by omega
    subst e
    exact .inl ⟨Nat.le_refl _, hd σ H p⟩
/-- while, by a word and a measure of the state -/
theorem while_by {c : TT} {tb : TS} {D : Ends} {σ : St} {H : Hp} (Pv : St → Hp → Prop) (μ : St → Hp → Nat) (h0 : Pv σ H)
    (hs : ∀ σ H, Pv σ H → c σ H fun b H1 => if b = true then tb { D with nx := fun σ' H' => Pv σ' H' ∧ μ σ' H' < μ σ H, ct := fun σ' H' => Pv σ' H' ∧ μ σ' H' < μ σ H, bk := D.nx } σ H1 else D.nx σ H1)
    (mono : ∀ σ H Q Q', (∀ b H1, Q b H1 → Q' b H1) → c σ H Q → c σ H Q') : tWhile c tb D σ H := by
  refine ⟨fun m σ H => m = μ σ H ∧ Pv σ H, ⟨_, rfl, h0⟩, ?_⟩
  rintro m σ H ⟨rfl, p⟩
  refine mono σ H _ _ (fun b H1 q => ?_) (hs σ H p)
  cases b with
  | true => exact ⟨_, fun σ' H' ⟨p', l⟩ => ⟨_, l, rfl, p'⟩, q⟩
  | false => exact q
end L2

namespace L2
open PySem PySem.Spec PyProof.Rows

abbrev R2 := V → V → Hp → VK → Prop
/-- a two-place operation on values: f is binaryOp op, inplaceOp op or compareOp op -/
def OpR (X : Cx) (f : Value → Value → Sem Value) (r : R2) : Prop :=
  ∀ (pins : List (Addr × Obj)) (s : Shared) (σ : St) (H : Hp) (x y : V) (v u : Value) (Q : VK), Inv X pins σ H s → RelV x v → RelV y u → r x y H Q →
    wpAny (model X.prog X.w) X.A (f v u) (EP X pins σ Q) X.xe s
/-- a one-place operation -/
def UnR (X : Cx) (f : Value → Sem Value) (r : V → Hp → VK → Prop) : Prop :=
  ∀ (pins : List (Addr × Obj)) (s : Shared) (σ : St) (H : Hp) (x : V) (v : Value) (Q : VK), Inv X pins σ H s → RelV x v → r x H Q →
    wpAny (model X.prog X.w) X.A (f v) (EP X pins σ Q) X.xe s
/-- a call of a value that is known (a builtin, a type) with values -/
def CallR (X : Cx) (f : Value) (r : List V → Hp → VK → Prop) : Prop :=
  ∀ (pins : List (Addr × Obj)) (s : Shared) (σ : St) (H : Hp) (xs : List V) (us : List Value) (Q : VK), Inv X pins σ H s → Vals xs us → r xs H Q →
    wpAny (model X.prog X.w) X.A (call f us) (EP X pins σ Q) X.xe s
/-- a value's truth -/
def TruR (X : Cx) (r : V → Hp → (Bool → Hp → Prop) → Prop) : Prop :=
  ∀ (pins : List (Addr × Obj)) (s : Shared) (σ : St) (H : Hp) (x : V) (v : Value) (Q : Bool → Hp → Prop), Inv X pins σ H s → RelV x v → r x H Q →
    wpAny (model X.prog X.w) X.A (truthy v) (TP X pins σ Q) X.xe s

def tOp (r : R2) (ta tb : TE) : TE := fun σ H Q => ta σ H fun x H1 => tb σ H1 fun y H2 => r x y H2 Q
def tUn (r : V → Hp → VK → Prop) (ta : TE) : TE := fun σ H Q => ta σ H fun x H1 => r x H1 Q
/-- ints in, under C, and a value out -/
def rI (C : Int → Int → Prop) (g : Int → Int → V) : R2 := fun x y H Q => ∃ i j, x = .int i ∧ y = .int j ∧ C i j ∧ Q (g i j) H
def rI0 (g : Int → Int → V) : R2 := fun x y H Q => ∃ i j, x = .int i ∧ y = .int j ∧ Q (g i j) H
def rU (g : Int → V) : V → Hp → VK → Prop := fun x H Q => ∃ i, x = .int i ∧ Q (g i) H

section
variable {X : Cx} {a b c : Expr} {ta tb tc : TE} {pos : Pos}

theorem binT (ha : PE X a ta) (hb : PE X b tb) {pins : List (Addr × Obj)} {s : Shared} {σ : St} {H : Hp} {R : V → V → Hp → Prop} (I : Inv X pins σ H s)
    (h : ta σ H fun x H1 => tb σ H1 fun y H2 => R x y H2) {Q : Value → Shared → Prop} {f : Value → Value → Sem Value}
    (hf : ∀ v u s2 x y H2, Inv X pins σ H2 s2 → RelV x v → RelV y u → R x y H2 → wpAny (model X.prog X.w) X.A (f v u) Q X.xe s2) :
    wpAny (model X.prog X.w) X.A (eval a X.env) (fun v s₁ => wpAny (model X.prog X.w) X.A (eval b X.env) (fun u s₂ => wpAny (model X.prog X.w) X.A (f v u) Q X.xe s₂) X.xe s₁) X.xe s := by
  refine thn (ha pins s σ H _ I h) fun v s1 ⟨x, H1, I1, r1, q1⟩ => ?_
  refine thn (hb pins s1 σ H1 _ I1 q1) fun u s2 ⟨y, H2, I2, r2, q2⟩ => ?_
  exact hf v u s2 x y H2 I2 r1 r2 q2

theorem pe_op {op : Operator} {r : R2} (ho : OpR X (binaryOp op) r) (ha : PE X a ta) (hb : PE X b tb) : PE X (.BinOp a op b pos) (tOp r ta tb) := by
  intro pins s σ H Q I h
  exact wpAny_BinOp (binT ha hb I h fun v u s2 x y H2 I2 rx ry q => ho pins s2 σ H2 x y v u Q I2 rx ry q)
theorem pe_un {op : UnaryOp} {r : V → Hp → VK → Prop} (ho : UnR X (unaryOp op) r) (ha : PE X a ta) : PE X (.UnaryOp op a pos) (tUn r ta) := by
  intro pins s σ H Q I h
  exact UnaryOp_ (thn (ha pins s σ H _ I h) fun v s1 ⟨x, H1, I1, r1, q1⟩ => ho pins s1 σ H1 x v Q I1 r1 q1)
/-- a op= e at a name: the name's slot i -/
theorem augR {op : Operator} {r : R2} (ho : OpR X (inplaceOp op) r) {pins : List (Addr × Obj)} {s : Shared} {σ : St} {H : Hp} {x y : V} {v u : Value} {Q : VK} (I : Inv X pins σ H s)
    (rx : RelV x v) (ry : RelV y u) (q : r x y H Q) : wpAny (model X.prog X.w) X.A (inplaceOp op v u) (EP X pins σ Q) X.xe s := ho pins s σ H x y v u Q I rx ry q

/-! ### ints -/
theorem opI {f : Value → Value → Sem Value} {C : Int → Int → Prop} {g : Int → Int → Int}
    (rule : ∀ (i j : Int) (t u : Tok) (s : Shared) (Q : Value → Shared → Prop) (E : Value → Shared → Prop), C i j → Q (.int (g i j) s.toks) { s with toks := s.toks + 1 } → wpAny (model X.prog X.w) X.A (f (.int i t) (.int j u)) Q E s) :
    OpR X f (rI C fun i j => .int (g i j)) := by
  intro pins s σ H x y v u Q I rx ry h
  obtain ⟨i, j, rfl, rfl, hc, q⟩ := h
  obtain ⟨t, rfl⟩ := rx
  obtain ⟨t', rfl⟩ := ry
  exact rule i j t t' s _ _ hc ⟨.int (g i j), H, I.tok _, ⟨_, rfl⟩, q⟩
theorem opI0 {f : Value → Value → Sem Value} {g : Int → Int → Int}
    (rule : ∀ (i j : Int) (t u : Tok) (s : Shared) (Q : Value → Shared → Prop) (E : Value → Shared → Prop), Q (.int (g i j) s.toks) { s with toks := s.toks + 1 } → wpAny (model X.prog X.w) X.A (f (.int i t) (.int j u)) Q E s) :
    OpR X f (rI0 fun i j => .int (g i j)) := by
  intro pins s σ H x y v u Q I rx ry h
  obtain ⟨i, j, rfl, rfl, q⟩ := h
  obtain ⟨t, rfl⟩ := rx
  obtain ⟨t', rfl⟩ := ry
  exact rule i j t t' s _ _ ⟨.int (g i j), H, I.tok _, ⟨_, rfl⟩, q⟩
theorem opB0 {f : Value → Value → Sem Value} {g : Int → Int → Bool}
    (rule : ∀ (i j : Int) (t u : Tok) (s : Shared) (Q : Value → Shared → Prop) (E : Value → Shared → Prop), Q (.bool (g i j)) s → wpAny (model X.prog X.w) X.A (f (.int i t) (.int j u)) Q E s) :
    OpR X f (rI0 fun i j => .bl (g i j)) := by
  intro pins s σ H x y v u Q I rx ry h
  obtain ⟨i, j, rfl, rfl, q⟩ := h
  obtain ⟨t, rfl⟩ := rx
  obtain ⟨t', rfl⟩ := ry
  exact rule i j t t' s _ _ ⟨.bl (g i j), H, I, rfl, q⟩

def CDiv (i j : Int) : Prop := 0 < j ∧ j < 1073741824
def CDivN (i j : Int) : Prop := j ≠ 0 ∧ j.natAbs < 1073741824
def CPow (i j : Int) : Prop := 0 ≤ j ∧ j ≤ 1000000 ∧ i.natAbs < 2 ^ 64
def CMul (i j : Int) : Prop := (-(2 ^ 64) < i ∧ i < 2 ^ 64) ∨ (-(2 ^ 64) < j ∧ j < 2 ^ 64)
theorem CMul.ok {i j : Int} (h : CMul i j) : IntMulOk i j := by
  rcases h with ⟨h1, h2⟩ | ⟨h1, h2⟩
  · exact .of_left (intBits_le_64 h1 h2)
  · exact .of_right (intBits_le_64 h1 h2)
theorem two_pow_nn (k : Nat) : (0 : Int) ≤ 2 ^ k := by
  rw [two_pow_cast]
  exact Int.natCast_nonneg _

theorem op_add : OpR X (binaryOp .Add) (rI0 fun i j => .int (i + j)) := opI0 fun _ _ _ _ _ _ _ q => add_int q
theorem op_sub : OpR X (binaryOp .Sub) (rI0 fun i j => .int (i - j)) := opI0 fun _ _ _ _ _ _ _ q => sub_int q
theorem op_mul : OpR X (binaryOp .Mult) (rI CMul fun i j => .int (i * j)) := opI fun _ _ _ _ _ _ _ hc q => mul_int q hc.ok
/-- // by a positive divisor -/
theorem op_fdiv : OpR X (binaryOp .FloorDiv) (rI CDiv fun i j => .int (i / j)) := opI fun i j _ _ _ _ _ hc q => by
  have h1 : (0 : Int) < j := hc.1
  have h2 : j < 1073741824 := hc.2
  exact floordiv_int (by omega) (by rw [Int.fdiv_eq_ediv_of_nonneg i (by omega)]; exact q) (.inl (PyProof.noPylong_small (by omega)))
theorem op_fdivN : OpR X (binaryOp .FloorDiv) (rI CDivN fun i j => .int (i.fdiv j)) := opI fun _ _ _ _ _ _ _ hc q => floordiv_int hc.1 q (.inl (PyProof.noPylong_small hc.2))
/-- % by a positive divisor of any size -/
theorem op_mod : OpR X (binaryOp .Mod) (rI (fun _ j => 0 < j) fun i j => .int (i % j)) := opI fun i j _ _ _ _ _ hc q => by
  have h1 : (0 : Int) < j := hc
  exact mod_int' (by omega) (by rw [Int.fmod_eq_emod_of_nonneg i (by omega)]; exact q)
theorem op_modN : OpR X (binaryOp .Mod) (rI (fun _ j => j ≠ 0) fun i j => .int (i.fmod j)) := opI fun _ _ _ _ _ _ _ hc q => mod_int' hc q
theorem op_pow : OpR X (binaryOp .Pow) (rI CPow fun i j => .int (i ^ j.toNat)) := opI fun _ _ _ _ _ _ _ hc q => pow_int_small hc.1 hc.2.1 hc.2.2 q
theorem op_shl : OpR X (binaryOp .LShift) (rI CPow fun i j => .int (i * 2 ^ j.toNat)) := opI fun _ _ _ _ _ _ _ hc q => lshift_int_small hc.1 hc.2.1 hc.2.2 q
theorem op_shr : OpR X (binaryOp .RShift) (rI (fun _ j => 0 ≤ j) fun i j => .int (i / 2 ^ j.toNat)) := opI fun i j _ _ _ _ _ hc q =>
  rshift_int hc (by rw [Int.fdiv_eq_ediv_of_nonneg i (two_pow_nn _)]; exact q)
theorem op_and : OpR X (binaryOp .BitAnd) (rI0 fun i j => .int (Builtin.bitAnd i j)) := opI0 fun _ _ _ _ _ _ _ q => and_int q
theorem op_or : OpR X (binaryOp .BitOr) (rI0 fun i j => .int (Builtin.bitOr i j)) := opI0 fun _ _ _ _ _ _ _ q => or_int q
theorem op_xor : OpR X (binaryOp .BitXor) (rI0 fun i j => .int (Builtin.bitXor i j)) := opI0 fun _ _ _ _ _ _ _ q => xor_int q

theorem iop_add : OpR X (inplaceOp .Add) (rI0 fun i j => .int (i + j)) := opI0 fun _ _ _ _ _ _ _ q => iadd_int q
theorem iop_sub : OpR X (inplaceOp .Sub) (rI0 fun i j => .int (i - j)) := opI0 fun _ _ _ _ _ _ _ q => isub_int q
theorem iop_mul : OpR X (inplaceOp .Mult) (rI CMul fun i j => .int (i * j)) := opI fun _ _ _ _ _ _ _ hc q => imul_int q hc.ok
theorem iop_fdiv : OpR X (inplaceOp .FloorDiv) (rI CDiv fun i j => .int (i / j)) := opI fun i j _ _ _ _ _ hc q => by
  have h1 : (0 : Int) < j := hc.1
  have h2 : j < 1073741824 := hc.2
  exact ifloordiv_int (by omega) (by rw [Int.fdiv_eq_ediv_of_nonneg i (by omega)]; exact q) (.inl (PyProof.noPylong_small (by omega)))
theorem iop_mod : OpR X (inplaceOp .Mod) (rI (fun _ j => 0 < j) fun i j => .int (i % j)) := opI fun i j _ _ _ _ _ hc q => by
  have h1 : (0 : Int) < j := hc
  exact imod_int (by omega) (by rw [Int.fmod_eq_emod_of_nonneg i (by omega)]; exact q)
theorem iop_shl : OpR X (inplaceOp .LShift) (rI CPow fun i j => .int (i * 2 ^ j.toNat)) := opI fun _ _ _ _ _ _ _ hc q => ilshift_int_small hc.1 hc.2.1 hc.2.2 q
theorem iop_shr : OpR X (inplaceOp .RShift) (rI (fun _ j => 0 ≤ j) fun i j => .int (i / 2 ^ j.toNat)) := opI fun i j _ _ _ _ _ hc q =>
  irshift_int hc (by rw [Int.fdiv_eq_ediv_of_nonneg i (two_pow_nn _)]; exact q)
theorem iop_and : OpR X (inplaceOp .BitAnd) (rI0 fun i j => .int (Builtin.bitAnd i j)) := opI0 fun _ _ _ _ _ _ _ q => iand_int q
theorem iop_or : OpR X (inplaceOp .BitOr) (rI0 fun i j => .int (Builtin.bitOr i j)) := opI0 fun _ _ _ _ _ _ _ q => ior_int q
theorem iop_xor : OpR X (inplaceOp .BitXor) (rI0 fun i j => .int (Builtin.bitXor i j)) := opI0 fun _ _ _ _ _ _ _ q => ixor_int q

theorem unI {f : Value → Sem Value} {g : Int → Int}
    (rule : ∀ (i : Int) (t : Tok) (s : Shared) (Q : Value → Shared → Prop) (E : Value → Shared → Prop), Q (.int (g i) s.toks) { s with toks := s.toks + 1 } → wpAny (model X.prog X.w) X.A (f (.int i t)) Q E s) :
    UnR X f (rU fun i => .int (g i)) := by
  intro pins s σ H x v Q I rx h
  obtain ⟨i, rfl, q⟩ := h
  obtain ⟨t, rfl⟩ := rx
  exact rule i t s _ _ ⟨.int (g i), H, I.tok _, ⟨_, rfl⟩, q⟩
theorem un_neg : UnR X (unaryOp .USub) (rU fun i => .int (-i)) := unI fun _ _ _ _ _ q => neg_int q
theorem un_inv : UnR X (unaryOp .Invert) (rU fun i => .int (Builtin.bitNot i)) := unI fun _ _ _ _ _ q => invert_int q

/-! ### bools among ints: n += (a < b) -/
theorem op_add_ib : OpR X (binaryOp .Add) (fun x y H Q => ∃ i k, x = .int i ∧ y = .bl k ∧ Q (.int (i + b2i k)) H) := by
  intro pins s σ H x y v u Q I rx ry h
  obtain ⟨i, k, rfl, rfl, q⟩ := h
  obtain ⟨t, rfl⟩ := rx
  cases ry
  exact add_int_bool ⟨.int (i + b2i k), H, I.tok _, ⟨_, rfl⟩, q⟩
end

/-! ### comparisons -/
/-- the scalars that == tells apart as data does -/
def scal : V → V → Bool
  | .non, .non => true | .non, .int _ => true | .int _, .non => true | .non, .bl _ => true | .bl _, .non => true | .non, .str _ => true | .str _, .non => true
  | .int _, .int _ => true | .bl _, .bl _ => true | .str _, .str _ => true | .byt _, .byt _ => true
  | .int _, .str _ => true | .str _, .int _ => true | .bl _, .str _ => true | .str _, .bl _ => true
  | _, _ => false
def rEq : R2 := fun x y H Q => scal x y = true ∧ Q (.bl (decide (x = y))) H
def rNe : R2 := fun x y H Q => scal x y = true ∧ Q (.bl (!decide (x = y))) H

theorem dec_int {i j : Int} : decide (V.int i = V.int j) = (i == j) := by
  rw [Bool.eq_iff_iff]
  simp
theorem dec_bl {i j : Bool} : decide (V.bl i = V.bl j) = (i == j) := by
  rw [Bool.eq_iff_iff]
  simp
theorem dec_str {i j : Str} : decide (V.str i = V.str j) = (i == j) := by
  rw [Bool.eq_iff_iff]
  simp
theorem dec_byt {i j : Array UInt8} : decide (V.byt i = V.byt j) = (i.toList == j.toList) := by
  rw [Bool.eq_iff_iff]
  cases i
  cases j
  simp

section
variable {X : Cx} {a b c : Expr} {ta tb tc : TE} {pos : Pos}
theorem fin_bl {pins : List (Addr × Obj)} {σ : St} {H : Hp} {s : Shared} {Q : VK} {k k' : Bool} (I : Inv X pins σ H s) (q : Q (.bl k) H) (e : k = k') : EP X pins σ Q (.bool k') s := by
  subst e
  exact ⟨.bl k, H, I, rfl, q⟩
theorem op_eq : OpR X (compareOp .Eq) rEq := by
  intro pins s σ H x y v u Q I rx ry h
  obtain ⟨hs, q⟩ := h
  cases x with
  | non =>
    cases rx
    cases y with
    | non => cases ry; exact PySem.EqNone.eq_none_none (fin_bl I q (by simp))
    | bl j => cases ry; exact PySem.EqNone.eq_none_bool (fin_bl I q (by simp))
    | int j => obtain ⟨t', rfl⟩ := ry; exact PySem.EqNone.eq_none_int (fin_bl I q (by simp))
    | str j => obtain ⟨t', rfl⟩ := ry; exact PySem.EqNone.eq_none_str (fin_bl I q (by simp))
    | _ => exact absurd (show false = true from hs) Bool.false_ne_true
  | bl i =>
    cases rx
    cases y with
    | non => cases ry; exact PySem.EqNone.eq_bool_none (fin_bl I q (by simp))
    | bl j => cases ry; exact eq_bool (fin_bl I q dec_bl)
    | str j => obtain ⟨t', rfl⟩ := ry; exact PySem.EqMixed.eq_bool_str (fin_bl I q (by simp))
    | _ => exact absurd (show false = true from hs) Bool.false_ne_true
  | int i =>
    obtain ⟨t, rfl⟩ := rx
    cases y with
    | non => cases ry; exact PySem.EqNone.eq_int_none (fin_bl I q (by simp))
    | int j => obtain ⟨t', rfl⟩ := ry; exact eq_int (fin_bl I q dec_int)
    | str j => obtain ⟨t', rfl⟩ := ry; exact PySem.EqMixed.eq_int_str (fin_bl I q (by simp))
    | _ => exact absurd (show false = true from hs) Bool.false_ne_true
  | str i =>
    obtain ⟨t, rfl⟩ := rx
    cases y with
    | non => cases ry; exact PySem.EqNone.eq_str_none (fin_bl I q (by simp))
    | bl j => cases ry; exact PySem.EqMixed.eq_str_bool (fin_bl I q (by simp))
    | int j => obtain ⟨t', rfl⟩ := ry; exact PySem.EqMixed.eq_str_int (fin_bl I q (by simp))
    | str j => obtain ⟨t', rfl⟩ := ry; exact eq_str (fin_bl I q dec_str)
    | _ => exact absurd (show false = true from hs) Bool.false_ne_true
  | byt i =>
    obtain ⟨t, rfl⟩ := rx
    cases y with
    | byt j => obtain ⟨t', rfl⟩ := ry; exact PySem.W.eq_bytes (fin_bl I q dec_byt)
    | _ => exact absurd (show false = true from hs) Bool.false_ne_true
  | _ => cases y <;> exact absurd (show false = true from hs) Bool.false_ne_true
theorem op_ne : OpR X (compareOp .NotEq) rNe := by
  intro pins s σ H x y v u Q I rx ry h
  obtain ⟨hs, q⟩ := h
  cases x with
  | non =>
    cases rx
    cases y with
    | non => cases ry; exact PySem.EqNone.ne_none_none (fin_bl I q (by simp))
    | bl j => cases ry; exact PySem.EqNone.ne_none_bool (fin_bl I q (by simp))
    | int j => obtain ⟨t', rfl⟩ := ry; exact PySem.EqNone.ne_none_int (fin_bl I q (by simp))
    | str j => obtain ⟨t', rfl⟩ := ry; exact PySem.EqNone.ne_none_str (fin_bl I q (by simp))
    | _ => exact absurd (show false = true from hs) Bool.false_ne_true
  | bl i =>
    cases rx
    cases y with
    | non => cases ry; exact PySem.EqNone.ne_bool_none (fin_bl I q (by simp))
    | bl j => cases ry; exact ne_bool (fin_bl I q (congrArg not dec_bl))
    | str j => obtain ⟨t', rfl⟩ := ry; exact PySem.EqMixed.ne_bool_str (fin_bl I q (by simp))
    | _ => exact absurd (show false = true from hs) Bool.false_ne_true
  | int i =>
    obtain ⟨t, rfl⟩ := rx
    cases y with
    | non => cases ry; exact PySem.EqNone.ne_int_none (fin_bl I q (by simp))
    | int j => obtain ⟨t', rfl⟩ := ry; exact ne_int (fin_bl I q (congrArg not dec_int))
    | str j => obtain ⟨t', rfl⟩ := ry; exact PySem.EqMixed.ne_int_str (fin_bl I q (by simp))
    | _ => exact absurd (show false = true from hs) Bool.false_ne_true
  | str i =>
    obtain ⟨t, rfl⟩ := rx
    cases y with
    | non => cases ry; exact PySem.EqNone.ne_str_none (fin_bl I q (by simp))
    | bl j => cases ry; exact PySem.EqMixed.ne_str_bool (fin_bl I q (by simp))
    | int j => obtain ⟨t', rfl⟩ := ry; exact PySem.EqMixed.ne_str_int (fin_bl I q (by simp))
    | str j => obtain ⟨t', rfl⟩ := ry; exact ne_str (fin_bl I q (congrArg not dec_str))
    | _ => exact absurd (show false = true from hs) Bool.false_ne_true
  | byt i =>
    obtain ⟨t, rfl⟩ := rx
    cases y with
    | byt j => obtain ⟨t', rfl⟩ := ry; exact PySem.W.ne_bytes (fin_bl I q (congrArg not dec_byt))
    | _ => exact absurd (show false = true from hs) Bool.false_ne_true
  | _ => cases y <;> exact absurd (show false = true from hs) Bool.false_ne_true

theorem op_lt : OpR X (compareOp .Lt) (rI0 fun i j => .bl (decide (i < j))) := opB0 fun _ _ _ _ _ _ _ q => lt_int q
theorem op_le : OpR X (compareOp .LtE) (rI0 fun i j => .bl (decide (i ≤ j))) := opB0 fun _ _ _ _ _ _ _ q => le_int q
theorem op_gt : OpR X (compareOp .Gt) (rI0 fun i j => .bl (decide (j < i))) := opB0 fun _ _ _ _ _ _ _ q => gt_int q
theorem op_ge : OpR X (compareOp .GtE) (rI0 fun i j => .bl (decide (j ≤ i))) := opB0 fun _ _ _ _ _ _ _ q => ge_int q
theorem op_lt_str : OpR X (compareOp .Lt) (fun x y H Q => ∃ i j, x = .str i ∧ y = .str j ∧ Q (.bl (decide (i.cps.toList < j.cps.toList))) H) := by
  intro pins s σ H x y v u Q I rx ry h
  obtain ⟨i, j, rfl, rfl, q⟩ := h
  obtain ⟨t, rfl⟩ := rx
  obtain ⟨t', rfl⟩ := ry
  exact lt_str (fin_bl I q rfl)
/-- the one string within the other -/
theorem op_in_str : OpR X (compareOp .In) (fun x y H Q => ∃ i j, x = .str i ∧ y = .str j ∧ Q (.bl (!(Builtin.Str.occurrences j i 0 j.length 1).isEmpty)) H) := by
  intro pins s σ H x y v u Q I rx ry h
  obtain ⟨i, j, rfl, rfl, q⟩ := h
  obtain ⟨t, rfl⟩ := rx
  obtain ⟨t', rfl⟩ := ry
  exact in_str (fin_bl I q rfl)

/-- is None, is not None: the right side a value none -/
theorem op_isN : OpR X (compareOp .Is) (fun x y H Q => y = .non ∧ Q (.bl (decide (x = .non))) H) := by
  intro pins s σ H x y v u Q I rx ry h
  obtain ⟨rfl, q⟩ := h
  cases ry
  refine is_none_gen (fin_bl I q ?_)
  cases x <;> first
    | (cases rx; rfl)
    | (obtain ⟨t, rfl⟩ := rx; rfl)
theorem op_notN : OpR X (compareOp .IsNot) (fun x y H Q => y = .non ∧ Q (.bl (!decide (x = .non))) H) := by
  intro pins s σ H x y v u Q I rx ry h
  obtain ⟨rfl, q⟩ := h
  cases ry
  refine isnot_none_gen (fin_bl I q ?_)
  cases x <;> first
    | (cases rx; rfl)
    | (obtain ⟨t, rfl⟩ := rx; rfl)

theorem op_notin_str : OpR X (compareOp .NotIn) (fun x y H Q => ∃ i j, x = .str i ∧ y = .str j ∧ Q (.bl (!(!(Builtin.Str.occurrences j i 0 j.length 1).isEmpty))) H) := by
  intro pins s σ H x y v u Q I rx ry h
  obtain ⟨i, j, rfl, rfl, q⟩ := h
  obtain ⟨t, rfl⟩ := rx
  obtain ⟨t', rfl⟩ := ry
  exact notIn_str (fin_bl I q rfl)
/-- is, is not of two objects that are tracked lists or instances -/
def isObj : HO → Bool
  | .lst _ => true
  | .ins _ _ _ => true
  | _ => false
theorem obj_there {pins : List (Addr × Obj)} {s : Shared} {σ : St} {H : Hp} {a : Addr} {o : HO} (I : Inv X pins σ H s) (h : H a = some o) (p : isObj o = true) : ∃ ob, s.heap.get? a = some ob ∧ ob.cls ≠ .type "tuple" := by
  cases o with
  | lst xs =>
    obtain ⟨_, its, n, _, e⟩ : xs.length ≤ sizeLine ∧ ∃ (its : List Value) (n : Nat), Vals xs its ∧ s.heap.get? a = some { cls := .type "list", data := .seq its.toArray n } := I.hok a _ h
    exact ⟨_, e, (by show Value.type "list" ≠ .type "tuple"; decide +kernel)⟩
  | ins C dx fs =>
    have x := I.hok a _ h
    obtain ⟨_, _, _, e, _⟩ := x
    exact ⟨_, e, (by show Value.ref C ≠ .type "tuple"; exact fun z => by cases z)⟩
  | _ => exact absurd (show false = true from p) Bool.false_ne_true
theorem op_is_ref : OpR X (compareOp .Is) (fun x y H Q => ∃ a b oa ob, x = .ref a ∧ y = .ref b ∧ H a = some oa ∧ isObj oa = true ∧ H b = some ob ∧ isObj ob = true ∧ Q (.bl (decide (a = b))) H) := by
  intro pins s σ H x y v u Q I rx ry h
  obtain ⟨a, b, oa, ob, rfl, rfl, ha, pa, hb, pb, q⟩ := h
  cases rx
  cases ry
  obtain ⟨o1, e1, n1⟩ := obj_there I ha pa
  obtain ⟨o2, e2, _⟩ := obj_there I hb pb
  by_cases z : a = b
  · subst z
    exact wpAny_is_ref_self (fin_bl I q (by simp))
  · exact wpAny_is_ref_other z e1 e2 n1 (fin_bl I q (by simp [z]))
theorem op_isnot_ref : OpR X (compareOp .IsNot) (fun x y H Q => ∃ a b oa ob, x = .ref a ∧ y = .ref b ∧ H a = some oa ∧ isObj oa = true ∧ H b = some ob ∧ isObj ob = true ∧ Q (.bl (!decide (a = b))) H) := by
  intro pins s σ H x y v u Q I rx ry h
  obtain ⟨a, b, oa, ob, rfl, rfl, ha, pa, hb, pb, q⟩ := h
  cases rx
  cases ry
  obtain ⟨o1, e1, n1⟩ := obj_there I ha pa
  obtain ⟨o2, e2, _⟩ := obj_there I hb pb
  by_cases z : a = b
  · subst z
    exact wpAny_isNot_ref_self (fin_bl I q (by simp))
  · exact wpAny_isNot_ref_other z e1 e2 n1 (fin_bl I q (by simp [z]))

/-- two rules for one operation: by cases -/
theorem OpR.or {f : Value → Value → Sem Value} {r r' : R2} (h : OpR X f r) (h' : OpR X f r') : OpR X f (fun x y H Q => r x y H Q ∨ r' x y H Q) := by
  intro pins s σ H x y v u Q I rx ry q
  rcases q with q | q
  · exact h pins s σ H x y v u Q I rx ry q
  · exact h' pins s σ H x y v u Q I rx ry q

theorem nomark (b : Expr) {op : CmpOp} (h : op ≠ .In := by decide) (h2 : op ≠ .NotIn := by decide) : behindInMarks op b = false := by
  have e1 : (op == CmpOp.In) = false := by cases op <;> first | rfl | exact absurd rfl h
  have e2 : (op == CmpOp.NotIn) = false := by cases op <;> first | rfl | exact absurd rfl h2
  cases b <;> simp [behindInMarks, e1, e2]
/-- a comparison as a value; hm: nomark b, or (for in, not in) by with_unfolding_all rfl -/
theorem pe_cmpR {op : CmpOp} {r : R2} (ho : OpR X (compareOp op) r) (ha : PE X a ta) (hb : PE X b tb) (hm : behindInMarks op b = false) : PE X (.Compare a [op] [b] pos) (tOp r ta tb) := by
  intro pins s σ H Q I h
  exact wpAny_Compare1 (binT ha hb I h fun v u s2 x y H2 I2 rx ry q => ho pins s2 σ H2 x y v u Q I2 rx ry q) hm
/-- a reading of a value as a test -/
def tTest (t : TE) : TT := fun σ H Q => t σ H fun x H' => ∃ k, x = .bl k ∧ Q k H'
theorem pt_cmpR {op : CmpOp} {r : R2} (ho : OpR X (compareOp op) r) (ha : PE X a ta) (hb : PE X b tb) (hm : behindInMarks op b = false) : PT X (.Compare a [op] [b] pos) (tTest (tOp r ta tb)) := by
  intro pins s σ H Q I h
  refine wpAny_isTrue_Compare1 (thn (ha pins s σ H _ I h) fun v s1 ⟨x, H1, I1, r1, q1⟩ => thn (hb pins s1 σ H1 _ I1 q1) fun u s2 ⟨y, H2, I2, r2, q2⟩ =>
    thn (ho pins s2 σ H2 x y v u _ I2 r1 r2 q2) fun c s3 ⟨z, H3, I3, r3, k, e, q3⟩ => ?_) hm
  subst e
  cases r3
  exact wpAny_truthy_bool ⟨H3, I3, q3⟩
/-- a op1 b op2 c -/
def tChain (r r' : R2) (ta tb tc : TE) : TE := fun σ H Q => ta σ H fun x H1 => tb σ H1 fun y H2 => r x y H2 fun z H3 => ∃ k, z = .bl k ∧
  (if k = true then tc σ H3 fun w' H4 => r' y w' H4 Q else Q (.bl false) H3)
theorem pe_chain {op op' : CmpOp} {r r' : R2} (ho : OpR X (compareOp op) r) (ho' : OpR X (compareOp op') r') (ha : PE X a ta) (hb : PE X b tb) (hc : PE X c tc)
    (hm : lastMarks [op, op'] [b, c] = false := by with_unfolding_all rfl) : PE X (.Compare a [op, op'] [b, c] pos) (tChain r r' ta tb tc) := by
  intro pins s σ H Q I h
  refine Compare_chain (thn (ha pins s σ H _ I h) fun v s1 ⟨x, H1, I1, r1, q1⟩ => chain_link (thn (hb pins s1 σ H1 _ I1 q1) fun u s2 ⟨y, H2, I2, r2, q2⟩ =>
    thn (ho pins s2 σ H2 x y v u _ I2 r1 r2 q2) fun d s3 ⟨z, H3, I3, r3, k, e, q3⟩ => ?_)) hm
  subst e
  cases r3
  refine wpAny_truthy_bool ?_
  cases k with
  | false => exact ite_ff ⟨.bl false, H3, I3, rfl, q3⟩
  | true => exact ite_tt (chain_last (thn (hc pins s3 σ H3 _ I3 q3) fun w' s4 ⟨z', H4, I4, r4, q4⟩ => ho' pins s4 σ H4 y z' u w' Q I4 r2 r4 q4))
theorem pt_chain {op op' : CmpOp} {r r' : R2} (ho : OpR X (compareOp op) r) (ho' : OpR X (compareOp op') r') (ha : PE X a ta) (hb : PE X b tb) (hc : PE X c tc)
    (hm : lastMarks [op, op'] [b, c] = false := by with_unfolding_all rfl) : PT X (.Compare a [op, op'] [b, c] pos) (tTest (tChain r r' ta tb tc)) := by
  intro pins s σ H Q I h
  refine isTrue_chain (thn (ha pins s σ H _ I h) fun v s1 ⟨x, H1, I1, r1, q1⟩ => test_link (thn (hb pins s1 σ H1 _ I1 q1) fun u s2 ⟨y, H2, I2, r2, q2⟩ =>
    thn (ho pins s2 σ H2 x y v u _ I2 r1 r2 q2) fun d s3 ⟨z, H3, I3, r3, k, e, q3⟩ => ?_)) hm
  subst e
  cases r3
  refine wpAny_truthy_bool ?_
  cases k with
  | false =>
    obtain ⟨k', e', q'⟩ := q3
    cases e'
    exact ite_ff ⟨H3, I3, q'⟩
  | true =>
    refine ite_tt (test_last (thn (hc pins s3 σ H3 _ I3 q3) fun w' s4 ⟨z', H4, I4, r4, q4⟩ => thn (ho' pins s4 σ H4 y z' u w' _ I4 r2 r4 q4) fun d' s5 ⟨z2, H5, I5, r5, k2, e2, q5⟩ => ?_))
    subst e2
    cases r5
    exact wpAny_truthy_bool ⟨H5, I5, q5⟩

/-! ### truth -/
/-- a value's truth by the abstract heap -/
def TruV (K : PySem.W.Frag) (x : V) (H : Hp) (k : Bool) : Prop :=
  match x with
  | .non => k = false
  | .bl b => k = b
  | .int i => k = (i != 0)
  | .str y => y.length ≤ sizeLine ∧ k = ((y.length : Int) != 0)
  | .byt y => y.size ≤ sizeLine ∧ k = ((y.size : Int) != 0)
  | .ref p => (∃ xs, SqL K H p xs ∧ k = !xs.isEmpty) ∨ (∃ xs, SqT K H p xs ∧ k = !xs.isEmpty) ∨ ∃ kvs, H p = some (.dK kvs) ∧ k = !kvs.isEmpty
  | _ => False
theorem isEmpty_kv {κ : Type} {kvs : List (κ × V)} {vs : List (κ × Value)} (r : KV kvs vs) : (!vs.isEmpty) = !kvs.isEmpty := by
  cases r <;> rfl
theorem isEmpty_of {xs : List V} {its : List Value} (r : Vals xs its) : (!its.toArray.isEmpty) = !xs.isEmpty := by
  cases r <;> simp
theorem line63 : (sizeLine : Nat) < 2 ^ 63 := by rw [sizeLine_eq]; decide
theorem tru_ok : TruR X (fun x H Q => ∃ k, TruV X.K x H k ∧ Q k H) := by
  intro pins s σ H x v Q I rx h
  obtain ⟨k, e, q⟩ := h
  have hl := line63
  have hs : sizeLine = 16777216 := sizeLine_eq
  cases x with
  | non =>
    cases rx
    have e' : k = false := e
    subst e'
    exact truthy_none ⟨H, I, q⟩
  | bl b =>
    cases rx
    have e' : k = b := e
    subst e'
    exact wpAny_truthy_bool ⟨H, I, q⟩
  | int i =>
    obtain ⟨t, rfl⟩ := rx
    have e' : k = (i != 0) := e
    subst e'
    exact PySem.P.truthy_int ⟨H, I, q⟩
  | str y =>
    obtain ⟨t, rfl⟩ := rx
    obtain ⟨hy, e'⟩ : y.length ≤ sizeLine ∧ k = ((y.length : Int) != 0) := e
    subst e'
    exact PySem.P.truthy_str (by omega) ⟨H, I.tok _, q⟩
  | byt y =>
    obtain ⟨t, rfl⟩ := rx
    obtain ⟨hy, e'⟩ : y.size ≤ sizeLine ∧ k = ((y.size : Int) != 0) := e
    subst e'
    exact PySem.W.truthy_bytes (by omega) ⟨H, I.tok _, q⟩
  | ref p =>
    cases rx
    have e' : (∃ xs, SqL X.K H p xs ∧ k = !xs.isEmpty) ∨ (∃ xs, SqT X.K H p xs ∧ k = !xs.isEmpty) ∨ ∃ kvs, H p = some (.dK kvs) ∧ k = !kvs.isEmpty := e
    rcases e' with ⟨xs, hx, e'⟩ | ⟨xs, hx, e'⟩ | ⟨kvs, hx, e'⟩
    · subst e'
      obtain ⟨its, r, pl, hz⟩ := I.list hx
      have hlen := r.length
      exact wpAny_truthy_list pl.isList (by simp only [List.size_toArray]; omega) ⟨H, I.tok _, by rw [isEmpty_of r]; exact q⟩
    · subst e'
      obtain ⟨its, r, pl, hz⟩ := I.tuple hx
      have hlen := r.length
      exact truthy_tuple pl (by simp only [List.size_toArray]; omega) ⟨H, I.tok _, by rw [isEmpty_of r]; exact q⟩
    · subst e'
      obtain ⟨hz, hS, vs, r, m⟩ : kvs.length ≤ sizeLine ∧ (p == sysModules) = false ∧ ∃ vs, KV kvs vs ∧ s.heap.DictOf (mixKind X.prog X.w) p vs := I.hok p _ hx
      have hlen : kvs.length = vs.length := Paired.length r
      exact wpAny_truthy_dict hS m (by omega) ⟨H, I.tok _, by rw [isEmpty_kv r]; exact q⟩
  | _ => exact (show False from e).elim
/-- any expression whose test is its value's truth (a name, a call, a subscript, a field ..: he by fun _ => rfl) -/
theorem pt_truth (ha : PE X a ta) (he : ∀ whole, isTrue a X.env whole = (do let v ← whole; standAt a.pos; holding [v] (truthy v))) :
    PT X a (fun σ H Q => ta σ H fun x H' => ∃ k, TruV X.K x H' k ∧ Q k H') := by
  intro pins s σ H Q I h
  exact isTrue_plain (thn (ha pins s σ H _ I h) fun v s1 ⟨x, H1, I1, r1, q1⟩ => tru_ok pins s1 σ H1 x v Q I1 r1 q1) (he _)

/-! ### strs and bytes -/
theorem pe_byt {x : List UInt8} {k : Nat} : PE X (.Constant (.bytes x) k pos) (fun _ H Q => Q (.byt x.toArray) H) := fun _ _ _ H _ I h => PySem.W.Constant_bytes ⟨.byt x.toArray, H, I.tok _, ⟨_, rfl⟩, h⟩
theorem op_add_str : OpR X (binaryOp .Add) (fun x y H Q => ∃ i j, x = .str i ∧ y = .str j ∧ i.length + j.length ≤ sizeLine ∧ Q (.str (i ++ j)) H) := by
  intro pins s σ H x y v u Q I rx ry h
  obtain ⟨i, j, rfl, rfl, hz, q⟩ := h
  obtain ⟨t, rfl⟩ := rx
  obtain ⟨t', rfl⟩ := ry
  exact add_str (fun t' tk => ⟨.str (i ++ j), H, I.tok _, ⟨_, rfl⟩, q⟩) hz
theorem iop_add_str : OpR X (inplaceOp .Add) (fun x y H Q => ∃ i j, x = .str i ∧ y = .str j ∧ i.length + j.length ≤ sizeLine ∧ Q (.str (i ++ j)) H) := by
  intro pins s σ H x y v u Q I rx ry h
  obtain ⟨i, j, rfl, rfl, hz, q⟩ := h
  obtain ⟨t, rfl⟩ := rx
  obtain ⟨t', rfl⟩ := ry
  exact iadd_str (fun t' tk => ⟨.str (i ++ j), H, I.tok _, ⟨_, rfl⟩, q⟩) hz
theorem op_add_byt : OpR X (binaryOp .Add) (fun x y H Q => ∃ i j, x = .byt i ∧ y = .byt j ∧ i.size + j.size ≤ 16777216 ∧ Q (.byt (i ++ j)) H) := by
  intro pins s σ H x y v u Q I rx ry h
  obtain ⟨i, j, rfl, rfl, hz, q⟩ := h
  obtain ⟨t, rfl⟩ := rx
  obtain ⟨t', rfl⟩ := ry
  exact PySem.W.KBy.add_bytes hz (fun t' tk => ⟨.byt (i ++ j), H, I.tok _, ⟨_, rfl⟩, q⟩)

def PlainIxT (b : Expr) : Prop := ∀ o i, subscripted b false o i = operate [o, i] (getItem o i)
/-- s[i], 0 ≤ i < len -/
theorem pe_item_str (ha : PE X a ta) (hb : PE X b tb) (hs : PlainIxT b) :
    PE X (.Subscript a b pos) (tOp (fun x y H Q => ∃ z i c, x = .str z ∧ y = .int i ∧ 0 ≤ i ∧ i < 2 ^ 63 ∧ i < z.length ∧ z.cps[i.toNat]? = some c ∧ Q (.str ⟨#[c]⟩) H) ta tb) := by
  intro pins s σ H Q I h
  refine Subscript_ (binT ha hb I h fun v u s2 x y H2 I2 rx ry q => ?_)
  obtain ⟨z, i, c, rfl, rfl, h0, h63, h1, hc, q⟩ := q
  obtain ⟨t, rfl⟩ := rx
  obtain ⟨t', rfl⟩ := ry
  have e : seqIndex? i z.length = some i.toNat := PySem.StrLaws.seqIndex_nonneg h0 h1
  exact tail_any (typeIs_str s2 z t) slot_str_getitem.lookup (getItem_str (c := c) (by
    have e1 : decide (i < -(2 ^ 63 : Int)) = false := decide_eq_false (by omega)
    have e2 : decide (i ≥ 2 ^ 63) = false := decide_eq_false (by omega)
    rw [e1, e2] <;> rfl) (by rw [e]; exact hc) ⟨.str ⟨#[c]⟩, H2, I2.tok _, ⟨_, rfl⟩, q⟩) (hs _ _)
/-- b[i], 0 ≤ i < len -/
theorem pe_item_byt (ha : PE X a ta) (hb : PE X b tb) (hs : PlainIxT b) :
    PE X (.Subscript a b pos) (tOp (fun x y H Q => ∃ (z : List UInt8) (i : Int), x = .byt z.toArray ∧ y = .int i ∧ z.length ≤ sizeLine ∧ 0 ≤ i ∧ i < z.length ∧ Q (.int ((z.getD i.toNat 0).toNat : Nat)) H) ta tb) := by
  intro pins s σ H Q I h
  refine Subscript_ (binT ha hb I h fun v u s2 x y H2 I2 rx ry q => ?_)
  obtain ⟨z, i, rfl, rfl, hz, h0, h1, q⟩ := q
  obtain ⟨t, rfl⟩ := rx
  obtain ⟨t', rfl⟩ := ry
  have hl : sizeLine = 16777216 := sizeLine_eq
  exact tail_any (PySem.W.typeIs_bytes s2 z.toArray t) PySem.W.FB.slot_bytes_getitem.lookup (PySem.W.getItem_bytes (by omega) h0 h1 ⟨.int ((z.getD i.toNat 0).toNat : Nat), H2, I2.tok _, ⟨_, rfl⟩, q⟩) (hs _ _)

/-! ### scalar builtins, by CallR -/
theorem vals1 {x : V} {us : List Value} (r : Vals [x] us) : ∃ u, us = [u] ∧ RelV x u := by
  cases r with
  | cons r1 r2 => cases r2; exact ⟨_, rfl, r1⟩
theorem vals2 {x y : V} {us : List Value} (r : Vals [x, y] us) : ∃ u w', us = [u, w'] ∧ RelV x u ∧ RelV y w' := by
  cases r with
  | cons r1 r2 =>
    cases r2 with
    | cons r3 r4 => cases r4; exact ⟨_, _, rfl, r1, r3⟩
theorem call_abs : CallR X (.builtin "abs") (fun xs H Q => ∃ i, xs = [.int i] ∧ Q (.int (if i < 0 then -i else i)) H) := by
  intro pins s σ H xs us Q I r h
  obtain ⟨i, rfl, q⟩ := h
  obtain ⟨u, rfl, t, rfl⟩ := vals1 r
  exact call_abs_int fun u tk => ⟨.int (if i < 0 then -i else i), H, I.tok _, ⟨_, rfl⟩, q⟩
theorem call_max2 (hc : X.calm = true) : CallR X (.builtin "max") (fun xs H Q => ∃ i j, xs = [.int i, .int j] ∧ Q (.int (if j > i then j else i)) H) := by
  intro pins s σ H xs us Q I r h
  obtain ⟨i, j, rfl, q⟩ := h
  obtain ⟨u, w', rfl, ⟨t, rfl⟩, ⟨t', rfl⟩⟩ := vals2 r
  refine max_two_ints (I.ok.hd hc) fun h' tk k => ⟨_, H, I.kept k, ?_, q⟩
  by_cases hj : j > i
  · rw [if_pos hj, if_pos hj]; exact ⟨_, rfl⟩
  · rw [if_neg hj, if_neg hj]; exact ⟨_, rfl⟩
theorem call_min2 (hc : X.calm = true) : CallR X (.builtin "min") (fun xs H Q => ∃ i j, xs = [.int i, .int j] ∧ Q (.int (if j < i then j else i)) H) := by
  intro pins s σ H xs us Q I r h
  obtain ⟨i, j, rfl, q⟩ := h
  obtain ⟨u, w', rfl, ⟨t, rfl⟩, ⟨t', rfl⟩⟩ := vals2 r
  refine min_two_ints (I.ok.hd hc) fun h' tk k => ⟨_, H, I.kept k, ?_, q⟩
  by_cases hj : j < i
  · rw [if_pos hj, if_pos hj]; exact ⟨_, rfl⟩
  · rw [if_neg hj, if_neg hj]; exact ⟨_, rfl⟩
theorem call_int1 : CallR X (.type "int") (fun xs H Q => (∃ i, xs = [.int i] ∧ Q (.int i) H) ∨ ∃ k, xs = [.bl k] ∧ Q (.int (if k then 1 else 0)) H) := by
  intro pins s σ H xs us Q I r h
  rcases h with ⟨i, rfl, q⟩ | ⟨k, rfl, q⟩
  · obtain ⟨u, rfl, t, rfl⟩ := vals1 r
    exact call_int_int ⟨.int i, H, I, ⟨_, rfl⟩, q⟩
  · obtain ⟨u, rfl, r1⟩ := vals1 r
    cases r1
    exact call_int_bool ⟨.int (if k then 1 else 0), H, I.tok _, ⟨_, rfl⟩, q⟩
theorem call_bool1 : CallR X (.type "bool") (fun xs H Q => (∃ i, xs = [.int i] ∧ Q (.bl (i != 0)) H) ∨ ∃ k, xs = [.bl k] ∧ Q (.bl k) H) := by
  intro pins s σ H xs us Q I r h
  rcases h with ⟨i, rfl, q⟩ | ⟨k, rfl, q⟩
  · obtain ⟨u, rfl, t, rfl⟩ := vals1 r
    exact call_bool_int ⟨.bl (i != 0), H, I, rfl, q⟩
  · obtain ⟨u, rfl, r1⟩ := vals1 r
    cases r1
    exact call_bool_bool ⟨.bl k, H, I, rfl, q⟩
theorem call_str_int : CallR X (.type "str") (fun xs H Q => ∃ i, xs = [.int i] ∧ i.natAbs.log2 < 1920 ∧ Q (.str (toString i)) H) := by
  intro pins s σ H xs us Q I r h
  obtain ⟨i, rfl, hz, q⟩ := h
  obtain ⟨u, rfl, t, rfl⟩ := vals1 r
  exact PySem.P.str_of_int hz ⟨.str _, H, I.tok _, ⟨_, rfl⟩, q⟩
theorem call_ord : CallR X (.builtin "ord") (fun xs H Q => ∃ x, xs = [.str x] ∧ x.length = 1 ∧ Q (.int (x.cps.getD 0 0 : Nat)) H) := by
  intro pins s σ H xs us Q I r h
  obtain ⟨x, rfl, hz, q⟩ := h
  obtain ⟨u, rfl, t, rfl⟩ := vals1 r
  exact ord_of_one hz ⟨.int _, H, I.tok _, ⟨_, rfl⟩, q⟩
theorem call_chr : CallR X (.builtin "chr") (fun xs H Q => ∃ i, xs = [.int i] ∧ 0 ≤ i ∧ i ≤ 1114111 ∧ Q (.str ⟨#[i.toNat]⟩) H) := by
  intro pins s σ H xs us Q I r h
  obtain ⟨i, rfl, h0, h1, q⟩ := h
  obtain ⟨u, rfl, t, rfl⟩ := vals1 r
  exact chr_of_range h0 h1 ⟨.str _, H, I.tok _, ⟨_, rfl⟩, q⟩
/-- len of a str, a bytes, a list, a tuple -/
def LenV (K : PySem.W.Frag) (x : V) (H : Hp) (n : Nat) : Prop :=
  match x with
  | .str y => y.length ≤ sizeLine ∧ n = y.length
  | .byt y => y.size ≤ sizeLine ∧ n = y.size
  | .ref p => (∃ xs, SqL K H p xs ∧ n = xs.length) ∨ ∃ xs, SqT K H p xs ∧ n = xs.length
  | _ => False
theorem call_len : CallR X (.builtin "len") (fun xs H Q => ∃ x n, xs = [x] ∧ LenV X.K x H n ∧ Q (.int n) H) := by
  intro pins s σ H xs us Q I r h
  obtain ⟨x, n, rfl, e, q⟩ := h
  obtain ⟨u, rfl, rx⟩ := vals1 r
  have hl := line63
  have hs : sizeLine = 16777216 := sizeLine_eq
  cases x with
  | str y =>
    obtain ⟨t, rfl⟩ := rx
    obtain ⟨hy, e'⟩ : y.length ≤ sizeLine ∧ n = y.length := e
    subst e'
    exact len_str (by omega) ⟨.int _, H, I.tok _, ⟨_, rfl⟩, q⟩
  | byt y =>
    obtain ⟨t, rfl⟩ := rx
    obtain ⟨hy, e'⟩ : y.size ≤ sizeLine ∧ n = y.size := e
    subst e'
    exact PySem.W.len_bytes (by omega) ⟨.int _, H, I.tok _, ⟨_, rfl⟩, q⟩
  | ref p =>
    cases rx
    have e' : (∃ xs, SqL X.K H p xs ∧ n = xs.length) ∨ ∃ xs, SqT X.K H p xs ∧ n = xs.length := e
    rcases e' with ⟨xs, hx, e'⟩ | ⟨xs, hx, e'⟩
    · subst e'
      obtain ⟨its, r', pl, hz⟩ := I.list hx
      have hlen := r'.length
      exact Calls.call_len_list pl.isList (by simp only [List.size_toArray]; omega) ⟨.int xs.length, H, I.tok _, ⟨_, by simp only [List.size_toArray]; rw [hlen]⟩, q⟩
    · subst e'
      obtain ⟨its, r', pl, hz⟩ := I.tuple hx
      have hlen := r'.length
      exact len_tuple pl (by simp only [List.size_toArray]; omega) ⟨.int xs.length, H, I.tok _, ⟨_, by simp only [List.size_toArray]; rw [hlen]⟩, q⟩
  | _ => exact (show False from e).elim
/-- divmod: a new tuple -/
theorem call_divmod : CallR X (.builtin "divmod") (fun xs H Q => ∃ i j, xs = [.int i, .int j] ∧ CDiv i j ∧ ∀ p, H p = none → Q (.ref p) (upd H p (.tup [.int (i / j), .int (i % j)]))) := by
  intro pins s σ H xs us Q I r h
  obtain ⟨i, j, rfl, ⟨h1, h2⟩, q⟩ := h
  obtain ⟨u, w', rfl, ⟨t, rfl⟩, ⟨t', rfl⟩⟩ := vals2 r
  refine divmod_int (by omega) ?_ (.inl (PyProof.noPylong_small (by omega)))
  rw [Int.fdiv_eq_ediv_of_nonneg i (by omega), Int.fmod_eq_emod_of_nonneg i (by omega)]
  have hn : H s.heap.objs.size = none := I.hok.fresh (Nat.le_refl _)
  refine ⟨.ref s.heap.objs.size, _, ?_, rfl, q _ hn⟩
  refine I.laid (fun b o e => Heap.get?_push_of_some _ e) (Nat.le_refl _) ⟨by simp only [List.length_cons, List.length_nil]; rw [sizeLine_eq]; decide, [.int (i / j) s.toks, .int (i % j) (s.toks + 1)], .cons ⟨_, rfl⟩ (.cons ⟨_, rfl⟩ .nil), ?_⟩
  exact ⟨_, Heap.get?_push_size s.heap rfl, rfl, 0, rfl⟩
end
end L2

namespace L2
open PySem PySem.Spec PyProof.Rows

/-! ### an instance, its attributes a map -/
structure ObjM (h : Heap) (x dx C : Addr) (mA : Str → Option Value) : Prop where
  obj : h.get? x = some (PySem.W.instObj C dx)
  ns : h.Ns1 dx mA
  ne : dx ≠ x

theorem lookIn_ns {h : Heap} {dx : Addr} {mA : Str → Option Value} (n : h.Ns1 dx mA) : ∃ od, h.get? dx = some od ∧ ∀ name, PySem.W.lookIn name od = some (mA name) := by
  obtain ⟨o, es, ep, ho, hd, hk, _, hm⟩ := n
  refine ⟨o, ho, fun name => ?_⟩
  have e := hm name
  unfold nsFind findBy at e
  rw [← Array.find?_toList] at e
  unfold PySem.W.lookIn
  rw [hd]
  dsimp only
  split
  · rename_i y q
    rw [q] at e
    exact congrArg some e
  · rename_i q
    rw [q] at e
    have a : es.toList.any (·.refKey) = false := by
      rw [List.any_eq_false]
      intro y hy
      obtain ⟨z, t, hkey⟩ := hk y (Array.mem_toList_iff.mp hy)
      simp [DictEntry.refKey, hkey]
    have a' : ¬ es.toList.any (·.refKey) = true := by rw [a]; exact Bool.false_ne_true
    rw [if_neg a']
    exact congrArg some e

theorem ObjM.look {h : Heap} {x dx C : Addr} {mA : Str → Option Value} (I : ObjM h x dx C mA) : ∃ od, PySem.W.InstAt h x (PySem.W.instObj C dx) C (some od) ∧ ∀ name, PySem.W.lookIn name od = some (mA name) :=
  let ⟨od, ho, hl⟩ := lookIn_ns I.ns
  ⟨od, ⟨I.obj, rfl, rfl, ho⟩, hl⟩

section
variable {prog : Program} {w : World} {A : Around} {E : Value → Shared → Prop} {s : Shared} {K : PySem.W.Frag} {x dx C f : Addr} {mA : Str → Option Value} {name : Str} {v : Value}

theorem get_map {expr : Bool} {Q : Value → Shared → Prop} (X : K.In s.heap) (I : ObjM s.heap x dx C mA) (hg : PySem.W.plainGet K C name = true) (hh : PySem.W.hasDictIn K C = true)
    (ha : PySem.W.findIn K (.ref C) name = some none) (hv : mA name = some v) (hv' : PySem.W.handedIn v = true) (h : Q v { s with toks := s.toks + 1 }) :
    wpAny (model prog w) A (getAttr (.ref x) name expr) Q E s := by
  obtain ⟨od, J, hl⟩ := I.look
  exact PySem.W.get_value X J (PySem.W.plainGet_of hg).1 (PySem.W.findObj_own hh ha rfl (by rw [hl, hv])) hv' h

theorem get_const {expr : Bool} {a : Value} {Q : Value → Shared → Prop} (X : K.In s.heap) (I : ObjM s.heap x dx C mA) (hg : PySem.W.plainGet K C name = true) (hh : PySem.W.hasDictIn K C = true)
    (ha : PySem.W.findIn K (.ref C) name = some (some a)) (hn : PySem.W.specialIn K a "__get__" = some none) (hc : PySem.W.copiedNames.contains name = false) (hv : mA name = none) (hv' : PySem.W.handedIn a = true)
    (h : Q a { s with toks := s.toks + 1 }) : wpAny (model prog w) A (getAttr (.ref x) name expr) Q E s := by
  obtain ⟨od, J, hl⟩ := I.look
  exact PySem.W.get_value X J (PySem.W.plainGet_of hg).1 (PySem.W.findObj_cls hh ha hn hv' hc (by rw [hl, hv])) hv' h

theorem get_meth {pl : Sem Bool} {Q : Value × List Value → Shared → Prop} (X : K.In s.heap) (I : ObjM s.heap x dx C mA) (hg : PySem.W.plainGet K C name = true)
    (hf : PySem.W.findIn K (.ref C) name = some (some (.ref f))) (ht : PySem.W.isFn K (.ref f) = true) (hv : mA name = none) (h : Q (.ref f, [.ref x]) s) :
    wpAny (model prog w) A (getMethod (.ref x) name pl) Q E s := by
  obtain ⟨od, J, hl⟩ := I.look
  exact PySem.W.method_fn X J (PySem.W.plainGet_of hg).1 (PySem.W.plainGet_of hg).2 hf (beq_iff_eq.mp ht) (by show (PySem.W.lookIn name od).map (·.isSome) = some false; rw [hl, hv]; rfl) h

theorem set_map {ns : List Str} {Q : Unit → Shared → Prop} (X : K.In s.heap) (I : ObjM s.heap x dx C mA)
    (hs : PySem.W.findIn K (.ref C) "__setattr__" = some (some (.builtin "object.__setattr__"))) (hp : PySem.W.plainOver K C = true) (ht : PySem.W.takerIn K C name = some none) (hh : PySem.W.hasDictIn K C = true)
    (hw : PySem.Within mA ns) (hsz : ns.length ≤ sizeLine)
    (h : ∀ h', ObjM h' x dx C (fun y => if y = name then some v else mA y) → Heap.SameBut dx s.heap h' → Q () { s with heap := h', toks := s.toks + 2 }) :
    wpAny (model prog w) A (setAttr (.ref x) name v) Q E s := by
  obtain ⟨od, J, hl⟩ := I.look
  refine PySem.W.set_plain X J hs (PySem.W.osa_open (s := { s with toks := s.toks + 1 }) (r := none) X J hp ht fun b => ?_)
  obtain ⟨cd, hc, hd'⟩ := PySem.W.any_some hh
  have hx : s.heap.get? x = some ⟨.ref C, some dx, .plain, #[]⟩ := I.obj
  refine wpAny_bind (wpAny_pure (wpAny_bind (wpAny_bind (wpAny_loadPart hx (wpAny_bind (PySem.W.Looks.here (s := { s with toks := s.toks + 1 }) (PySem.W.looks_clsIn X hc) ?_))))))
  rw [hd']
  refine wpAny_pure (a := some dx) (wpAny_bind (wpAny_pure (wpAny_bind ?_)))
  refine wpAny_nsSet1 (s := { s with toks := s.toks + 1 }) I.ns fun h' hn2 hs2 => ?_
  obtain ⟨oD, esD, epD, hoD, hdD, hcD⟩ := hn2.count (PySem.Within.cons name v hw)
  refine wpAny_bind (wpAny_lookBehind hoD (by rw [hdD]; exact pastItsLine_dict (Nat.le_trans hcD (by rw [List.length_cons]; omega))) ?_)
  exact wpAny_pure (h _ ⟨(hs2.2 _ (Ne.symm I.ne)).trans I.obj, hn2, I.ne⟩ hs2)

/-- C(..): the dict at the heap's end, the instance behind it; then its __init__ -/
theorem make_map {R : Result → Shared → Prop} {vs : List Value} {kw : List (Str × Value)} (X : K.In s.heap) (hm : PySem.W.makesIn K C = true)
    (hi : PySem.W.findIn K (.ref C) "__init__" = some (some (.ref f))) (hf : PySem.W.typeIn K (.ref f) = some (.type "function"))
    (h : codeAny (model prog w) (A.under (.builtin "type.__call__" ⟨.ref C :: vs, kw⟩)) (.call (.ref f) ⟨.ref (s.heap.objs.size + 1) :: vs, kw⟩) (PySem.W.InitBack (s.heap.objs.size + 1) R)
      { s with heap := (s.heap.push PySem.W.emptyDict).push (PySem.W.instObj C s.heap.objs.size) }) :
    codeAny (model prog w) A (.call (.ref C) ⟨vs, kw⟩) R s := by
  obtain ⟨hh, g, d, t, os⟩ := s
  exact PySem.W.make_core (PySem.W.makes_of X hm) (PySem.W.looks_findIn X hi) (fun self => PySem.W.bind_fn X self hf) (.inl rfl) h
/-- C() where there is no __init__ but object's -/
theorem make_map0 {R : Result → Shared → Prop} (X : K.In s.heap) (hm : PySem.W.makesIn K C = true)
    (hi : PySem.W.findIn K (.ref C) "__init__" = some (some (.builtin "object.__init__")))
    (hb : ∀ self, PySem.W.Looks (model prog w) s.heap (bindSpecial (.builtin "object.__init__") self) (.builtin "object.__init__", [self]))
    (h : codeAny (model prog w) (A.under (.builtin "type.__call__" ⟨[.ref C], []⟩)) (.call (.builtin "object.__init__") ⟨[.ref (s.heap.objs.size + 1)], []⟩) (PySem.W.InitBack (s.heap.objs.size + 1) R)
      { s with heap := (s.heap.push PySem.W.emptyDict).push (PySem.W.instObj C s.heap.objs.size) }) :
    codeAny (model prog w) A (.call (.ref C) ⟨[], []⟩) R s := by
  obtain ⟨hh, g, d, t, os⟩ := s
  exact PySem.W.make_core (PySem.W.makes_of X hm) (PySem.W.looks_findIn X hi) hb (.inr ⟨rfl, rfl⟩) h
end

/-! ### the attributes as a list of pairs -/
def putF (f : Str) (v : V) : List (Str × V) → List (Str × V)
  | [] => [(f, v)]
  | (g, x) :: r => if g = f then (g, v) :: r else (g, x) :: putF f v r
theorem lookup_putF (f g : Str) (v : V) : ∀ fs : List (Str × V), (putF f v fs).lookup g = if g = f then some v else fs.lookup g
  | [] => by
    show List.lookup g [(f, v)] = _
    by_cases h : g = f
    · have hb : (g == f) = true := beq_iff_eq.mpr h
      simp only [List.lookup, hb, if_pos h]
    · have hb : (g == f) = false := beq_eq_false_iff_ne.mpr h
      simp only [List.lookup, hb, if_neg h]
  | (k, x) :: r => by
    have ih := lookup_putF f g v r
    rw [show putF f v ((k, x) :: r) = (if k = f then (k, v) :: r else (k, x) :: putF f v r) from rfl]
    by_cases hk : k = f
    · rw [if_pos hk]
      by_cases h : g = k
      · have hb : (g == k) = true := beq_iff_eq.mpr h
        simp only [List.lookup, hb, if_pos (h.trans hk)]
      · have hb : (g == k) = false := beq_eq_false_iff_ne.mpr h
        simp only [List.lookup, hb, if_neg (fun e : g = f => h (e.trans hk.symm))]
    · rw [if_neg hk]
      by_cases h : g = k
      · have hb : (g == k) = true := beq_iff_eq.mpr h
        simp only [List.lookup, hb, if_neg (fun e : g = f => hk (h.symm.trans e))]
      · have hb : (g == k) = false := beq_eq_false_iff_ne.mpr h
        simp only [List.lookup, hb]
        exact ih
theorem keys_putF (f : Str) (v : V) : ∀ fs : List (Str × V), f ∈ (putF f v fs).map (·.1) ∧ ∀ g, g ∈ fs.map (·.1) → g ∈ (putF f v fs).map (·.1)
  | [] => ⟨by simp [putF], fun g h => by simp at h⟩
  | (k, x) :: r => by
    obtain ⟨i1, i2⟩ := keys_putF f v r
    rw [show putF f v ((k, x) :: r) = (if k = f then (k, v) :: r else (k, x) :: putF f v r) from rfl]
    by_cases hk : k = f
    · rw [if_pos hk]
      subst hk
      exact ⟨by simp, fun g h => by simpa using h⟩
    · rw [if_neg hk]
      refine ⟨?_, fun g h => ?_⟩
      · rw [List.map_cons]
        exact List.mem_cons_of_mem _ i1
      · rw [List.map_cons] at h ⊢
        rcases List.mem_cons.mp h with e | e
        · exact List.mem_cons.mpr (.inl e)
        · exact List.mem_cons_of_mem _ (i2 g e)
theorem length_putF (f : Str) (v : V) : ∀ fs : List (Str × V), (putF f v fs).length ≤ fs.length + 1
  | [] => by simp [putF]
  | (k, x) :: r => by
    have ih := length_putF f v r
    rw [show putF f v ((k, x) :: r) = (if k = f then (k, v) :: r else (k, x) :: putF f v r) from rfl]
    by_cases hk : k = f
    · rw [if_pos hk, List.length_cons, List.length_cons]; omega
    · rw [if_neg hk, List.length_cons, List.length_cons]; omega

theorem RelO.some_of {v : V} {o : Option Value} (r : RelO (some v) o) : ∃ u, o = some u ∧ RelV v u := by
  cases o with
  | none => exact (show False from r).elim
  | some u => exact ⟨u, rfl, r⟩
theorem RelO.none_of {o : Option Value} (r : RelO none o) : o = none := by
  cases o with
  | none => rfl
  | some u => exact (show False from r).elim
theorem handed_of {v : V} {u : Value} (r : RelV v u) : PySem.W.handedIn u = true := by
  cases v with
  | non => cases (show u = Value.none from r); rfl
  | bl b => cases (show u = Value.bool b from r); rfl
  | int i => obtain ⟨t, e⟩ := (show ∃ t, u = Value.int i t from r); cases e; rfl
  | str x => obtain ⟨t, e⟩ := (show ∃ t, u = Value.str x t from r); cases e; rfl
  | byt b => obtain ⟨t, e⟩ := (show ∃ t, u = Value.bytes b t from r); cases e; rfl
  | flt b => obtain ⟨t, e⟩ := (show ∃ t, u = Value.float b t from r); cases e; rfl
  | ref a => cases (show u = Value.ref a from r); rfl
  | ty n => cases (show u = Value.type n from r); rfl

section
variable {P : Program} {w : World} {H H' : Hp} {h h' : Heap} {a C dx : Addr} {fs fs' : List (Str × V)}
theorem ins_get (hok : HOk P w H h) (e : H a = some (.ins C dx fs)) : ∃ mA, ObjM h a dx C mA ∧ (∀ f, RelO (fs.lookup f) (mA f)) ∧ PySem.Within mA (fs.map (·.1)) ∧ fs.length ≤ 1000 ∧ H dx = some (.own a) := by
  obtain ⟨d, z, ne, ob, mA, n, r, q⟩ := (show ObjOk P w H h a (.ins C dx fs) from hok a _ e)
  exact ⟨mA, ⟨ob, n, ne⟩, r, q, z, d⟩
end

/-! ### what of the text a class must have -/
structure Cls (K : PySem.W.Frag) (C : Addr) : Prop where
  pg : PySem.W.plainGet K C Str.empty = true
  hd : PySem.W.hasDictIn K C = true
  po : PySem.W.plainOver K C = true
  sa : PySem.W.findIn K (.ref C) "__setattr__" = some (some (.builtin "object.__setattr__"))
theorem Cls.get {K : PySem.W.Frag} {C : Addr} (c : Cls K C) (f : Str) : PySem.W.plainGet K C f = true := c.pg
/-- no class of it has the name -/
def NoAttr (K : PySem.W.Frag) (C : Addr) (f : Str) : Prop := PySem.W.findIn K (.ref C) f = some none
theorem NoAttr.taker {K : PySem.W.Frag} {C : Addr} {f : Str} (n : NoAttr K C f) : PySem.W.takerIn K C f = some none := by
  unfold PySem.W.takerIn
  rw [show PySem.W.findIn K (.ref C) f = some none from n]
  rfl
/-- a constant of the class -/
structure Con (K : PySem.W.Frag) (C : Addr) (f : Str) (v : V) (u : Value) : Prop where
  at_ : PySem.W.findIn K (.ref C) f = some (some u)
  rel : RelV v u
  get : PySem.W.specialIn K u "__get__" = some none
  cp : PySem.W.copiedNames.contains f = false
/-- a method: a plain def of the class or of one above it -/
structure Meth (K : PySem.W.Frag) (C : Addr) (m : Str) (f : Addr) : Prop where
  at_ : PySem.W.findIn K (.ref C) m = some (some (.ref f))
  fn : PySem.W.isFn K (.ref f) = true
  kp : PySem.W.keepIn K (.ref f) = true

section
variable {X : Cx} {pins : List (Addr × Obj)} {σ : St} {H : Hp} {s : Shared} {a C dx : Addr} {fs : List (Str × V)} {f : Str} {v : V} {A : Around} {E : Value → Shared → Prop}

theorem getattr_ok {b : Bool} {Q : Value → Shared → Prop} (I : Inv X pins σ H s) (e : H a = some (.ins C dx fs)) (c : Cls X.K C) (n : NoAttr X.K C f) (l : fs.lookup f = some v)
    (h : ∀ u s', Inv X pins σ H s' → RelV v u → Q u s') : wpAny (model X.prog X.w) A (getAttr (.ref a) f b) Q E s := by
  obtain ⟨mA, O, r, _, _, _⟩ := ins_get I.hok e
  obtain ⟨u, hu, ru⟩ := RelO.some_of (v := v) (o := mA f) (by rw [← l]; exact r f)
  exact get_map I.kIn O (c.get f) c.hd n hu (handed_of ru) (h u _ (I.tok _) ru)

theorem getcon_ok {b : Bool} {u : Value} {Q : Value → Shared → Prop} (I : Inv X pins σ H s) (e : H a = some (.ins C dx fs)) (c : Cls X.K C) (k : Con X.K C f v u) (l : fs.lookup f = none)
    (h : ∀ s', Inv X pins σ H s' → Q u s') : wpAny (model X.prog X.w) A (getAttr (.ref a) f b) Q E s := by
  obtain ⟨mA, O, r, _, _, _⟩ := ins_get I.hok e
  have hn : mA f = none := RelO.none_of (by rw [← l]; exact r f)
  exact get_const I.kIn O (c.get f) c.hd k.at_ k.get k.cp hn (handed_of k.rel) (h _ (I.tok _))

theorem getmeth_ok {m : Str} {g : Addr} {pl : Sem Bool} {Q : Value × List Value → Shared → Prop} (I : Inv X pins σ H s) (e : H a = some (.ins C dx fs)) (c : Cls X.K C) (k : Meth X.K C m g) (l : fs.lookup m = none)
    (h : Q (.ref g, [.ref a]) s) : wpAny (model X.prog X.w) A (getMethod (.ref a) m pl) Q E s := by
  obtain ⟨mA, O, r, _, _, _⟩ := ins_get I.hok e
  have hn : mA m = none := RelO.none_of (by rw [← l]; exact r m)
  exact get_meth I.kIn O (c.get m) k.at_ k.fn hn h

theorem setattr_ok {y : V} {u : Value} {Q : Unit → Shared → Prop} (I : Inv X pins σ H s) (e : H a = some (.ins C dx fs)) (c : Cls X.K C) (n : NoAttr X.K C f) (hl : fs.length < 1000) (ry : RelV y u)
    (h : ∀ s', Inv X pins σ (upd H a (.ins C dx (putF f y fs))) s' → Q () s') : wpAny (model X.prog X.w) A (setAttr (.ref a) f u) Q E s := by
  obtain ⟨mA, O, r, wi, _, ho⟩ := ins_get I.hok e
  have hz : (fs.map (·.1)).length ≤ sizeLine := by rw [List.length_map, sizeLine_eq]; omega
  refine set_map I.kIn O c.sa c.po n.taker c.hd wi hz fun h' O' sb => h _ ?_
  have hd : ∃ o, h'.get? dx = some o := let ⟨o, _, _, e', _⟩ := O'.ns; ⟨o, e'⟩
  refine I.write (x := a) (e := dx) (by rw [e]; exact True.intro) (.inr ho) (fun b q hb z => (sb.2 b hb).trans z) hd ?_
  refine ⟨by rw [upd_ne O.ne]; exact ho, ?_, O.ne, O'.obj, _, O'.ns, fun g => ?_, fun g hg => ?_⟩
  · have := length_putF f y fs; omega
  · show RelO ((putF f y fs).lookup g) (if g = f then some u else mA g)
    rw [lookup_putF]
    by_cases q : g = f
    · rw [if_pos q, if_pos q]; exact ry
    · rw [if_neg q, if_neg q]; exact r g
  · by_cases q : g = f
    · rw [q]; exact (keys_putF f y fs).1
    · refine (keys_putF f y fs).2 g (wi g fun z => hg ?_)
      show (if g = f then some u else mA g) = none
      rw [if_neg q]; exact z

/-- a new instance, tracked, without attributes -/
theorem Inv.made (I : Inv X pins σ H s) : Inv X pins σ (upd (upd H s.heap.objs.size (.own (s.heap.objs.size + 1))) (s.heap.objs.size + 1) (.ins C s.heap.objs.size []))
    { s with heap := (s.heap.push PySem.W.emptyDict).push (PySem.W.instObj C s.heap.objs.size) } := by
  have e1 : (s.heap.push PySem.W.emptyDict).get? s.heap.objs.size = some PySem.W.emptyDict := Heap.get?_push_size s.heap rfl
  have e2 : ((s.heap.push PySem.W.emptyDict).push (PySem.W.instObj C s.heap.objs.size)).get? (s.heap.objs.size + 1) = some (PySem.W.instObj C s.heap.objs.size) := by
    have := Heap.get?_push_size (s.heap.push PySem.W.emptyDict) (o := PySem.W.instObj C s.heap.objs.size) rfl
    rwa [Heap.size_push] at this
  have e3 : (s.heap.push PySem.W.emptyDict).Ns s.heap.objs.size (fun _ => none) := ⟨PySem.W.emptyDict, #[], _, e1, rfl, (fun e he => absurd he (by simp)), fun _ => rfl⟩
  have I1 := I.laid (a := s.heap.objs.size) (o := .own (s.heap.objs.size + 1)) (h' := s.heap.push PySem.W.emptyDict) (t' := s.toks) (fun b u q => Heap.get?_push_of_some _ q) (Nat.le_refl _) ⟨_, e1⟩
  refine I1.laid (a := s.heap.objs.size + 1) (o := .ins C s.heap.objs.size []) (t' := s.toks) (fun b u q => Heap.get?_push_of_some _ q) (Nat.le_of_eq (Heap.size_push _ _)) ?_
  have ne : s.heap.objs.size ≠ s.heap.objs.size + 1 := Nat.ne_of_lt (Nat.lt_succ_self _)
  refine ⟨by rw [upd_ne ne, upd_same], Nat.zero_le _, ne, e2, fun _ => none, (Heap.Ns1.of_empty e3).at fun o q => Heap.get?_push_of_some _ q, fun _ => True.intro, fun y hy => absurd rfl hy⟩

/-- e.f where nothing but the object is asked: through attributeBase (super) and the last hold -/
theorem attr_of {prog : Program} {w : World} {env : Env} {e : Expr} {f : Str} {pos : Pos} {s : Shared} {Q : Value → Shared → Prop} (hb : attributeBase e f env (eval e env) = eval e env)
    (h : wpAny (model prog w) A (eval e env) (fun o s₁ => wpAny (model prog w) A (getAttr o f true) Q E s₁) E s) : wpAny (model prog w) A (eval (.Attribute e f pos) env) Q E s :=
  Attribute_any_ h (by rw [arm_eval_Attribute, hb])
end

/-! ### readings and rules -/
/-- e.f, an attribute of the instance -/
def tFld (K : PySem.W.Frag) (ta : TE) (f : Str) : TE := fun σ H Q => ta σ H fun x H1 => ∃ a C dx fs v, x = .ref a ∧ H1 a = some (.ins C dx fs) ∧ Cls K C ∧ NoAttr K C f ∧ fs.lookup f = some v ∧ Q v H1
/-- e.f, a constant of the class -/
def tCon (K : PySem.W.Frag) (ta : TE) (f : Str) : TE := fun σ H Q => ta σ H fun x H1 => ∃ a C dx fs v u, x = .ref a ∧ H1 a = some (.ins C dx fs) ∧ Cls K C ∧ Con K C f v u ∧ fs.lookup f = none ∧ Q v H1
/-- e.f = value -/
def sFld (K : PySem.W.Frag) (ta tv : TE) (f : Str) : TS := fun D σ H => tv σ H fun y H1 => ta σ H1 fun x H2 => ∃ a C dx fs, x = .ref a ∧ H2 a = some (.ins C dx fs) ∧ Cls K C ∧ NoAttr K C f ∧ fs.length < 1000 ∧
  D.nx σ (upd H2 a (.ins C dx (putF f y fs)))
/-- an augmented operator on two values -/
def InOp (X : Cx) (op : Operator) (rd : V → V → Hp → VK → Prop) : Prop :=
  ∀ (pins : List (Addr × Obj)) (s : Shared) (σ : St) (H : Hp) (x y : V) (u v : Value) (Q : VK), Inv X pins σ H s → RelV x u → RelV y v → rd x y H Q → wpAny (model X.prog X.w) X.A (inplaceOp op u v) (EP X pins σ Q) X.xe s
/-- e.f op= value -/
def sFldAug (K : PySem.W.Frag) (ta tv : TE) (rd : V → V → Hp → VK → Prop) (f : Str) : TS := fun D σ H => ta σ H fun x H1 => ∃ a C dx fs v, x = .ref a ∧ H1 a = some (.ins C dx fs) ∧ Cls K C ∧ NoAttr K C f ∧ fs.lookup f = some v ∧
  tv σ H1 fun y H2 => rd v y H2 fun z H3 => ∃ dx' fs', H3 a = some (.ins C dx' fs') ∧ fs'.length < 1000 ∧ D.nx σ (upd H3 a (.ins C dx' (putF f z fs')))

section
variable {X : Cx} {o e value : Expr} {f : Str} {pos pos' tpos : Pos} {ta tv : TE}
theorem pe_fld (he : PE X e ta) (hb : attributeBase e f X.env (eval e X.env) = eval e X.env) : PE X (.Attribute e f pos) (tFld X.K ta f) := by
  intro pins s σ H Q I h
  refine attr_of hb (thn (he pins s σ H _ I h) fun u s1 ⟨x, H1, I1, rx, a, C, dx, fs, v, ex, ea, c, n, l, q⟩ => ?_)
  subst ex
  obtain rfl : u = Value.ref a := rx
  exact getattr_ok I1 ea c n l fun u' s2 I2 ru => ⟨v, H1, I2, ru, q⟩
theorem pe_con (he : PE X e ta) (hb : attributeBase e f X.env (eval e X.env) = eval e X.env) : PE X (.Attribute e f pos) (tCon X.K ta f) := by
  intro pins s σ H Q I h
  refine attr_of hb (thn (he pins s σ H _ I h) fun u s1 ⟨x, H1, I1, rx, a, C, dx, fs, v, u0, ex, ea, c, k, l, q⟩ => ?_)
  subst ex
  obtain rfl : u = Value.ref a := rx
  exact getcon_ok I1 ea c k l fun s2 I2 => ⟨v, H1, I2, k.rel, q⟩
theorem ps_fld (ha : PE X o ta) (hv : PE X value tv) (hs : swapsWith value (some (.Attribute o f pos')) pos.line X.env = pure false) : PS X (.Assign [.Attribute o f pos'] value pos) (sFld X.K ta tv f) := by
  intro pins s σ H D I h
  refine plainObj_wpAny_Assign_Attribute (thn (hv pins s σ H _ I h) fun u s1 ⟨y, H1, I1, ry, q⟩ => thn (ha pins s1 σ H1 _ I1 q) fun ov s2 ⟨x, H2, I2, rx, a, C, dx, fs, ex, ea, c, n, l, q2⟩ => ?_) hs
  subst ex
  obtain rfl : ov = Value.ref a := rx
  exact setattr_ok I2 ea c n l ry fun s3 I3 => ⟨σ, _, I3, q2⟩
theorem ps_fldaug {op : Operator} {rd : V → V → Hp → VK → Prop} (ha : PE X o ta) (hv : PE X value tv) (hop : InOp X op rd) : PS X (.AugAssign (.Attribute o f tpos) op value pos) (sFldAug X.K ta tv rd f) := by
  intro pins s σ H D I h
  refine wpAny_AugAssign_AttributeAny (thn (ha pins s σ H _ I h) fun ov s1 ⟨x, H1, I1, rx, a, C, dx, fs, v, ex, ea, c, n, l, q⟩ => ?_)
  subst ex
  obtain rfl : ov = Value.ref a := rx
  refine getattr_ok I1 ea c n l fun u s2 I2 ru => thn (hv pins s2 σ H1 _ I2 q) fun w3 s3 ⟨y, H2, I3, ry, q3⟩ => thn (hop pins s3 σ H2 v y u w3 _ I3 ru ry q3) fun w4 s4 ⟨z, H3, I4, rz, dx', fs', ea', l', q4⟩ => ?_
  exact setattr_ok I4 ea' c n l' rz fun s5 I5 => ⟨σ, _, I5, q4⟩
def rAdd : V → V → Hp → VK → Prop := fun x y H Q => ∃ i j, x = .int i ∧ y = .int j ∧ Q (.int (i + j)) H
def rSub : V → V → Hp → VK → Prop := fun x y H Q => ∃ i j, x = .int i ∧ y = .int j ∧ Q (.int (i - j)) H
theorem in_add : InOp X .Add rAdd := by
  rintro pins s σ H x y u v Q I rx ry ⟨i, j, rfl, rfl, q⟩
  obtain ⟨t, rfl⟩ := (show ∃ t, u = Value.int i t from rx)
  obtain ⟨t', rfl⟩ := (show ∃ t', v = Value.int j t' from ry)
  exact PyProof.Rows.iadd_int ⟨.int (i + j), H, I.tok _, ⟨_, rfl⟩, q⟩
theorem in_sub : InOp X .Sub rSub := by
  rintro pins s σ H x y u v Q I rx ry ⟨i, j, rfl, rfl, q⟩
  obtain ⟨t, rfl⟩ := (show ∃ t, u = Value.int i t from rx)
  obtain ⟨t', rfl⟩ := (show ∃ t', v = Value.int j t' from ry)
  exact PyProof.Rows.isub_int ⟨.int (i - j), H, I.tok _, ⟨_, rfl⟩, q⟩

/-- what is between an instance and its method: the tree of a method call -/
theorem methcall_of {pl : Sem Bool} {m : Str} {apos : Pos} {args : List Expr} {pins : List (Addr × Obj)} {s : Shared} {σ : St} {H : Hp} {Q : Value → Shared → Prop} {te : TE} (he : PE X e te) (I : Inv X pins σ H s)
    (h : te σ H fun x H1 => ∃ a C dx fs g, x = .ref a ∧ H1 a = some (.ins C dx fs) ∧ Cls X.K C ∧ Meth X.K C m g ∧ fs.lookup m = none ∧
      ∀ s1, Inv X pins σ H1 s1 → wpAny (model X.prog X.w) X.A (callWith pos (.ref g) [.ref a] (backTo pos (starEach args X.env)) (backToKw pos (keywordEach [] X.env))) Q X.xe s1)
    (ht : eval (.Call (.Attribute e m apos) args [] pos) X.env = (do
      let ov ← eval e X.env
      standAt apos.atName
      let (f, first) ← holding [ov] (getMethod ov m pl)
      callWith pos f first (backTo pos (starEach args X.env)) (backToKw pos (keywordEach [] X.env)))) :
    wpAny (model X.prog X.w) X.A (eval (.Call (.Attribute e m apos) args [] pos) X.env) Q X.xe s := by
  refine PySem.W.methodCall_KW (pl := pl) (thn (he pins s σ H _ I h) fun u s1 ⟨x, H1, I1, rx, a, C, dx, fs, g, ex, ea, c, k, l, q⟩ => ?_) ht
  subst ex
  obtain rfl : u = Value.ref a := rx
  exact getmeth_ok I1 ea c k l (q s1 I1)
end

/-! ### isinstance -/
section
variable {X : Cx} {pins : List (Addr × Obj)} {σ : St} {H : Hp} {s : Shared} {A : Around} {E : Value → Shared → Prop} {Q : Value → Shared → Prop} {c : Value} {b : Bool}
/-- the type of a value, as the fragment's deciders take it; for an instance its class -/
inductive TyOf (K : PySem.W.Frag) (H : Hp) : V → Value → Prop where
  | non : TyOf K H .non (.type "NoneType")
  | bl (x : Bool) : TyOf K H (.bl x) (.type "bool")
  | int (i : Int) : TyOf K H (.int i) (.type "int")
  | str (x : Str) : TyOf K H (.str x) (.type "str")
  | flt (x : UInt64) : TyOf K H (.flt x) (.type "float")
  | lst {a : Addr} {xs : List V} (e : H a = some (.lst xs)) : TyOf K H (.ref a) (.type "list")
  | frz {a : Addr} {o : Obj} {xs : List V} (e : H a = some (.frz o (.lst xs))) : TyOf K H (.ref a) (.type "list")
  | tup {a : Addr} {xs : List V} (e : H a = some (.tup xs)) : TyOf K H (.ref a) (.type "tuple")
  | dK {a : Addr} {kvs : List (Key × V)} (e : H a = some (.dK kvs)) : TyOf K H (.ref a) (.type "dict")
  | dT {a : Addr} {kvs : List (List Key × V)} (e : H a = some (.dT kvs)) : TyOf K H (.ref a) (.type "dict")
  | ins {a C dx : Addr} {fs : List (Str × V)} (e : H a = some (.ins C dx fs)) (cl : Cls K C) (ha : PySem.W.findIn K (.ref C) "__class__" = some (some (.builtin "object.__class__")))
      (hn : PySem.W.specialIn K (.builtin "object.__class__") "__get__" = some (some (.builtin "getset_descriptor.__get__"))) (htk : PySem.W.takesIn K (.builtin "object.__class__") = some true)
      (hm : PySem.W.mroIn K C (.type "object") = some true) : TyOf K H (.ref a) (.ref C)
/-- isinstance(x, c) for one class c, a built-in or an own one: kitOne's answer -/
theorem isinst_ok {x : V} {u t : Value} (I : Inv X pins σ H s) (rx : RelV x u) (ty : TyOf X.K H x t) (e : PySem.W.kitOne X.K t c = some b) (h : ∀ tk, Q (.bool b) { s with toks := tk }) :
    wpAny (model X.prog X.w) A (call (.builtin "isinstance") [u, c]) Q E s := by
  cases ty with
  | non => cases (show u = Value.none from rx); exact PySem.W.kia_one PySem.W.kitx_none I.kIn True.intro e (fun z => nomatch z) h
  | bl y => cases (show u = Value.bool y from rx); exact PySem.W.kia_one PySem.W.kitx_bool I.kIn True.intro e (fun z => nomatch z) h
  | int i => obtain ⟨t, q⟩ := (show ∃ t, u = Value.int i t from rx); cases q; exact PySem.W.kia_one PySem.W.kitx_int I.kIn True.intro e (fun z => nomatch z) h
  | str y => obtain ⟨t, q⟩ := (show ∃ t, u = Value.str y t from rx); cases q; exact PySem.W.kia_one PySem.W.kitx_str I.kIn True.intro e (fun z => nomatch z) h
  | flt y => obtain ⟨t, q⟩ := (show ∃ t, u = Value.float y t from rx); cases q; exact PySem.W.kia_one PySem.W.kitx_float I.kIn True.intro e (fun z => nomatch z) h
  | @lst a xs ea =>
    cases (show u = Value.ref a from rx)
    obtain ⟨_, _, n, _, h1⟩ := (show ObjOk X.prog X.w H s.heap a (.lst xs) from I.hok a _ ea)
    exact PySem.W.kia_one PySem.W.kitx_list I.kIn ⟨_, h1, rfl⟩ e (fun z => nomatch z) h
  | @frz a ob xs ea =>
    cases (show u = Value.ref a from rx)
    obtain ⟨_, _, _, n, _, h1⟩ := (show ObjOk X.prog X.w H s.heap a (.frz ob (.lst xs)) from I.hok a _ ea)
    exact PySem.W.kia_one PySem.W.kitx_list I.kIn ⟨_, h1, rfl⟩ e (fun z => nomatch z) h
  | @tup a xs ea =>
    cases (show u = Value.ref a from rx)
    obtain ⟨_, _, _, p⟩ := (show ObjOk X.prog X.w H s.heap a (.tup xs) from I.hok a _ ea)
    obtain ⟨o, h1, h2, _⟩ := p
    exact PySem.W.kia_one PySem.W.kitx_tuple I.kIn ⟨o, h1, h2⟩ e (fun z => nomatch z) h
  | @dK a kvs ea =>
    cases (show u = Value.ref a from rx)
    obtain ⟨_, _, vs, _, p⟩ := (show ObjOk X.prog X.w H s.heap a (.dK kvs) from I.hok a _ ea)
    obtain ⟨o, es, ep, h1, h2, _⟩ := p
    exact PySem.W.kia_one PySem.W.kitx_dict I.kIn ⟨o, h1, h2.1⟩ e (fun z => nomatch z) h
  | @dT a kvs ea =>
    cases (show u = Value.ref a from rx)
    obtain ⟨_, _, xs, _, o, es, ep, h1, h2, _⟩ := (show ObjOk X.prog X.w H s.heap a (.dT kvs) from I.hok a _ ea)
    exact PySem.W.kia_one PySem.W.kitx_dict I.kIn ⟨o, h1, h2.1⟩ e (fun z => nomatch z) h
  | @ins a C dx fs ea cl ha hn htk hm =>
    cases (show u = Value.ref a from rx)
    obtain ⟨mA, O, _⟩ := ins_get I.hok ea
    obtain ⟨od, J, _⟩ := O.look
    exact PySem.W.kia_one (PySem.W.kitx_own (cl.get _) cl.hd ha hn htk hm) I.kIn J e (fun z => nomatch z) h
end
end L2

namespace L2
open PySem PySem.Spec PyProof.Rows

/-! ### room -/
structure Room (k : Nat) (A : Around) : Prop where
  hd : A.handled = none
  dp : A.depth + 3 * k + 5 < recursionLimit
  un : A.units + 16 * k + 200 < cLine
theorem Room.mono {j k : Nat} {A : Around} (r : Room k A) (h : j ≤ k) : Room j A := ⟨r.hd, by have := r.dp; omega, by have := r.un; omega⟩
theorem Room.deeper {k : Nat} {A : Around} (r : Room (k + 1) A) (env : Env) : Room k (A.deeper env) :=
  ⟨r.hd, by have := r.dp; show A.depth + 1 + 3 * k + 5 < _; omega, by have := r.un; show A.units + 3 + 16 * k + 200 < _; omega⟩
theorem Room.in1 {k : Nat} {A : Around} (r : Room (k + 1) A) : Room k A.in1 :=
  ⟨r.hd, by have := r.dp; show A.depth + 3 * k + 5 < _; omega, by have := r.un; show A.units + 1 + 16 * k + 200 < _; omega⟩
theorem make_depth {A : Around} {C : Addr} {us : List Value} {kw : List (Str × Value)} : (A.under (.builtin "type.__call__" ⟨.ref C :: us, kw⟩)).depth = A.depth + 1 := by
  first | rfl | simp [Around.under, Code.weight, Code.isCreation, Code.isGuard, Code.isCaller, Code.frames, Code.isFrame, guardIds]
theorem make_units {A : Around} {C : Addr} {us : List Value} {kw : List (Str × Value)} : (A.under (.builtin "type.__call__" ⟨.ref C :: us, kw⟩)).units = A.units + 1 := by
  first | rfl | simp [Around.under, Code.cUnits, Code.frames, Code.isFrame]
theorem Room.make {k : Nat} {A : Around} (r : Room (k + 1) A) (C : Addr) (us : List Value) (kw : List (Str × Value)) : Room k (A.under (.builtin "type.__call__" ⟨.ref C :: us, kw⟩)) :=
  ⟨r.hd, by have := r.dp; rw [make_depth]; omega, by have := r.un; rw [make_units]; omega⟩
theorem Room.depth {k : Nat} {A : Around} (r : Room k A) : A.depth < recursionLimit := by have := r.dp; omega
theorem Room.units {k : Nat} {A : Around} (r : Room k A) : A.units + 64 < cLine := by have := r.un; omega
theorem Room.units0 {k : Nat} {A : Around} (r : Room k A) : A.units < cLine := by have := r.un; omega

/-! ### argument lists and displays -/
def tNil : TA := fun _ H Q => Q [] H
def tCons (ta : TE) (tr : TA) : TA := fun σ H Q => ta σ H fun x H1 => tr σ H1 fun xs H2 => Q (x :: xs) H2
section
variable {X : Cx} {e : Expr} {es : List Expr} {te : TE} {t : TA} {pos : Pos}
theorem pa_nil : PA X [] tNil := fun _ _ _ _ H Q I h => Calls.spliced_nil ⟨[], H, I, .nil, h⟩
theorem pa_cons (ha : PE X e te) (hr : PA X es t) (hs : starEach (e :: es) X.env = (false, eval e X.env) :: starEach es X.env := by rfl) : PA X (e :: es) (tCons te t) := by
  intro pos pins s σ H Q I h
  rw [hs]
  show wpAny _ _ (spliced ((false, eval e X.env) :: backTo pos (starEach es X.env))) _ _ s
  refine Calls.spliced_cons (thn (ha pins s σ H _ I h) fun u s1 ⟨x, H1, I1, r1, q1⟩ => ?_)
  exact thn (hr pos pins s1 σ H1 _ I1 q1) fun us s2 ⟨xs, H2, I2, r2, q2⟩ => ⟨x :: xs, H2, I2, .cons r1 r2, q2⟩

/-- a tuple, a list of written items -/
def tTup (t : TA) : TE := fun σ H Q => t σ H fun xs H1 => xs.length ≤ sizeLine ∧ ∀ p, H1 p = none → Q (.ref p) (upd H1 p (.tup xs))
def tLst (t : TA) : TE := fun σ H Q => t σ H fun xs H1 => xs.length ≤ sizeLine ∧ ∀ p, H1 p = none → Q (.ref p) (upd H1 p (.lst xs))
theorem pe_tup {x1} (h : PA X es t) : PE X (.Tuple es x1 pos) (tTup t) := by
  intro pins s σ H Q I hq
  refine wpAny_Tuple_spliced (thn (h pos pins s σ H _ I hq) fun us s1 ⟨xs, H1, I1, r, z, q⟩ => ⟨by rw [← r.length]; exact z, ?_⟩)
  have hf : H1 s1.heap.objs.size = none := I1.hok.fresh (Nat.le_refl _)
  refine ⟨.ref s1.heap.objs.size, upd H1 s1.heap.objs.size (.tup xs), I1.laid (t' := s1.toks) (fun b u e => Heap.get?_push_of_some _ e) (Nat.le_refl _) ?_, rfl, q _ hf⟩
  exact ⟨z, us, r, ⟨_, Heap.get?_push_size _ rfl, rfl, _, rfl⟩⟩
theorem pe_lst (h : PA X es t) : PE X (.List es pos) (tLst t) := by
  intro pins s σ H Q I hq
  refine wpAny_List_spliced (thn (h pos pins s σ H _ I hq) fun us s1 ⟨xs, H1, I1, r, z, q⟩ => ⟨by rw [← r.length]; exact z, ?_⟩)
  have hf : H1 s1.heap.objs.size = none := I1.hok.fresh (Nat.le_refl _)
  refine ⟨.ref s1.heap.objs.size, upd H1 s1.heap.objs.size (.lst xs), I1.laid (t' := s1.toks) (fun b u e => Heap.get?_push_of_some _ e) (Nat.le_refl _) ?_, rfl, q _ hf⟩
  exact ⟨z, us, 0, r, Heap.get?_push_size _ rfl⟩
end

/-! ### what a def promises -/
/-- a def's promise: the bound arguments in the parameters' order, the heap, the wanted end, the wanted exception -/
abbrev Sp := List V → Hp → VK → XK → Prop
/-- how an exception lies behind a call (file 08 gives it): the callers' frames, abstract heap and state ahead of the call, the wish, the exception, the state -/
abbrev CXT := List Env → Hp → Shared → XK → Value → Shared → Prop

/-- the state at a call -/
structure Env0 (P : Program) (w : World) (K : PySem.W.Frag) (mg : Str → Option Value) (base : Heap) (A : Around) (outer : List Env) (s : Shared) (H : Hp) : Prop where
  frames : A.frames = some outer
  mod : Mod K mg base
  bs : ∀ b o, base.get? b = some o → s.heap.get? b = some o ∧ H b = none
  bsz : base.objs.size ≤ s.heap.objs.size
  funs : s.heap.FunFrames base outer
  frf : ∀ b ∈ frs outer, H b = none
  hok : HOk P w H s.heap
  bare : AllBare s.gens
/-- a call's end -/
def CE (outer : List Env) (P : Program) (w : World) (H : Hp) (s : Shared) (Q : VK) (u : Value) (s' : Shared) : Prop :=
  ∃ v H', s'.os = s.os ∧ AllBare s'.gens ∧ Un (frs outer) [] H H' s.heap s'.heap ∧ HOk P w H' s'.heap ∧ RelV v u ∧ Q v H'
def CR (CX : CXT) (outer : List Env) (P : Program) (w : World) (H : Hp) (s : Shared) (Q : VK) (E : XK) (r : Result) (s' : Shared) : Prop :=
  match r with
  | .ok (.ret u) => CE outer P w H s Q u s'
  | .ok _ => False
  | .error e => CX outer H s E e s'
structure FnOk (P : Program) (w : World) (K : PySem.W.Frag) (mg : Str → Option Value) (base : Heap) (CX : CXT) (k : Nat) (f : Addr) (fd : FuncData) (ps : List Str) (sp : Sp) : Prop where
  len : ∀ vs H Q E, sp vs H Q E → vs.length = ps.length
  run : ∀ (A : Around) (outer : List Env) (s : Shared) (H : Hp) (args : Args) (us : List Value) (vs : List V) (Q : VK) (E : XK), Room k A → Env0 P w K mg base A outer s H → BindsTo s fd args (ps.zip us) → Vals vs us → sp vs H Q E →
    codeAny (model P w) A (.call (.ref f) args) (CR CX outer P w H s Q E) s
theorem FnOk.mono {P : Program} {w : World} {K : PySem.W.Frag} {mg : Str → Option Value} {base : Heap} {CX : CXT} {j k : Nat} {f : Addr} {fd : FuncData} {ps : List Str} {sp : Sp} (F : FnOk P w K mg base CX j f fd ps sp) (h : j ≤ k) :
    FnOk P w K mg base CX k f fd ps sp := ⟨F.len, fun A outer s H args us vs Q E hr => F.run A outer s H args us vs Q E (hr.mono h)⟩
/-- a weaker promise -/
theorem FnOk.imp {P : Program} {w : World} {K : PySem.W.Frag} {mg : Str → Option Value} {base : Heap} {CX : CXT} {k : Nat} {f : Addr} {fd : FuncData} {ps : List Str} {sp sp' : Sp} (F : FnOk P w K mg base CX k f fd ps sp)
    (h : ∀ vs H Q E, sp' vs H Q E → sp vs H Q E) : FnOk P w K mg base CX k f fd ps sp' :=
  ⟨fun vs H Q E q => F.len vs H Q E (h _ _ _ _ q), fun A outer s H args us vs Q E hr he hb hv hs => F.run A outer s H args us vs Q E hr he hb hv (h _ _ _ _ hs)⟩

theorem Env0.make {P : Program} {w : World} {K : PySem.W.Frag} {mg : Str → Option Value} {base : Heap} {A : Around} {outer : List Env} {s : Shared} {H : Hp} (e : Env0 P w K mg base A outer s H) (C : Addr) (us : List Value) (kw : List (Str × Value)) :
    Env0 P w K mg base (A.under (.builtin "type.__call__" ⟨.ref C :: us, kw⟩)) outer s H := ⟨by first | exact e.frames | (simpa [Around.under, Code.envs, Code.isFrame, pushEnvs] using e.frames), e.mod, e.bs, e.bsz, e.funs, e.frf, e.hok, e.bare⟩
theorem Env0.in1 {P : Program} {w : World} {K : PySem.W.Frag} {mg : Str → Option Value} {base : Heap} {A : Around} {outer : List Env} {s : Shared} {H : Hp} (e : Env0 P w K mg base A outer s H) :
    Env0 P w K mg base A.in1 outer s H := ⟨e.frames, e.mod, e.bs, e.bsz, e.funs, e.frf, e.hok, e.bare⟩

section
variable {X : Cx} {pins : List (Addr × Obj)} {σ : St} {H : Hp} {s s' : Shared}
/-- from a body: what a callee wants -/
theorem Inv.env0 (I : Inv X pins σ H s) : Env0 X.prog X.w X.K X.mg X.base X.A X.stack s H :=
  ⟨I.ok.frames, I.ok.mod, I.bs, Nat.le_trans I.ok.bsz I.sz, I.stack, I.stkFree, I.hok, I.bare⟩
/-- behind a call -/
theorem Inv.after {Q : VK} {u : Value} (I : Inv X pins σ H s) (h : CE X.stack X.prog X.w H s Q u s') : EP X pins σ Q u s' := by
  obtain ⟨v, H', os, bare, un, hok, r, q⟩ := h
  obtain ⟨hh, g, d, t, os'⟩ := s'
  obtain rfl : os' = s.os := os
  exact ⟨v, H', I.call (h' := hh) (g' := g) (d' := d) (t' := t) (ch := []) un hok bare (fun b z => absurd z (by simp)), r, q⟩
end

/-! ### calls -/
/-- f(..): the written arguments, then the defaults dvs; E: what is wanted of an exception -/
def tCall (sp : Sp) (dvs : List V) (E : XK) (t : TA) : TE := fun σ H Q => t σ H fun vs H1 => sp (vs ++ dvs) H1 Q E
/-- o.m(..) of an instance of the class at C -/
def tMeth (C : Addr) (m : Str) (sp : Sp) (dvs : List V) (E : XK) (ta : TE) (t : TA) : TE := fun σ H Q => ta σ H fun x H1 => ∃ a dx fs, x = .ref a ∧ H1 a = some (.ins C dx fs) ∧ fs.lookup m = none ∧
  t σ H1 fun vs H2 => sp (x :: (vs ++ dvs)) H2 Q E
/-- C(..): a new instance and its dict, then __init__ -/
def tMake (C : Addr) (sp : Sp) (dvs : List V) (E : XK) (t : TA) : TE := fun σ H Q => t σ H fun vs H1 => ∀ x dx, H1 x = none → H1 dx = none → dx ≠ x →
  sp (.ref x :: (vs ++ dvs)) (upd (upd H1 dx (.own x)) x (.ins C dx [])) (fun v H2 => v = .non ∧ Q (.ref x) H2) E

/-- how the parameters are bound: us the positional arguments, kw the keywords' values by name, ds the defaults that fill up -/
def Binds (K : PySem.W.Frag) (fd : FuncData) (ps : List Str) (ds : List Value) : Prop :=
  ∀ (s : Shared) (us : List Value), K.In s.heap → (us ++ ds).length = ps.length → BindsTo s fd ⟨us, []⟩ (ps.zip (us ++ ds))
/-- every parameter is given -/
theorem Binds.all {K : PySem.W.Frag} {fd : FuncData} {ps : List Str} (h : ∀ us : List Value, us.length = ps.length → bindArgs fd ⟨us, []⟩ = pure (ps.zip us)) : Binds K fd ps [] := fun s us _ hl => by
  rw [List.append_nil] at hl ⊢
  exact .of_eq (h us hl)

/-- an exception of a callee reaches what this body wants of exceptions -/
def Passes (CX : CXT) (X : Cx) (E : XK) : Prop := ∀ (pins : List (Addr × Obj)) (σ : St) (H : Hp) (s : Shared) (e : Value) (s' : Shared), Inv X pins σ H s → CX X.stack H s E e s' → X.xe e s'

section
variable {X : Cx} {CX : CXT} {k : Nat} {f C : Addr} {fd : FuncData} {ps : List Str} {sp : Sp} {dvs : List V} {ds : List Value} {E : XK} {x m : Str} {p pos apos : Pos} {e o : Expr} {es : List Expr} {ta : TE} {t : TA}

/-- the callee runs -/
theorem run_fn {pins : List (Addr × Obj)} {σ : St} {H : Hp} {s : Shared} {Q : VK} {us : List Value} {vs : List V} (F : FnOk X.prog X.w X.K X.mg X.base CX k f fd ps sp) (hr : Room k X.A) (hb : Binds X.K fd ps ds) (hd : Vals dvs ds) (hx : Passes CX X E)
    (I : Inv X pins σ H s) (r : Vals vs us) (h : sp (vs ++ dvs) H Q E) : wpAny (model X.prog X.w) X.A (call (.ref f) us) (EP X pins σ Q) X.xe s := by
  have r2 : Vals (vs ++ dvs) (us ++ ds) := r.append hd
  have hl : (us ++ ds).length = ps.length := by rw [← r2.length]; exact F.len _ _ _ _ h
  refine wpAny_call (codeAny_mono (F.run X.A X.stack s H ⟨us, []⟩ (us ++ ds) (vs ++ dvs) Q E hr I.env0 (hb s us I.kIn hl) r2 h) fun r s' hq => ?_)
  cases r with
  | error e => exact hx pins σ H s e s' I hq
  | ok fl =>
    cases fl with
    | ret u => exact I.after hq
    | next => exact False.elim hq
    | brk => exact False.elim hq
    | cont => exact False.elim hq

theorem pe_call (F : FnOk X.prog X.w X.K X.mg X.base CX k f fd ps sp) (hr : Room k X.A) (hg : Gl X x) (hm : X.mg x = some (.ref f)) (hk : PySem.W.keepIn X.K (.ref f) = true) (hb : Binds X.K fd ps ds) (hd : Vals dvs ds) (hx : Passes CX X E)
    (ha : PA X (e :: es) t) (hdb : (x == ("__debug__" : Str)) = false := by decide) (he : starEach (e :: es) X.env = (false, eval e X.env) :: starEach es X.env := by rfl) (hpl : (backTo pos (starEach es X.env)).any (·.1) = false := by rfl) :
    PE X (.Call (.Name x p) (e :: es) [] pos) (tCall sp dvs E t) := by
  intro pins s σ H Q I h
  refine wpAny_Call_Name_kw (ld_glob I hg hm ?_ hdb)
  refine PySem.W.callWith_K (h₀ := X.base) I.ok.mod.kin hk (thn (ha pos pins s σ H _ I h) fun us s1 ⟨vs, H1, I1, r, q⟩ => ⟨I1.kIn, ?_⟩) he hpl
  exact run_fn F hr hb hd hx I1 r q
theorem pe_call0 (F : FnOk X.prog X.w X.K X.mg X.base CX k f fd ps sp) (hr : Room k X.A) (hg : Gl X x) (hm : X.mg x = some (.ref f)) (hk : PySem.W.keepIn X.K (.ref f) = true) (hb : Binds X.K fd ps ds) (hd : Vals dvs ds) (hx : Passes CX X E)
    (hdb : (x == ("__debug__" : Str)) = false := by decide) : PE X (.Call (.Name x p) [] [] pos) (tCall sp dvs E tNil) := by
  intro pins s σ H Q I h
  refine wpAny_Call_Name_kw (ld_glob I hg hm ?_ hdb)
  exact PySem.W.callWith_K0 I.kIn hk (run_fn (us := []) F hr hb hd hx I .nil h)

/-- o.m(e, ..) -/
theorem pe_meth {pl : Sem Bool} (he : PE X o ta) (c : Cls X.K C) (hm : Meth X.K C m f) (F : FnOk X.prog X.w X.K X.mg X.base CX k f fd ps sp) (hr : Room k X.A) (hb : Binds X.K fd ps ds) (hd : Vals dvs ds) (hx : Passes CX X E) (ha : PA X (e :: es) t)
    (hst : starEach (e :: es) X.env = (false, eval e X.env) :: starEach es X.env := by rfl) (hpl : (backTo pos (starEach es X.env)).any (·.1) = false := by rfl)
    (ht : eval (.Call (.Attribute o m apos) (e :: es) [] pos) X.env = (do
      let ov ← eval o X.env
      standAt apos.atName
      let (f, first) ← holding [ov] (getMethod ov m pl)
      callWith pos f first (backTo pos (starEach (e :: es) X.env)) (backToKw pos (keywordEach [] X.env))) := by rfl) :
    PE X (.Call (.Attribute o m apos) (e :: es) [] pos) (tMeth C m sp dvs E ta t) := by
  intro pins s σ H Q I h
  refine PySem.W.methodCall_KW (pl := pl) (thn (he pins s σ H _ I h) fun u s1 ⟨x, H1, I1, rx, a, dx, fs, ex, ea, l, q⟩ => ?_) ht
  subst ex
  obtain rfl : u = Value.ref a := rx
  refine getmeth_ok I1 ea c hm l ?_
  refine PySem.W.callWith_K (first := [.ref a]) (h₀ := X.base) I.ok.mod.kin hm.kp (thn (ha pos pins s1 σ H1 _ I1 q) fun us s2 ⟨vs, H2, I2, r, q2⟩ => ⟨I2.kIn, ?_⟩) hst hpl
  exact run_fn (us := .ref a :: us) (vs := .ref a :: vs) F hr hb hd hx I2 (.cons rfl r) q2
/-- o.m() -/
theorem pe_meth0 {pl : Sem Bool} (he : PE X o ta) (c : Cls X.K C) (hm : Meth X.K C m f) (F : FnOk X.prog X.w X.K X.mg X.base CX k f fd ps sp) (hr : Room k X.A) (hb : Binds X.K fd ps ds) (hd : Vals dvs ds) (hx : Passes CX X E)
    (ht : eval (.Call (.Attribute o m apos) [] [] pos) X.env = (do
      let ov ← eval o X.env
      standAt apos.atName
      let (f, first) ← holding [ov] (getMethod ov m pl)
      callWith pos f first (backTo pos (starEach [] X.env)) (backToKw pos (keywordEach [] X.env))) := by rfl) :
    PE X (.Call (.Attribute o m apos) [] [] pos) (tMeth C m sp dvs E ta tNil) := by
  intro pins s σ H Q I h
  refine PySem.W.methodCall_KW (pl := pl) (thn (he pins s σ H _ I h) fun u s1 ⟨x, H1, I1, rx, a, dx, fs, ex, ea, l, q⟩ => ?_) ht
  subst ex
  obtain rfl : u = Value.ref a := rx
  refine getmeth_ok I1 ea c hm l ?_
  exact PySem.W.callWith_K0 (first := [.ref a]) I1.kIn hm.kp (run_fn (us := [.ref a]) (vs := [.ref a]) F hr hb hd hx I1 (.cons rfl .nil) q)

/-- what a class must have to be made -/
structure Mk (K : PySem.W.Frag) (C f : Addr) : Prop where
  makes : PySem.W.makesIn K C = true
  init : PySem.W.findIn K (.ref C) "__init__" = some (some (.ref f))
  fn : PySem.W.isFn K (.ref f) = true
  kp : PySem.W.keepIn K (.ref C) = true

theorem run_make {pins : List (Addr × Obj)} {σ : St} {H : Hp} {s : Shared} {Q : VK} {us : List Value} {vs : List V} (M : Mk X.K C f) (F : FnOk X.prog X.w X.K X.mg X.base CX k f fd ps sp) (hr : Room (k + 1) X.A) (hb : Binds X.K fd ps ds) (hd : Vals dvs ds)
    (hx : Passes CX X E) (I : Inv X pins σ H s) (r : Vals vs us)
    (h : ∀ x dx, H x = none → H dx = none → dx ≠ x → sp (.ref x :: (vs ++ dvs)) (upd (upd H dx (.own x)) x (.ins C dx [])) (fun v H2 => v = .non ∧ Q (.ref x) H2) E) :
    wpAny (model X.prog X.w) X.A (call (.ref C) us) (EP X pins σ Q) X.xe s := by
  have hq := h (s.heap.objs.size + 1) s.heap.objs.size (I.hok.fresh (Nat.le_succ _)) (I.hok.fresh (Nat.le_refl _)) (Nat.ne_of_lt (Nat.lt_succ_self _))
  have I2 := Inv.made (C := C) I
  have r2 : Vals (V.ref (s.heap.objs.size + 1) :: (vs ++ dvs)) (Value.ref (s.heap.objs.size + 1) :: (us ++ ds)) := .cons rfl (r.append hd)
  have hl : (Value.ref (s.heap.objs.size + 1) :: us ++ ds).length = ps.length := by
    have e := r2.length
    rw [F.len _ _ _ _ hq] at e
    exact e.symm
  refine wpAny_call (make_map (f := f) I.kIn M.makes M.init (beq_iff_eq.mp M.fn) (codeAny_mono (F.run _ X.stack _ _ ⟨Value.ref (s.heap.objs.size + 1) :: us, []⟩ (Value.ref (s.heap.objs.size + 1) :: (us ++ ds)) _ _ E (hr.make C us [])
    (I2.env0.make C us []) (hb _ (Value.ref (s.heap.objs.size + 1) :: us) I2.kIn hl) r2 hq) fun r s' hq' => ?_))
  cases r with
  | error e => exact hx pins σ _ _ e s' I2 hq'
  | ok fl =>
    cases fl with
    | ret u =>
      obtain ⟨v, H', I3, rv, ev, q3⟩ := I2.after hq'
      subst ev
      exact ⟨rv, ⟨V.ref (s.heap.objs.size + 1), H', I3, rfl, q3⟩⟩
    | next => exact False.elim hq'
    | brk => exact False.elim hq'
    | cont => exact False.elim hq'
theorem pe_make (M : Mk X.K C f) (F : FnOk X.prog X.w X.K X.mg X.base CX k f fd ps sp) (hr : Room (k + 1) X.A) (hg : Gl X x) (hm : X.mg x = some (.ref C)) (hb : Binds X.K fd ps ds) (hd : Vals dvs ds) (hx : Passes CX X E)
    (ha : PA X (e :: es) t) (hdb : (x == ("__debug__" : Str)) = false := by decide) (he : starEach (e :: es) X.env = (false, eval e X.env) :: starEach es X.env := by rfl) (hpl : (backTo pos (starEach es X.env)).any (·.1) = false := by rfl) :
    PE X (.Call (.Name x p) (e :: es) [] pos) (tMake C sp dvs E t) := by
  intro pins s σ H Q I h
  refine wpAny_Call_Name_kw (ld_glob I hg hm ?_ hdb)
  refine PySem.W.callWith_K (h₀ := X.base) I.ok.mod.kin M.kp (thn (ha pos pins s σ H _ I h) fun us s1 ⟨vs, H1, I1, r, q⟩ => ⟨I1.kIn, ?_⟩) he hpl
  exact run_make M F hr hb hd hx I1 r q
theorem pe_make0 (M : Mk X.K C f) (F : FnOk X.prog X.w X.K X.mg X.base CX k f fd ps sp) (hr : Room (k + 1) X.A) (hg : Gl X x) (hm : X.mg x = some (.ref C)) (hb : Binds X.K fd ps ds) (hd : Vals dvs ds) (hx : Passes CX X E)
    (hdb : (x == ("__debug__" : Str)) = false := by decide) : PE X (.Call (.Name x p) [] [] pos) (tMake C sp dvs E tNil) := by
  intro pins s σ H Q I h
  refine wpAny_Call_Name_kw (ld_glob I hg hm ?_ hdb)
  exact PySem.W.callWith_K0 I.kIn M.kp (run_make (us := []) M F hr hb hd hx I .nil h)
end

/-! ### keywords -/
/-- the values of the keywords, from the left -/
def PK (X : Cx) (kws : List Keyword) (t : TA) : Prop :=
  ∀ (pos : Pos) (pins : List (Addr × Obj)) (s : Shared) (σ : St) (H : Hp) (Q : List V → Hp → Prop), Inv X pins σ H s → t σ H Q → wpAny (model X.prog X.w) X.A (evalAll ((backToKw pos (keywordEach kws X.env)).map (·.2))) (AP X pins σ Q) X.xe s
section
variable {X : Cx} {CX : CXT} {k : Nat} {f C : Addr} {fd : FuncData} {ps ks : List Str} {sp : Sp} {E : XK} {x m : Str} {p pos apos kpos : Pos} {e o : Expr} {es : List Expr} {kws : List Keyword} {te ta : TE} {t tk : TA} {nm : Option Str}
theorem pk_nil : PK X [] tNil := fun _ _ _ _ H Q I h => wpAny_evalAll_nil ⟨[], H, I, .nil, h⟩
theorem pk_cons (ha : PE X e te) (hr : PK X kws t) : PK X (⟨nm, e, kpos⟩ :: kws) (tCons te t) := by
  intro pos pins s σ H Q I h
  show wpAny _ _ (evalAll ((do let v ← eval e X.env; standAt pos; pure v) :: (backToKw pos (keywordEach kws X.env)).map (·.2))) _ _ s
  refine wpAny_evalAll_cons (wpAny_bind (thn (ha pins s σ H _ I h) fun u s1 ⟨x, H1, I1, r1, q1⟩ => wpAny_bind (wpAny_standAt (wpAny_pure ?_))))
  exact thn (hr pos pins s1 σ H1 _ I1 q1) fun us s2 ⟨xs, H2, I2, r2, q2⟩ => ⟨x :: xs, H2, I2, .cons r1 r2, q2⟩

/-- how a call with keywords binds: g puts the positional values us and the keywords' values ws (names ks) in the parameters' order, defaults among them -/
structure KBinds (K : PySem.W.Frag) (fd : FuncData) (ps ks : List Str) (g : List Value → List Value → List Value) (gV : List V → List V → List V) : Prop where
  to : ∀ (s : Shared) (us ws : List Value), K.In s.heap → (g us ws).length = ps.length → BindsTo s fd ⟨us, ks.zip ws⟩ (ps.zip (g us ws))
  rel : ∀ {vs : List V} {us : List Value} {zs : List V} {ws : List Value}, Vals vs us → Vals zs ws → Vals (gV vs zs) (g us ws)
def tCallK (sp : Sp) (gV : List V → List V → List V) (E : XK) (t tk : TA) : TE := fun σ H Q => t σ H fun vs H1 => tk σ H1 fun zs H2 => sp (gV vs zs) H2 Q E
variable {g : List Value → List Value → List Value} {gV : List V → List V → List V}
theorem run_fnk {pins : List (Addr × Obj)} {σ : St} {H : Hp} {s : Shared} {Q : VK} {us ws : List Value} {vs zs : List V} (F : FnOk X.prog X.w X.K X.mg X.base CX k f fd ps sp) (hr : Room k X.A) (hb : KBinds X.K fd ps ks g gV) (hx : Passes CX X E)
    (I : Inv X pins σ H s) (r : Vals vs us) (rz : Vals zs ws) (h : sp (gV vs zs) H Q E) : wpAny (model X.prog X.w) X.A (call (.ref f) us (ks.zip ws)) (EP X pins σ Q) X.xe s := by
  have r2 := hb.rel r rz
  have hl : (g us ws).length = ps.length := by rw [← r2.length]; exact F.len _ _ _ _ h
  refine wpAny_call (codeAny_mono (F.run X.A X.stack s H ⟨us, ks.zip ws⟩ (g us ws) (gV vs zs) Q E hr I.env0 (hb.to s us ws I.kIn hl) r2 h) fun r s' hq => ?_)
  cases r with
  | error e => exact hx pins σ H s e s' I hq
  | ok fl =>
    cases fl with
    | ret u => exact I.after hq
    | next => exact False.elim hq
    | brk => exact False.elim hq
    | cont => exact False.elim hq
/-- f(e, .., k = v, ..) -/
theorem pe_callK (F : FnOk X.prog X.w X.K X.mg X.base CX k f fd ps sp) (hr : Room k X.A) (hg : Gl X x) (hm : X.mg x = some (.ref f)) (hk : PySem.W.keepIn X.K (.ref f) = true) (hb : KBinds X.K fd ps ks g gV) (hx : Passes CX X E)
    (ha : PA X (e :: es) t) (hkw : PK X kws tk) (hall : (backToKw pos (keywordEach kws X.env)).all (·.1.isSome) = true := by rfl) (hks : (backToKw pos (keywordEach kws X.env)).filterMap (·.1) = ks := by rfl)
    (hdb : (x == ("__debug__" : Str)) = false := by decide) (he : starEach (e :: es) X.env = (false, eval e X.env) :: starEach es X.env := by rfl)
    (hpl : ((backTo pos (starEach (e :: es) X.env)).any (·.1) || (backToKw pos (keywordEach kws X.env)).any (·.1.isNone)) = false := by rfl) :
    PE X (.Call (.Name x p) (e :: es) kws pos) (tCallK sp gV E t tk) := by
  intro pins s σ H Q I h
  refine wpAny_Call_Name_kw (ld_glob I hg hm ?_ hdb)
  refine PySem.W.callWith_KW (h₀ := X.base) I.ok.mod.kin hk hall (thn (ha pos pins s σ H _ I h) fun us s1 ⟨vs, H1, I1, r, q⟩ => ?_) hpl he
  refine thn (hkw pos pins s1 σ H1 _ I1 q) fun ws s2 ⟨zs, H2, I2, rz, q2⟩ => ⟨I2.kIn, ?_⟩
  rw [hks]
  exact run_fnk F hr hb hx I2 r rz q2
end

/-! ### a def's body keeps its promise -/
/-- names: the parameters first -/
structure FnScope (N P : List Str) (sc : Scope) : Prop where
  kind : sc.kind = .function
  co : sc.isCoroutine = false
  gen : sc.isGenerator = false
  nd : N.Nodup
  pre : N.take P.length = P
  par : ∀ x ∈ P, sc.names.lookup x = some .local ∨ sc.names.lookup x = some .cell
  nofree : ∀ y ∈ sc.names, y.2 ≠ .free

theorem bindL_out {kindOf : Str → Option NameKind} {x : Str} : ∀ {binds : List (Str × Value)} {m : Str → Option Value}, (∀ v, (x, v) ∉ binds) → bindL kindOf binds m x = m x
  | [], _, _ => rfl
  | (n, v) :: r, m, h => by
    unfold bindL
    rw [bindL_out fun w hw => h w (List.mem_cons_of_mem _ hw)]
    split
    · have : x ≠ n := by rintro rfl; exact h v List.mem_cons_self
      simp [this]
    · rfl
theorem bindC_out {kindOf : Str → Option NameKind} {x : Str} : ∀ {binds : List (Str × Value)} {m : Str → Option Value}, (∀ v, (x, v) ∉ binds) → bindC kindOf binds m x = m x
  | [], _, _ => rfl
  | (n, v) :: r, m, h => by
    unfold bindC
    rw [bindC_out fun w hw => h w (List.mem_cons_of_mem _ hw)]
    split
    · rfl
    · have : x ≠ n := by rintro rfl; exact h v List.mem_cons_self
      simp [this]
theorem bindL_get {kindOf : Str → Option NameKind} {x : Str} {v : Value} : ∀ {P : List Str} {vs : List Value} {i : Nat} {m : Str → Option Value}, P.Nodup → P[i]? = some x → vs[i]? = some v → kindOf x = some .local →
    bindL kindOf (P.zip vs) m x = some v
  | [], _, _, _, _, h, _, _ => by simp at h
  | _ :: _, [], _, _, _, _, h, _ => by simp at h
  | p :: P, w :: vs, 0, m, nd, h1, h2, hk => by
    simp at h1 h2; subst h1; subst h2
    show bindL kindOf ((p, w) :: P.zip vs) m p = _
    unfold bindL
    rw [bindL_out fun v hv => (List.nodup_cons.mp nd).1 (List.of_mem_zip hv).1, if_pos hk]
    simp
  | p :: P, w :: vs, i + 1, m, nd, h1, h2, hk => by
    show bindL kindOf ((p, w) :: P.zip vs) m x = _
    unfold bindL
    exact bindL_get (i := i) (List.nodup_cons.mp nd).2 (by simpa using h1) (by simpa using h2) hk
theorem bindC_get {kindOf : Str → Option NameKind} {x : Str} {v : Value} : ∀ {P : List Str} {vs : List Value} {i : Nat} {m : Str → Option Value}, P.Nodup → P[i]? = some x → vs[i]? = some v → kindOf x ≠ some .local →
    bindC kindOf (P.zip vs) m x = some v
  | [], _, _, _, _, h, _, _ => by simp at h
  | _ :: _, [], _, _, _, _, h, _ => by simp at h
  | p :: P, w :: vs, 0, m, nd, h1, h2, hk => by
    simp at h1 h2; subst h1; subst h2
    show bindC kindOf ((p, w) :: P.zip vs) m p = _
    unfold bindC
    rw [bindC_out fun v hv => (List.nodup_cons.mp nd).1 (List.of_mem_zip hv).1, if_neg hk]
    simp
  | p :: P, w :: vs, i + 1, m, nd, h1, h2, hk => by
    show bindC kindOf ((p, w) :: P.zip vs) m x = _
    unfold bindC
    exact bindC_get (i := i) (List.nodup_cons.mp nd).2 (by simpa using h1) (by simpa using h2) hk

/-- the names' values at the entry -/
def start (N : List Str) (vs : List V) : St := vs.map some ++ List.replicate (N.length - vs.length) none

/-- the context of a def's body, at its entry; an exception leaves the frame, then lies as CX says -/
def cxOf (CX : CXT) (P : Program) (w : World) (K : PySem.W.Frag) (mg : Str → Option Value) (base : Heap) (N : List Str) (qual : Str) (scope : Scope) (f : Addr) (cd : Value) (A : Around) (outer : List Env) (s : Shared) (H : Hp) (E : XK) : Cx where
  prog := P
  w := w
  K := K
  mg := mg
  base := base
  A := A.deeper (envOfC qual scope s.heap.objs.size f cd)
  N := N
  s₀ := s
  H₀ := H
  env := envOfC qual scope s.heap.objs.size f cd
  outer := outer
  stack := envOfC qual scope s.heap.objs.size f cd :: outer
  ex := []
  calm := true
  fn := fun _ => true
  pn := []
  xe := fun e s' => wpAny (model P w) (A.deeper (envOfC qual scope s.heap.objs.size f cd)) (leaving (envOfC qual scope s.heap.objs.size f cd) e) (fun _ s'' => CX outer H s E e s'') (fun e' s'' => CX outer H s E e' s'') s'

theorem cell_has {sc : Scope} {n : Nat} {x : Str} (h : sc.names.lookup x = some .cell) : ∃ c, (cellsFrom n sc.names []).lookup x = some c := by
  have q := PySem.W.cellsFrom_some sc.names n [] (.inl h)
  exact Option.isSome_iff_exists.mp q

theorem inv_start {CX : CXT} {P : Program} {w : World} {K : PySem.W.Frag} {mg : Str → Option Value} {base : Heap} {N ps : List Str} {qual : Str} {scope : Scope} {f : Addr} {cd : Value} {A : Around} {outer : List Env} {s s1 : Shared} {H : Hp} {E : XK} {us : List Value} {vs : List V}
    (S : FnScope N ps scope) (hd : A.handled = none) (e0 : Env0 P w K mg base A outer s H) (hl : vs.length = ps.length) (r : Vals vs us)
    (x : InCallC s s.heap.objs.size (bindL (envOfC qual scope s.heap.objs.size f cd).kindOf (ps.zip us) fun _ => none) (cellsFrom (s.heap.objs.size + 1) scope.names []) (bindC (envOfC qual scope s.heap.objs.size f cd).kindOf (ps.zip us) fun _ => none) s1) :
    Inv (cxOf CX P w K mg base N qual scope f cd A outer s H E) [] (start N vs) H s1 := by
  have hpl : ps.length ≤ N.length := by have := congrArg List.length S.pre; rw [List.length_take] at this; omega
  obtain ⟨h1, tk, rfl, hk⟩ := x.done
  have noA : ∀ b : Addr, b ∉ (cxOf CX P w K mg base N qual scope f cd A outer s H E).ex := fun b z => absurd (show b ∈ ([] : List Addr) from z) (by simp)
  refine ⟨⟨e0.mod, S.kind, rfl, rfl, Nat.le_refl _, fun y z c h1 h2 => ?_, fun y hy => ?_, fun y c _ h => ?_, fun _ => hd, Around.frames_deeper e0.frames, .inr ⟨rfl, rfl⟩, fun b z => absurd z (noA b), e0.bs, e0.bsz, fun b _ _ => noA b, fun b z => absurd z (noA b), e0.funs, e0.frf⟩,
    rfl, e0.bare, Un.kept hk, ⟨_, x.toInCall.ns, fun i y v h1 h2 h3 => ?_⟩, fun y c h => ⟨_, x.cell y c h⟩, e0.hok.fresh (Nat.le_refl _), fun y c h => ?_, fun p hp => absurd (show p ∈ ([] : List (Addr × Obj)) from hp) (by simp), e0.hok.kept hk, ?_⟩
  · exact name_of_addr x.apart (PySem.mem_of_lookup h1) (PySem.mem_of_lookup h2)
  · have hy : scope.names.lookup y = some .cell ∨ scope.names.lookup y = some .free := hy
    rcases hy with hy | hy
    · exact cell_has hy
    · exact absurd rfl (S.nofree _ (PySem.mem_of_lookup hy))
  · exact Nat.le_of_lt (x.above y c (PySem.mem_of_lookup h))
  · have hi : i < vs.length := by
      unfold start at h2
      by_cases hi : i < vs.length
      · exact hi
      · rw [List.getElem?_append_right (by simpa using hi)] at h2
        rw [List.getElem?_replicate] at h2
        split at h2 <;> cases h2
    have ha : vs[i]? = some v := by
      unfold start at h2
      rw [List.getElem?_append_left (by simpa using hi), List.getElem?_map] at h2
      cases e : vs[i]? with
      | none => rw [e] at h2; cases h2
      | some a => rw [e] at h2; cases h2; rfl
    obtain ⟨u, hu, rv⟩ := r.get ha
    have hp : ps[i]? = some y := by
      rw [← S.pre, List.getElem?_take_of_lt (by omega)]; exact h1
    have ndP : ps.Nodup := by rw [← S.pre]; exact S.nd.sublist (List.take_sublist _ _)
    refine ⟨u, rv, ?_⟩
    rcases S.par y (List.mem_of_getElem? hp) with k | k
    · exact .inl ⟨k, bindL_get ndP hp hu k⟩
    · obtain ⟨c, e⟩ := cell_has (n := s.heap.objs.size + 1) k
      refine .inr ⟨.inl k, c, e, ?_⟩
      have q := x.cell y c e
      rw [bindC_get ndP hp hu (by show scope.names.lookup y ≠ _; rw [k]; decide)] at q
      exact q
  · exact e0.hok.fresh (Nat.le_of_lt (x.above y c (PySem.mem_of_lookup h)))
  · unfold start
    show _ = N.length
    rw [List.length_append, List.length_map, List.length_replicate]
    omega

/-- THE RULE: a def (or a method) of the text, by its body. The body's reading t is chosen for each entry; it is run at the parameters' values -/
theorem fn_of {CX : CXT} {P : Program} {w : World} {K : PySem.W.Frag} {mg : Str → Option Value} {base : Heap} {k : Nat} {f : Addr} {name qual : Str} {params : Arguments} {body : List Stmt} {scope : Scope} {dV kV doc pm cdv ct oc : Value} {an od : Option Addr}
    {osl : Array (Option Value)} {N ps : List Str} {sp : Sp} (lk : K.lookup f = some ⟨oc, od, .func (PySem.W.fnOf name qual params body scope dV kV doc pm an cdv ct), osl⟩) (hcd : PySem.W.codeIn K cdv qual = true) (S : FnScope N ps scope)
    (len : ∀ vs H Q E, sp vs H Q E → vs.length = ps.length)
    (hbody : ∀ (A : Around) (outer : List Env) (s : Shared) (H : Hp) (vs : List V) (Q : VK) (E : XK), Room k (A.deeper (envOfC qual scope s.heap.objs.size f cdv)) → sp vs H Q E →
      ∃ t, PSs (cxOf CX P w K mg base N qual scope f cdv A outer s H E) body t ∧ t { nx := fun _ H' => Q .non H', rt := Q } (start N vs) H) :
    FnOk P w K mg base CX (k + 1) f (PySem.W.fnOf name qual params body scope dV kV doc pm an cdv ct) ps sp := by
  refine ⟨len, fun A outer s H args us vs Q E hr e0 hb r hsp => ?_⟩
  have hl := len _ _ _ _ hsp
  have KX : K.In s.heap := e0.mod.kin.keeps fun b o e => (e0.bs b o e).1
  have lim : s.heap.NoLimit := e0.mod.nolimit.keeps fun b o e => (e0.bs b o e).1
  have hkind : ∀ y ∈ ps.zip us, scope.names.lookup y.1 = some .local ∨ (scope.names.lookup y.1 = some .cell ∧ ((cellsFrom (s.heap.objs.size + 1) scope.names []).lookup y.1).isSome = true) := fun ⟨n, v⟩ hy => by
    rcases S.par n (List.of_mem_zip hy).1 with q | q
    · exact .inl q
    · exact .inr ⟨q, PySem.W.cellsFrom_some _ _ _ (.inl q)⟩
  refine codeAny_call_function hr.depth (KX _ _ lk) rfl S.co S.gen rfl (PySem.W.codeRec_of KX hcd) (hb _ _ _ _ ?_)
  refine wpAny_newFunctionEnv_cells S.kind hkind fun env he s1 x => ?_
  subst he
  refine ⟨lim.keeps x.toInCall.keep, codeAny_func ?_⟩
  obtain ⟨t, ht, hq⟩ := hbody A outer s H vs Q E (hr.deeper _) hsp
  have I : Inv (cxOf CX P w K mg base N qual scope f cdv A outer s H E) [] (start N vs) H s1 := inv_start S hr.hd e0 hl r x
  refine wpAny_mono (ht [] s1 (start N vs) H _ I hq) (fun fl s' hs => ?_) fun e s' hs => hs
  have fin : ∀ {σ' : St} {H' : Hp} {v : V} {u : Value}, Inv (cxOf CX P w K mg base N qual scope f cdv A outer s H E) [] σ' H' s' → RelV v u → Q v H' → CE outer P w H s Q u s' :=
    fun {σ' H' v u} J rv q => ⟨v, H', J.os, J.bare, J.base, J.hok, rv, q⟩
  cases fl with
  | ret u =>
    obtain ⟨v, σ', H', J, rv, q⟩ := hs
    exact fin J rv q
  | next =>
    obtain ⟨σ', H', J, q⟩ := hs
    exact fin (v := V.non) (u := Value.none) J rfl q
  | brk =>
    obtain ⟨_, _, _, q⟩ := hs
    exact False.elim q
  | cont =>
    obtain ⟨_, _, _, q⟩ := hs
    exact False.elim q
end L2

namespace L2
open PySem PySem.Spec PyProof.Rows
section
variable {X : Cx} {x : Str} {p pos : Pos} {e : Expr} {es : List Expr} {t : TA} {id T : String} {r : List V → Hp → VK → Prop}

def tCB (r : List V → Hp → VK → Prop) (t : TA) : TE := fun σ H Q => t σ H fun vs H1 => r vs H1 Q
/-- f(e, ..), f a built-in function -/
theorem pe_callB (hc : CallR X (.builtin id) r) (hg : Gl X x) (hm : X.mg x = none) (hv : bootBuiltins x = some (.builtin id)) (ha : PA X (e :: es) t) (hn : x ≠ "__name__" := by decide) (hdb : (x == ("__debug__" : Str)) = false := by decide)
    (he : starEach (e :: es) X.env = (false, eval e X.env) :: starEach es X.env := by rfl) (hpl : (backTo pos (starEach es X.env)).any (·.1) = false := by rfl) : PE X (.Call (.Name x p) (e :: es) [] pos) (tCB r t) := by
  intro pins s σ H Q I h
  refine wpAny_Call_Name_kw (ld_blt I hg hm hv ?_ hn hdb)
  exact PyProof.Rows.callWith_builtin1 (thn (ha pos pins s σ H _ I h) fun us s1 ⟨vs, H1, I1, r1, q1⟩ => hc pins s1 σ H1 vs us Q I1 r1 q1) he hpl
/-- T(e, ..), T a built-in type -/
theorem pe_callTy (hc : CallR X (.type T) r) (hg : Gl X x) (hm : X.mg x = none) (hv : bootBuiltins x = some (.type T)) (ha : PA X (e :: es) t) (hn : x ≠ "__name__" := by decide) (hdb : (x == ("__debug__" : Str)) = false := by decide)
    (he : starEach (e :: es) X.env = (false, eval e X.env) :: starEach es X.env := by rfl) (hpl : (backTo pos (starEach es X.env)).any (·.1) = false := by rfl) : PE X (.Call (.Name x p) (e :: es) [] pos) (tCB r t) := by
  intro pins s σ H Q I h
  refine wpAny_Call_Name_kw (ld_blt I hg hm hv ?_ hn hdb)
  exact PyProof.Rows.callWith_type1 (thn (ha pos pins s σ H _ I h) fun us s1 ⟨vs, H1, I1, r1, q1⟩ => hc pins s1 σ H1 vs us Q I1 r1 q1) he hpl
/-- T() -/
theorem pe_callTy0 (hc : CallR X (.type T) r) (hg : Gl X x) (hm : X.mg x = none) (hv : bootBuiltins x = some (.type T)) (hn : x ≠ "__name__" := by decide) (hdb : (x == ("__debug__" : Str)) = false := by decide) :
    PE X (.Call (.Name x p) [] [] pos) (tCB r tNil) := by
  intro pins s σ H Q I h
  refine wpAny_Call_Name_kw (ld_blt I hg hm hv ?_ hn hdb)
  exact PyProof.Rows.callWith_type0 (hc pins s σ H [] [] Q I .nil h)
end
end L2

namespace HT
open PySem PyProof.Rows

/-- t < u of tuples of ints -/
def lexLt : List Int → List Int → Bool
  | [], [] => false
  | [], _ :: _ => true
  | _ :: _, [] => false
  | x :: xs, y :: ys => if x = y then lexLt xs ys else decide (x < y)
theorem lexLt_cons (x y : Int) (xs ys : List Int) : lexLt (x :: xs) (y :: ys) = if x = y then lexLt xs ys else decide (x < y) := rfl
theorem lexLt_nil_nil : lexLt [] [] = false := rfl
theorem lexLt_nil_cons (y : Int) (ys : List Int) : lexLt [] (y :: ys) = true := rfl
theorem lexLt_cons_nil (x : Int) (xs : List Int) : lexLt (x :: xs) [] = false := rfl

theorem eqAt_int (A : Around) (s : Shared) (a : Int) (t : Tok) (c : Int) (u : Tok) : ∃ e, SeqAt.EqAt A s (.int a t) (.int c u) e ∧ (e = true ↔ a = c) :=
  ⟨(a == c), SeqAt.EqAt.int_int a t c u, by simp⟩
theorem rcLt_int (A : Around) (s : Shared) (a : Int) (t : Tok) (c : Int) (u : Tok) (prog : Program) (w : World) (E : Value → Shared → Prop) (Q : Value → Shared → Prop) (h : Q (.bool (decide (a < c))) s) :
    wpAny (model prog w) A (richCompare .Lt (.int a t) (.int c u)) Q E s :=
  (PyProof.Rows.lt_int h : wpAny (model prog w) A (compareOp .Lt (.int a t) (.int c u)) Q E s)

section
open PySem.SeqAt
open PySem.AutoSeq1 (wpAny_loadPart')
open PySem.MeetsSeq PySem.MeetsSeq2 PySem.MeetsSeq3

theorem tuple_lt_ints (l b : Addr) (items items2 : Array Value) (n n2 : Nat) (dd dd2 : Option Addr) (sl sl2 : Array (Option Value)) (ns ms : List Int) (hi : IntsAre items.toList ns) (hj : IntsAre items2.toList ms) :
    Meets (Builtin.«tuple.__lt__» ⟨[.ref l, .ref b], []⟩)
      (fun _ R s => s.heap.get? l = some { cls := .type "tuple", dict := dd, data := .seq items n, slots := sl } ∧ s.heap.get? b = some { cls := .type "tuple", dict := dd2, data := .seq items2 n2, slots := sl2 } ∧
        R (.ok (.ret (.bool (lexLt ns ms)))) s) :=
  .of_wp fun prog w A R s h => by
    obtain ⟨hp, g, d, tk, os⟩ := s; obtain ⟨hl, hb, h⟩ := h
    have f2 := AutoSeq1.sub_tuple_tuple
    have z1 : items.size = ns.length := by rw [← hi.length]; simp
    have z2 : items2.size = ms.length := by rw [← hj.length]; simp
    wp_walk using wpAny_loadPart' hl, wpAny_loadPart' hb, wpAny_forIn_list _ (fun rest b s' => b.1 = none ∧ s' = ⟨hp, g, d, tk, os⟩ ∧ ∃ (vs ws : List Value) (ns' ms' : List Int), rest = vs.zip ws ∧
      IntsAre vs ns' ∧ IntsAre ws ms' ∧ ns'.length + items2.size = ms'.length + items.size ∧ R (.ok (.ret (.bool (lexLt ns' ms')))) ⟨hp, g, d, tk, os⟩) _
    case turn =>
      rintro ⟨y, x⟩ rest b s' ⟨hb', rfl, vs, ws, ns', ms', hz, hvi, hwi, hlen, hR⟩
      cases hvi with
      | nil => rw [List.zip_nil_left] at hz; cases hz
      | cons a t hvi' =>
        cases hwi with
        | nil => rw [List.zip_nil_right] at hz; cases hz
        | cons c u hwi' =>
          rw [List.zip_cons_cons] at hz
          injection hz with hyx hrest
          injection hyx with hy hx
          subst hy hx
          rw [lexLt_cons] at hR
          simp only [List.length_cons] at hlen
          obtain ⟨e, he, hiff⟩ := eqAt_int A.in1 ⟨hp, g, d, tk, os⟩ a t c u
          refine wpAny_bind (he prog w _ _ ?_)
          cases e with
          | true =>
            rw [if_pos (hiff.mp rfl)] at hR
            wp_walk
            exact ⟨rfl, rfl, _, _, _, _, hrest, hvi', hwi', by omega, hR⟩
          | false =>
            rw [if_neg (fun q => absurd (hiff.mpr q) Bool.false_ne_true)] at hR
            have hri := rcLt_int A.in1 ⟨hp, g, d, tk, os⟩ a t c u prog w
            wp_walk using hri
            exact ⟨_, rfl, by simpa using hR⟩
    case fin =>
      rintro ⟨b1, b2⟩ s' ⟨hb', rfl, vs, ws, ns', ms', hz, hvi, hwi, hlen, hR⟩
      simp only at hb'
      subst hb'
      have hv : lexLt ns' ms' = decide (items.size < items2.size) := by
        cases hvi with
        | nil =>
          cases hwi with
          | nil =>
            simp only [List.length_nil] at hlen
            rw [lexLt_nil_nil]
            exact (decide_eq_false (by omega)).symm
          | cons c u hw =>
            simp only [List.length_nil, List.length_cons] at hlen
            rw [lexLt_nil_cons]
            exact (decide_eq_true (by omega)).symm
        | cons a t hv =>
          cases hwi with
          | nil =>
            simp only [List.length_nil, List.length_cons] at hlen
            rw [lexLt_cons_nil]
            exact (decide_eq_false (by omega)).symm
          | cons c u hw =>
            rw [List.zip_cons_cons] at hz
            cases hz
      rw [hv] at hR
      wp_walk
      exact ⟨_, rfl, by simpa [Builtin.Tuple.tupleCompareSizes] using hR⟩
    case h =>
      exact ⟨rfl, rfl, items.toList, items2.toList, ns, ms, rfl, hi, hj, by omega, h⟩
end

section
variable {prog : Program} {w : World} {A : Around} {E : Value → Shared → Prop} {s : Shared}

theorem lt_tupInts {l b : Addr} {items items2 : Array Value} {ns ms : List Int} {Q : Value → Shared → Prop} (hl : IsTup s.heap l items) (hb : IsTup s.heap b items2) (hi : IntsAre items.toList ns) (hj : IntsAre items2.toList ms)
    (hu : A.units < cLine) (h : Q (.bool (lexLt ns ms)) s) : wpAny (model prog w) A (compareOp .Lt (.ref l) (.ref b)) Q E s := by
  obtain ⟨⟨cls, dd, data, sl⟩, ho, hc, n, hd⟩ := id hl
  obtain ⟨⟨cls2, dd2, data2, sl2⟩, ho2, hc2, n2, hd2⟩ := id hb
  simp only at hc hd hc2 hd2
  subst hc hd hc2 hd2
  exact richCompare_meets_room (op := .Lt) ⟨_, ho, rfl⟩ ⟨_, ho2, rfl⟩ PySem.F.slot_tuple_lt PySem.F.entry_tuple_lt (PySem.F.args_tuple_lt_2 _ _) (tuple_lt_ints l b items items2 n n2 dd dd2 sl sl2 ns ms hi hj)
    ⟨ho, ho2, show Value.bool (lexLt ns ms) ≠ Value.notImplemented ∧ Q (.bool (lexLt ns ms)) s from ⟨(fun x => nomatch x), h⟩⟩ hu

/-- t + u, t not empty -/
theorem cat_tup {t b : Addr} {vs ws : List Value} {Q : Value → Shared → Prop} (ht : IsTup s.heap t vs.toArray) (hb : IsTup s.heap b ws.toArray) (hv : vs ≠ [])
    (h1 : ws = [] → Q (.ref t) s) (h2 : ws ≠ [] → Q (.ref s.heap.objs.size) { s with heap := s.heap.push { cls := .type "tuple", data := .seq (vs ++ ws).toArray } })
    (hsz : vs.length + ws.length ≤ sizeLine) : wpAny (model prog w) A (binaryOp .Add (.ref t) (.ref b)) Q E s := by
  obtain ⟨⟨cls, dd, data, sl⟩, ho, hc, n, hd⟩ := id ht
  obtain ⟨⟨cls2, dd2, data2, sl2⟩, ho2, hc2, n2, hd2⟩ := id hb
  simp only at hc hd hc2 hd2
  subst hc hd hc2 hd2
  have e : vs.toArray ++ ws.toArray = (vs ++ ws).toArray := by simp
  by_cases hw : ws = []
  · exact concat_meets ⟨_, ho, rfl⟩ ⟨_, ho2, rfl⟩ noFill_tuple_add seq_tuple_add PySem.F.slot_tuple_add PySem.F.entry_tuple_add (PySem.F.args_tuple_add_2 _ _)
      (tuple_addW1 t b vs.toArray ws.toArray n n2 dd dd2 sl sl2 (by simpa using hv) (by simp [hw])) ⟨ho, ho2, h1 hw⟩
  · refine concat_meets ⟨_, ho, rfl⟩ ⟨_, ho2, rfl⟩ noFill_tuple_add seq_tuple_add PySem.F.slot_tuple_add PySem.F.entry_tuple_add (PySem.F.args_tuple_add_2 _ _)
      (tuple_addW2 t b vs.toArray ws.toArray n n2 dd dd2 sl sl2 (by simpa using hv) (by simpa using hw) (by rw [List.size_toArray, List.size_toArray]; exact hsz)) ⟨ho, ho2, ?_⟩
    rw [e]
    exact h2 hw

/-! ### t[a:b], not the whole -/
/-- a slice's bound as a place among n (d where it is left out) -/
def sIx (n d : Nat) : Option Int → Nat
  | none => d
  | some v => if v < 0 then (v + (n : Int)).toNat else min v.toNat n
theorem sIx_none (n d : Nat) : sIx n d none = d := rfl
theorem sIx_nat (n d k : Nat) : sIx n d (some (k : Int)) = min k n := by
  show (if (k : Int) < 0 then ((k : Int) + (n : Int)).toNat else min (k : Int).toNat n) = min k n
  rw [if_neg (by omega), Int.toNat_natCast]
theorem sIx_le (n d : Nat) (hd : d ≤ n) (o : Option Int) : sIx n d o ≤ n := by
  cases o with
  | none => exact hd
  | some v =>
    show (if v < 0 then (v + (n : Int)).toNat else min v.toNat n) ≤ n
    by_cases hv : v < 0
    · rw [if_pos hv]; omega
    · rw [if_neg hv]; exact Nat.min_le_right _ _
theorem clip_eq (v : Int) (n d : Nat) : (if v < 0 then max (v + (n : Int)) 0 else min v (n : Int)) = ((sIx n d (some v) : Nat) : Int) := by
  show (if v < 0 then max (v + (n : Int)) 0 else min v (n : Int)) = (((if v < 0 then (v + (n : Int)).toNat else min v.toNat n) : Nat) : Int)
  by_cases hv : v < 0
  · simp only [if_pos hv]; omega
  · simp only [if_neg hv]; omega
theorem adjust_gen (lo hi : Option Int) (n : Nat) : Builtin.Slice.sliceAdjust lo hi 1 (n : Int) = (((sIx n 0 lo : Nat) : Int), ((sIx n n hi : Nat) : Int)) := by
  have h1 : ¬ ((1 : Int) < 0) := by omega
  unfold Builtin.Slice.sliceAdjust
  simp only [h1, if_false]
  refine Prod.ext ?_ ?_
  · cases lo with
    | none => rfl
    | some v => exact clip_eq v n 0
  · cases hi with
    | none => rfl
    | some v => exact clip_eq v n n
theorem places_gen (i j : Nat) : Builtin.Slice.slicePlaces (i : Int) (j : Int) 1 = j - i := by
  unfold Builtin.Slice.slicePlaces
  have h1 : (1 : Int) > 0 := by omega
  simp only [h1, if_true, Int.ediv_one]
  split <;> omega
theorem slicePart_ {v : Value} {o : Option Int} {Q : Option Int → Shared → Prop} (p : IsPart v o) (h : Q o s) : wpAny (model prog w) A (Builtin.Slice.slicePartIndex v) Q E s := by
  cases p with
  | none => exact slicePart_none h
  | int i t => exact slicePart_int h
theorem sliceApplied_gen {sl : Addr} {vl vu : Value} {lo hi : Option Int} {n : Nat} {Q : Int × Int × Nat → Shared → Prop} (hs : s.heap.IsSliceOf sl vl vu .none) (pl : IsPart vl lo) (pu : IsPart vu hi)
    (h : Q (((sIx n 0 lo : Nat) : Int), 1, sIx n n hi - sIx n 0 lo) s) : wpAny (model prog w) A (Builtin.Slice.sliceApplied (.ref sl) (pure (n : Int))) Q E s := by
  obtain ⟨os, hos, hcs, hds⟩ := id hs
  unfold Builtin.Slice.sliceApplied Builtin.Slice.sliceFields
  refine wpAny_bind (wpAny_bind (wpAny_field hos hds (x := vl) rfl (wpAny_bind (wpAny_field hos hds (x := vu) rfl (wpAny_bind (wpAny_field hos hds (x := .none) rfl (wpAny_pure ?_)))))))
  refine wpAny_bind (slicePart_none ?_)
  show wpAny _ _ (if ((1 : Int) == 0) = true then _ else _) _ _ s
  rw [if_neg (by decide)]
  refine wpAny_bind (slicePart_ pl (wpAny_bind (slicePart_ pu (wpAny_bind (wpAny_pure ?_)))))
  show wpAny _ _ (match Builtin.Slice.sliceAdjust lo hi 1 (n : Int) with | (lo, hi) => pure (lo, (1 : Int), Builtin.Slice.slicePlaces lo hi 1)) _ _ s
  rw [adjust_gen lo hi n]
  show wpAny _ _ (pure (((sIx n 0 lo : Nat) : Int), (1 : Int), Builtin.Slice.slicePlaces ((sIx n 0 lo : Nat) : Int) ((sIx n n hi : Nat) : Int) 1)) _ _ s
  rw [places_gen]
  exact wpAny_pure h
theorem pick_gen (xs : Array Value) (i k : Nat) : ((List.range k).filterMap fun (m : Nat) => xs[((i : Int) + (m : Int) * 1).toNat]?).toArray = ((xs.toList.drop i).take k).toArray := by
  have e : (fun (m : Nat) => xs[((i : Int) + (m : Int) * 1).toNat]?) = fun m => xs[i + m]? := by
    funext m
    have : ((i : Int) + (m : Int) * 1).toNat = i + m := by omega
    rw [this]
  rw [e]
  have := pick_run xs i k
  rw [List.filterMap_map] at this
  have e2 : ((fun x => xs[x]?) ∘ fun x => i + x) = fun m => xs[i + m]? := rfl
  rw [e2] at this
  rw [this]

theorem getItem_tuple_cut {t sl : Addr} {items : Array Value} {vl vu : Value} {lo hi : Option Int} {Q : Value → Shared → Prop} (ht : IsTup s.heap t items) (hs : s.heap.IsSliceOf sl vl vu .none) (pl : IsPart vl lo) (pu : IsPart vu hi)
    (hw : ¬ (sIx items.size 0 lo = 0 ∧ sIx items.size items.size hi = items.size))
    (h : Q (.ref s.heap.objs.size) { s with heap := s.heap.push { cls := .type "tuple", data := .seq ((items.toList.drop (sIx items.size 0 lo)).take (sIx items.size items.size hi - sIx items.size 0 lo)).toArray } })
    (hsz : items.size ≤ sizeLine) : wpAny (model prog w) A (getItem (.ref t) (.ref sl)) Q E s := by
  have htake : sizeOk (.seq ((items.toList.drop (sIx items.size 0 lo)).take (sIx items.size items.size hi - sIx items.size 0 lo)).toArray) := by
    show ((items.toList.drop (sIx items.size 0 lo)).take (sIx items.size items.size hi - sIx items.size 0 lo)).toArray.size ≤ sizeLine
    rw [List.size_toArray, List.length_take, List.length_drop, Array.length_toList]
    omega
  have hj : sIx items.size items.size hi ≤ items.size := sIx_le _ _ (Nat.le_refl _) hi
  obtain ⟨os, hos, hcs, hds⟩ := id hs
  have hTs : s.TypeIs (.ref sl) "slice" := ⟨os, hos, hcs⟩
  unfold getItem
  try with_reducible refine wpAny_holding ?_
  first | refine wpAny_bind (wpAny_pure ?_) | skip
  refine wpAny_bind (wpAny_sequenceKey ht.typeIs (by decide) ?_)
  refine wpAny_bind (wpAny_callSpecial?_slot (name := Str.ofString "__getitem__") ht.typeIs PyProof.Rows.slot_tuple_getitem
    (wpAny_call_entry PyProof.Rows.slot_tuple_getitem ht.typeIs entry_tuple_getitem ?_ (args_tuple_getitem _ _)))
  show wpAny _ _ (Builtin.Tuple.tupleItemsOf (.ref t) >>= _) _ _ s
  refine wpAny_bind (tupleItemsOf_ ht ?_)
  refine wpAny_bind (wpAny_typeOf hTs ?_)
  rw [if_pos (by decide)]
  refine wpAny_bind (sliceApplied_gen hs pl pu ?_)
  have hno : ¬ ((((sIx items.size 0 lo : Nat) : Int) == 0 && (1 : Int) == 1 && (sIx items.size items.size hi - sIx items.size 0 lo) == items.size) = true) := by
    intro q
    rw [Bool.and_eq_true, Bool.and_eq_true] at q
    have q1 : ((sIx items.size 0 lo : Nat) : Int) = 0 := eq_of_beq q.1.1
    have q2 : sIx items.size items.size hi - sIx items.size 0 lo = items.size := eq_of_beq q.2
    exact hw ⟨by omega, by omega⟩
  show wpAny _ _ (if (((sIx items.size 0 lo : Nat) : Int) == 0 && (1 : Int) == 1 && (sIx items.size items.size hi - sIx items.size 0 lo) == items.size) = true then _ else _) _ _ s
  rw [if_neg hno, pick_gen]
  first
    | exact wpAny_bind (m := Builtin.Tuple.tupleExact _) (wpAny_newObj_type (wpAny_pure ⟨_, rfl, wpAny_pure h⟩) htake)
    | exact wpAny_bind (m := Builtin.Tuple.tupleExact _) (wpAny_newObj_type (wpAny_bind (wpAny_pure (wpAny_pure ⟨_, rfl, wpAny_pure h⟩))) htake)
    | exact wpAny_bind (wpAny_bind (m := Builtin.Tuple.tupleExact _) (wpAny_newObj_type (wpAny_pure (wpAny_pure ⟨_, rfl, wpAny_pure h⟩)) htake))
    | exact wpAny_bind (wpAny_bind (m := Builtin.Tuple.tupleExact _) (wpAny_newObj_type (wpAny_pure ⟨_, rfl, wpAny_pure h⟩) htake))
end
end HT

namespace L2
open PySem PySem.Spec PyProof.Rows

/-! ### the parts of a slice -/
abbrev TO := St → Hp → (Option Int → Hp → Prop) → Prop
/-- a slice's part (left out, or an int) -/
def PO (X : Cx) (e : Option Expr) (t : TO) : Prop :=
  ∀ (pins : List (Addr × Obj)) (s : Shared) (σ : St) (H : Hp) (Q : Option Int → Hp → Prop), Inv X pins σ H s → t σ H Q →
    wpAny (model X.prog X.w) X.A (evalPart e X.env) (fun u s' => ∃ o H', Inv X pins σ H' s' ∧ IsPart u o ∧ Q o H') X.xe s
def tNoPart : TO := fun _ H Q => Q none H
def tPart (t : TE) : TO := fun σ H Q => t σ H fun x H1 => ∃ i, x = .int i ∧ Q (some i) H1

theorem intsAre_of {ns : List Int} : ∀ {us : List Value}, Vals (ns.map V.int) us → IntsAre us ns := by
  induction ns with
  | nil => intro us r; rw [List.map_nil] at r; cases r; exact .nil
  | cons n ns ih =>
    intro us r
    rw [List.map_cons] at r
    cases r with
    | cons r1 r2 =>
      obtain ⟨t, e⟩ := r1
      subst e
      exact .cons n t (ih r2)

section
variable {X : Cx} {e : Expr} {te : TE} {lo hi : Option Expr} {tl th : TO} {pos p2 : Pos}

theorem po_none : PO X none tNoPart := by
  intro pins s σ H Q I h
  rw [evalPart_none]
  exact wpAny_pure ⟨none, H, I, .none, h⟩
theorem po_some (h : PE X e te) : PO X (some e) (tPart te) := by
  intro pins s σ H Q I hw
  rw [evalPart_some]
  refine thn (h pins s σ H _ I hw) fun u s1 ⟨x, H1, I1, r1, q1⟩ => ?_
  obtain ⟨i, rfl, q⟩ := q1
  obtain ⟨t, rfl⟩ := r1
  exact ⟨some i, H1, I1, .int i t, q⟩

/-- what a slice of a value is, by values: the slice object stands at sl -/
def SlR (X : Cx) (r : V → Option Int → Option Int → Hp → VK → Prop) : Prop :=
  ∀ (pins : List (Addr × Obj)) (s : Shared) (σ : St) (H : Hp) (x : V) (v vl vu : Value) (lo hi : Option Int) (sl : Addr) (Q : VK), Inv X pins σ H s → RelV x v → s.heap.IsSliceOf sl vl vu .none → IsPart vl lo → IsPart vu hi → r x lo hi H Q →
    ∃ T id, typeLookup (.type T) "__getitem__" = pure (some (.builtin id)) ∧ s.TypeIs v T ∧ wpAny (model X.prog X.w) X.A (getItem v (.ref sl)) (EP X pins σ Q) X.xe s
theorem SlR.or {r r' : V → Option Int → Option Int → Hp → VK → Prop} (h : SlR X r) (h' : SlR X r') : SlR X (fun x lo hi H Q => r x lo hi H Q ∨ r' x lo hi H Q) := by
  intro pins s σ H x v vl vu lo hi sl Q I rx hs pl pu q
  rcases q with q | q
  · exact h pins s σ H x v vl vu lo hi sl Q I rx hs pl pu q
  · exact h' pins s σ H x v vl vu lo hi sl Q I rx hs pl pu q
def tSl (r : V → Option Int → Option Int → Hp → VK → Prop) (te : TE) (tl th : TO) : TE := fun σ H Q => te σ H fun x H1 => tl σ H1 fun l H2 => th σ H2 fun u H3 => r x l u H3 Q
/-- a[lo:hi], any a -/
theorem pe_slice {r : V → Option Int → Option Int → Hp → VK → Prop} (hr : SlR X r) (he : PE X e te) (hl : PO X lo tl) (hu : PO X hi th) : PE X (.Subscript e (.Slice lo hi none p2) pos) (tSl r te tl th) := by
  intro pins s σ H Q I h
  refine Subscript_ (thn (he pins s σ H _ I h) fun v s1 ⟨x, H1, I1, r1, q1⟩ => ?_)
  refine wpAny_Slice (thn (hl pins s1 σ H1 _ I1 q1) fun vl s2 ⟨l, H2, I2, pl, q2⟩ => thn (hu pins s2 σ H2 _ I2 q2) fun vu s3 ⟨u, H3, I3, pu, q3⟩ => ?_)
  rw [evalPart_none]
  refine wpAny_pure ?_
  have I4 : Inv X pins σ H3 { s3 with heap := s3.heap.push { cls := .type "slice", data := .fields #[vl, vu, .none] } } := I3.kept (t' := s3.toks) fun b ob q => Heap.get?_push_of_some _ q
  obtain ⟨T, id, hT, ht, hg⟩ := hr pins { s3 with heap := s3.heap.push { cls := .type "slice", data := .fields #[vl, vu, .none] } } σ H3 x v vl vu l u s3.heap.objs.size Q I4 r1 (Heap.IsSliceOf.new ..) pl pu q3
  show wpAny (model X.prog X.w) X.A (subscriptTail e (.Slice lo hi none p2) v (.ref s3.heap.objs.size)) (EP X pins σ Q) X.xe { s3 with heap := s3.heap.push { cls := .type "slice", data := .fields #[vl, vu, .none] } }
  exact tail_any (ops := [.ref s3.heap.objs.size, v]) ht hT hg (by with_unfolding_all rfl)

/-- the items of xs[lo:hi] -/
def cutV (xs : List V) (lo hi : Option Int) : List V := (xs.drop (HT.sIx xs.length 0 lo)).take (HT.sIx xs.length xs.length hi - HT.sIx xs.length 0 lo)
theorem cutV_length (xs : List V) (lo hi : Option Int) : (cutV xs lo hi).length ≤ xs.length := by
  unfold cutV
  rw [List.length_take, List.length_drop]
  omega
/-- t[lo:hi], not the whole of it (the whole would be t itself) -/
def rSlT (K : PySem.W.Frag) : V → Option Int → Option Int → Hp → VK → Prop := fun x lo hi H Q => ∃ a xs, x = .ref a ∧ SqT K H a xs ∧
  ¬ (HT.sIx xs.length 0 lo = 0 ∧ HT.sIx xs.length xs.length hi = xs.length) ∧ ∀ p, H p = none → Q (.ref p) (upd H p (.tup (cutV xs lo hi)))
theorem sl_tup : SlR X (rSlT X.K) := by
  intro pins s σ H x v vl vu lo hi sl Q I rx hs pl pu h
  obtain ⟨a, xs, rfl, hx, hw, q⟩ := h
  cases rx
  obtain ⟨its, r, ht, hz⟩ := I.tuple hx
  have hlen : its.toArray.size = xs.length := by rw [List.size_toArray]; exact r.length.symm
  refine ⟨"tuple", _, PyProof.Rows.slot_tuple_getitem.lookup, ht.typeIs, ?_⟩
  refine HT.getItem_tuple_cut ht hs pl pu (by rw [hlen]; exact hw) ?_ (by rw [hlen]; exact hz)
  rw [hlen]
  refine ⟨.ref s.heap.objs.size, _, I.laid (t' := s.toks) (o := .tup (cutV xs lo hi)) (fun b ob q => Heap.get?_push_of_some _ q) (Nat.le_refl _) ?_, rfl, q _ (I.hok.fresh (Nat.le_refl _))⟩
  exact ⟨Nat.le_trans (cutV_length xs lo hi) hz, _, (r.drop (HT.sIx xs.length 0 lo)).take (HT.sIx xs.length xs.length hi - HT.sIx xs.length 0 lo), IsTup.new _ _⟩

/-! ### t < u, t + u -/
def rLtT (K : PySem.W.Frag) : R2 := fun x y H Q => ∃ a b ns ms, x = .ref a ∧ y = .ref b ∧ SqT K H a (ns.map V.int) ∧ SqT K H b (ms.map V.int) ∧ Q (.bl (HT.lexLt ns ms)) H
theorem op_ltT (hu : X.A.units < cLine) : OpR X (compareOp .Lt) (rLtT X.K) := by
  intro pins s σ H x y v u Q I rx ry h
  obtain ⟨a, b, ns, ms, rfl, rfl, ha, hb, q⟩ := h
  cases rx
  cases ry
  obtain ⟨its, r1, p1, _⟩ := I.tuple ha
  obtain ⟨its2, r2, p2, _⟩ := I.tuple hb
  have i1 : IntsAre its.toArray.toList ns := intsAre_of r1
  have i2 : IntsAre its2.toArray.toList ms := intsAre_of r2
  exact HT.lt_tupInts p1 p2 i1 i2 hu ⟨.bl (HT.lexLt ns ms), H, I, rfl, q⟩
/-- t + u, t not empty: u empty gives t itself -/
def rCatT (K : PySem.W.Frag) : R2 := fun x y H Q => ∃ a b xs ys, x = .ref a ∧ y = .ref b ∧ SqT K H a xs ∧ SqT K H b ys ∧ xs ≠ [] ∧ xs.length + ys.length ≤ sizeLine ∧
  (ys = [] → Q (.ref a) H) ∧ (ys ≠ [] → ∀ p, H p = none → Q (.ref p) (upd H p (.tup (xs ++ ys))))
theorem Vals.nil_iff {xs : List V} {us : List Value} (r : Vals xs us) : us = [] ↔ xs = [] := by
  cases r with
  | nil => simp
  | cons _ _ => simp
theorem op_catT : OpR X (binaryOp .Add) (rCatT X.K) := by
  intro pins s σ H x y v u Q I rx ry h
  obtain ⟨a, b, xs, ys, rfl, rfl, ha, hb, hx, hz, q1, q2⟩ := h
  cases rx
  cases ry
  obtain ⟨its, r1, p1, _⟩ := I.tuple ha
  obtain ⟨its2, r2, p2, _⟩ := I.tuple hb
  refine HT.cat_tup p1 p2 (fun z => hx (r1.nil_iff.mp z)) (fun z => ⟨.ref a, H, I, rfl, q1 (r2.nil_iff.mp z)⟩) (fun z => ?_) (by rw [← r1.length, ← r2.length]; exact hz)
  refine ⟨.ref s.heap.objs.size, _, I.laid (t' := s.toks) (o := .tup (xs ++ ys)) (fun b ob q => Heap.get?_push_of_some _ q) (Nat.le_refl _) ?_, rfl, q2 (fun w => z (r2.nil_iff.mpr w)) _ (I.hok.fresh (Nat.le_refl _))⟩
  exact ⟨by rw [List.length_append]; exact hz, _, r1.append r2, IsTup.new _ _⟩
/-- tuple(t) -/
theorem call_tupleT : CallR X (.type "tuple") (fun xs H Q => ∃ a ys, xs = [.ref a] ∧ SqT X.K H a ys ∧ Q (.ref a) H) := by
  intro pins s σ H xs us Q I r h
  obtain ⟨a, ys, rfl, ha, q⟩ := h
  obtain ⟨u, rfl, ru⟩ := vals1 r
  cases ru
  obtain ⟨its, _, p1, _⟩ := I.tuple ha
  exact call_tuple_same (items := its.toArray) p1 ⟨.ref a, H, I, rfl, q⟩
end
end L2

namespace L2
open PySem PySem.Spec PyProof.Rows

/-! ### places -/
/-- the place that an index of any sign means -/
def ixN (n : Nat) (i : Int) : Option Nat := if 0 ≤ i then (if i < n then some i.toNat else none) else if -(n : Int) ≤ i then some (i + n).toNat else none
def atI {α : Type} (xs : List α) (i : Int) : Option α := (ixN xs.length i).bind fun j => xs[j]?
theorem ixN_seq {n : Nat} {i : Int} {j : Nat} (h : ixN n i = some j) : seqIndex? i n = some j ∧ j < n ∧ -(n : Int) ≤ i ∧ i < n := by
  unfold ixN at h
  by_cases h0 : 0 ≤ i
  · rw [if_pos h0] at h
    by_cases h1 : i < n
    · rw [if_pos h1] at h
      have e : i.toNat = j := Option.some.inj h
      exact ⟨by rw [seqIndex_of h0 h1, e], by omega, by omega, h1⟩
    · rw [if_neg h1] at h; cases h
  · rw [if_neg h0] at h
    by_cases h1 : -(n : Int) ≤ i
    · rw [if_pos h1] at h
      have e : (i + n).toNat = j := Option.some.inj h
      exact ⟨by rw [seqIndex_neg (by omega) h1, e], by omega, h1, by omega⟩
    · rw [if_neg h1] at h; cases h
theorem atI_get {α : Type} {xs : List α} {i : Int} {v : α} (h : atI xs i = some v) : ∃ j, seqIndex? i xs.length = some j ∧ xs[j]? = some v ∧ j < xs.length ∧ -(xs.length : Int) ≤ i ∧ i < xs.length := by
  unfold atI at h
  cases e : ixN xs.length i with
  | none => rw [e] at h; cases h
  | some j =>
    rw [e] at h
    obtain ⟨h1, h2, h3, h4⟩ := ixN_seq e
    exact ⟨j, h1, h, h2, h3, h4⟩
theorem atI_nat {α : Type} {xs : List α} {j : Nat} {v : α} (h : xs[j]? = some v) : atI xs (j : Int) = some v := by
  have hj : j < xs.length := (List.getElem?_eq_some_iff.mp h).1
  have e : ixN xs.length (j : Int) = some j := by
    unfold ixN
    rw [if_pos (by omega), if_pos (by omega)]; simp
  unfold atI; rw [e]; exact h
theorem atI_last {α : Type} (xs : List α) (v : α) : atI (xs ++ [v]) (-1) = some v := by
  have hl : (xs ++ [v]).length = xs.length + 1 := by simp
  have e : ixN (xs ++ [v]).length (-1) = some xs.length := by
    unfold ixN
    rw [hl, if_neg (by decide), if_pos (by omega)]
    congr 1
    omega
  unfold atI
  rw [e]
  show (xs ++ [v])[xs.length]? = some v
  simp

/-! ### what may be subscripted -/
/-- what stands as an index of a plain subscript -/
def PlainIx (b : Expr) : Prop := ∀ o i, subscripted b false o i = operate [o, i] (getItem o i)
/-- a subscript by values -/
def IxR (X : Cx) (r : R2) : Prop :=
  ∀ (value slice : Expr) (pins : List (Addr × Obj)) (s : Shared) (σ : St) (H : Hp) (x y : V) (v u : Value) (Q : VK), Inv X pins σ H s → RelV x v → RelV y u → r x y H Q →
    subscripted slice false v u = operate [v, u] (getItem v u) → wpAny (model X.prog X.w) X.A (subscriptTail value slice v u) (EP X pins σ Q) X.xe s
/-- a call of a builtin's method by values: the receiver, the arguments -/
def MtR (X : Cx) (id : String) (r : V → List V → Hp → VK → Prop) : Prop :=
  ∀ (pins : List (Addr × Obj)) (s : Shared) (σ : St) (H : Hp) (x : V) (xs : List V) (v : Value) (us : List Value) (Q : VK), Inv X pins σ H s → RelV x v → Vals xs us → r x xs H Q →
    wpAny (model X.prog X.w) X.A (call (.builtin id) (v :: us)) (EP X pins σ Q) X.xe s
section
variable {X : Cx} {a b : Expr} {ta tb : TE} {pos : Pos}
theorem IxR.or {r r' : R2} (h : IxR X r) (h' : IxR X r') : IxR X (fun x y H Q => r x y H Q ∨ r' x y H Q) := by
  intro value slice pins s σ H x y v u Q I rx ry q hs
  rcases q with q | q
  · exact h value slice pins s σ H x y v u Q I rx ry q hs
  · exact h' value slice pins s σ H x y v u Q I rx ry q hs
theorem MtR.or {id : String} {r r' : V → List V → Hp → VK → Prop} (h : MtR X id r) (h' : MtR X id r') : MtR X id (fun x xs H Q => r x xs H Q ∨ r' x xs H Q) := by
  intro pins s σ H x xs v us Q I rx rs q
  rcases q with q | q
  · exact h pins s σ H x xs v us Q I rx rs q
  · exact h' pins s σ H x xs v us Q I rx rs q
/-- a[b] -/
theorem pe_ix {r : R2} (hr : IxR X r) (ha : PE X a ta) (hb : PE X b tb) (hs : PlainIx b) : PE X (.Subscript a b pos) (tOp r ta tb) := by
  intro pins s σ H Q I h
  exact Subscript_ (binT ha hb I h fun v u s2 x y H2 I2 rx ry q => hr a b pins s2 σ H2 x y v u Q I2 rx ry q (hs _ _))

def rIxL (K : PySem.W.Frag) : R2 := fun x y H Q => ∃ p xs i v, x = .ref p ∧ y = .int i ∧ SqL K H p xs ∧ atI xs i = some v ∧ Q v H
def rIxT (K : PySem.W.Frag) : R2 := fun x y H Q => ∃ p xs i v, x = .ref p ∧ y = .int i ∧ SqT K H p xs ∧ atI xs i = some v ∧ Q v H
def rIxS : R2 := fun x y H Q => ∃ z i c, x = .str z ∧ y = .int i ∧ z.length ≤ sizeLine ∧ atI z.cps.toList i = some c ∧ Q (.str ⟨#[c]⟩) H
theorem ix_list : IxR X (rIxL X.K) := by
  intro value slice pins s σ H x y v u Q I rx ry h hs
  obtain ⟨p, xs, i, z, rfl, rfl, hq, he, q⟩ := h
  cases rx
  obtain ⟨t, rfl⟩ := ry
  obtain ⟨its, r, pl, hz⟩ := I.list hq
  obtain ⟨j, h1, h2, h3, h4, h5⟩ := atI_get he
  obtain ⟨w, ew, rw'⟩ := r.get h2
  have hl := r.length
  have hn := line63
  have fin : EP X pins σ Q w s := ⟨z, H, I, rw', q⟩
  by_cases h0 : 0 ≤ i
  · have hj : i.toNat = j := by
      rw [seqIndex_of h0 h5] at h1
      exact Option.some.inj h1
    exact item_listR pl.isList h0 (by omega) (by rw [hj]; simpa using ew) fin hs
  · have hj : (i + (its.toArray.size : Int)).toNat = j := by
      rw [seqIndex_neg (by omega) h4] at h1
      rw [List.size_toArray, ← hl]
      exact Option.some.inj h1
    exact subscriptTail_builtinR (x := w) pl.isList.typeIs slot_list_getitem.lookup
      (wpAny_getItem_list_neg (Q := fun r s' => r = w ∧ EP X pins σ Q r s') pl.isList (by omega) (by rw [List.size_toArray] <;> omega) (by omega) (by rw [hj]; simpa using ew) ⟨rfl, fin⟩) hs
theorem ix_tup : IxR X (rIxT X.K) := by
  intro value slice pins s σ H x y v u Q I rx ry h hs
  obtain ⟨p, xs, i, z, rfl, rfl, hq, he, q⟩ := h
  cases rx
  obtain ⟨t, rfl⟩ := ry
  obtain ⟨its, r, pl, hz⟩ := I.tuple hq
  obtain ⟨j, h1, h2, h3, h4, h5⟩ := atI_get he
  obtain ⟨w, ew, rw'⟩ := r.get h2
  have hl := r.length
  have hn := line63
  have fin : EP X pins σ Q w s := ⟨z, H, I, rw', q⟩
  exact subscriptTail_builtinR (x := w) pl.typeIs slot_tuple_getitem.lookup
    (getItem_tuple (j := j) (Q := fun r s' => r = w ∧ EP X pins σ Q r s') pl (by omega) (by omega) (by rw [List.size_toArray, ← hl]; exact h1) (by simpa using ew) ⟨rfl, fin⟩) hs
theorem ix_str : IxR X rIxS := by
  intro value slice pins s σ H x y v u Q I rx ry h hs
  obtain ⟨z, i, c, rfl, rfl, hz, he, q⟩ := h
  obtain ⟨t, rfl⟩ := rx
  obtain ⟨t', rfl⟩ := ry
  obtain ⟨j, h1, h2, h3, h4, h5⟩ := atI_get he
  have hl : z.cps.toList.length = z.length := by simp [Str.length]
  rw [hl] at h1 h4 h5
  have hn := line63
  exact tail_any (typeIs_str s z t) slot_str_getitem.lookup (getItem_str (c := c) (by
    have e1 : decide (i < -(2 ^ 63 : Int)) = false := decide_eq_false (by omega)
    have e2 : decide (i ≥ 2 ^ 63) = false := decide_eq_false (by omega)
    rw [e1, e2, Bool.or_false]) (by rw [h1]; simpa using h2) ⟨.str ⟨#[c]⟩, H, I.tok _, ⟨_, rfl⟩, q⟩) hs
/-- list, tuple or str -/
def rIx (K : PySem.W.Frag) : R2 := fun x y H Q => rIxL K x y H Q ∨ rIxT K x y H Q ∨ rIxS x y H Q
theorem ix_seq : IxR X (rIx X.K) := ix_list.or (ix_tup.or ix_str)

/-! ### xs[i] = v, any sign -/
/-- the list's object behind a store -/
theorem mapSeq_set (its : List Value) (n j : Nat) (u : Value) : Obj.mapSeq (·.setIfInBounds j u) { cls := .type "list", data := .seq its.toArray n } = { cls := .type "list", data := .seq (its.set j u).toArray n } := by
  simp [Obj.mapSeq]
theorem Inv.lst {pins : List (Addr × Obj)} {σ : St} {H : Hp} {s : Shared} {p : Addr} {xs : List V} (I : Inv X pins σ H s) (h : H p = some (.lst xs)) :
    ∃ (its : List Value) (n : Nat), Vals xs its ∧ s.heap.get? p = some { cls := .type "list", data := .seq its.toArray n } ∧ xs.length ≤ sizeLine := by
  obtain ⟨z, its, n, r, e⟩ := I.hok p _ h
  exact ⟨its, n, r, e, z⟩
/-- the list at p is written by an update of its object -/
theorem Inv.lstUpd {pins : List (Addr × Obj)} {σ : St} {H : Hp} {s : Shared} {p : Addr} {xs ys : List V} {its its' : List Value} {n n' : Nat} {f : Obj → Obj} (I : Inv X pins σ H s) (h : H p = some (.lst xs))
    (ho : s.heap.get? p = some { cls := .type "list", data := .seq its.toArray n }) (hf : f { cls := .type "list", data := .seq its.toArray n } = { cls := .type "list", data := .seq its'.toArray n' }) (r : Vals ys its') (hz : ys.length ≤ sizeLine) (t : Nat) :
    Inv X pins σ (upd H p (.lst ys)) { s with heap := s.heap.update p f, toks := t } := by
  have e : (s.heap.update p f).get? p = some { cls := .type "list", data := .seq its'.toArray n' } := by
    rw [Heap.get?_update_self f ho (by rw [hf] <;> rfl), hf]
  refine I.write (x := p) (e := p) (by rw [h]; trivial) (.inl rfl) (fun b u hb q => (Heap.get?_update_other _ _ (Ne.symm hb)).trans q) ⟨_, e⟩ ?_
  exact ⟨hz, its', n', r, e⟩
def rSetL : V → V → V → Hp → (Hp → Prop) → Prop := fun o i v H Q => ∃ p xs k j, o = .ref p ∧ i = .int k ∧ H p = some (.lst xs) ∧ ixN xs.length k = some j ∧ Q (upd H p (.lst (xs.set j v)))
theorem set_list : PSet X rSetL := by
  intro pins s σ H o i v ov iv u Q I ro ri rv h
  obtain ⟨p, xs, k, j, rfl, rfl, hp, hj, q⟩ := h
  cases ro
  obtain ⟨t, rfl⟩ := ri
  obtain ⟨its, n, r, ho, hz⟩ := I.lst hp
  obtain ⟨h1, h2, h3, h4⟩ := ixN_seq hj
  have hl := r.length
  have hn := line63
  have I' : Inv X pins σ (upd H p (.lst (xs.set j v))) { s with heap := s.heap.update p (Obj.mapSeq (·.setIfInBounds j u)) } :=
    I.lstUpd hp ho (mapSeq_set its n j u) (r.set rv j) (by rw [List.length_set]; exact hz) s.toks
  by_cases h0 : 0 ≤ k
  · have hk : k.toNat = j := by
      rw [seqIndex_of h0 h4] at h1
      exact Option.some.inj h1
    exact PySem.W.ki_setAt ho h0 (by omega) (by rw [List.size_toArray, ← hl]; exact h4) (by rw [hk]; exact ⟨_, I', q⟩)
  · have hk : (k + (its.toArray.size : Int)).toNat = j := by
      rw [seqIndex_neg (by omega) h3] at h1
      rw [List.size_toArray, ← hl]
      exact Option.some.inj h1
    exact PySem.W.ki_setBack ho (by omega) (by rw [List.size_toArray, ← hl]; exact h3) (by omega) (by rw [hk]; exact ⟨_, I', q⟩)

/-! ### slices -/
theorem slice_bounds (lo hi : Option Int) (n : Nat) : (sliceBounds lo hi none n).1 = ((HT.sIx n 0 lo : Nat) : Int) ∧ (sliceBounds lo hi none n).2.1 = ((HT.sIx n n hi : Nat) : Int) ∧ (sliceBounds lo hi none n).2.2 = 1 := by
  refine ⟨?_, ?_, rfl⟩
  · cases lo with
    | none => simp [sliceBounds, HT.sIx]
    | some i =>
      simp only [sliceBounds, HT.sIx, Option.getD_none, show (1 : Int) > 0 by decide, if_true]
      by_cases h : i < 0
      · simp only [h, if_true] <;> omega
      · simp only [h, if_false] <;> omega
  · cases hi with
    | none => simp [sliceBounds, HT.sIx]
    | some i =>
      simp only [sliceBounds, HT.sIx, Option.getD_none, show (1 : Int) > 0 by decide, if_true]
      by_cases h : i < 0
      · simp only [h, if_true] <;> omega
      · simp only [h, if_false] <;> omega
theorem slicePick_cut (its : List Value) (lo hi : Option Int) : slicePick its.toArray lo hi none = ((its.drop (HT.sIx its.length 0 lo)).take (HT.sIx its.length its.length hi - HT.sIx its.length 0 lo)).toArray := by
  obtain ⟨h1, h2, h3⟩ := slice_bounds lo hi its.toArray.size
  unfold slicePick
  rw [h1, h2, h3]
  simp only [sliceRange_one, pick_run, List.size_toArray] <;> rfl
/-- xs[lo:hi] of a list: a new list -/
def rSlL (K : PySem.W.Frag) : V → Option Int → Option Int → Hp → VK → Prop := fun x lo hi H Q => ∃ a xs, x = .ref a ∧ SqL K H a xs ∧ ∀ p, H p = none → Q (.ref p) (upd H p (.lst (cutV xs lo hi)))
theorem sl_list : SlR X (rSlL X.K) := by
  intro pins s σ H x v vl vu lo hi sl Q I rx hs pl pu h
  obtain ⟨a, xs, rfl, hx, q⟩ := h
  cases rx
  obtain ⟨its, r, ht, hz⟩ := I.list hx
  have hlen := r.length
  refine ⟨"list", _, slot_list_getitem.lookup, ht.isList.typeIs, ?_⟩
  refine wpAny_getItem_list_slice ht.isList hs pl pu .none (by simp) ?_ (by rw [List.size_toArray] <;> omega)
  rw [slicePick_cut, ← hlen]
  refine ⟨.ref s.heap.objs.size, _, I.laid (t' := s.toks) (o := .lst (cutV xs lo hi)) (fun b ob q => Heap.get?_push_of_some _ q) (Nat.le_refl _) ?_, rfl, q _ (I.hok.fresh (Nat.le_refl _))⟩
  exact ⟨Nat.le_trans (cutV_length xs lo hi) hz, _, 0, (r.drop (HT.sIx xs.length 0 lo)).take (HT.sIx xs.length xs.length hi - HT.sIx xs.length 0 lo), Heap.get?_push_size _ rfl⟩

/-! ### in, not in: flat items -/
def flatV : V → Bool
  | .non => true
  | .bl _ => true
  | .int _ => true
  | .str _ => true
  | _ => false
/-- == of flat values -/
def eqV : V → V → Bool
  | .non, .non => true
  | .bl a, .bl b => a == b
  | .bl a, .int b => (if a then 1 else 0) == b
  | .int a, .bl b => a == (if b then 1 else 0)
  | .int a, .int b => a == b
  | .str a, .str b => a == b
  | _, _ => false
theorem eqAt_V {A : Around} {s : Shared} {y x : V} {u v : Value} (ry : RelV y u) (rx : RelV x v) (fy : flatV y = true) (fx : flatV x = true) : SeqAt.EqAt A s u v (eqV y x) := by
  cases y with
  | non =>
    cases ry
    cases x with
    | non => cases rx; exact SeqAt.EqAt.same _
    | bl b => cases rx; exact SeqAt.EqAt.none_bool b
    | int b => obtain ⟨t, rfl⟩ := rx; exact SeqAt.EqAt.none_int b t
    | str b => obtain ⟨t, rfl⟩ := rx; exact SeqAt.EqAt.none_str b t
    | _ => exact absurd (show false = true from fx) Bool.false_ne_true
  | bl a =>
    cases ry
    cases x with
    | non => cases rx; exact SeqAt.EqAt.bool_none a
    | bl b => cases rx; exact SeqAt.EqAt.bool_bool a b
    | int b => obtain ⟨t, rfl⟩ := rx; exact SeqAt.EqAt.bool_int a b t
    | str b => obtain ⟨t, rfl⟩ := rx; exact SeqAt.EqAt.bool_str a b t
    | _ => exact absurd (show false = true from fx) Bool.false_ne_true
  | int a =>
    obtain ⟨t', rfl⟩ := ry
    cases x with
    | non => cases rx; exact SeqAt.EqAt.int_none a t'
    | bl b => cases rx; exact SeqAt.EqAt.int_bool a t' b
    | int b => obtain ⟨t, rfl⟩ := rx; exact SeqAt.EqAt.int_int a t' b t
    | str b => obtain ⟨t, rfl⟩ := rx; exact SeqAt.EqAt.int_str a t' b t
    | _ => exact absurd (show false = true from fx) Bool.false_ne_true
  | str a =>
    obtain ⟨t', rfl⟩ := ry
    cases x with
    | non => cases rx; exact SeqAt.EqAt.str_none a t'
    | bl b => cases rx; exact SeqAt.EqAt.str_bool a t' b
    | int b => obtain ⟨t, rfl⟩ := rx; exact SeqAt.EqAt.str_int a t' b t
    | str b => obtain ⟨t, rfl⟩ := rx; exact SeqAt.EqAt.str_str a t' b t
    | _ => exact absurd (show false = true from fx) Bool.false_ne_true
  | _ => exact absurd (show false = true from fy) Bool.false_ne_true
/-- the items' answers, read off the values (a value's own answer does not lean on its token) -/
def eqU (x : V) (u : Value) : Bool := match u with
  | .none => eqV .non x
  | .bool b => eqV (.bl b) x
  | .int i _ => eqV (.int i) x
  | .str z _ => eqV (.str z) x
  | _ => false
theorem eqU_of {x y : V} {u : Value} (r : RelV y u) (f : flatV y = true) : eqU x u = eqV y x := by
  cases y with
  | non => cases r; rfl
  | bl b => cases r; rfl
  | int i => obtain ⟨t, rfl⟩ := r; rfl
  | str z => obtain ⟨t, rfl⟩ := r; rfl
  | _ => exact absurd (show false = true from f) Bool.false_ne_true
theorem any_eqU {x : V} : ∀ {xs : List V} {us : List Value}, Vals xs us → xs.all flatV = true → us.any (eqU x) = xs.any fun y => eqV y x
  | _, _, .nil, _ => rfl
  | y :: xs, u :: us, .cons r t, f => by
    rw [List.all_cons, Bool.and_eq_true] at f
    rw [List.any_cons, List.any_cons, eqU_of r f.1, any_eqU t f.2]
theorem mem_eqAt {A : Around} {s : Shared} {x : V} {v : Value} (rx : RelV x v) (fx : flatV x = true) : ∀ {xs : List V} {us : List Value}, Vals xs us → xs.all flatV = true → ∀ u ∈ us, SeqAt.EqAt A s u v (eqU x u)
  | _, _, .nil, _ => fun u hu => by cases hu
  | y :: xs, u :: us, .cons r t, f => fun u' hu => by
    rw [List.all_cons, Bool.and_eq_true] at f
    rcases List.mem_cons.mp hu with rfl | hu
    · rw [eqU_of r f.1]; exact eqAt_V r rx f.1 fx
    · exact mem_eqAt rx fx t f.2 u' hu
def inV (x : V) (xs : List V) : Bool := xs.any fun y => eqV y x
/-- x in a list or tuple of flat items -/
def rIn (K : PySem.W.Frag) (neg : Bool) : R2 := fun x y H Q => ∃ p xs, y = .ref p ∧ (SqL K H p xs ∨ SqT K H p xs) ∧ flatV x = true ∧ xs.all flatV = true ∧ Q (.bl (if neg then !inV x xs else inV x xs)) H
theorem op_in_seq : OpR X (compareOp .In) (rIn X.K false) := by
  intro pins s σ H x y v u Q I rx ry h
  obtain ⟨p, xs, rfl, hq, fx, fs, q⟩ := h
  cases ry
  rcases hq with hq | hq
  · obtain ⟨its, r, pl, hz⟩ := I.list hq
    refine SeqAt.in_listAt (eqU x) pl.isList (fun w hw => mem_eqAt rx fx r fs w (by simpa using hw)) ⟨.bl _, H, I, rfl, ?_⟩
    rw [show its.toArray.any (eqU x) = its.any (eqU x) by simp, any_eqU r fs]
    exact q
  · obtain ⟨its, r, pl, hz⟩ := I.tuple hq
    refine SeqAt.in_tupleAt (eqU x) pl (fun w hw => mem_eqAt rx fx r fs w (by simpa using hw)) ⟨.bl _, H, I, rfl, ?_⟩
    rw [show its.toArray.any (eqU x) = its.any (eqU x) by simp, any_eqU r fs]
    exact q
theorem op_notIn_seq : OpR X (compareOp .NotIn) (rIn X.K true) := by
  intro pins s σ H x y v u Q I rx ry h
  obtain ⟨p, xs, rfl, hq, fx, fs, q⟩ := h
  cases ry
  rcases hq with hq | hq
  · obtain ⟨its, r, pl, hz⟩ := I.list hq
    refine SeqAt.notIn_listAt (eqU x) pl.isList (fun w hw => mem_eqAt rx fx r fs w (by simpa using hw)) ⟨.bl _, H, I, rfl, ?_⟩
    rw [show its.toArray.any (eqU x) = its.any (eqU x) by simp, any_eqU r fs]
    exact q
  · obtain ⟨its, r, pl, hz⟩ := I.tuple hq
    refine SeqAt.notIn_tupleAt (eqU x) pl (fun w hw => mem_eqAt rx fx r fs w (by simpa using hw)) ⟨.bl _, H, I, rfl, ?_⟩
    rw [show its.toArray.any (eqU x) = its.any (eqU x) by simp, any_eqU r fs]
    exact q
theorem op_notIn_str : OpR X (compareOp .NotIn) (fun x y H Q => ∃ i j, x = .str i ∧ y = .str j ∧ Q (.bl (!(!(Builtin.Str.occurrences j i 0 j.length 1).isEmpty))) H) := by
  intro pins s σ H x y v u Q I rx ry h
  obtain ⟨i, j, rfl, rfl, q⟩ := h
  obtain ⟨t, rfl⟩ := rx
  obtain ⟨t', rfl⟩ := ry
  exact notIn_str ⟨.bl _, H, I, rfl, q⟩

/-! ### len, list(x), tuple(x) of any list or tuple that is read -/
theorem call_len_seq : CallR X (.builtin "len") (fun xs H Q => ∃ p ys, xs = [.ref p] ∧ (SqL X.K H p ys ∨ SqT X.K H p ys) ∧ Q (.int ys.length) H) := by
  intro pins s σ H xs us Q I r h
  obtain ⟨p, ys, rfl, hq, q⟩ := h
  obtain ⟨u, rfl, rx⟩ := vals1 r
  cases rx
  have hn := line63
  rcases hq with hq | hq
  · obtain ⟨its, r', pl, hz⟩ := I.list hq
    have hlen := r'.length
    exact Calls.call_len_list pl.isList (by simp only [List.size_toArray] <;> omega) ⟨.int ys.length, H, I.tok _, ⟨s.toks + 1, by rw [List.size_toArray, hlen]⟩, q⟩
  · obtain ⟨its, r', pl, hz⟩ := I.tuple hq
    have hlen := r'.length
    exact len_tuple pl (by simp only [List.size_toArray] <;> omega) ⟨.int ys.length, H, I.tok _, ⟨s.toks + 1, by rw [List.size_toArray, hlen]⟩, q⟩
theorem call_len_str : CallR X (.builtin "len") (fun xs H Q => ∃ z, xs = [.str z] ∧ z.length ≤ sizeLine ∧ Q (.int z.length) H) := by
  intro pins s σ H xs us Q I r h
  obtain ⟨z, rfl, hz, q⟩ := h
  obtain ⟨u, rfl, t, rfl⟩ := vals1 r
  have hn := line63
  exact len_str (by omega) ⟨.int z.length, H, I.tok _, ⟨_, rfl⟩, q⟩
theorem CallR.or {f : Value} {r r' : List V → Hp → VK → Prop} (h : CallR X f r) (h' : CallR X f r') : CallR X f (fun xs H Q => r xs H Q ∨ r' xs H Q) := by
  intro pins s σ H xs us Q I rs q
  rcases q with q | q
  · exact h pins s σ H xs us Q I rs q
  · exact h' pins s σ H xs us Q I rs q
theorem call_list_of : CallR X (.type "list") (fun xs H Q => ∃ p ys, xs = [.ref p] ∧ (SqL X.K H p ys ∨ SqT X.K H p ys) ∧ ∀ l, H l = none → Q (.ref l) (upd H l (.lst ys))) := by
  intro pins s σ H xs us Q I r h
  obtain ⟨p, ys, rfl, hq, q⟩ := h
  obtain ⟨u, rfl, rx⟩ := vals1 r
  cases rx
  have fin : ∀ (its : List Value), Vals ys its → ys.length ≤ sizeLine → ∀ (h' : Heap) (c' : Nat), (∀ b o', s.heap.get? b = some o' → h'.get? b = some o') →
      h'.get? s.heap.objs.size = some { cls := .type "list", dict := none, data := .seq its.toArray c', slots := #[] } → EP X pins σ Q (.ref s.heap.objs.size) { s with heap := h' } := fun its r' hz h' c' kp e =>
    ⟨.ref s.heap.objs.size, _, I.laid (t' := s.toks) kp (Nat.le_refl _) (show ObjOk X.prog X.w _ h' _ (.lst ys) from ⟨hz, its, c', r', e⟩), rfl, q _ (I.hok.fresh (Nat.le_refl _))⟩
  rcases hq with hq | hq
  · obtain ⟨its, r', pl, hz⟩ := I.list hq
    have hlen := r'.length
    obtain ⟨o, ho, hc, n, hd⟩ := pl.isList
    exact call_list_seq p (.inl rfl) ho hc hd (fun h' c' kp e => fin its r' hz h' c' kp e) (by simp only [List.size_toArray] <;> omega)
  · obtain ⟨its, r', pl, hz⟩ := I.tuple hq
    have hlen := r'.length
    obtain ⟨o, ho, hc, n, hd⟩ := pl
    exact call_list_seq p (.inr rfl) ho hc hd (fun h' c' kp e => fin its r' hz h' c' kp e) (by simp only [List.size_toArray] <;> omega)
theorem call_tuple_of : CallR X (.type "tuple") (fun xs H Q => ∃ p ys, xs = [.ref p] ∧ ((SqL X.K H p ys ∧ ∀ l, H l = none → Q (.ref l) (upd H l (.tup ys))) ∨ (SqT X.K H p ys ∧ Q (.ref p) H))) := by
  intro pins s σ H xs us Q I r h
  obtain ⟨p, ys, rfl, h⟩ := h
  obtain ⟨u, rfl, rx⟩ := vals1 r
  cases rx
  rcases h with ⟨hq, q⟩ | ⟨hq, q⟩
  · obtain ⟨its, r', pl, hz⟩ := I.list hq
    have hlen := r'.length
    refine call_tuple_list pl.isList (fun h' kp => ?_) (by simp only [List.size_toArray] <;> omega)
    have I1 : Inv X pins σ H { s with heap := h' } := I.kept (t' := s.toks) kp
    have I2 : Inv X pins σ (upd H h'.objs.size (.tup ys)) { s with heap := h'.push { cls := .type "tuple", data := .seq its.toArray } } :=
      I1.laid (t' := s.toks) (fun b o e => Heap.get?_push_of_some _ e) (Nat.le_refl _) (show ObjOk X.prog X.w _ _ _ (.tup ys) from ⟨hz, its, r', IsTup.new _ _⟩)
    exact ⟨.ref h'.objs.size, _, I2, rfl, q _ (I1.hok.fresh (Nat.le_refl _))⟩
  · obtain ⟨its, r', pl, hz⟩ := I.tuple hq
    exact call_tuple_same pl ⟨.ref p, H, I, rfl, q⟩

/-! ### the call of a builtin's method: o.m(..) -/
/-- the value is of that builtin type -/
def tyV (K : PySem.W.Frag) (T : String) (x : V) (H : Hp) : Prop := match x with
  | .str _ => T = "str"
  | .int _ => T = "int"
  | .ref p => (T = "list" ∧ ∃ xs, SqL K H p xs) ∨ (T = "tuple" ∧ ∃ o, K.lookup p = some o ∧ o.cls = .type "tuple" ∧ o.dict = none) ∨
      (T = "dict" ∧ ((∃ kvs, H p = some (.dK kvs)) ∨ ∃ kvs, H p = some (.dT kvs))) ∨ (T = "set" ∧ ∃ S n, H p = some (.set S n))
  | _ => False
theorem tyV_is {pins : List (Addr × Obj)} {σ : St} {H : Hp} {s : Shared} {T : String} {x : V} {v : Value} (I : Inv X pins σ H s) (r : RelV x v) (ty : tyV X.K T x H) :
    s.TypeIs v T ∧ ∀ a, v = .ref a → ∃ ob, s.heap.get? a = some ob ∧ ob.dict = none := by
  cases x with
  | str z =>
    obtain ⟨t, rfl⟩ := r
    cases (show T = "str" from ty)
    exact ⟨typeIs_str s z t, fun _ e => nomatch e⟩
  | int i =>
    obtain ⟨t, rfl⟩ := r
    cases (show T = "int" from ty)
    exact ⟨typeIs_int s i t, fun _ e => nomatch e⟩
  | ref p =>
    cases r
    rcases ty with ⟨rfl, xs, hq⟩ | ⟨rfl, o, hk, hc, hd⟩ | ⟨rfl, hk⟩ | ⟨rfl, S, n, hk⟩
    · obtain ⟨its, _, pl, _⟩ := I.list hq
      refine ⟨pl.isList.typeIs, fun a e => ?_⟩
      cases e
      obtain ⟨o, n, e, c, hd, _⟩ := pl
      exact ⟨o, e, hd⟩
    · refine ⟨⟨o, I.kIn p o hk, hc⟩, fun a e => ?_⟩
      cases e
      exact ⟨o, I.kIn _ o hk, hd⟩
    · have z : ∃ o, s.heap.get? p = some o ∧ o.ExactDict := by
        rcases hk with ⟨kvs, hk⟩ | ⟨kvs, hk⟩
        · obtain ⟨_, _, _, _, o, _, _, e, ex, _⟩ := I.hok p _ hk
          exact ⟨o, e, ex⟩
        · obtain ⟨_, _, _, _, o, _, _, e, ex, _⟩ := I.hok p _ hk
          exact ⟨o, e, ex⟩
      obtain ⟨o, e, ex⟩ := z
      refine ⟨⟨o, e, ex.1⟩, fun a e2 => ?_⟩
      cases e2
      exact ⟨o, e, ex.2.1⟩
    · obtain ⟨o, _, _, _, e, ex, _⟩ := I.hok p _ hk
      refine ⟨⟨o, e, ex.1⟩, fun a e2 => ?_⟩
      cases e2
      exact ⟨o, e, ex.2.1⟩
  | _ => exact False.elim ty
def tBM0 (K : PySem.W.Frag) (T : String) (r : V → List V → Hp → VK → Prop) (to : TE) : TE := fun σ H Q => to σ H fun x H1 => tyV K T x H1 ∧ r x [] H1 Q
def tBM (K : PySem.W.Frag) (T : String) (r : V → List V → Hp → VK → Prop) (to : TE) (t : TA) : TE := fun σ H Q => to σ H fun x H1 => tyV K T x H1 ∧ t σ H1 fun xs H2 => r x xs H2 Q
variable {o e : Expr} {es : List Expr} {to : TE} {t : TA} {name : Str} {apos cpos : Pos} {T id : String} {r : V → List V → Hp → VK → Prop}
theorem pe_bm0 (pa : PlainAttrs T) (slot : Slot T name id) (hty : typeOf (.builtin id) = pure (.type "method_descriptor")) (hm : MtR X id r) (ho : PE X o to)
    (hbase : attributeBase o name X.env (eval o X.env) = eval o X.env := by rfl) (hline : (apos.endLine == cpos.line) = true := by rfl) : PE X (.Call (.Attribute o name apos) [] [] cpos) (tBM0 X.K T r to) := by
  intro pins s σ H Q I h
  refine wpAny_Call_method0_late hbase hline (thn (ho pins s σ H _ I h) fun v s1 ⟨x, H1, I1, r1, ty, q1⟩ => ?_)
  obtain ⟨h1, h2⟩ := tyV_is I1 r1 ty
  exact ⟨T, id, pa, slot, hty, h1, h2, Calls.callWith_builtin rfl (PySem.evalArgs_none (hm pins s1 σ H1 x [] v [] Q I1 r1 .nil q1))⟩
theorem pe_bm (pa : PlainAttrs T) (slot : Slot T name id) (hty : typeOf (.builtin id) = pure (.type "method_descriptor")) (hm : MtR X id r) (ho : PE X o to) (ha : PA X (e :: es) t)
    (hbase : attributeBase o name X.env (eval o X.env) = eval o X.env := by rfl)
    (hfew : ((backTo cpos (starEach (e :: es) X.env)).all (fun x => !x.1) && (backToKw cpos (keywordEach [] X.env)).all (fun x => x.1.isSome)
      && decide ((e :: es).length + ([] : List Keyword).length + (if ([] : List Keyword).isEmpty then 0 else 1) < 30)) = true := by rfl)
    (hline : (apos.endLine == cpos.line) = true := by rfl) (hs : starEach (e :: es) X.env = (false, eval e X.env) :: starEach es X.env := by rfl) (hplain : (backTo cpos (starEach es X.env)).any (·.1) = false := by rfl) :
    PE X (.Call (.Attribute o name apos) (e :: es) [] cpos) (tBM X.K T r to t) := by
  intro pins s σ H Q I h
  refine wpAny_Call_method_late hbase hfew hline rfl (thn (ho pins s σ H _ I h) fun v s1 ⟨x, H1, I1, r1, ty, q1⟩ => ?_)
  obtain ⟨h1, h2⟩ := tyV_is I1 r1 ty
  refine ⟨T, id, pa, slot, hty, h1, h2, ?_⟩
  have hA := ha cpos pins s1 σ H1 _ I1 q1
  rw [hs] at hA ⊢
  refine Calls.callWith_builtin (by show (false || (backTo cpos (starEach es X.env)).any (·.1)) = false; rw [hplain] <;> rfl) (Calls.evalArgs_plain ?_)
  exact thn hA fun us s2 ⟨vs, H2, I2, r2, q2⟩ => hm pins s2 σ H2 x vs v us Q I2 r1 r2 q2
/- xs.append(e), list.index on a module's tuple .. are MtR facts of 06m -/
end
end L2

namespace L2
open PySem PySem.Spec PyProof.Rows

def MtM (X : Cx) (id : String) (r : V → List V → Hp → VK → Prop) : Prop :=
  ∀ (pins : List (Addr × Obj)) (s : Shared) (σ : St) (H : Hp) (x : V) (xs : List V) (v : Value) (us : List Value) (Q : VK), Inv X pins σ H s → RelV x v → Vals xs us → r x xs H Q →
    wpAny (model X.prog X.w) X.A (call (.builtin id) (v :: us)) (EP X pins σ Q) X.xe s

/-! ### lists of values -/
theorem Vals.one : ∀ {x : V} {us : List Value}, Vals [x] us → ∃ u, us = [u] ∧ RelV x u
  | _, _, .cons r .nil => ⟨_, rfl, r⟩
theorem Vals.two : ∀ {x y : V} {us : List Value}, Vals [x, y] us → ∃ u v, us = [u, v] ∧ RelV x u ∧ RelV y v
  | _, _, _, .cons r (.cons q .nil) => ⟨_, _, rfl, r, q⟩
theorem Vals.zero : ∀ {us : List Value}, Vals [] us → us = []
  | _, .nil => rfl
theorem Vals.dropLast {xs : List V} {us : List Value} (h : Vals xs us) : Vals xs.dropLast us.dropLast := by
  induction h with
  | nil => exact .nil
  | cons r t ih =>
    cases t with
    | nil => exact .nil
    | cons q t' => exact .cons r ih
theorem Vals.eraseIdx : ∀ {xs : List V} {us : List Value} (i : Nat), Vals xs us → Vals (xs.eraseIdx i) (us.eraseIdx i)
  | _, _, _, .nil => .nil
  | _, _, 0, .cons _ t => t
  | _, _, i + 1, .cons r t => .cons r (Vals.eraseIdx i t)
theorem Vals.reverse {xs : List V} {us : List Value} (h : Vals xs us) : Vals xs.reverse us.reverse := by
  induction h with
  | nil => exact .nil
  | cons r t ih => rw [List.reverse_cons, List.reverse_cons]; exact Vals.append ih (.cons r .nil)
theorem Vals.rep {xs : List V} {us : List Value} (h : Vals xs us) : ∀ k : Nat, Vals (List.replicate k xs).flatten (List.replicate k us).flatten
  | 0 => .nil
  | k + 1 => by
    rw [List.replicate_succ, List.replicate_succ, List.flatten_cons, List.flatten_cons]
    exact Vals.append h (Vals.rep h k)
theorem erase_last {α : Type} (l : List α) : l.eraseIdx (l.length - 1) = l.dropLast := by
  induction l with
  | nil => rfl
  | cons a r ih =>
    cases r with
    | nil => rfl
    | cons b r =>
      have e : (a :: b :: r).length - 1 = ((b :: r).length - 1) + 1 := by
        have h1 : (a :: b :: r).length = r.length + 2 := rfl
        have h2 : (b :: r).length = r.length + 1 := rfl
        omega
      rw [e, List.eraseIdx_cons_succ, ih]
      all_goals rfl
theorem len_erase {α : Type} : ∀ (l : List α) (i : Nat), (l.eraseIdx i).length ≤ l.length
  | [], _ => Nat.le_refl _
  | _ :: _, 0 => Nat.le_succ _
  | _ :: r, i + 1 => Nat.succ_le_succ (len_erase r i)
theorem foldl_rep (its : List Value) : ∀ (k : Nat) (acc : List Value),
    List.foldl (fun x1 x2 => x1 ++ x2) acc.toArray (List.replicate k its.toArray) = (acc ++ (List.replicate k its).flatten).toArray
  | 0, acc => by simp
  | k + 1, acc => by
    have e : acc.toArray ++ its.toArray = (acc ++ its).toArray := by simp
    have e2 : (acc ++ its) ++ (List.replicate k its).flatten = acc ++ (List.replicate (k + 1) its).flatten := by
      rw [List.replicate_succ, List.flatten_cons, List.append_assoc]
    rw [← e2, ← foldl_rep its k (acc ++ its), ← e, List.replicate_succ, List.foldl_cons]

section
variable {X : Cx} {pins : List (Addr × Obj)} {σ : St} {H : Hp} {s : Shared} {l b : Addr} {xs ys zs : List V}

/-! ### the two steps: a tracked list is rewritten, a new list is laid -/
theorem Inv.lset {its its' : List Value} {n : Nat} {f : Array Value → Array Value} {t' : Nat} (I : Inv X pins σ H s) (hH : H l = some (.lst xs))
    (e : s.heap.get? l = some { cls := .type "list", data := .seq its.toArray n }) (hf : f its.toArray = its'.toArray) (hv : Vals ys its') (hz : ys.length ≤ sizeLine) :
    Inv X pins σ (upd H l (.lst ys)) { s with heap := s.heap.update l (Obj.mapSeq f), toks := t' } := by
  have q := PySem.IsL.update e f
  rw [hf] at q
  refine I.write (x := l) (e := l) (by rw [hH]; exact trivial) (.inl rfl) (fun b' u hb hu => (Heap.get?_update_other s.heap (Obj.mapSeq f) (Ne.symm hb)).trans hu) ⟨_, q⟩ ?_
  exact ⟨hz, its', _, hv, q⟩
theorem Inv.lnew {its : List Value} {t' : Nat} (I : Inv X pins σ H s) (hv : Vals ys its) (hz : ys.length ≤ sizeLine) :
    Inv X pins σ (upd H s.heap.objs.size (.lst ys)) { s with heap := s.heap.push { cls := .type "list", data := .seq its.toArray }, toks := t' } :=
  I.laid (fun _ _ q => Heap.get?_push_of_some _ q) (Nat.le_refl _) ⟨hz, its, 0, hv, Heap.get?_push_size _ rfl⟩
theorem Inv.fresh (I : Inv X pins σ H s) : H s.heap.objs.size = none := I.hok.fresh (Nat.le_refl _)
theorem Inv.lstM (I : Inv X pins σ H s) (hH : H l = some (.lst xs)) : xs.length ≤ sizeLine ∧ ∃ (its : List Value) (n : Nat), Vals xs its ∧ xs.length = its.length ∧ s.heap.get? l = some { cls := .type "list", data := .seq its.toArray n } := by
  obtain ⟨z, its, n, r, e⟩ := I.hok l _ hH
  exact ⟨z, its, n, r, r.length, e⟩

theorem notLongL {n : Nat} (h : n ≤ sizeLine) : Builtin.List.listTooLong n = false := by
  unfold Builtin.List.listTooLong
  exact decide_eq_false (by omega)
end

section
variable {X : Cx}

/-! ### methods -/
def rAppend : V → List V → Hp → VK → Prop := fun x vs H Q => ∃ l xs y, x = .ref l ∧ vs = [y] ∧ H l = some (.lst xs) ∧ xs.length < sizeLine ∧ Q .non (upd H l (.lst (xs ++ [y])))
theorem mt_append : MtM X "list.append" rAppend := by
  intro pins s σ H x vs v us Q I rx rv h
  obtain ⟨l, xs, y, rfl, rfl, hH, hz, q⟩ := h
  cases rx
  obtain ⟨u, rfl, ru⟩ := rv.one
  obtain ⟨z, its, n, r, hl, e⟩ := I.lstM hH
  refine call_meets F.slot_list_append ⟨_, e, rfl⟩ F.entry_list_append (F.args_list_append_2 _ _) (PySem.list_append l its.toArray n u (by rw [List.size_toArray]; omega)) ⟨e, ?_⟩
  refine ⟨.non, _, I.lset (its' := its ++ [u]) hH e (by simp) (r.append (.cons ru .nil)) ?_, rfl, q⟩
  rw [List.length_append, List.length_singleton]
  omega

def rExtend : V → List V → Hp → VK → Prop := fun x vs H Q => ∃ l b xs zs, x = .ref l ∧ vs = [.ref b] ∧ H l = some (.lst xs) ∧ H b = some (.lst zs) ∧ xs.length + zs.length ≤ sizeLine ∧ Q .non (upd H l (.lst (xs ++ zs)))
theorem mt_extend : MtM X "list.extend" rExtend := by
  intro pins s σ H x vs v us Q I rx rv h
  obtain ⟨l, b, xs, zs, rfl, rfl, hH, hB, hz, q⟩ := h
  cases rx
  obtain ⟨u, rfl, ru⟩ := rv.one
  cases ru
  obtain ⟨z, its, n, r, hl, e⟩ := I.lstM hH
  obtain ⟨z2, its2, n2, r2, hl2, e2⟩ := I.lstM hB
  have hsz : its.toArray.size + its2.toArray.size ≤ sizeLine := by rw [List.size_toArray, List.size_toArray]; omega
  have hlong : ¬ (!its.toArray.isEmpty && Builtin.List.listTooLong (its.toArray.size + its2.toArray.size)) = true := by
    rw [notLongL hsz, Bool.and_false]
    exact Bool.false_ne_true
  refine call_meets F.slot_list_extend ⟨_, e, rfl⟩ F.entry_list_extend (F.args_list_extend_2 _ _)
    (AutoSeq1.list_extend_list_list_0 l its.toArray n b its2.toArray n2 hlong (by rw [List.size_toArray]; omega) (by omega)) ⟨e, e2, ?_⟩
  refine ⟨.non, _, I.lset (its' := its ++ its2) hH e (by simp) (r.append r2) ?_, rfl, q⟩
  rw [List.length_append]
  omega

def rPop : V → List V → Hp → VK → Prop := fun x vs H Q => ∃ l xs y, x = .ref l ∧ vs = [] ∧ H l = some (.lst xs) ∧ xs[xs.length - 1]? = some y ∧ Q y (upd H l (.lst xs.dropLast))
theorem mt_pop : MtM X "list.pop" rPop := by
  intro pins s σ H x vs v us Q I rx rv h
  obtain ⟨l, xs, y, rfl, rfl, hH, hy, q⟩ := h
  cases rx
  have hus := rv.zero
  subst hus
  obtain ⟨z, its, n, r, hl, e⟩ := I.lstM hH
  obtain ⟨u, hu, ru⟩ := r.get hy
  have hy' : its.toArray[its.toArray.size - 1]? = some u := by
    show its.toArray[its.length - 1]? = some u
    rw [← Array.getElem?_toList, ← hl]
    exact hu
  refine call_meets F.slot_list_pop ⟨_, e, rfl⟩ F.entry_list_pop (F.args_list_pop_1 _) (MeetsSeq.list_pop_last l its.toArray n u hy' (by rw [List.size_toArray]; omega)) ⟨e, ?_⟩
  refine ⟨y, _, I.lset (its' := its.dropLast) hH e ?_ r.dropLast ?_, ru, q⟩
  · show its.toArray.eraseIdxIfInBounds (its.toArray.size - 1) = its.dropLast.toArray
    rw [List.size_toArray, List.eraseIdxIfInBounds_toArray, erase_last]
  · rw [List.length_dropLast]
    omega

def rPopAt : V → List V → Hp → VK → Prop := fun x vs H Q => ∃ l xs i k y, x = .ref l ∧ vs = [.int i] ∧ H l = some (.lst xs) ∧ -(2 ^ 63) ≤ i ∧ i < 2 ^ 63 ∧ seqIndex? i xs.length = some k ∧ xs[k]? = some y ∧ Q y (upd H l (.lst (xs.eraseIdx k)))
theorem mt_popAt : MtM X "list.pop" rPopAt := by
  intro pins s σ H x vs v us Q I rx rv h
  obtain ⟨l, xs, i, k, y, rfl, rfl, hH, h1, h2, hk, hy, q⟩ := h
  cases rx
  obtain ⟨u, rfl, ru⟩ := rv.one
  obtain ⟨t, rfl⟩ := ru
  obtain ⟨z, its, n, r, hl, e⟩ := I.lstM hH
  obtain ⟨w, hw, rw'⟩ := r.get hy
  refine call_meets F.slot_list_pop ⟨_, e, rfl⟩ F.entry_list_pop (F.args_list_pop_2 _ _)
    (MeetsSeq.list_pop_at l its.toArray n i t k w (fitsIndex_both h1 h2) (by rw [List.size_toArray, ← hl]; exact hk) (by rw [← Array.getElem?_toList]; exact hw) (by rw [List.size_toArray]; omega)) ⟨e, ?_⟩
  refine ⟨y, _, I.lset (its' := its.eraseIdx k) hH e ?_ (r.eraseIdx k) ?_, rw', q⟩
  · show its.toArray.eraseIdxIfInBounds k = (its.eraseIdx k).toArray
    rw [List.eraseIdxIfInBounds_toArray]
  · have := len_erase xs k
    omega

def rReverse : V → List V → Hp → VK → Prop := fun x vs H Q => ∃ l xs, x = .ref l ∧ vs = [] ∧ H l = some (.lst xs) ∧ Q .non (upd H l (.lst xs.reverse))
theorem mt_reverse : MtM X "list.reverse" rReverse := by
  intro pins s σ H x vs v us Q I rx rv h
  obtain ⟨l, xs, rfl, rfl, hH, q⟩ := h
  cases rx
  have hus := rv.zero
  subst hus
  obtain ⟨z, its, n, r, hl, e⟩ := I.lstM hH
  refine call_meets F.slot_list_reverse ⟨_, e, rfl⟩ F.entry_list_reverse (F.args_list_reverse_1 _) (AutoSeq1.list_reverse_list_0 l its.toArray n (by rw [List.size_toArray]; omega)) ⟨e, ?_⟩
  refine ⟨.non, _, I.lset (its' := its.reverse) hH e (by simp) r.reverse ?_, rfl, q⟩
  rw [List.length_reverse]
  omega

def rClear : V → List V → Hp → VK → Prop := fun x vs H Q => ∃ l xs, x = .ref l ∧ vs = [] ∧ H l = some (.lst xs) ∧ Q .non (upd H l (.lst []))
theorem mt_clear : MtM X "list.clear" rClear := by
  intro pins s σ H x vs v us Q I rx rv h
  obtain ⟨l, xs, rfl, rfl, hH, q⟩ := h
  cases rx
  have hus := rv.zero
  subst hus
  obtain ⟨z, its, n, r, hl, e⟩ := I.lstM hH
  refine call_meets F.slot_list_clear ⟨_, e, rfl⟩ F.entry_list_clear (F.args_list_clear_1 _) (AutoSeq1.list_clear_list_0 l its.toArray n (by rw [List.size_toArray]; omega)) ⟨e, ?_⟩
  exact ⟨.non, _, I.lset (its' := []) (ys := []) hH e rfl .nil (Nat.zero_le _), rfl, q⟩

/-! ### list + list, list += list, list * int -/
def rCat : R2 := fun x y H Q => ∃ l b xs zs, x = .ref l ∧ y = .ref b ∧ H l = some (.lst xs) ∧ H b = some (.lst zs) ∧ xs.length + zs.length ≤ sizeLine ∧ ∀ p, H p = none → Q (.ref p) (upd H p (.lst (xs ++ zs)))
theorem op_cat : OpR X (binaryOp .Add) rCat := by
  intro pins s σ H x y v u Q I rx ry h
  obtain ⟨l, b, xs, zs, rfl, rfl, hH, hB, hz, q⟩ := h
  cases rx
  cases ry
  obtain ⟨z, its, n, r, hl, e⟩ := I.lstM hH
  obtain ⟨z2, its2, n2, r2, hl2, e2⟩ := I.lstM hB
  refine PySem.P.add_list e e2 ?_ (by rw [List.size_toArray, List.size_toArray]; omega)
  have ea : its.toArray ++ its2.toArray = (its ++ its2).toArray := by simp
  rw [ea]
  exact ⟨.ref _, _, I.lnew (t' := s.toks) (r.append r2) (by rw [List.length_append]; omega), rfl, q _ I.fresh⟩
/-- a list times an int (a negative one is nothing) -/
def rRep : R2 := fun x y H Q => ∃ l k xs, x = .ref l ∧ y = .int k ∧ H l = some (.lst xs) ∧ -(2 ^ 63) ≤ k ∧ k < 2 ^ 63 ∧ xs.length * k.toNat ≤ sizeLine ∧
  ∀ p, H p = none → Q (.ref p) (upd H p (.lst (List.replicate k.toNat xs).flatten))
theorem len_rep {α : Type} (xs : List α) (k : Nat) : (List.replicate k xs).flatten.length = k * xs.length := by
  induction k with
  | zero => simp
  | succ k ih => rw [List.replicate_succ, List.flatten_cons, List.length_append, ih, Nat.succ_mul, Nat.add_comm]
theorem op_rep : OpR X (binaryOp .Mult) rRep := by
  intro pins s σ H x y v u Q I rx ry h
  obtain ⟨l, k, xs, rfl, rfl, hH, h1, h2, hz, q⟩ := h
  cases rx
  obtain ⟨t, rfl⟩ := ry
  obtain ⟨z, its, n, r, hl, e⟩ := I.lstM hH
  have hlen : its.toArray.size * k.toNat ≤ sizeLine := by rw [List.size_toArray, ← hl]; exact hz
  have hcap : ¬ its.toArray.size * k.toNat > (2 ^ 63 - 1) / 8 := by
    have : (sizeLine : Nat) ≤ (2 ^ 63 - 1) / 8 := by decide
    omega
  have hfit : ¬ (!Builtin.List.listFitsIndex k) = true := by
    rw [fitsIndex_both h1 h2]
    exact Bool.false_ne_true
  have hlong : ¬ Builtin.List.listTooLong (its.toArray.size * k.toNat) = true := by
    rw [notLongL hlen]
    exact Bool.false_ne_true
  have hnew : List.foldl (fun x1 x2 => x1 ++ x2) #[] (List.replicate (if its.toArray.isEmpty = true then 0 else k.toNat) its.toArray) = (List.replicate k.toNat its).flatten.toArray := by
    have f0 : ∀ m : Nat, List.foldl (fun x1 x2 => x1 ++ x2) #[] (List.replicate m its.toArray) = (List.replicate m its).flatten.toArray := fun m => by
      have := foldl_rep its m []
      rw [List.nil_append] at this
      exact this
    rw [f0]
    cases its with
    | nil => simp
    | cons a r' => rw [if_neg (by simp)]
  refine wpAny_binaryOp_repeat_ref (T := "list") (U := "int") (by decide) ⟨_, e, rfl⟩ (fun s' => typeIs_int s' k t) noFill_list_mul F.fills_int_mul F.slot_int_rmul repeat_list F.slot_int_index.lookup
    (call_meets F.slot_int_rmul (typeIs_int s k t) F.entry_int_rmul (F.args_int_rmul_2 _ _) (int___rmul___int_list k t l its.toArray n)
      ⟨e, rfl, ⟨_, e, rfl⟩, call_meets F.slot_list_mul ⟨_, e, rfl⟩ F.entry_list_mul (F.args_list_mul_2 _ _) (AutoListH.list___mul___list_int_3 l its.toArray n k t hfit hcap hlong) ⟨e, ?_⟩⟩)
  rw [hnew]
  exact ⟨.ref _, _, I.lnew (t' := s.toks) (r.rep k.toNat) (by rw [len_rep, Nat.mul_comm]; exact hz), rfl, q _ I.fresh⟩

/-! ### del xs[i] -/
theorem del_list {pins : List (Addr × Obj)} {s : Shared} {σ : St} {H : Hp} {l : Addr} {xs : List V} {i : Int} {t : Tok} {k : Nat} {Q : Unit → Shared → Prop} (I : Inv X pins σ H s) (hH : H l = some (.lst xs))
    (h1 : -(2 ^ 63) ≤ i) (h2 : i < 2 ^ 63) (hk : seqIndex? i xs.length = some k) (h : ∀ s', Inv X pins σ (upd H l (.lst (xs.eraseIdx k))) s' → Q () s') :
    wpAny (model X.prog X.w) X.A (delItem (.ref l) (.int i t)) Q X.xe s := by
  obtain ⟨z, its, n, r, hl, e⟩ := I.lstM hH
  refine PySem.P.delItem_list (k := k) e (fitsIndex_both h1 h2) (by rw [List.size_toArray, ← hl]; exact hk) (h _ ?_) (by rw [List.size_toArray]; omega)
  refine I.lset (its' := its.eraseIdx k) (t' := s.toks) hH e ?_ (r.eraseIdx k) ?_
  · show its.toArray.eraseIdxIfInBounds k = (its.eraseIdx k).toArray
    rw [List.eraseIdxIfInBounds_toArray]
  · have := len_erase xs k
    omega
end

/-! ### xs[a:b] = ys -/
section
variable {prog : Program} {w : World} {A : Around} {E : Value → Shared → Prop} {s : Shared}
theorem splice_eq (its its2 : List Value) (a c : Nat) : its.toArray.extract 0 a ++ its2.toArray ++ its.toArray.extract c its.toArray.size = (its.take a ++ its2 ++ its.drop c).toArray := by
  apply Array.toList_inj.mp
  first
    | (simp
       exact List.take_of_length_le (by simp))
    | simp [List.take_of_length_le]
    | simp
theorem bounds_run {a c n : Nat} (hac : a ≤ c) (hc : c ≤ n) : sliceBounds (some (a : Int)) (some (c : Int)) none n = ((a : Int), (c : Int), 1) := by
  simp only [sliceBounds, Option.getD_none]
  have h1 : ¬ ((a : Int) < 0) := by omega
  have h2 : ¬ ((c : Int) < 0) := by omega
  simp only [h1, h2, if_false, show (1 : Int) > 0 by decide, if_true]
  congr 1
  · omega
  · congr 1; omega
set_option maxRecDepth 100000 in
/-- list.__setitem__ with a slice of step one and another list -/
theorem setItem_slice {l b sl : Addr} {items new : Array Value} {n n2 : Nat} {vl vu : Value} {a c : Nat} {Q : Unit → Shared → Prop}
    (e : s.heap.get? l = some { cls := .type "list", data := .seq items n }) (e2 : s.heap.get? b = some { cls := .type "list", data := .seq new n2 }) (hne : l ≠ b)
    (hs : s.heap.IsSliceOf sl vl vu .none) (pl : IsPart vl (some (a : Int))) (pu : IsPart vu (some (c : Int))) (hac : a ≤ c) (hc : c ≤ items.size)
    (hsz : items.size + new.size ≤ sizeLine) (h : Q () { s with heap := s.heap.update l (Obj.mapSeq fun xs => xs.extract 0 a ++ new ++ xs.extract c xs.size) }) :
    wpAny (model prog w) A (setItem (.ref l) (.ref sl) (.ref b)) Q E s := by
  have hl : s.heap.IsList l items := PySem.IsL.isList e
  have hb : s.heap.IsList b new := PySem.IsL.isList e2
  obtain ⟨os, hos, hcs, hds⟩ := id hs
  have hTs : s.TypeIs (.ref sl) "slice" := ⟨os, hos, hcs⟩
  have hstep : ¬ ((rawPart none == rawInt 0) = true) := Bool.false_ne_true
  have hsame : Builtin.List.listSameRef (.ref l) (.ref b) = false := by
    unfold Builtin.List.listSameRef
    exact beq_eq_false_iff_ne.mpr hne
  have hmax : (max (a : Int) (c : Int)).toNat = c := by omega
  have hz' : ((fun xs : Array Value => xs.extract 0 a ++ new ++ xs.extract c xs.size) items).size ≤ sizeLine + 1 := by
    simp only [Array.size_append, Array.size_extract]
    omega
  unfold setItem
  try with_reducible refine wpAny_holding ?_
  first | refine wpAny_bind (wpAny_pure ?_) | skip
  refine wpAny_bind (wpAny_sequenceKey hl.typeIs (by decide) ?_)
  refine wpAny_bind (wpAny_callSpecial?_slot (name := Str.ofString "__setitem__") hl.typeIs slot_list_setitem
    (wpAny_call_entry slot_list_setitem hl.typeIs entry_list_setitem ?_ (args_list_setitem _ _ _)))
  show wpAny _ _ (Builtin.List.listSubscript? (.ref sl) >>= _) _ _ s
  refine wpAny_bind ?_
  unfold Builtin.List.listSubscript?
  refine wpAny_bind (wpAny_specialOf hTs slice_no_index ?_)
  simp only [Option.isNone_none, if_true]
  refine wpAny_pure ?_
  show wpAny _ _ (typeOf (.ref sl) >>= _) _ _ s
  refine wpAny_bind (wpAny_typeOf hTs ?_)
  first
    | rw [if_neg (by decide)]
    | refine PySem.W.KFB.if_not (by decide) ?_
  rw [listSliceParts_eq]
  refine wpAny_bind (wpAny_bind (wpAny_field hos hds (x := .none) rfl (wpAny_bind (wpAny_listPart .none ?_))))
  rw [if_neg hstep]
  refine wpAny_bind (wpAny_field hos hds (x := vl) rfl (wpAny_bind (wpAny_listPart pl ?_)))
  refine wpAny_bind (wpAny_field hos hds (x := vu) rfl (wpAny_bind (wpAny_listPart pu (wpAny_pure ?_))))
  first
    | simp only [hsame, Bool.false_eq_true, if_false]
    | refine PySem.W.KFB.if_not hsame ?_
    | (dsimp only
       rw [if_neg (by rw [hsame]; exact Bool.false_ne_true)])
  refine wpAny_bind (m := Builtin.List.listAllItems (.ref b) "must assign iterable to extended slice") ?_
  unfold Builtin.List.listAllItems
  refine wpAny_bind (wpAny_typeOf hb.typeIs ?_)
  first
    | refine PySem.W.KFB.if_so (by decide) ?_
    | rw [if_pos (by decide)]
    | simp only [beq_self_eq_true, Bool.true_or, if_true]
  unfold Builtin.List.listItems
  refine wpAny_bind (wpAny_seqItems e2 rfl (wpAny_pure ?_))
  refine wpAny_bind (wpAny_bind (wpAny_seqItems e rfl (wpAny_pure ?_)))
  refine wpAny_bind (wpAny_of_eq ((sliceIndices_raw (some (a : Int)) (some (c : Int)) none items.size (by simp)).trans (congrArg (pure : Int × Int × Int → Sem (Int × Int × Int)) (bounds_run hac hc))) ?_)
  show wpAny _ _ (if ((1 : Int) == 1) = true then _ else _) _ _ s
  rw [if_pos (by decide)]
  refine wpAny_bind (wpAny_rule ?_)
  first
    | simp only [notLongL hsz, Bool.false_eq_true, if_false]
    | refine PySem.W.KFB.if_not (notLongL hsz) ?_
  first | refine wpAny_bind (wpAny_pure ?_) | skip
  show wpAny _ _ (updateSeq l (fun xs => xs.extract 0 ((a : Int)).toNat ++ new ++ xs.extract (max (a : Int) (c : Int)).toNat xs.size) >>= _) _ _ s
  rw [hmax, Int.toNat_natCast]
  refine wpAny_bind (wpAny_updateSeq (hz := Nat.le_trans (Nat.le_add_right _ _) hsz) (_hz' := hz') e rfl ?_)
  refine wpAny_bind (wpAny_letGo ?_)
  first
    | exact wpAny_bind (wpAny_pure (wpAny_pure ⟨.none, rfl, wpAny_pure h⟩))
    | exact wpAny_pure ⟨.none, rfl, wpAny_pure h⟩
end

section
variable {X : Cx}
/-- xs[a:c] = ys of another list, at the value level: sl is the slice object that was just made -/
theorem set_slice {pins : List (Addr × Obj)} {s : Shared} {σ : St} {H : Hp} {l b sl : Addr} {xs ys : List V} {a c : Int} {vl vu : Value} {Q : Unit → Shared → Prop} (I : Inv X pins σ H s)
    (hH : H l = some (.lst xs)) (hB : H b = some (.lst ys)) (hne : l ≠ b) (hs : s.heap.IsSliceOf sl vl vu .none) (ra : RelV (.int a) vl) (rc : RelV (.int c) vu) (h0 : 0 ≤ a) (hac : a ≤ c) (hc : c ≤ xs.length)
    (hz : xs.length + ys.length ≤ sizeLine) (h : ∀ s', Inv X pins σ (upd H l (.lst (xs.take a.toNat ++ ys ++ xs.drop c.toNat))) s' → Q () s') :
    wpAny (model X.prog X.w) X.A (setItem (.ref l) (.ref sl) (.ref b)) Q X.xe s := by
  obtain ⟨ta, rfl⟩ := ra
  obtain ⟨tc, rfl⟩ := rc
  obtain ⟨z, its, n, r, hl, e⟩ := I.lstM hH
  obtain ⟨z2, its2, n2, r2, hl2, e2⟩ := I.lstM hB
  obtain ⟨a', rfl⟩ := Int.eq_ofNat_of_zero_le h0
  obtain ⟨c', rfl⟩ := Int.eq_ofNat_of_zero_le (Int.le_trans h0 hac)
  simp only [Int.toNat_natCast] at h
  refine setItem_slice (a := a') (c := c') e e2 hne hs (.int _ _) (.int _ _) (by omega) (by rw [List.size_toArray]; omega) (by rw [List.size_toArray, List.size_toArray]; omega) (h _ ?_)
  refine I.lset (its' := its.take a' ++ its2 ++ its.drop c') (t' := s.toks) hH e ?_ (Vals.append (Vals.append (r.take _) r2) (r.drop _)) ?_
  · exact splice_eq its its2 a' c'
  · rw [List.length_append, List.length_append, List.length_take, List.length_drop]
    omega
end
end L2

namespace Att
open PySem PySem.W PySem.Calls PyProof.Rows

/-! ### the script -/
theorem ints_of_wellAll {P : Params} {h : Heap} : ∀ (ns : List Int) (vs : List Value), WellAll P h vs (ns.map WData.int) → IntsAre vs ns := by
  intro ns
  induction ns with
  | nil =>
    intro vs w
    rw [List.map_nil] at w
    cases w
    exact .nil
  | cons n ns ih =>
    intro vs w
    rw [List.map_cons] at w
    cases w with
    | cons a b =>
      cases a
      exact .cons _ _ (ih _ b)

theorem script_of {l : OpenLaw} {n : Nat} (hn : l.most = some n) {P : Params} {h : Heap} {args : List WData} {vals : List Value}
    (hpre : l.row.toRowW.claim.pre args = true) (hwl : WellAll P h vals args) :
    ∃ a vs ns, vals = [Value.ref a] ∧ args = [WData.list (ns.map WData.int)] ∧ h.get? a = some { cls := .type "list", data := .seq vs.toArray } ∧ IntsAre vs ns ∧ ns.length ≤ n := by
  have hsh : WShape.hasAll [] args [.list .int] = true := (pre_splitW hpre).1
  have hc : l.pre.holds [] { args := args } = true := (pre_splitW hpre).2
  obtain ⟨d, r, rfl, h1, h2⟩ := hasAllW_cons hsh
  obtain rfl := hasAllW_nil h2
  obtain ⟨xs, rfl, h3⟩ := hasW_list h1
  obtain ⟨ns, rfl⟩ := items_int h3
  have hlen : ns.length ≤ n := by
    unfold OpenLaw.pre at hc
    have h4 : (WTm.not (.lt (.lit (.int (n : Int))) (.len (.arg 0)))).holds [] { args := [.list (ns.map .int)] } = true := by
      have h4 := (holds_andW hc).1
      rw [hn] at h4
      exact h4
    have h5 := condW_of h4 (w_not (w_lt w_lit (w_len_list (w_arg rfl))))
    rw [List.length_map] at h5
    refine Nat.le_of_not_lt fun q => ?_
    have q' : (n : Int) < ((ns.length : Nat) : Int) := by omega
    first
      | (rw [decide_eq_true q'] at h5; exact absurd h5 (by decide))
      | (simp at h5; omega)
  cases hwl with
  | cons w1 w2 =>
    cases w2
    cases w1 with
    | list ho hall => exact ⟨_, _, ns, rfl, rfl, ho, ints_of_wellAll ns _ hall, hlen⟩

theorem post_true (l : OpenLaw) (args : List WData) : l.row.toRowW.claim.post args (.bool true) args = true :=
  postW_of (r := l.row.toRowW) (X := (true == true))
    (show WShape.has [] (.bool true) .bool = true by first | rfl | decide | simp [WShape.has, WShape.arms, WShape.armsAll])
    (show (WTm.eq .res (.lit (.bool true))).value [] { args := args, res := some (.bool true), after := args } = some (.bool (true == true)) from w_eq_bool (w_res rfl) w_lit) rfl

/-! ### the attachment: holds_open's last premise (the goal 'hc' behind k_head) from a wpAny of the law's body -/
theorem attach {l : OpenLaw} {n : Nat} {q : Program} {loose : List Str} {XP : (Str → Option Value) → Heap → Prop} {YP : World → Heap → Prop} {d : DefRec} {x : Str}
    (hn : l.most = some n) (hdf : d.params.defaults = [])
    (hbind : ∀ pm cd doc v : Value, bindArgs (docDef d.name d.params d.body d.scope pm cd doc) ⟨[v], []⟩ = pure [(x, v)])
    (hx : d.scope.names.lookup x = some .local ∨ d.scope.names.lookup x = some .cell)
    (hk : d.scope.kind = .function) (hco : d.scope.isCoroutine = false) (hgen : d.scope.isGenerator = false)
    (body : ∀ (w : World) (s₀ s₁ s : Shared) (mg mb : Str → Option Value) (fa : Addr) (o : Obj) (pm cd doc : Value) (a : Addr) (vs : List Value) (ns : List Int),
      Ground q loose [] XP w s₀ mg mb s₁.heap → YP w s₁.heap →
      s₁.heap.get? fa = some o → o.data = .func (docDef d.name d.params d.body d.scope pm cd doc) → s₁.heap.CodeRec cd d.name → mg d.name = some (.ref fa) →
      s₁.heap.get? a = some { cls := .type "list", data := .seq vs.toArray } → IntsAre vs ns → ns.length ≤ n →
      s.gens = #[] → s.os = s₁.os →
      Fr s₁.heap s₁.heap.objs.size s.heap (bindL (envOfC d.name d.scope s₁.heap.objs.size fa cd).kindOf [(x, .ref a)] fun _ => none) →
      Cl s₁.heap.objs.size (cellsFrom (s₁.heap.objs.size + 1) d.scope.names []) s.heap (bindC (envOfC d.name d.scope s₁.heap.objs.size fa cd).kindOf [(x, .ref a)] fun _ => none) →
      wpAny (model l.prog w) (callerA.deeper (envOfC d.name d.scope s₁.heap.objs.size fa cd)) (execs d.body (envOfC d.name d.scope s₁.heap.objs.size fa cd))
        (fun f s' => f = .ret (.bool true) ∧ OldK s₁.heap s'.heap ∧ s'.os = s₁.os ∧ AllBare s'.gens) (fun _ _ => False) s) :
    WalkO q loose XP YP l.row.toRowW d [] (fun f vs => PySem.call f vs) := by
  intro w s₀ s₁ mg mb G Y fa o pm cd doc dV kV ho hd hcd hD hmg hg args vals as hpre hlay hrd hwl hlo
  obtain rfl : dV = .none := Dflts.none hD hdf
  obtain rfl : kV = .none := Dflts.noKw hD
  obtain ⟨a, vs, ns, rfl, rfl, hobj, hints, hlen⟩ := script_of hn hpre hwl
  refine enter_call ?_
  refine call_cells_ret (o := o) (by rw [depth_caller]; decide) ho (fd_plain hd) G.T.nolimit hcd (hbind pm cd doc (.ref a)) (fun y hy => ?_) (fun h₁ tk F X => ?_) hco hgen hk
  · obtain rfl : y = (x, Value.ref a) := List.mem_singleton.mp hy
    rcases hx with e | e
    · exact .inl e
    · exact .inr ⟨e, cellsFrom_some _ _ _ (.inl e)⟩
  · refine wpAny_mono (body w s₀ s₁ { s₁ with heap := h₁, toks := tk } mg mb fa o pm cd doc a vs ns G Y ho (fd_plain hd) hcd hmg hobj hints hlen hg rfl F X) (fun f s' hq => ?_) (fun _ _ hq => hq)
    obtain ⟨rfl, h2, h3, h4⟩ := hq
    exact ⟨.inl ⟨.bool true, .bool true, [], rfl, fun _ => rfl, .bool true, post_true l _, fun _ => ⟨List.Pairwise.nil, fun _ hm => (nomatch hm)⟩⟩, h2, h3, h4⟩

/-- the same from a codeAny of the CALL (for a layer whose function contracts speak of calls) -/
theorem attach_call {l : OpenLaw} {n : Nat} {q : Program} {loose : List Str} {XP : (Str → Option Value) → Heap → Prop} {YP : World → Heap → Prop} {d : DefRec}
    (hn : l.most = some n) (hdf : d.params.defaults = [])
    (call : ∀ (w : World) (s₀ s₁ : Shared) (mg mb : Str → Option Value) (fa : Addr) (o : Obj) (pm cd doc : Value) (a : Addr) (vs : List Value) (ns : List Int),
      Ground q loose [] XP w s₀ mg mb s₁.heap → YP w s₁.heap →
      s₁.heap.get? fa = some o → o.data = .func (docDef d.name d.params d.body d.scope pm cd doc) → s₁.heap.CodeRec cd d.name → mg d.name = some (.ref fa) →
      s₁.heap.get? a = some { cls := .type "list", data := .seq vs.toArray } → IntsAre vs ns → ns.length ≤ n → s₁.gens = #[] →
      codeAny (model l.prog w) callerA (.call (.ref fa) ⟨[.ref a], []⟩) (fun r s' => r = .ok (.ret (.bool true)) ∧ OldK s₁.heap s'.heap ∧ s'.os = s₁.os ∧ AllBare s'.gens) s₁) :
    WalkO q loose XP YP l.row.toRowW d [] (fun f vs => PySem.call f vs) := by
  intro w s₀ s₁ mg mb G Y fa o pm cd doc dV kV ho hd hcd hD hmg hg args vals as hpre hlay hrd hwl hlo
  obtain rfl : dV = .none := Dflts.none hD hdf
  obtain rfl : kV = .none := Dflts.noKw hD
  obtain ⟨a, vs, ns, rfl, rfl, hobj, hints, hlen⟩ := script_of hn hpre hwl
  refine enter_call (codeAny_mono (call w s₀ s₁ mg mb fa o pm cd doc a vs ns G Y ho (fd_plain hd) hcd hmg hobj hints hlen hg) fun r s' hq => ?_)
  obtain ⟨rfl, h2, h3, h4⟩ := hq
  exact ⟨.inl ⟨.bool true, .bool true, [], rfl, fun _ => rfl, .bool true, post_true l _, fun _ => ⟨List.Pairwise.nil, fun _ hm => (nomatch hm)⟩⟩, h2, h3, h4⟩

/-- the same where the top left finished generators (o_head chose holds_openN): nothing may have changed at all and no generator may be left -/
theorem attachN {l : OpenLaw} {n : Nat} {q : Program} {loose : List Str} {XP : (Str → Option Value) → Heap → Prop} {YP : World → Heap → Prop} {d : DefRec} {x : Str}
    (hn : l.most = some n) (hdf : d.params.defaults = [])
    (hbind : ∀ pm cd doc v : Value, bindArgs (docDef d.name d.params d.body d.scope pm cd doc) ⟨[v], []⟩ = pure [(x, v)])
    (hx : d.scope.names.lookup x = some .local ∨ d.scope.names.lookup x = some .cell)
    (hk : d.scope.kind = .function) (hco : d.scope.isCoroutine = false) (hgen : d.scope.isGenerator = false)
    (body : ∀ (w : World) (s₀ s₁ s : Shared) (mg mb : Str → Option Value) (fa : Addr) (o : Obj) (pm cd doc : Value) (a : Addr) (vs : List Value) (ns : List Int),
      Ground q loose [] XP w s₀ mg mb s₁.heap → YP w s₁.heap →
      s₁.heap.get? fa = some o → o.data = .func (docDef d.name d.params d.body d.scope pm cd doc) → s₁.heap.CodeRec cd d.name → mg d.name = some (.ref fa) →
      s₁.heap.get? a = some { cls := .type "list", data := .seq vs.toArray } → IntsAre vs ns → ns.length ≤ n →
      s.gens = #[] → s.os = s₁.os →
      Fr s₁.heap s₁.heap.objs.size s.heap (bindL (envOfC d.name d.scope s₁.heap.objs.size fa cd).kindOf [(x, .ref a)] fun _ => none) →
      Cl s₁.heap.objs.size (cellsFrom (s₁.heap.objs.size + 1) d.scope.names []) s.heap (bindC (envOfC d.name d.scope s₁.heap.objs.size fa cd).kindOf [(x, .ref a)] fun _ => none) →
      wpAny (model l.prog w) (callerA.deeper (envOfC d.name d.scope s₁.heap.objs.size fa cd)) (execs d.body (envOfC d.name d.scope s₁.heap.objs.size fa cd))
        (fun f s' => f = .ret (.bool true) ∧ (∀ b o, s₁.heap.get? b = some o → s'.heap.get? b = some o) ∧ s'.os = s₁.os ∧ s'.gens = #[]) (fun _ _ => False) s) :
    WalkN q loose XP YP l.row.toRowW d [] (fun f vs => PySem.call f vs) := by
  intro w s₀ s₁ mg mb G Y fa o pm cd doc dV kV ho hd hcd hD hmg hg args vals as hpre hlay hrd hwl hlo
  obtain rfl : dV = .none := Dflts.none hD hdf
  obtain rfl : kV = .none := Dflts.noKw hD
  obtain ⟨a, vs, ns, rfl, rfl, hobj, hints, hlen⟩ := script_of hn hpre hwl
  refine enter_callW ?_
  refine call_cells_ret (o := o) (by rw [depth_caller]; decide) ho (fd_plain hd) G.T.nolimit hcd (hbind pm cd doc (.ref a)) (fun y hy => ?_) (fun h₁ tk F X => ?_) hco hgen hk
  · obtain rfl : y = (x, Value.ref a) := List.mem_singleton.mp hy
    rcases hx with e | e
    · exact .inl e
    · exact .inr ⟨e, cellsFrom_some _ _ _ (.inl e)⟩
  · refine wpAny_mono (body w s₀ s₁ { s₁ with heap := h₁, toks := tk } mg mb fa o pm cd doc a vs ns G Y ho (fd_plain hd) hcd hmg hobj hints hlen hg rfl F X) (fun f s' hq => ?_) (fun _ _ hq => hq)
    obtain ⟨rfl, h2, h3, h4⟩ := hq
    exact ⟨.inl ⟨.bool true, .bool true, [], rfl, fun _ => rfl, .bool true, post_true l _, fun _ => ⟨List.Pairwise.nil, fun _ hm => (nomatch hm)⟩⟩, h2, h3, h4⟩

/-! ### rules over ANY heap (no ledger) from facts about the written part K: the library's own take a ledger (News) for what they write -/
section
variable {prog : Program} {w : World} {A : Around} {E : Value → Shared → Prop} {s : Shared} {K : Frag}

/-- a def of the module, or a method (qual 'C.m'), entered: the frame is the next address; cells behind it -/
theorem call_fn {R : Result → Shared → Prop} {name qual : Str} {params : Arguments} {body : List Stmt} {scope : Scope} {dV kV doc pm cdv ct oc : Value} {an od : Option Addr} {osl : Array (Option Value)} {f : Addr} {args : Args} {binds : List (Str × Value)}
    (X : K.In s.heap) (hlim : s.heap.NoLimit) (ho : K.lookup f = some ⟨oc, od, .func (fnOf name qual params body scope dV kV doc pm an cdv ct), osl⟩) (hcd : codeIn K cdv qual = true) (hroom : A.depth < recursionLimit)
    (hbind : BindsTo s (fnOf name qual params body scope dV kV doc pm an cdv ct) args binds)
    (hkind : (binds.all fun y => scope.names.lookup y.1 == some .local || scope.names.lookup y.1 == some .cell) = true)
    (h : ∀ s₁, InCallC s s.heap.objs.size (bindL (envOfC qual scope s.heap.objs.size f cdv).kindOf binds fun _ => none) (cellsFrom (s.heap.objs.size + 1) scope.names [])
        (bindC (envOfC qual scope s.heap.objs.size f cdv).kindOf binds fun _ => none) s₁ →
      wpAny (model prog w) (A.deeper (envOfC qual scope s.heap.objs.size f cdv)) (execs body (envOfC qual scope s.heap.objs.size f cdv))
        (fun fl s' => R (.ok (.ret (match fl with | .ret v => v | _ => .none))) s')
        (fun e s' => wpAny (model prog w) (A.deeper (envOfC qual scope s.heap.objs.size f cdv)) (leaving (envOfC qual scope s.heap.objs.size f cdv) e) (fun _ s'' => R (.error e) s'') (fun e' s'' => R (.error e') s'') s') s₁)
    (hco : scope.isCoroutine = false) (hgen : scope.isGenerator = false) (hk : scope.kind = .function) : codeAny (model prog w) A (.call (.ref f) args) R s := by
  refine codeAny_call_function hroom (X _ _ ho) rfl hco hgen rfl (codeRec_of X hcd) (hbind _ _ _ _ ?_)
  refine wpAny_newFunctionEnv_cells hk (kindsX hkind _) fun env he s₁ x => ?_
  subst he
  exact ⟨hlim.keeps x.toInCall.keep, codeAny_func (h s₁ x)⟩

/-- C(..): dict at size, instance at size + 1, then __init__ -/
theorem make_obj {R : Result → Shared → Prop} {C fI : Addr} {rest : List Value} {kw : List (Str × Value)}
    (X : K.In s.heap) (hm : makesIn K C = true) (hi : findIn K (.ref C) "__init__" = some (some (.ref fI))) (hf : isFn K (.ref fI) = true)
    (h : codeAny (model prog w) (A.under (.builtin "type.__call__" ⟨.ref C :: rest, kw⟩)) (.call (.ref fI) ⟨.ref (s.heap.objs.size + 1) :: rest, kw⟩) (InitBack (s.heap.objs.size + 1) R)
      { s with heap := (s.heap.push emptyDict).push (instObj C s.heap.objs.size) }) : codeAny (model prog w) A (.call (.ref C) ⟨rest, kw⟩) R s := by
  obtain ⟨hh, g, d, t, os⟩ := s
  exact make_core (makes_of X hm) (looks_findIn X hi) (fun self => bind_fn X self (beq_iff_eq.mp hf)) (.inl rfl) h

/-- x.name where the instance's dict holds the name and the class does not -/
theorem get_field {x C : Addr} {ox : Obj} {es : List DictEntry} {n : Nat} {name : Str} {expr : Bool} {v : Value} {Q : Value → Shared → Prop}
    (X : K.In s.heap) (I : PySem.W.InstAt s.heap x ox C (some (dictOf es n))) (hg : plainGet K C name = true) (hh : hasDictIn K C = true) (ha : findIn K (.ref C) name = some none)
    (hl : getL name es = some (some v)) (hv : handedIn v = true) (h : Q v { s with toks := s.toks + 1 }) : wpAny (model prog w) A (getAttr (.ref x) name expr) Q E s :=
  get_value X I (plainGet_of hg).1 (findObj_own hh ha rfl hl) hv h

/-- x.m(..): the method found in the class -/
theorem get_method {x C f : Addr} {ox : Obj} {es : List DictEntry} {n : Nat} {name : Str} {pl : Sem Bool} {Q : Value × List Value → Shared → Prop}
    (X : K.In s.heap) (I : PySem.W.InstAt s.heap x ox C (some (dictOf es n))) (hg : plainGet K C name = true) (hf : findIn K (.ref C) name = some (some (.ref f))) (ht : isFn K (.ref f) = true)
    (hl : getL name es = some none) (h : Q (.ref f, [.ref x]) s) : wpAny (model prog w) A (getMethod (.ref x) name pl) Q E s :=
  method_fn X I (plainGet_of hg).1 (plainGet_of hg).2 hf (beq_iff_eq.mp ht) (by show (lookIn name (dictOf es n)).map _ = _; rw [lookIn_dict, hl]; rfl) h

/-! the whole heap as the ledger: makes every rule that writes through a ledger a rule over any heap -/
def noObjs (h : Heap) : Heap := { h with objs := #[] }
theorem noObjs_get (h : Heap) (b : Addr) : (noObjs h).get? b = none := by
  cases e : (noObjs h).get? b with
  | none => rfl
  | some o => exact absurd (Heap.lt_size e) (Nat.not_lt_zero _)
def ledger (h : Heap) (L d : Addr) : List (Addr × Obj) := (List.range h.objs.size).filterMap fun a => if a = L ∨ a = d then none else (h.get? a).map fun o => (a, o)
theorem mem_ledger {h : Heap} {L d a : Addr} {o : Obj} : (a, o) ∈ ledger h L d ↔ a ≠ L ∧ a ≠ d ∧ h.get? a = some o := by
  unfold ledger
  rw [List.mem_filterMap]
  constructor
  · rintro ⟨b, _, e⟩
    split at e
    · cases e
    · rename_i hb
      obtain ⟨o', ho, e'⟩ := Option.map_eq_some_iff.mp e
      cases e'
      exact ⟨fun q => hb (.inl q), fun q => hb (.inr q), ho⟩
  · rintro ⟨n1, n2, ho⟩
    refine ⟨a, List.mem_range.mpr (Heap.lt_size ho), ?_⟩
    rw [if_neg (show ¬ (a = L ∨ a = d) from fun q => q.elim n1 n2), ho] <;> rfl
theorem news_ledger {h : Heap} {L d : Addr} {od : Obj} (hne : d ≠ L) (ho : h.get? d = some od) : News (noObjs h) L h ([] ++ (d, od) :: ledger h L d) := by
  rintro ⟨a, o⟩ hp
  rcases List.mem_cons.mp hp with e | hp
  · cases e
    exact ⟨ho, hne, noObjs_get _ _⟩
  · obtain ⟨n1, n2, e⟩ := mem_ledger.mp hp
    exact ⟨e, n1, noObjs_get _ _⟩
theorem fr_all {h : Heap} {L : Addr} {m : Str → Option Value} (n : h.Ns L m) : Fr (noObjs h) L h m :=
  ⟨n, fun b o e => (by rw [noObjs_get] at e; cases e), Nat.zero_le _⟩
/-- Upd of the head entry (for append_K, setItem_K ..) -/
theorem upd_ledger {h : Heap} {L d : Addr} {o o' : Obj} : Upd d o o' ((d, o) :: ledger h L d) ((d, o') :: ledger h L d) :=
  .head fun ⟨_, _⟩ hp => (mem_ledger.mp hp).2.1

/-- x.name = v over any heap: L is any namespace of the heap (the frame's, say): its map stays, its object is not told; all else but the dict stays -/
theorem set_field {x C dx L : Addr} {ox : Obj} {m : Str → Option Value} {es es' : List DictEntry} {n n' : Nat} {name : Str} {v : Value} {Q : Unit → Shared → Prop}
    (X : K.In s.heap) (I : PySem.W.InstAt s.heap x ox C (some (dictOf es n))) (hd : ox.dict = some dx) (hL : s.heap.Ns L m) (hne : dx ≠ L)
    (hs : findIn K (.ref C) "__setattr__" = some (some (.builtin "object.__setattr__"))) (hp : plainOver K C = true) (ht : takerIn K C name = some none) (hh : hasDictIn K C = true) (hl : (getL name es).isSome = true)
    (e : (putL name (PyData.keyHash w.params name) (.str name (s.toks + 1)) v es, putN name es n) = (es', n')) (hz : es'.length ≤ 1000)
    (h : ∀ h' : Heap, h'.Ns L m → h'.get? dx = some (dictOf es' n') → (∀ b o, b ≠ dx → b ≠ L → s.heap.get? b = some o → h'.get? b = some o) → Q () { s with heap := h', toks := s.toks + 2 }) :
    wpAny (model prog w) A (setAttr (.ref x) name v) Q E s := by
  obtain ⟨e1, e2⟩ := Prod.mk.inj e
  have hdx : s.heap.get? dx = some (dictOf es n) := by
    have := I.dict
    rw [hd] at this
    exact this
  refine set_plain X I hs (osa_dict (s := { s with toks := s.toks + 1 }) (h₀ := noObjs s.heap) (L := L) (m := m) (od := dictOf es n) (od' := dictOf es' n') (es := es') (n := n') (pre := []) (post := ledger s.heap L dx)
    (fr_all hL) (news_ledger hne hdx) X I hd hp ht hh hl (fun _ q => nomatch q) (fun ⟨_, _⟩ q => (mem_ledger.mp q).2.1) (by rw [putName_dict, e1, e2]) rfl hz fun h' F' N' => ?_)
  exact h h' F'.ns (N'.get (List.Mem.head _)) fun b o n1 n2 ho => N'.get (List.Mem.tail _ (mem_ledger.mpr ⟨n2, n1, ho⟩))
end
end Att

namespace L2
open PySem PySem.Spec PyProof.Rows

theorem vals_ints : ∀ {vs : List Value} {ns : List Int}, IntsAre vs ns → Vals (ns.map V.int) vs
  | _, _, .nil => .nil
  | _, _, .cons n t h => .cons ⟨t, rfl⟩ (vals_ints h)

/-- nothing is tracked but the script, known to the object (or it is an object of the module) -/
def Only (H : Hp) : Prop := ∀ b, H b = none ∨ ∃ o xs, H b = some (.frz o (.lst xs))

/-- THE HEAD: the law's promise, at the heap behind the top. F, the promise of the law's def, may use that base is part of the heap (so K.In base, base.Ns mainGlobals mg stand in Mod) -/
theorem law_call {P : Program} {w : World} {K : PySem.W.Frag} {mg mb : Str → Option Value} {CX : CXT} {k : Nat} {fa a : Addr} {fd : FuncData} {x : Str} {sp : Sp} {s₁ : Shared} {vs : List Value} {ns : List Int}
    (KX : K.In s₁.heap) (hns : s₁.heap.Ns mainGlobals mg) (hb : s₁.heap.Ns builtinsNs mb) (hbb : ∀ x : Str, x ≠ "__name__" → mb x = bootBuiltins x) (hlim : s₁.heap.NoLimit) (hg : s₁.gens = #[])
    (ha : s₁.heap.get? a = some { cls := .type "list", data := .seq vs.toArray }) (hi : IntsAre vs ns) (hl : ns.length ≤ sizeLine) (hr : Room k callerA)
    (F : ∀ base : Heap, K.In base → base.Ns mainGlobals mg → FnOk P w K mg base CX k fa fd [x] sp) (hbind : ∀ (s : Shared) (u : Value), BindsTo s fd ⟨[u], []⟩ [(x, u)])
    (hsp : ∀ H : Hp, Only H → SqL K H a (ns.map V.int) → sp [.ref a] H (fun v _ => v = .bl true) fun _ _ _ => False)
    (hCX : ∀ H e s', CX [] H s₁ (fun _ _ _ => False) e s' → False) :
    codeAny (model P w) callerA (.call (.ref fa) ⟨[.ref a], []⟩) (fun r s' => r = .ok (.ret (.bool true)) ∧ OldK s₁.heap s'.heap ∧ s'.os = s₁.os ∧ AllBare s'.gens) s₁ := by
  have rv := vals_ints hi
  have lenV := hi.length
  -- from an abstract heap in which nothing but the script may be tracked
  have core : ∀ H : Hp, Only H → SqL K H a (ns.map V.int) → HOk P w H s₁.heap → (∀ b, H b ≠ none → b = a) → (H a ≠ none → K.lookup a = none) →
      codeAny (model P w) callerA (.call (.ref fa) ⟨[.ref a], []⟩) (fun r s' => r = .ok (.ret (.bool true)) ∧ OldK s₁.heap s'.heap ∧ s'.os = s₁.os ∧ AllBare s'.gens) s₁ := by
    intro H hO hS hok hA hK
    have base_of : ∀ {b : Addr} {o : Obj}, s₁.heap.get? b = some o → H b = none → (hidT s₁.heap H).get? b = some o := fun e n => hidT_get e n
    have noA : ∀ {b : Addr} {o : Obj} {es : Array DictEntry} {ep : Nat}, s₁.heap.get? b = some o → o.data = .dict es ep → H b = none := fun {b o es ep} e d => by
      cases q : H b with
      | none => rfl
      | some u =>
        have e' : b = a := hA b (by rw [q]; simp)
        subst e'
        rw [ha] at e; cases e
        have d' : Data.seq vs.toArray _ = Data.dict es ep := d
        cases d'
    have nsK : ∀ {b : Addr} {m : Str → Option Value}, s₁.heap.Ns b m → (hidT s₁.heap H).Ns b m := fun {b m} ⟨o, es, ep, e, d, r⟩ => ⟨o, es, ep, base_of e (noA e d), d, r⟩
    have hKb : K.In (hidT s₁.heap H) := fun b o e => base_of (KX b o e) (by
      cases q : H b with
      | none => rfl
      | some u =>
        have e' : b = a := hA b (by rw [q]; simp)
        subst e'
        rw [hK (by rw [q]; simp)] at e; cases e)
    have hM : Mod K mg (hidT s₁.heap H) := ⟨hKb, nsK hns, ⟨mb, nsK hb, hbb⟩, let ⟨mc, h1, h2⟩ := hlim; ⟨mc, nsK h1, h2⟩⟩
    have e0 : Env0 P w K mg (hidT s₁.heap H) callerA [] s₁ H := ⟨rfl, hM, fun b o e => of_hidT e, Nat.le_of_eq (hidT_size _ _), trivial, fun b hb => absurd (show b ∈ ([] : List Addr) from hb) (by simp), hok, .of_eq hg⟩
    refine codeAny_mono ((F _ hKb (nsK hns)).run callerA [] s₁ H ⟨[.ref a], []⟩ [.ref a] [.ref a] _ _ hr e0 (hbind s₁ (.ref a)) (.cons rfl .nil) (hsp H hO hS)) fun r s' h => ?_
    cases r with
    | error e => exact (hCX H e s' h).elim
    | ok fl =>
      cases fl with
      | next => exact False.elim h
      | brk => exact False.elim h
      | cont => exact False.elim h
      | ret u =>
        obtain ⟨v, H', os, bare, un, hok', r', q⟩ := h
        have q' : v = .bl true := q
        subst q'
        obtain rfl : u = Value.bool true := r'
        refine ⟨rfl, OldK.of_keep fun b o e => ?_, os, bare⟩
        cases q : H b with
        | none => exact un.keep b o e q (by intro z; exact absurd (show b ∈ ([] : List Addr) from z) (by simp)) (by simp)
        | some u =>
          rcases hO b with z | ⟨ob, xs, z⟩
          · rw [q] at z; cases z
          · have z2 := un.frzs b ob _ z
            obtain ⟨e1, _⟩ := hok b _ z
            obtain ⟨e2, _⟩ := hok' b _ z2
            rw [e] at e1; cases e1
            exact e2
  cases hk : K.lookup a with
  | some o =>
    -- the script is one of the module's own objects
    have e := KX a o hk
    rw [ha] at e
    cases e
    refine core (fun _ => none) (fun _ => .inl rfl) (.inr ⟨_, vs.toArray, _, hk, rfl, rfl, rfl, by rw [List.size_toArray, lenV]; exact hl, by simpa using rv⟩) (fun b u z => by have z' : (none : Option HO) = some u := z; cases z') (fun b z => absurd rfl z) fun z => absurd rfl z
  | none =>
    refine core (fun b => if b = a then some (.frz { cls := .type "list", data := .seq vs.toArray } (.lst (ns.map V.int))) else none) (fun b => ?_) (.inl (.inr ⟨{ cls := .type "list", data := .seq vs.toArray }, if_pos rfl⟩)) (fun b u z => ?_) (fun b z => ?_) fun _ => hk
    · by_cases hb : b = a
      · exact .inr ⟨_, _, if_pos hb⟩
      · exact .inl (if_neg hb)
    · by_cases hb : b = a
      · have z' := (if_pos hb).symm.trans z
        cases z'
        subst hb
        exact ⟨ha, by rw [List.length_map]; exact hl, vs, _, rv, ha⟩
      · have z' := (if_neg hb).symm.trans z
        cases z'
    · by_cases hb : b = a
      · exact hb
      · exact absurd (if_neg hb) z
end L2

namespace L2
open PySem PySem.Spec PyProof.Rows

abbrev KOf {K : PySem.W.Frag} {h : Heap} (_ : K.In h) : PySem.W.Frag := K

/-- the goal that k_head leaves (case hc), from the law's promise. F gives the function object fd (K's own) once, then the promise over every base -/
theorem walk_of {l : PySem.W.OpenLaw} {n k : Nat} {q : Program} {loose : List Str} {XP : (Str → Option Value) → Heap → Prop} {YP : World → Heap → Prop} {d : DefRec} {K : Params → PySem.W.Frag} {CX : World → CXT} {sp : World → Sp} {x : Str}
    (hn : l.most = some n) (hn2 : n ≤ sizeLine) (hdf : d.params.defaults = []) (hr : Room k callerA)
    (hY : ∀ (w : World) (h : Heap), YP w h → (K w.params).In h)
    (F : ∀ (w : World) (mg : Str → Option Value) (fa : Addr) (h : Heap), (K w.params).In h → h.Ns mainGlobals mg → mg d.name = some (.ref fa) →
      ∃ fd : FuncData, (∀ (s : Shared) (u : Value), BindsTo s fd ⟨[u], []⟩ [(x, u)]) ∧
        ∀ base : Heap, (K w.params).In base → base.Ns mainGlobals mg → FnOk l.prog w (K w.params) mg base (CX w) k fa fd [x] (sp w))
    (hsp : ∀ (w : World) (H : Hp) (a : Addr) (ns : List Int), ns.length ≤ n → Only H → SqL (K w.params) H a (ns.map V.int) → sp w [.ref a] H (fun v _ => v = .bl true) fun _ _ _ => False)
    (hCX : ∀ (w : World) (H : Hp) (s : Shared) (e : Value) (s' : Shared), CX w [] H s (fun _ _ _ => False) e s' → False) :
    PySem.W.WalkO q loose XP YP l.row.toRowW d [] (fun f vs => PySem.call f vs) := by
  refine Att.attach_call hn hdf fun w s₀ s₁ mg mb fa o pm cd doc a vs ns G Y ho hd hcd hmg hobj hints hlen hg => ?_
  have KX := hY w _ Y
  obtain ⟨fd, hb, hF⟩ := F w mg fa _ KX G.T.g hmg
  exact law_call KX G.T.g G.T.b G.T.builtins G.T.nolimit hg hobj hints (Nat.le_trans hlen hn2) hr hF hb (fun H hO hS => hsp w H a ns hlen hO hS) fun H e s' => hCX w H s₁ e s'
/-- the same where the promise hangs on the written part alone: (sp := My.sp_law), no hole under a binder -/
theorem walk_ofK {l : PySem.W.OpenLaw} {n k : Nat} {q : Program} {loose : List Str} {XP : (Str → Option Value) → Heap → Prop} {YP : World → Heap → Prop} {d : DefRec} {K : Params → PySem.W.Frag} {CX : CXT} {sp : PySem.W.Frag → Sp} {x : Str}
    (hn : l.most = some n) (hn2 : n ≤ sizeLine) (hdf : d.params.defaults = []) (hr : Room k callerA)
    (hY : ∀ (w : World) (h : Heap), YP w h → (K w.params).In h)
    (F : ∀ (w : World) (mg : Str → Option Value) (fa : Addr) (h : Heap), (K w.params).In h → h.Ns mainGlobals mg → mg d.name = some (.ref fa) →
      ∃ fd : FuncData, (∀ (s : Shared) (u : Value), BindsTo s fd ⟨[u], []⟩ [(x, u)]) ∧
        ∀ base : Heap, (K w.params).In base → base.Ns mainGlobals mg → FnOk l.prog w (K w.params) mg base CX k fa fd [x] (sp (K w.params)))
    (hsp : ∀ (K : PySem.W.Frag) (H : Hp) (a : Addr) (ns : List Int), ns.length ≤ n → Only H → SqL K H a (ns.map V.int) → sp K [.ref a] H (fun v _ => v = .bl true) fun _ _ _ => False)
    (hCX : ∀ (H : Hp) (s : Shared) (e : Value) (s' : Shared), CX [] H s (fun _ _ _ => False) e s' → False) :
    PySem.W.WalkO q loose XP YP l.row.toRowW d [] (fun f vs => PySem.call f vs) :=
  walk_of (K := K) (CX := fun _ => CX) (sp := fun w => sp (K w.params)) hn hn2 hdf hr hY F (fun w H a ns h1 h2 h3 => hsp (K w.params) H a ns h1 h2 h3) fun _ H s e s' => hCX H s e s'
end L2

/- THE LAST THEOREM (shape; LID, My.* are yours):
   My.Adr: a structure of the addresses that your layer names (classes, functions); My.Txt K t: a structure (Prop) of the equations over K;
   My.txt_mk : {K} {implicit addresses ..} (e1 : nsIn K mainGlobals "law" = some (some (.ref f))) (e2 : K.lookup f = some ⟨oc, od, .func (fnOf "law" "law" params body scope dV kV doc pm an cdv ct), sl⟩) (e3 : codeIn K cdv "law" = true) .. : ∃ t, My.Txt K t

set_option maxRecDepth 100000 in
set_option maxHeartbeats 0 in
theorem PySem.Challenge.cw_LID_holds : PySem.Challenge.rw_LID.Holds := by
  w_on; o_law; k_head; (case hw => w_witness2)
  k_fill
  refine L2.walk_of (l := PySem.Challenge.rw_LID) (n := 63) (k := 40) (x := "script") (CX := fun w => ..) (sp := fun _ => My.sp_law) rfl (by decide) rfl ⟨rfl, by decide, by decide⟩ (fun w h Y => PySem.W.kIn_of Y) ?F ?S ?C
  case F =>
    intro w mg fa h KX G hmg
    have T : ∃ t, My.Txt (L2.KOf KX) t := by
      dsimp only [L2.KOf]                          -- K must stand as «<heap const> w.params» for k_is
      refine' My.txt_mk ?e1 ?e2 ?e3 ..
      (case e1 => PySem.W.k_is)                    -- in the order: a name -> its address -> its object -> its parts
      (case e2 => PySem.W.k_is)
      ..
    obtain ⟨t, T⟩ := T
    have e0 := hmg.symm.trans (PySem.W.mg_of KX G T.law)
    cases e0                                       -- fa is the law's own address
    exact ⟨_, fun s u => .of_eq rfl, fun base kb nb => My.law_fn T kb nb⟩     -- if «.of_eq rfl» comes too early: refine' ⟨_, ?b, fun base kb nb => My.law_fn T kb nb⟩; exact fun s u => .of_eq rfl
  case S => exact fun w H a ns hl hO hS => ..
  case C => exact ..
(the tactic k_is has no namespace: write k_is) -/

/-! SHORT WORDS over the layer: a def of the text, its body, what a loop and a test want. -/
namespace L2
open PySem PySem.Spec PyProof.Rows

/-! ### the text by places -/
/-- the j-th statement of a class's body -/
def inClass (s : Stmt) (j : Nat) : Stmt := match s with
  | .ClassDef _ _ _ body _ _ _ _ _ _ _ => body.getD j (.Pass ⟨0, 0, 0, 0⟩)
  | _ => .Pass ⟨0, 0, 0, 0⟩
def defArgs (s : Stmt) : Arguments := match s with
  | .FunctionDef _ a _ _ _ _ _ _ _ _ => a
  | _ => { posonlyargs := [], args := [], vararg := none, kwonlyargs := [], kw_defaults := [], kwarg := none, defaults := [] }
def defBody (s : Stmt) : List Stmt := match s with
  | .FunctionDef _ _ b _ _ _ _ _ _ _ => b
  | _ => []
def defScope (s : Stmt) : Scope := match s with
  | .FunctionDef _ _ _ _ _ _ sc _ _ _ => sc
  | _ => { kind := .function, names := [], isGenerator := false, isCoroutine := false }

/-! ### no exception leaves a def -/
abbrev CX0 : CXT := fun _ _ _ _ _ _ => False
abbrev E0 : XK := fun _ _ _ => False
theorem pass0 {X : Cx} : Passes CX0 X E0 := fun _ _ _ _ _ _ _ h => h.elim

/-! ### a def (or method) of the text as it stands behind the top -/
structure Fun (K : PySem.W.Frag) (x qual : Str) (st : Stmt) (f : Addr) (fd : FuncData) : Prop where
  ex : ∃ (oc : Value) (od : Option Addr) (kV doc pm : Value) (an : Option Addr) (cdv ct : Value) (osl : Array (Option Value)),
    fd = PySem.W.fnOf x qual (defArgs st) (defBody st) (defScope st) .none kV doc pm an cdv ct ∧ K.lookup f = some ⟨oc, od, .func fd, osl⟩ ∧ PySem.W.codeIn K cdv qual = true
  kp : PySem.W.keepIn K (.ref f) = true
section
variable {P : Program} {w : World} {K : PySem.W.Frag} {mg : Str → Option Value} {base : Heap}
/-- THE RULE for a def: its body as a term of rules, and the reading of that term -/
theorem Fun.ok {x qual : Str} {st : Stmt} {f : Addr} {fd : FuncData} {N ps : List Str} {k : Nat} {sp : Sp} (F : Fun K x qual st f fd) (S : FnScope N ps (defScope st)) (len : ∀ vs H Q E, sp vs H Q E → vs.length = ps.length)
    (hbody : ∀ (cdv : Value) (A : Around) (outer : List Env) (s : Shared) (H : Hp) (vs : List V) (Q : VK) (E : XK), Room k (A.deeper (envOfC qual (defScope st) s.heap.objs.size f cdv)) → sp vs H Q E →
      ∃ t, PSs (cxOf CX0 P w K mg base N qual (defScope st) f cdv A outer s H E).nox (defBody st) t ∧ t { nx := fun _ H' => Q .non H', rt := Q } (start N vs) H) : FnOk P w K mg base CX0 (k + 1) f fd ps sp := by
  obtain ⟨oc, od, kV, doc, pm, an, cdv, ct, osl, rfl, lk, hcd⟩ := F.ex
  refine fn_of lk hcd S len fun A outer s H vs Q E hr hsp => ?_
  obtain ⟨t, h, q⟩ := hbody cdv A outer s H vs Q E hr hsp
  exact ⟨t, h.nox, q⟩
/-- how its arguments bind (no defaults): h is «fun _ _ _ _ _ _ us hl => match us, hl with | [_, _], _ => rfl», one _ a parameter -/
theorem Fun.binds {x qual : Str} {st : Stmt} {f : Addr} {fd : FuncData} {ps : List Str} (F : Fun K x qual st f fd)
    (h : ∀ (kV doc pm : Value) (an : Option Addr) (cdv ct : Value) (us : List Value), us.length = ps.length → bindArgs (PySem.W.fnOf x qual (defArgs st) (defBody st) (defScope st) .none kV doc pm an cdv ct) ⟨us, []⟩ = pure (ps.zip us)) : Binds K fd ps [] := by
  obtain ⟨oc, od, kV, doc, pm, an, cdv, ct, osl, rfl, lk, hcd⟩ := F.ex
  exact .all (h kV doc pm an cdv ct)
theorem fun_mk {x qual : Str} {st : Stmt} {f : Addr} {oc : Value} {od an : Option Addr} {osl : Array (Option Value)} {kV doc pm cdv ct : Value} (l : K.lookup f = some ⟨oc, od, .func (PySem.W.fnOf x qual (defArgs st) (defBody st) (defScope st) .none kV doc pm an cdv ct), osl⟩)
    (c : PySem.W.codeIn K cdv qual = true) (k : PySem.W.keepIn K (.ref f) = true) : Fun K x qual st f (PySem.W.fnOf x qual (defArgs st) (defBody st) (defScope st) .none kV doc pm an cdv ct) := ⟨⟨oc, od, kV, doc, pm, an, cdv, ct, osl, rfl, l, c⟩, k⟩
end
theorem hu_of {A : Around} {k : Nat} (hr : Room k A) : A.units + 1 < cLine := Nat.lt_of_le_of_lt (Nat.add_le_add_left (by decide : 1 ≤ 64) _) hr.units
theorem small1000 {n : Nat} (h : n ≤ 1000) : n < sizeLine := Nat.lt_of_le_of_lt h (by decide)

/-! ### expressions in short: the name that stands in the i-th slot -/
section
variable {X : Cx}
theorem pv (i : Nat) {x : Str} {pos : Pos} (hN : X.N[i]? = some x := by rfl) (hv : Vis X.env.scope x := by first | exact Or.inl rfl | exact Or.inr (Or.inl rfl) | exact Or.inr (Or.inr rfl)) (hd : (x == ("__debug__" : Str)) = false := by decide)
    (hcd : (x == ("__classdict__" : Str)) = false := by decide) : PE X (.Name x pos) (tVar i) := pe_var hN hv hd hcd
end

/-! ### tests -/
theorem iteF {A B : Prop} (h : B) : if false = true then A else B := by
  rw [if_neg Bool.false_ne_true]
  exact h
theorem iteT {A B : Prop} (h : A) : if true = true then A else B := by
  rw [if_pos rfl]
  exact h
theorem ite2 {c A B : Prop} [Decidable c] (h1 : c → A) (h2 : ¬ c → B) : if c then A else B := by
  by_cases h : c
  · rw [if_pos h]
    exact h1 h
  · rw [if_neg h]
    exact h2 h
theorem iteNS {c A B : Prop} [Decidable c] (hc : c) (h : B) : if (!decide c) = true then A else B := by
  rw [decide_eq_true hc]
  exact iteF h

/-! ### heaps -/
/-- all that was tracked is as it was -/
def Same (H H' : Hp) : Prop := ∀ b o, H b = some o → H' b = some o
theorem Same.refl (H : Hp) : Same H H := fun _ _ h => h
theorem Same.trans {H H1 H2 : Hp} (a : Same H H1) (b : Same H1 H2) : Same H H2 := fun c o h => b c o (a c o h)
theorem Same.free {H H' : Hp} (e : Same H H') {l : Addr} (h : H' l = Option.none) : H l = Option.none := by
  cases q : H l with
  | none => rfl
  | some o =>
    rw [e l o q] at h
    cases h
theorem Same.seq {K : PySem.W.Frag} {H H' : Hp} {a : Addr} {xs : List V} (e : Same H H') (h : SqL K H a xs) : SqL K H' a xs := by
  rcases h with (h | ⟨o, h⟩) | h
  · exact .inl (.inl (e _ _ h))
  · exact .inl (.inr ⟨o, e _ _ h⟩)
  · exact .inr h

end L2

set_option maxHeartbeats 4000000
/-! EXT 1: list comprehensions over the hand layer -/
namespace L2
open PySem PySem.Spec PyProof.Rows

/-- the context of a comprehension's block; no exception leaves it -/
def cxIn (X : Cx) (N : List Str) (scope : Scope) (cl : List (Str × Addr)) (C : Addr) (s₀ : Shared) (H₀ : Hp) (ex : List Addr) : Cx where
  prog := X.prog
  w := X.w
  K := X.K
  mg := X.mg
  base := X.base
  A := X.A
  N := N
  s₀ := s₀
  H₀ := H₀
  env := compEnvC scope cl C X.env
  outer := X.stack
  stack := X.stack
  ex := ex
  fn := fun _ => false
  calm := X.calm
  pn := []
  xe := fun _ _ => False

/-- what the block's scope must have; own: its own names, fr: the names it reads from around, js: their slots there -/
structure CompOk (X : Cx) (fr : List Str) (js : List Nat) (scope : Scope) (cl : List (Str × Addr)) : Prop where
  clos : closureFor scope X.env = pure cl
  cell : ∀ y ∈ scope.names, y.2 ≠ .cell
  kind : scope.kind = .function
  names : ∀ y ∈ scope.names, y.2 = .local → scope.names.lookup y.1 = some .local
  clin : ∀ p ∈ cl, X.env.cells.lookup p.1 = some p.2
  has : scope.names.all (fun p => p.2 != .free || (cl.lookup p.1).isSome) = true
  fre : Paired (fun (x : Str) (j : Nat) => X.N[j]? = some x ∧ (X.env.scope.names.lookup x = some .cell ∨ X.env.scope.names.lookup x = some .free) ∧ scope.names.lookup x = some .free) fr js

theorem relabel_inv {env : Env} {x : Str} {k' : NameKind} : ∀ {names : List (Str × NameKind)},
    (names.map fun (n, k) => if (k == NameKind.free && env.scope.kind == .function && env.kindOf n == some .cell) then (n, NameKind.cell) else (n, k)).lookup x = some k' →
    ∃ k, names.lookup x = some k ∧ (k' = k ∨ (k = .free ∧ k' = .cell))
  | [], h => by simp at h
  | (n, k) :: r, h => by
    have ih := @relabel_inv env x k' r
    change List.lookup x ((if (k == NameKind.free && env.scope.kind == .function && env.kindOf n == some .cell) = true then (n, NameKind.cell) else (n, k)) :: _) = _ at h
    by_cases hc : (k == NameKind.free && env.scope.kind == .function && env.kindOf n == some .cell) = true
    · rw [if_pos hc] at h
      cases hx : x == n with
      | true =>
        simp only [List.lookup_cons, hx] at h ⊢
        cases h
        refine ⟨k, rfl, .inr ⟨?_, rfl⟩⟩
        simp only [Bool.and_eq_true, beq_iff_eq] at hc
        exact hc.1.1
      | false =>
        simp only [List.lookup_cons, hx] at h ⊢
        exact ih h
    · rw [if_neg hc] at h
      cases hx : x == n with
      | true =>
        simp only [List.lookup_cons, hx] at h ⊢
        cases h
        exact ⟨_, rfl, .inl rfl⟩
      | false =>
        simp only [List.lookup_cons, hx] at h ⊢
        exact ih h
theorem relabel_free {env : Env} {x : Str} : ∀ {names : List (Str × NameKind)}, names.lookup x = some .free →
    (names.map fun (n, k) => if (k == NameKind.free && env.scope.kind == .function && env.kindOf n == some .cell) then (n, NameKind.cell) else (n, k)).lookup x = some .cell ∨
    (names.map fun (n, k) => if (k == NameKind.free && env.scope.kind == .function && env.kindOf n == some .cell) then (n, NameKind.cell) else (n, k)).lookup x = some .free
  | [], h => by simp at h
  | (n, k) :: r, h => by
    have ih := @relabel_free env x r
    show List.lookup x ((if (k == NameKind.free && env.scope.kind == .function && env.kindOf n == some .cell) = true then (n, NameKind.cell) else (n, k)) :: _) = _ ∨ List.lookup x ((if (k == NameKind.free && env.scope.kind == .function && env.kindOf n == some .cell) = true then (n, NameKind.cell) else (n, k)) :: _) = _
    by_cases hc : (k == NameKind.free && env.scope.kind == .function && env.kindOf n == some .cell) = true
    · rw [if_pos hc]
      cases hx : x == n with
      | true => simp only [List.lookup_cons, hx]; exact .inl trivial
      | false => simp only [List.lookup_cons, hx] at h ⊢; exact ih h
    · rw [if_neg hc]
      cases hx : x == n with
      | true =>
        simp only [List.lookup_cons, hx] at h ⊢
        cases h
        exact .inr rfl
      | false => simp only [List.lookup_cons, hx] at h ⊢; exact ih h

/-- the slots at the block's begin -/
def inSt (n : Nat) (js : List Nat) (σ : St) : St := List.replicate n none ++ js.map fun j => (σ[j]?).join

/-- W: the invariant by the turn, a measure, what is made so far, the block's slots -/
def CompR (n : Nat) (js : List Nat) (g : TG) (te : TE) (σ : St) (Q : VK) (J : It) (H1 : Hp) : Prop := ∃ W : Nat → Nat → List V → St → Hp → Prop, (∃ m, W 0 m [] (inSt n js σ) H1) ∧
  ∀ i m ys σ' H', W i m ys σ' H' →
    (J.stop i H' ∧ ∀ p, H' p = none → Q (.ref p) (upd H' p (.lst ys))) ∨
    (J.go i H' ∧ ys.length < sizeLine ∧ ∃ N : V → St → Hp → Prop, (∀ y σ'' H'', N y σ'' H'' → ∃ m', m' < m ∧ W (i + 1) m' (ys ++ [y]) σ'' H'') ∧ ∀ x H2, J.yld i H' x H2 → g x σ' H2 fun σ3 H3 => te σ3 H3 fun y H4 => N y σ3 H4)
def tComp (n : Nat) (js : List Nat) (wi : TI) (g : TG) (te : TE) : TE := fun σ H Q => wi σ H fun J H1 => CompR n js g te σ Q J H1

def CompFin (X : Cx) (pins : List (Addr × Obj)) (σ : St) (Q : VK) (D C : Addr) (s' : Shared) : Prop :=
  ∃ H2, Inv X pins σ H2 s' ∧ Q (.ref D) H2 ∧ H2 C = none ∧ C ≠ X.env.locals ∧ X.s₀.heap.objs.size ≤ C ∧ (∀ x c, X.env.cells.lookup x = some c → c ≠ C) ∧ (∀ p ∈ X.pn ++ pins, p.1 ≠ C) ∧ ∃ m, s'.heap.Ns C m

section
variable {X : Cx} {own fr : List Str} {js : List Nat} {scope : Scope} {cl : List (Str × Addr)} {elt target iter : Expr} {pos : Pos} {wi : TI} {g : TG} {te : TE}

theorem cells_in (O : CompOk X fr js scope cl) {x : Str} {c : Addr} (e : cl.lookup x = some c) : X.env.cells.lookup x = some c := O.clin (x, c) (PySem.mem_of_lookup e)

/-- the block's context is sound -/
theorem cxIn_ok {pins : List (Addr × Obj)} {σ : St} {H : Hp} {s : Shared} {fp : List Addr} {C : Addr} (O : CompOk X fr js scope cl) (I : Inv X pins σ H s) (hC : s.heap.objs.size ≤ C) (hf : ∀ b ∈ fp, FpOk X pins H b) (ho : ∀ b ∈ fp, b < s.heap.objs.size) :
    (cxIn X (own ++ fr) scope cl C s H fp).Ok := by
  refine ⟨I.ok.mod, O.kind, I.ok.glob, I.ok.blt, hC, fun x y c h1 h2 => I.ok.inj x y c (cells_in O h1) (cells_in O h2), fun x hx => ?_, fun x c h => (by cases h), I.ok.hd, I.ok.frames, .inl rfl, fun b hb => ?_, I.bs, ?_, fun b o e hb => ?_, fun b hb hb' => ?_, I.stack, I.stkFree⟩
  · have key : scope.names.lookup x = some .free := by
      have hx' : (scope.names.map fun (n, k) => if (k == NameKind.free && X.env.scope.kind == .function && X.env.kindOf n == some .cell) then (n, NameKind.cell) else (n, k)).lookup x = some .cell ∨
        (scope.names.map fun (n, k) => if (k == NameKind.free && X.env.scope.kind == .function && X.env.kindOf n == some .cell) then (n, NameKind.cell) else (n, k)).lookup x = some .free := hx
      rcases hx' with h | h
      · obtain ⟨k, e, z⟩ := relabel_inv h
        rcases z with z | ⟨z, _⟩
        · subst z; exact absurd rfl (O.cell _ (PySem.mem_of_lookup e))
        · subst z; exact e
      · obtain ⟨k, e, z⟩ := relabel_inv h
        rcases z with z | ⟨_, z⟩
        · subst z; exact e
        · cases z
    have hm := List.all_eq_true.mp O.has _ (PySem.mem_of_lookup key)
    have hs : (cl.lookup x).isSome = true := by simpa using hm
    exact Option.isSome_iff_exists.mp hs
  · obtain ⟨f0, f1, f2, f3, f4, f5⟩ := hf b hb
    exact ⟨Nat.ne_of_lt (Nat.lt_of_lt_of_le (ho b hb) hC), fun x c e => f4 x c (cells_in O e)⟩
  · exact Nat.le_trans I.ok.bsz I.sz
  · obtain ⟨f0, f1, f2, f3, f4, f5⟩ := hf b hb
    rcases f3 with z | z
    · exact I.ok.noex b o e z
    · exact absurd (Nat.lt_of_lt_of_le (Heap.lt_size e) (Nat.le_trans I.ok.bsz z)) (Nat.lt_irrefl _)
  · obtain ⟨f0, f1, f2, f3, f4, f5⟩ := hf b hb
    rcases List.mem_cons.mp (I.stkSub b hb') with z | z
    · exact f1 z
    · exact f2 z

theorem Paired.idx {α β : Type} {F : α → β → Prop} : ∀ {l₁ : List α} {l₂ : List β}, Paired F l₁ l₂ → ∀ (i : Nat) (a : α) (b : β), l₁[i]? = some a → l₂[i]? = some b → F a b
  | _, _, .nil, _, _, _, h, _ => by simp at h
  | _, _, .cons r _, 0, a, b, h1, h2 => by simp at h1 h2; subst h1; subst h2; exact r
  | _, _, .cons _ t, i + 1, a, b, h1, h2 => Paired.idx t i a b (by simpa using h1) (by simpa using h2)

/-- the block begins -/
theorem cxIn_inv {pins : List (Addr × Obj)} {σ : St} {H : Hp} {s s' : Shared} {fp : List Addr} {C : Addr} {m : Str → Option Value} (O : CompOk X fr js scope cl) (hl : fr.length = js.length) (I : Inv X pins σ H s) (hC : s.heap.objs.size ≤ C) (hf : ∀ b ∈ fp, FpOk X pins H b)
    (ho : ∀ b ∈ fp, b < s.heap.objs.size) (os : s'.os = s.os) (hg : s'.gens = s.gens) (old : ∀ b o, s.heap.get? b = some o → s'.heap.get? b = some o) (hn : s'.heap.Ns C m) :
    Inv (cxIn X (own ++ fr) scope cl C s H fp) [] (inSt own.length js σ) H s' := by
  refine ⟨cxIn_ok O I hC hf ho, os, by rw [hg]; exact I.bare, Un.kept old, ⟨m, hn, fun i x v e1 e2 e3 => ?_⟩, fun x c e => ?_, I.hok.fresh hC, fun x c e => I.freeC x c (cells_in O e), fun p hp => absurd (show p ∈ ([] : List (Addr × Obj)) from hp) (by simp), I.hok.kept old, ?_⟩
  · unfold inSt at e2
    have e1' : (own ++ fr)[i]? = some x := e1
    by_cases hi : i < own.length
    · rw [List.getElem?_append_left (by simpa using hi), List.getElem?_replicate] at e2
      split at e2 <;> cases e2
    · have hi' : own.length ≤ i := Nat.le_of_not_lt hi
      rw [List.getElem?_append_right (by simpa using hi'), List.length_replicate, List.getElem?_map] at e2
      rw [List.getElem?_append_right hi'] at e1'
      cases ej : js[i - own.length]? with
      | none => rw [ej] at e2; cases e2
      | some j =>
        rw [ej] at e2
        have e2' : (σ[j]?).join = some v := Option.some.inj e2
        have eσ : σ[j]? = some (some v) := by
          cases q : σ[j]? with
          | none => rw [q] at e2'; cases e2'
          | some o => rw [q] at e2'; simp at e2'; rw [e2']
        obtain ⟨hN, hk, hs⟩ := Paired.idx O.fre _ x j e1' ej
        obtain ⟨mo, hmo, hlo⟩ := I.loc
        have vis : Vis X.env.scope x := hk.elim (fun z => .inr (.inl z)) fun z => .inr (.inr z)
        obtain ⟨u, r, l⟩ := hlo j x v hN eσ vis
        refine ⟨u, r, .inr ⟨relabel_free hs, ?_⟩⟩
        have hm := List.all_eq_true.mp O.has _ (PySem.mem_of_lookup hs)
        have hs' : (cl.lookup x).isSome = true := by simpa using hm
        obtain ⟨c, ec⟩ := Option.isSome_iff_exists.mp hs'
        refine ⟨c, ec, ?_⟩
        rcases l with ⟨k, _⟩ | ⟨_, c', e', z⟩
        · have k' : X.env.scope.names.lookup x = some .local := k
          rcases hk with q | q <;> (rw [q] at k'; cases k')
        · have := cells_in O ec
          rw [e'] at this
          cases this
          obtain ⟨oc, hoc, hd⟩ := z
          exact ⟨oc, old _ _ hoc, hd⟩
  · obtain ⟨v, oc, hoc, hd⟩ := I.cell x c (cells_in O e)
    exact ⟨v, oc, old _ _ hoc, hd⟩
  · unfold inSt
    show _ = (own ++ fr).length
    rw [List.length_append, List.length_append, List.length_replicate, List.length_map, hl]

theorem Un.adopt {fs ex : List Addr} {H H1 : Hp} {h h1 : Heap} {a : Addr} {o : HO} (u : Un fs ex H H1 h h1) (ha : h.objs.size ≤ a) (hn : H a = none) : Un fs ex H (upd H1 a o) h h1 where
  keep := u.keep
  slot := u.slot
  free := fun b ob q n hx => by rw [upd_ne (Nat.ne_of_lt (Nat.lt_of_lt_of_le (Heap.lt_size q) ha))]; exact u.free b ob q n hx
  there := u.there
  tups := fun b xs q => by rw [upd_ne (ne_of_none q hn)]; exact u.tups b xs q
  frzs := fun b ob xs q => by rw [upd_ne (ne_of_none q hn)]; exact u.frzs b ob xs q
  tbls := fun b ps q => by rw [upd_ne (ne_of_none q hn)]; exact u.tbls b ps q
theorem HOk.adopt {P : Program} {w : World} {H : Hp} {h : Heap} {a : Addr} {o : HO} (x : HOk P w H h) (hn : H a = none) (new : ObjOk P w (upd H a o) h a o) : HOk P w (upd H a o) h := fun b u e => by
  by_cases hb : b = a
  · subst hb; rw [upd_same] at e; cases e; exact new
  · rw [upd_ne hb] at e
    exact (x b u e).stay (fun c v _ q => q) (fun c q => by rw [upd_ne (ne_of_none q hn)]; exact q) fun c xs q => by rw [upd_ne (ne_of_none q hn)]; exact q

theorem comp_core {pins : List (Addr × Obj)} {σ : St} {H : Hp} {s : Shared} {fp : List Addr} {it : Addr} {tn : Nat → Heap → Prop} {J : It} {E : Value → Shared → Prop} {Q : VK} {RR : Value → Addr → Result → Shared → Prop} (O : CompOk X fr js scope cl) (hl : fr.length = js.length) (hcm : X.calm = true)
    (I : Inv X pins σ H s) (T : Turn X.prog X.w X.K target J fp it tn) (st : tn 0 s.heap) (hf : ∀ b ∈ fp, FpOk X pins H b)
    (hg : ∀ C s₀ H₀ ex, PG (cxIn X (own ++ fr) scope cl C s₀ H₀ ex) target g) (he : ∀ C s₀ H₀ ex, PE (cxIn X (own ++ fr) scope cl C s₀ H₀ ex) elt te)
    (W : Nat → Nat → List V → St → Hp → Prop) {m0 : Nat} (w0 : W 0 m0 [] (inSt own.length js σ) H)
    (turn : ∀ i m ys σ' H', W i m ys σ' H' →
      (J.stop i H' ∧ ∀ p, H' p = none → Q (.ref p) (upd H' p (.lst ys))) ∨
      (J.go i H' ∧ ys.length < sizeLine ∧ ∃ N : V → St → Hp → Prop, (∀ y σ'' H'', N y σ'' H'' → ∃ m', m' < m ∧ W (i + 1) m' (ys ++ [y]) σ'' H'') ∧ ∀ x H2, J.yld i H' x H2 → g x σ' H2 fun σ3 H3 => te σ3 H3 fun y H4 => N y σ3 H4))
    (hRR : ∀ D C s', CompFin X pins σ Q D C s' → RR (.ref D) C (.ok .next) s') :
    wpAny (model X.prog X.w) X.A (newList []) (fun acc s₃ => wpAny (model X.prog X.w) X.A (newFunctionEnv scope X.env.globals cl [] X.env.qual none .none (some X.env)) (fun cenv s₄ =>
      codeAny (model X.prog X.w) X.A (.compStart (.ListComp elt [⟨target, iter, [], 0⟩] scope pos) 0 (.ref it) acc { cenv with scope := relabel scope X.env }) (RR acc cenv.locals) s₄) E s₃) E s := by
  refine wpAny_newObj_type (wpAny_newFunctionEnv O.cell (by intro y hy; simp at hy) (fun h₁ hns₁ hsb₁ => ?_) O.kind)
  dsimp only at hns₁ hsb₁ ⊢
  generalize hH2 : s.heap.push { cls := .type "list", dict := none, data := .seq ([] : List Value).toArray } = H2 at hns₁ hsb₁ ⊢
  have hCs : H2.objs.size = s.heap.objs.size + 1 := by rw [← hH2, Heap.size_push]
  have hDC : s.heap.objs.size ≠ H2.objs.size := by rw [hCs]; exact Nat.ne_of_lt (Nat.lt_succ_self _)
  have hCge : s.heap.objs.size ≤ H2.objs.size := by rw [hCs]; exact Nat.le_succ _
  have below : ∀ b, b < s.heap.objs.size → b ≠ H2.objs.size ∧ b ≠ s.heap.objs.size := fun b hb => ⟨by rw [hCs]; exact Nat.ne_of_lt (Nat.lt_succ_of_lt hb), Nat.ne_of_lt hb⟩
  have old : ∀ b o, s.heap.get? b = some o → h₁.get? b = some o := fun b o e => hsb₁.extBut b o (below b (Heap.lt_size e)).1 (Heap.get?_push_of_some _ (hH2 ▸ Heap.get?_push_of_some _ e))
  have hacc : h₁.get? s.heap.objs.size = some { cls := .type "list", data := .seq ([] : List Value).toArray 0 } := hsb₁.extBut _ _ hDC (Heap.get?_push_of_some _ (hH2 ▸ Heap.get?_push_size _ rfl))
  have ho : ∀ b ∈ fp, b < s.heap.objs.size := fun b hb => by obtain ⟨o, e, _⟩ := T.obj 0 _ st b hb; exact Heap.lt_size e
  generalize hDe : s.heap.objs.size = D at *
  generalize hCe : H2.objs.size = C at *
  let X' : Cx := cxIn X (own ++ fr) scope cl C s H fp
  have ok' : X'.Ok := cxIn_ok O I (by rw [hDe]; exact hCge) hf (by rw [hDe]; exact ho)
  have hDfs : D ∉ X'.fs := by
    intro z
    rcases List.mem_cons.mp (I.stkSub D z) with q | q
    · exact absurd I.lt (by rw [← q, hDe]; exact Nat.lt_irrefl _)
    · exact I.nofs (Nat.le_of_eq hDe) q
  have hDfp : ∀ b ∈ fp, D ≠ b := fun b hb z => absurd (ho b hb) (by rw [z]; exact Nat.lt_irrefl _)
  have hDcell : ∀ x c, cl.lookup x = some c → c ≠ D := fun x c e z => by
    obtain ⟨v, q⟩ := I.cell x c (cells_in O e)
    exact absurd q.lt (by rw [z, hDe]; exact Nat.lt_irrefl _)
  have fpok : ∀ {H' : Hp} {pins' : List (Addr × Obj)}, (∀ p ∈ pins', p.1 = D) → (∀ b ∈ fp, H' b = none) → ∀ b ∈ fp, FpOk X' pins' H' b := fun {H' pins'} hp hn b hb => by
    obtain ⟨f0, f1, f2, f3, f4, f5⟩ := hf b hb
    refine ⟨hn b hb, (below b (ho b hb)).1, fun z => ?_, .inl hb, fun x c e => f4 x c (cells_in O e), fun p hp' => ?_⟩
    · rcases List.mem_cons.mp (I.stkSub b z) with q | q
      · exact f1 q
      · exact f2 q
    · have hp'' : p ∈ pins' := by simpa [X', cxIn] using hp'
      rw [hp p hp'']; exact hDfp b hb
  have loop : ∀ s₃ : Shared, s₃ = { s with heap := h₁, toks := s.toks + ([] : List (Str × Value)).length } →
      codeAny (model X.prog X.w) X.A (.compLoop (.ListComp elt [⟨target, iter, [], 0⟩] scope pos) 0 (.ref it) (.ref D) (compEnvC scope cl C X.env)) (RR (.ref D) C) s₃ := by
    rintro s₃ rfl
    refine PySem.W.kcp_loop (fun k s' => ∃ i σ' H' ys its nn, Inv X' [] σ' H' s' ∧ tn i s'.heap ∧ (∀ b ∈ fp, H' b = none) ∧ H' D = none ∧ s'.heap.get? D = some { cls := .type "list", data := .seq (its : List Value).toArray nn } ∧ Vals ys its ∧ ys.length ≤ sizeLine ∧ W i k ys σ' H') ?_ m0
      ⟨0, _, H, [], [], 0, cxIn_inv O hl I (by rw [hDe]; exact hCge) hf (by rw [hDe]; exact ho) rfl rfl (by intro b o e; exact old b o e) hns₁, T.keep _ _ _ st fun b _ o e => old b o e, fun b hb => (hf b hb).1, I.hok.fresh (Nat.le_of_eq hDe), hacc, .nil, Nat.zero_le _, w0⟩
    rintro k s' ⟨i, σ', H', ys, its, nn, I', st', hfn, hDn, hDo, rv, hz, w⟩
    have hlen := rv.length
    have hpD : ∀ p ∈ [(D, ({ cls := .type "list", data := .seq its.toArray nn } : Obj))], p.1 = D := fun p hp => by rw [List.mem_singleton.mp hp]
    have Ip : Inv X' [(D, ({ cls := .type "list", data := .seq its.toArray nn } : Obj))] σ' H' s' := I'.pins_of fun p hp => by
      rw [List.mem_singleton.mp hp]
      exact ⟨hDo, hDn, hDC, hDfs, fun v z => by cases z⟩
    rcases turn i k ys σ' H' w with ⟨stop, fin⟩ | ⟨go, hlt, N, hN, step⟩
    · refine wpAny_mono (T.done X' rfl rfl rfl hcm i _ s' σ' H' (fun _ _ => False) Ip (fpok hpD hfn) st' stop) (fun r s4 ⟨hr, I4⟩ => ?_) fun _ _ z => False.elim z
      subst hr
      refine hRR D C s4 ?_
      have hD4 : s4.heap.get? D = some { cls := .type "list", data := .seq its.toArray nn } := (I4.pin _ (List.mem_append_right _ (List.mem_singleton.mpr rfl))).1
      have un : Un (frs X.stack) fp H (upd H' D (.lst ys)) s.heap s4.heap := Un.adopt I4.base (Nat.le_of_eq hDe) (I.hok.fresh (Nat.le_of_eq hDe))
      have hok : HOk X.prog X.w (upd H' D (.lst ys)) s4.heap := HOk.adopt I4.hok hDn ⟨hz, its, nn, rv, hD4⟩
      refine ⟨upd H' D (.lst ys), I.call' I4.os un hok I4.bare fun b hb => ?_, fin D hDn, ?_, ?_, ?_, fun x c e z => ?_, fun p hp z => ?_, ?_⟩
      · obtain ⟨f0, f1, f2, f3, f4, f5⟩ := hf b hb
        exact ⟨f3, f1, f4, f5⟩
      · rw [upd_ne (Ne.symm hDC)]
        exact I4.free
      · exact Nat.ne_of_gt (Nat.lt_of_lt_of_le I.lt (by rw [hDe]; exact hCge))
      · exact Nat.le_trans I.sz (by rw [hDe]; exact hCge)
      · obtain ⟨v, q⟩ := I.cell x c e
        exact absurd (Nat.lt_of_lt_of_le q.lt (by rw [hDe, z]; exact hCge)) (Nat.lt_irrefl _)
      · exact absurd (Nat.lt_of_lt_of_le (Heap.lt_size (I.pin p hp).1) (by rw [hDe, z]; exact hCge)) (Nat.lt_irrefl _)
      · obtain ⟨m', hn', _⟩ := I4.loc
        exact ⟨m', hn'⟩
    · refine wpAny_mono (T.item X' rfl rfl rfl hcm i _ s' σ' H' (fun _ _ => False) Ip (fpok hpD hfn) st' go) (fun r s4 ⟨u, hr, h4⟩ => ?_) fun _ _ z => False.elim z
      subst hr
      refine wpAny_mono h4 (fun _ s5 ⟨x, H5, I5, r5, y5, st5, fr5⟩ => ?_) fun _ _ z => False.elim z
      have I5' := I5.pinned (fpok hpD fr5) (T.obj _ _ st5)
      refine wpAny_mono (hg C s H fp _ s5 σ' H5 x u _ I5' r5 (step x H5 y5)) (fun _ s6 ⟨σ6, H6, I6, q6⟩ => ?_) fun _ _ z => False.elim z
      refine wpAny_mono (he C s H fp _ s6 σ6 H6 _ I6 q6) (fun v s7 ⟨y, H7, I7, r7, n7⟩ => ?_) fun _ _ z => False.elim z
      obtain ⟨m', hm', w7⟩ := hN y σ6 H7 n7
      have hD7 := I7.pin (D, { cls := .type "list", data := .seq its.toArray nn }) (List.mem_append_right _ (List.mem_append_left _ (List.mem_singleton.mpr rfl)))
      refine append_at hD7.1 (fun h8 sb hD8 => ?_) (by rw [List.size_toArray, ← hlen]; exact hz)
      have I7' : Inv X' [] σ6 H7 s7 := I7.pins_of fun p hp => absurd hp (by simp)
      have I8 : Inv X' [] σ6 H7 { s7 with heap := h8 } := I7'.turned (t' := s7.toks) (it := D) (fun b o hb e => (sb.2 b hb).trans e) hD7.2.1 hDC (.inr (Nat.le_of_eq hDe)) hDcell (fun p hp => absurd (show p ∈ ([] : List (Addr × Obj)) from hp) (by simp))
      refine ⟨m', hm', i + 1, σ6, H7, ys ++ [y], its ++ [v], nn + 1, I8, T.keep _ _ _ st5 fun b hb o e => ?_, fun b hb => ?_, hD7.2.1, ?_, rv.append (.cons r7 .nil), ?_, w7⟩
      · exact (sb.2 b (fun z => hDfp b hb z.symm)).trans (I7.pin (b, o) (List.mem_append_right _ (List.mem_append_right _ (mem_pinsAt hb e)))).1
      · obtain ⟨o, e, d⟩ := T.obj _ _ st5 b hb
        exact (I7.pin (b, o) (List.mem_append_right _ (List.mem_append_right _ (mem_pinsAt hb e)))).2.1
      · rw [hD8, List.push_toArray]
      · rw [List.length_append, List.length_singleton]; exact hlt
  exact codeAny_compStart_list (loop _ rfl) (T.self _ 0 _ _ _ (T.keep _ _ _ st fun b _ o e => old b o e) (loop _ rfl))

/-- [elt for target in iter] -/
theorem pe_comp (O : CompOk X fr js scope cl) (hcm : X.calm = true) (hi : PI X target iter wi) (hg : ∀ C s₀ H₀ ex, PG (cxIn X (own ++ fr) scope cl C s₀ H₀ ex) target g) (he : ∀ C s₀ H₀ ex, PE (cxIn X (own ++ fr) scope cl C s₀ H₀ ex) elt te)
    (hs : ∀ x, foldedSetIterable iter X.env x = pure x := by intro _; rfl) : PE X (.ListComp elt [⟨target, iter, [], 0⟩] scope pos) (tComp own.length js wi g te) := by
  intro pins s σ H Q I h
  rw [eval_ListComp]
  refine wpAny_comprehension_free (use := none) rfl hs O.clos O.kind O.names (thn (hi pins s σ H _ I h) fun x s1 h1 => thn h1 fun itv s2 h2 => ?_)
  obtain ⟨it, fp, tn, J, H2, rfl, I2, T, st, hf, W, ⟨m0, w0⟩, turn⟩ := h2
  refine comp_core (RR := fun acc C => compPost (model X.prog X.w) X.A X.xe none (EP X pins σ Q) acc C) O (Paired.length O.fre) hcm I2 T st hf hg he W w0 turn ?_
  rintro D C s' ⟨H3, I3, q, c1, c2, c3, c4, c5, m, hn⟩
  exact ⟨m, hn, fun h' sb => ⟨.ref D, H3, I3.turned (t' := s'.toks) (it := C) (fun b o hb e => (sb.2 b hb).trans e) c1 c2 (.inr c3) c4 c5, rfl, q⟩⟩

/-- name = [elt for target in iter] -/
theorem ps_setComp {i : Nat} {y : Str} {py spos : Pos} (hN : X.N.Nodup) (hy : X.N[i]? = some y) (hly : Loc X.env.scope y) (O : CompOk X fr js scope cl) (hcm : X.calm = true) (hi : PI X target iter wi) (hg : ∀ C s₀ H₀ ex, PG (cxIn X (own ++ fr) scope cl C s₀ H₀ ex) target g)
    (he : ∀ C s₀ H₀ ex, PE (cxIn X (own ++ fr) scope cl C s₀ H₀ ex) elt te) (hsw : swapsWith (.ListComp elt [⟨target, iter, [], 0⟩] scope pos) (some (.Name y py)) spos.line X.env = pure true)
    (hf : X.fn y = true ∨ X.env.scope.names.lookup y = some .local := by first | exact .inl rfl | exact .inr rfl | assumption) (hs : ∀ x, foldedSetIterable iter X.env x = pure x := by intro _; rfl) :
    PS X (.Assign [.Name y py] (.ListComp elt [⟨target, iter, [], 0⟩] scope pos) spos) (tAsg (tComp own.length js wi g te) (gName i)) := by
  intro pins s σ H D I h
  rw [exec_Assign_Name_used _ _ _ _ hsw]
  refine wpAny_bind (wpAny_standAt (wpAny_bind ?_))
  show wpAny _ X.A (do let _ ← comprehension (.ListComp elt [⟨target, iter, [], 0⟩] scope pos) scope X.env _ (newList []) false (eval iter X.env) (some (assign (.Name y py) X.env))) _ _ s
  refine wpAny_bind (wpAny_mono (wpAny_comprehension_free (use := some (assign (.Name y py) X.env)) (Q := fun _ s' => SP X pins D .next s') rfl hs O.clos O.kind O.names
    (thn (hi pins s σ H _ I h) fun x s1 h1 => thn h1 fun itv s2 h2 => ?_)) (fun _ s' hq => wpAny_pure (wpAny_pure hq)) fun _ _ e => e)
  obtain ⟨it, fp, tn, J, H2, rfl, I2, T, st, hfp, W, ⟨m0, w0⟩, turn⟩ := h2
  refine comp_core (Q := fun x H1 => gName i x σ H1 D.nx) (RR := fun acc C => compPost (model X.prog X.w) X.A X.xe (some (assign (.Name y py) X.env)) (fun _ s' => SP X pins D .next s') acc C) O (Paired.length O.fre) hcm I2 T st hfp hg he W w0 turn ?_
  rintro DD C s' ⟨H3, I3, q, c1, c2, c3, c4, c5, m, hn⟩
  show wpAny _ _ (assign (.Name y py) X.env (.ref DD)) _ _ s'
  refine wpAny_assign_Name (store_ok2 I3 hN hy hly (v := .ref DD) rfl (fun s4 I4 ⟨a, sb, ha⟩ => ?_) hf)
  have hCa : C ≠ a := by
    rcases ha with rfl | ha
    · exact c2
    · exact fun z => c4 y a ha z.symm
  refine ⟨m, hn.sameBut sb hCa, fun h' sb' => ⟨_, H3, I4.turned (t' := s4.toks) (it := C) (fun b o hb e => (sb'.2 b hb).trans e) c1 c2 (.inr c3) c4 c5, q⟩⟩
end
/-- over a list that the element leaves as it is -/
theorem comp_list {n : Nat} {js : List Nat} {K : PySem.W.Frag} {a : Addr} {xs : List V} {g : TG} {te : TE} {σ0 : St} {H : Hp} {Q : VK} (Pv : Nat → List V → St → Hp → Prop) (hz : xs.length ≤ sizeLine) (h0 : Pv 0 [] (inSt n js σ0) H) (hl : ∀ i ys σ H, i ≤ xs.length → Pv i ys σ H → SqL K H a xs ∧ ys.length ≤ i)
    (hs : ∀ i x ys σ H, xs[i]? = some x → Pv i ys σ H → g x σ H fun σ2 H2 => te σ2 H2 fun y H3 => Pv (i + 1) (ys ++ [y]) σ2 H3) (hd : ∀ ys σ H p, Pv xs.length ys σ H → H p = none → Q (.ref p) (upd H p (.lst ys))) :
    CompR n js g te σ0 Q (Itl K a) H := by
  refine ⟨fun i m ys σ H => m = xs.length - i ∧ i ≤ xs.length ∧ Pv i ys σ H, ⟨xs.length, by simp, Nat.zero_le _, h0⟩, ?_⟩
  rintro i m ys σ H ⟨rfl, hi, p⟩
  obtain ⟨q, hy⟩ := hl i ys σ H hi p
  by_cases hlt : i < xs.length
  · refine .inr ⟨⟨xs, xs[i], q, by simp [hlt]⟩, by omega, fun y σ'' H'' => Pv (i + 1) (ys ++ [y]) σ'' H'', fun y σ' H' p' => ⟨xs.length - (i + 1), by omega, rfl, hlt, p'⟩, fun x H' y => ?_⟩
    obtain ⟨e, y⟩ := y
    subst e
    exact hs i x ys σ _ (y xs q) p
  · have e : i = xs.length := by omega
    subst e
    exact .inl ⟨⟨xs, q, Nat.le_refl _⟩, fun r hr => hd ys σ H r p hr⟩
/-- over a range -/
theorem comp_range {k : Nat} {js : List Nat} {lo : Int} {n : Nat} {g : TG} {te : TE} {σ0 : St} {H : Hp} {Q : VK} (Pv : Nat → List V → St → Hp → Prop) (hz : n ≤ sizeLine) (h0 : Pv 0 [] (inSt k js σ0) H) (hl : ∀ i ys σ H, i ≤ n → Pv i ys σ H → ys.length ≤ i)
    (hs : ∀ i ys σ H, i < n → Pv i ys σ H → g (.int (lo + i)) σ H fun σ2 H2 => te σ2 H2 fun y H3 => Pv (i + 1) (ys ++ [y]) σ2 H3) (hd : ∀ ys σ H p, Pv n ys σ H → H p = none → Q (.ref p) (upd H p (.lst ys))) :
    CompR k js g te σ0 Q (Itr lo n) H := by
  refine ⟨fun i m ys σ H => m = n - i ∧ i ≤ n ∧ Pv i ys σ H, ⟨n, by simp, Nat.zero_le _, h0⟩, ?_⟩
  rintro i m ys σ H ⟨rfl, hi, p⟩
  have hy := hl i ys σ H hi p
  by_cases hlt : i < n
  · refine .inr ⟨hlt, by omega, fun y σ'' H'' => Pv (i + 1) (ys ++ [y]) σ'' H'', fun y σ' H' p' => ⟨n - (i + 1), by omega, rfl, hlt, p'⟩, fun x H' y => ?_⟩
    obtain ⟨e, y⟩ := y
    subst e y
    exact hs i ys σ _ hlt p
  · have e : i = n := by omega
    subst e
    exact .inl ⟨Nat.le_refl _, fun r hr => hd ys σ H r p hr⟩
end L2

/-! EXT 2: more rules of operations, and the readings by their heads -/
namespace L2
open PySem PySem.Spec PyProof.Rows

/-! ### numbers of many bits -/
def Bits (k : Nat) (i : Int) : Prop := i.natAbs < 2 ^ k
theorem Bits.mono {j k : Nat} {i : Int} (h : Bits j i) (hk : j ≤ k) : Bits k i := Nat.lt_of_lt_of_le h (Nat.pow_le_pow_right (by decide) hk)
theorem Bits.mul {j k : Nat} {a b : Int} (ha : Bits j a) (hb : Bits k b) : Bits (j + k) (a * b) := by
  unfold Bits at *
  rw [Int.natAbs_mul, Nat.pow_add]
  exact Nat.mul_lt_mul_of_lt_of_lt ha hb
theorem Bits.add {k : Nat} {a b : Int} (ha : Bits k a) (hb : Bits k b) : Bits (k + 1) (a + b) := by
  unfold Bits at *
  have := Int.natAbs_add_le a b
  rw [Nat.pow_succ]; omega
theorem Bits.neg {k : Nat} {a : Int} (ha : Bits k a) : Bits k (-a) := by unfold Bits at *; rwa [Int.natAbs_neg]
theorem Bits.sub {k : Nat} {a b : Int} (ha : Bits k a) (hb : Bits k b) : Bits (k + 1) (a - b) := by rw [Int.sub_eq_add_neg]; exact ha.add hb.neg
theorem Bits.of_le {k : Nat} {a b : Int} (hb : Bits k b) (h : a.natAbs ≤ b.natAbs) : Bits k a := Nat.lt_of_le_of_lt h hb
theorem Bits.zero {k : Nat} : Bits k 0 := Nat.pow_pos (by decide)
theorem Bits.log {k : Nat} {i : Int} (h : Bits k i) (hk : 0 < k) : i.natAbs.log2 < k := by
  by_cases h0 : i.natAbs = 0
  · rw [h0]; simpa using hk
  · exact (Nat.log2_lt h0).mpr h
theorem Bits.int {k : Nat} {i : Int} (h : Bits k i) (hk : k ≤ 1000000) : Builtin.Int.intBits i ≤ 2 ^ 20 := by
  have e : (2 : Nat) ^ 20 = 1048576 := by decide
  unfold Builtin.Int.intBits
  split
  · exact Nat.zero_le _
  · rename_i hn
    have h0 : i.natAbs ≠ 0 := by
      intro z
      have : i = 0 := Int.natAbs_eq_zero.mp z
      exact hn (by simp [this])
    have := (Nat.log2_lt h0).mpr h
    omega

section
variable {X : Cx} {a b : Expr} {ta tb : TE} {pos : Pos}
def CMulB (i j : Int) : Prop := Bits 1000000 i ∧ Bits 1000000 j
theorem op_mulB : OpR X (binaryOp .Mult) (rI CMulB fun i j => .int (i * j)) := opI fun _ _ _ _ _ _ _ hc q => mul_int q (.of_bits (hc.1.int (Nat.le_refl _)) (hc.2.int (Nat.le_refl _)))
/-- % by a number above 0 -/
theorem op_modP : OpR X (binaryOp .Mod) (rI (fun _ j => 0 < j) fun i j => .int (i % j)) := op_mod
/-- // by a number above 0 of at most 9000 bits -/
def CDivP (_ j : Int) : Prop := 0 < j ∧ Bits 9000 j
theorem op_fdivP : OpR X (binaryOp .FloorDiv) (rI CDivP fun i j => .int (i / j)) := opI fun i j _ _ _ _ _ hc q => by
  refine floordiv_int (Int.ne_of_gt hc.1) ?_ (.inl (PyProof.noPylong_of_log2 (hc.2.log (by decide))))
  rw [Int.fdiv_eq_ediv_of_nonneg _ (Int.le_of_lt hc.1)]
  exact q
/-- // by any number but 0 of at most 9000 bits -/
def CDivB (_ j : Int) : Prop := j ≠ 0 ∧ Bits 9000 j
theorem op_fdivB : OpR X (binaryOp .FloorDiv) (rI CDivB fun i j => .int (i.fdiv j)) := opI fun _ _ _ _ _ _ _ hc q => floordiv_int hc.1 q (.inl (PyProof.noPylong_of_log2 (hc.2.log (by decide))))
theorem op_eqI : OpR X (compareOp .Eq) (rI0 fun i j => .bl (decide (i = j))) := opB0 fun _ _ _ _ _ _ _ q => eq_int (by rw [Bool.beq_eq_decide_eq]; exact q)
theorem op_neI : OpR X (compareOp .NotEq) (rI0 fun i j => .bl (!decide (i = j))) := opB0 fun _ _ _ _ _ _ _ q => ne_int (by rw [bne, Bool.beq_eq_decide_eq]; exact q)

/-! ### two lists of ints -/
def rEqL (K : PySem.W.Frag) : R2 := fun x y H Q => ∃ (a b : Addr) (ns ms : List Int), x = .ref a ∧ y = .ref b ∧ SqL K H a (ns.map V.int) ∧ SqL K H b (ms.map V.int) ∧ Q (.bl (decide (ns = ms))) H
def rNeL (K : PySem.W.Frag) : R2 := fun x y H Q => ∃ (a b : Addr) (ns ms : List Int), x = .ref a ∧ y = .ref b ∧ SqL K H a (ns.map V.int) ∧ SqL K H b (ms.map V.int) ∧ Q (.bl (!decide (ns = ms))) H
theorem op_eqL (hu : X.A.units + 64 < cLine) : OpR X (compareOp .Eq) (rEqL X.K) := by
  intro pins s σ H x y v u Q I rx ry h
  obtain ⟨a, b, ns, ms, rfl, rfl, ha, hb, q⟩ := h
  cases rx; cases ry
  obtain ⟨i1, r1, p1, _⟩ := I.list ha
  obtain ⟨i2, r2, p2, _⟩ := I.list hb
  exact PySem.W.eq_intsK p1.isList (intsAre_of r1) p2.isList (intsAre_of r2) hu ⟨.bl _, H, I, rfl, q⟩
theorem op_neL (hu : X.A.units + 64 < cLine) : OpR X (compareOp .NotEq) (rNeL X.K) := by
  intro pins s σ H x y v u Q I rx ry h
  obtain ⟨a, b, ns, ms, rfl, rfl, ha, hb, q⟩ := h
  cases rx; cases ry
  obtain ⟨i1, r1, p1, _⟩ := I.list ha
  obtain ⟨i2, r2, p2, _⟩ := I.list hb
  exact PySem.W.ne_intsK p1.isList (intsAre_of r1) p2.isList (intsAre_of r2) hu ⟨.bl _, H, I, rfl, q⟩

/-! ### insert -/
def insV (xs : List V) (k : Nat) (y : V) : List V := xs.take k ++ y :: xs.drop k
def rInsert : V → List V → Hp → VK → Prop := fun x vs H Q => ∃ l xs k y, x = .ref l ∧ vs = [.int k, y] ∧ H l = some (.lst xs) ∧ 0 ≤ k ∧ k ≤ xs.length ∧ xs.length < sizeLine ∧ Q .non (upd H l (.lst (insV xs k.toNat y)))
theorem mt_insert : MtM X "list.insert" rInsert := by
  intro pins s σ H x vs v us Q I rx rv h
  obtain ⟨l, xs, k, y, rfl, rfl, hH, hk0, hk1, hz, q⟩ := h
  cases rx
  obtain ⟨u1, u2, rfl, ru1, ru2⟩ := rv.two
  obtain ⟨t, rfl⟩ := ru1
  obtain ⟨z, its, n, r, hl, e⟩ := I.lstM hH
  have hfit : Builtin.List.listFitsIndex k = true := fitsIndex_both (by omega) (by have := sizeLine_eq; omega)
  refine call_meets F.slot_list_insert ⟨_, e, rfl⟩ F.entry_list_insert (F.args_list_insert_3 _ _ _) (AutoSeq1.list_insert_list_int_val_1 l its.toArray n k t u2 (by simp [hfit]) (by rw [List.size_toArray]; omega)) ⟨e, ?_⟩
  refine ⟨.non, _, I.lset (its' := its.take k.toNat ++ u2 :: its.drop k.toNat) hH e ?_ ((r.take _).append (.cons ru2 (r.drop _))) ?_, rfl, q⟩
  · show (its.toArray.extract 0 (if k < 0 then (k + (its.toArray.size : Int)).toNat else min k.toNat its.toArray.size)).push u2 ++ its.toArray.extract (if k < 0 then (k + (its.toArray.size : Int)).toNat else min k.toNat its.toArray.size) = (its.take k.toNat ++ u2 :: its.drop k.toNat).toArray
    rw [if_neg (by omega), List.size_toArray, Nat.min_eq_left (by omega)]
    apply Array.toList_inj.mp
    simp
    exact List.take_of_length_le (by rw [List.length_drop]; exact Nat.le_refl _)
  · rw [List.length_append, List.length_cons, List.length_take, List.length_drop]
    omega

/-! ### isinstance -/
def rIsI (K : PySem.W.Frag) : List V → Hp → VK → Prop := fun xs H Q => ∃ (x : V) (t c : Value) (n : V) (k : Bool), xs = [x, n] ∧ RelV n c ∧ (∀ u, RelV n u → u = c) ∧ TyOf K H x t ∧ PySem.W.kitOne K t c = some k ∧ Q (.bl k) H
theorem call_isinst : CallR X (.builtin "isinstance") (rIsI X.K) := by
  intro pins s σ H xs us Q I r h
  obtain ⟨x, t, c, n, k, rfl, rn, hn, ty, e, q⟩ := h
  obtain ⟨u1, u2, rfl, r1, r2⟩ := r.two
  obtain rfl := hn u2 r2
  exact isinst_ok I r1 ty e fun tk => ⟨.bl k, H, I.tok tk, rfl, q⟩
theorem isI_ty {K : PySem.W.Frag} {H : Hp} {Q : VK} {x : V} {n : String} {t : Value} {k : Bool} (ty : TyOf K H x t) (e : PySem.W.kitOne K t (.type n) = some k) (q : Q (.bl k) H) : rIsI K [x, .ty n] H Q :=
  ⟨x, t, .type n, .ty n, k, rfl, rfl, fun _ h => h, ty, e, q⟩
theorem isI_ref {K : PySem.W.Frag} {H : Hp} {Q : VK} {x : V} {C : Addr} {t : Value} {k : Bool} (ty : TyOf K H x t) (e : PySem.W.kitOne K t (.ref C) = some k) (q : Q (.bl k) H) : rIsI K [x, .ref C] H Q :=
  ⟨x, t, .ref C, .ref C, k, rfl, rfl, fun _ h => h, ty, e, q⟩
end

/-! ### the readings, by their heads -/
section
variable {D : Ends} {σ : St} {H : Hp} {Q : VK} {t u : TS} {te ta tb : TE} {c : TT} {i : Nat} {v : V} {r : R2}
theorem rd_seq (h : t { D with nx := u D } σ H) : tSeq t u D σ H := h
/-- the rest first -/
theorem rd_cut (P : St → Hp → Prop) (h1 : ∀ σ' H', P σ' H' → u D σ' H') (h2 : (∀ σ' H', P σ' H' → u D σ' H') → t { D with nx := u D } σ H) : tSeq t u D σ H := h2 h1
/-- state and heap anew, by what is known of them -/
theorem rd_gen (P : St → Hp → Prop) (h : P σ H) (h1 : ∀ σ' H', P σ' H' → u D σ' H') : u D σ H := h1 σ H h
theorem rd_sa (h : te σ H fun x H1 => u D (σ.set i (some x)) H1) : tSeq (tAsg te (gName i)) u D σ H := h
theorem rd_sd (h : te σ H fun _ H1 => u D σ H1) : tSeq (tDrop te) u D σ H := h
theorem rd_si {t1 t2 : TS} (h : c σ H fun b H1 => if b = true then t1 { D with nx := u D } σ H1 else t2 { D with nx := u D } σ H1) : tSeq (tIfS c t1 t2) u D σ H := h
/-- an if that only returns -/
theorem rd_sr {t1 : TS} (h : c σ H fun b H1 => if b = true then t1 { D with nx := u D } σ H1 else u D σ H1) : tSeq (tIfS c t1 tNext) u D σ H := h
theorem rd_isI {K : PySem.W.Frag} {n : V} (h : ta σ H fun x H1 => rIsI K [x, n] H1 Q) : tCB (rIsI K) (tCons ta (tCons (tC n) tNil)) σ H Q := h
/-- the rest behind an if first -/
theorem rd_cutIf {t1 t2 : TS} (P : St → Hp → Prop) (h1 : ∀ σ' H', P σ' H' → u D σ' H') (h2 : (∀ σ' H', P σ' H' → u D σ' H') → c σ H fun b H1 => if b = true then t1 { D with nx := u D } σ H1 else t2 { D with nx := u D } σ H1) : tSeq (tIfS c t1 t2) u D σ H := h2 h1
theorem rd_asg (h : te σ H fun x H1 => D.nx (σ.set i (some x)) H1) : tAsg te (gName i) D σ H := h
theorem rd_ret (h : te σ H D.rt) : tRet te D σ H := h
theorem rd_retN (h : D.rt .non H) : tRetN D σ H := h
theorem rd_drop (h : te σ H fun _ H1 => D.nx σ H1) : tDrop te D σ H := h
theorem rd_next (h : D.nx σ H) : tNext D σ H := h
theorem rd_if (h : c σ H fun b H1 => if b = true then t D σ H1 else u D σ H1) : tIfS c t u D σ H := h
theorem rd_var (e : σ[i]? = some (some v)) (h : Q v H) : tVar i σ H Q := ⟨v, e, h⟩
theorem rd_C (h : Q v H) : tC v σ H Q := h
theorem rd_op (h : ta σ H fun x H1 => tb σ H1 fun y H2 => r x y H2 Q) : tOp r ta tb σ H Q := h
theorem rd_I0 {g : Int → Int → V} {a b : Int} (h : Q (g a b) H) : rI0 g (.int a) (.int b) H Q := ⟨a, b, rfl, rfl, h⟩
theorem rd_I {C : Int → Int → Prop} {g : Int → Int → V} {a b : Int} (hc : C a b) (h : Q (g a b) H) : rI C g (.int a) (.int b) H Q := ⟨a, b, rfl, rfl, hc, h⟩
theorem rd_un {f : V → Hp → VK → Prop} (h : ta σ H fun x H1 => f x H1 Q) : tUn f ta σ H Q := h
theorem rd_U {g : Int → V} {a : Int} (h : Q (g a) H) : rU g (.int a) H Q := ⟨a, rfl, h⟩
theorem rd_test {K : Bool → Hp → Prop} (h : te σ H fun x H' => ∃ k, x = .bl k ∧ K k H') : tTest te σ H K := h
theorem rd_B {K : Bool → Hp → Prop} (h : te σ H fun x H' => ∃ k, x = .bl k ∧ K k H') : tB te σ H K := h
theorem rd_bl {K : Bool → Hp → Prop} {b : Bool} (h : K b H) : ∃ k, V.bl b = .bl k ∧ K k H := ⟨b, rfl, h⟩
theorem rd_not {K : Bool → Hp → Prop} {tt : TT} (h : tt σ H fun k H1 => K (!k) H1) : tNot tt σ H K := h
theorem rd_and {K : Bool → Hp → Prop} {t1 t2 : TT} (h : t1 σ H fun k H1 => if k = true then t2 σ H1 K else K false H1) : tAnd t1 t2 σ H K := h
theorem rd_or {K : Bool → Hp → Prop} {t1 t2 : TT} (h : t1 σ H fun k H1 => if k = true then K true H1 else t2 σ H1 K) : tOr t1 t2 σ H K := h
theorem rd_andV (h : ta σ H fun x H1 => ∃ k, x = .bl k ∧ if k = true then tb σ H1 Q else Q (.bl false) H1) : tAndV ta tb σ H Q := h
theorem rd_orV (h : ta σ H fun x H1 => ∃ k, x = .bl k ∧ if k = true then Q (.bl true) H1 else tb σ H1 Q) : tOrV ta tb σ H Q := h
theorem rd_notV (h : ta σ H fun x H1 => ∃ k, x = .bl k ∧ Q (.bl (!k)) H1) : tNotV ta σ H Q := h
theorem rd_ifE {tt : TT} (h : tt σ H fun k H1 => if k = true then ta σ H1 Q else tb σ H1 Q) : tIf tt ta tb σ H Q := h
theorem rd_call {sp : Sp} {dvs : List V} {E : XK} {t : TA} (h : t σ H fun vs H1 => sp (vs ++ dvs) H1 Q E) : tCall sp dvs E t σ H Q := h
theorem rd_CB {f : List V → Hp → VK → Prop} {t : TA} (h : t σ H fun vs H1 => f vs H1 Q) : tCB f t σ H Q := h
theorem rd_nil {K : List V → Hp → Prop} (h : K [] H) : tNil σ H K := h
theorem rd_cons {K : List V → Hp → Prop} {t : TA} (h : ta σ H fun x H1 => t σ H1 fun xs H2 => K (x :: xs) H2) : tCons ta t σ H K := h
theorem rd_lst {t : TA} (h : t σ H fun xs H1 => xs.length ≤ sizeLine ∧ ∀ p, H1 p = none → Q (.ref p) (upd H1 p (.lst xs))) : tLst t σ H Q := h
theorem rd_tup {t : TA} (h : t σ H fun xs H1 => xs.length ≤ sizeLine ∧ ∀ p, H1 p = none → Q (.ref p) (upd H1 p (.tup xs))) : tTup t σ H Q := h
theorem rd_sl {f : V → Option Int → Option Int → Hp → VK → Prop} {tl th : TO} (h : te σ H fun x H1 => tl σ H1 fun l H2 => th σ H2 fun w H3 => f x l w H3 Q) : tSl f te tl th σ H Q := h
theorem rd_noPart {K : Option Int → Hp → Prop} (h : K none H) : tNoPart σ H K := h
theorem rd_part {K : Option Int → Hp → Prop} (h : te σ H fun x H1 => ∃ j, x = .int j ∧ K (some j) H1) : tPart te σ H K := h
theorem rd_int {K : Option Int → Hp → Prop} {j : Int} (h : K (some j) H) : ∃ k, V.int j = .int k ∧ K (some k) H := ⟨j, rfl, h⟩
theorem rd_bm {K : PySem.W.Frag} {T : String} {f : V → List V → Hp → VK → Prop} {t : TA} (h : te σ H fun x H1 => tyV K T x H1 ∧ t σ H1 fun xs H2 => f x xs H2 Q) : tBM K T f te t σ H Q := h
theorem rd_bm0 {K : PySem.W.Frag} {T : String} {f : V → List V → Hp → VK → Prop} (h : te σ H fun x H1 => tyV K T x H1 ∧ f x [] H1 Q) : tBM0 K T f te σ H Q := h
theorem rd_eqT {a b : Int} (e : a = b) (h : Q (.bl true) H) : Q (.bl (decide (a = b))) H := by rw [decide_eq_true e]; exact h
theorem rd_true {A B : Prop} (h : A) : if true = true then A else B := by rw [if_pos rfl]; exact h
theorem rd_false {A B : Prop} (h : B) : if false = true then A else B := by rw [if_neg Bool.false_ne_true]; exact h
theorem rd_dec {p A B : Prop} [Decidable p] (h1 : p → A) (h2 : ¬ p → B) : if decide p = true then A else B := by
  by_cases hp : p
  · rw [if_pos (decide_eq_true hp)]; exact h1 hp
  · rw [if_neg (by rw [decide_eq_false hp]; exact Bool.false_ne_true)]; exact h2 hp
theorem rd_ndec {p A B : Prop} [Decidable p] (h1 : ¬ p → A) (h2 : p → B) : if (!decide p) = true then A else B := by
  by_cases hp : p
  · rw [if_neg (by rw [decide_eq_true hp]; exact Bool.false_ne_true)]; exact h2 hp
  · rw [if_pos (by rw [decide_eq_false hp]; rfl)]; exact h1 hp
end

/-- what a def of the text is, for its callers -/
structure Cal (P : Program) (w : World) (K : PySem.W.Frag) (mg : Str → Option Value) (base : Heap) (k : Nat) (x : Str) (ps : List Str) (sp : Sp) (f : Addr) (fd : FuncData) : Prop where
  ok : FnOk P w K mg base CX0 k f fd ps sp
  mg : mg x = some (.ref f)
  kp : PySem.W.keepIn K (.ref f) = true
  bd : Binds K fd ps []

/-- a new object leaves what is there -/
theorem Same.upd_new {H : Hp} {p : Addr} {o : HO} (h : H p = none) : Same H (upd H p o) := fun b u e => by rw [upd_ne (ne_of_none e h)]; exact e
theorem Same.then_new {H H1 : Hp} {p : Addr} {o : HO} (s : Same H H1) (h : H1 p = none) : Same H (upd H1 p o) := s.trans (Same.upd_new h)
theorem Same.ne {H H1 : Hp} {a p : Addr} {o : HO} (s : Same H H1) (e : H a = some o) (h : H1 p = none) : a ≠ p := ne_of_none (s a o e) h
end L2
/-! ### the same rules with the fragment as a letter (for a comprehension's block) -/
namespace L2
open PySem PySem.Spec PyProof.Rows
section
variable {X : Cx} {K : PySem.W.Frag}
theorem ix_listK (h : X.K = K) : IxR X (rIxL K) := by subst h; exact ix_list
theorem ix_tupK (h : X.K = K) : IxR X (rIxT K) := by subst h; exact ix_tup
theorem sl_listK (h : X.K = K) : SlR X (rSlL K) := by subst h; exact sl_list
def rLenL (K : PySem.W.Frag) : List V → Hp → VK → Prop := fun xs H Q => ∃ p ys, xs = [.ref p] ∧ (SqL K H p ys ∨ SqT K H p ys) ∧ Q (.int ys.length) H
theorem call_lenK (h : X.K = K) : CallR X (.builtin "len") (rLenL K) := by subst h; exact call_len_seq
def rListOf (K : PySem.W.Frag) : List V → Hp → VK → Prop := fun xs H Q => ∃ p ys, xs = [.ref p] ∧ (SqL K H p ys ∨ SqT K H p ys) ∧ ∀ l, H l = none → Q (.ref l) (upd H l (.lst ys))
theorem call_listK (h : X.K = K) : CallR X (.type "list") (rListOf K) := by subst h; exact call_list_of
theorem op_eqLK (h : X.K = K) (hu : X.A.units + 64 < cLine) : OpR X (compareOp .Eq) (rEqL K) := by subst h; exact op_eqL hu
theorem op_neLK (h : X.K = K) (hu : X.A.units + 64 < cLine) : OpR X (compareOp .NotEq) (rNeL K) := by subst h; exact op_neL hu
theorem call_isinstK (h : X.K = K) : CallR X (.builtin "isinstance") (rIsI K) := by subst h; exact call_isinst
theorem pi_listK {tg l : Expr} {tl : TE} (h : X.K = K) (hl : PE X l tl) : PI X tg l (iList K tl) := by subst h; exact pi_list hl
theorem pi_tupK {tg l : Expr} {tl : TE} (h : X.K = K) (hl : PE X l tl) : PI X tg l (iTup K tl) := by subst h; exact pi_tup hl
theorem pe_fldK {e : Expr} {ta : TE} {f : Str} {pos : Pos} (h : X.K = K) (he : PE X e ta) (hb : attributeBase e f X.env (eval e X.env) = eval e X.env) : PE X (.Attribute e f pos) (tFld K ta f) := by subst h; exact pe_fld he hb
end
end L2

/-! EXT 3: enumerate(list), reversed(list), range with a step -/
namespace L2
open PySem PySem.Spec PyProof.Rows

/-- i, the i-th item, as a new pair, of the list at a -/
def Ite (K : PySem.W.Frag) (a : Addr) : It :=
  ⟨fun i H => ∃ xs x, SqL K H a xs ∧ xs[i]? = some x, fun i H x H' => ∃ v p, x = .ref p ∧ H p = none ∧ H' = upd H p (.tup [.int i, v]) ∧ ∀ xs, SqL K H a xs → xs[i]? = some v, fun i H => ∃ xs, SqL K H a xs ∧ xs.length ≤ i⟩
theorem turn_enum {P : Program} {w : World} {K : PySem.W.Frag} {es : List Expr} {x1 : Nat} {tp : Pos} (a e it : Addr) (hne : e ≠ it) : Turn P w K (.Tuple es x1 tp) (Ite K a) [e, it] e (fun i h => (∃ old, IsEnum h e it (i : Int) old) ∧ h.IsListIter it a i) where
  mem := by simp
  obj := fun i h st b hb => by
    obtain ⟨⟨old, he⟩, hi⟩ := st
    rcases List.mem_cons.mp hb with rfl | hb
    · exact ⟨_, he, fun v z => by cases z⟩
    · have q : b = it := by simpa using hb
      subst q
      obtain ⟨o, e, c, d⟩ := hi
      exact ⟨o, e, fun v z => by rw [d] at z; cases z⟩
  keep := fun i h h' st k => by
    obtain ⟨⟨old, he⟩, hi⟩ := st
    exact ⟨⟨old, k e (by simp) _ he⟩, hi.at fun o q => k it (by simp) o q⟩
  item := by
    intro X hP hw hK hc i pins s σ H E I hf st hg
    subst hP hw hK
    obtain ⟨⟨old, he⟩, hi⟩ := st
    obtain ⟨xs, x, hq, hx⟩ := hg
    obtain ⟨its, rv, p, hz⟩ := I.list hq
    obtain ⟨u, hu, ru⟩ := rv.get hx
    refine wpAny_pyNext_enum_item he hi p.isList (x := u) (by simpa using hu) hne fun h' out hit' htup hsz kk => ?_
    have hfp : H s.heap.objs.size = none := I.hok.fresh (Nat.le_refl _)
    have nfp : ∀ b o, H b = some o → b ≠ e ∧ b ≠ it := fun b o q => ⟨fun z => (by rw [z, (hf e (by simp)).1] at q; cases q), fun z => (by rw [z, (hf it (by simp)).1] at q; cases q)⟩
    have I1 : Inv X pins σ (upd H s.heap.objs.size (.tup [.int i, x])) { s with heap := h', toks := s.toks + 1 } := by
      refine I.step (g' := s.gens) (d' := s.drawn) (ch := [e, it]) (fun b hb => ?_) (fun b o _ _ hc q _ => kk b o (fun z => hc (by simp [z])) (fun z => hc (by simp [z])) q)
        (fun b o _ _ hc q _ => ⟨o.slots, kk b o (fun z => hc (by simp [z])) (fun z => hc (by simp [z])) q⟩) (fun b o _ q n => by rw [upd_ne (Nat.ne_of_lt (Heap.lt_size q))]; exact n)
        (fun b o hc q => ⟨o, kk b o (fun z => hc (by simp [z])) (fun z => hc (by simp [z])) q⟩) (fun b ys q => by rw [upd_ne (ne_of_none q hfp)]; exact q) (fun b o ys q => by rw [upd_ne (ne_of_none q hfp)]; exact q)
        (fun b ps q => ⟨#[], by rw [upd_ne (ne_of_none q hfp), q]; simp⟩) (fun m hm => ?_) (fun b o q => ?_) I.bare
      · obtain ⟨f0, f1, f2, f3, f4, f5⟩ := hf b hb
        exact ⟨f3, f1, f4, f5⟩
      · obtain ⟨o, es', ep', ho, r⟩ := hm
        exact ⟨o, es', ep', kk _ o (Ne.symm (hf e (by simp)).2.1) (Ne.symm (hf it (by simp)).2.1) ho, r⟩
      · by_cases hb : b = s.heap.objs.size
        · subst hb
          rw [upd_same] at q
          cases q
          exact ⟨by show 2 ≤ sizeLine; decide, [.int i s.toks, u], .cons ⟨_, rfl⟩ (.cons ru .nil), ⟨_, htup, rfl, _, rfl⟩⟩
        · rw [upd_ne hb] at q
          refine (I.hok b o q).stay (fun c v hc z => ?_) (fun c z => by rw [upd_ne (ne_of_none z hfp)]; exact z) fun c ys z => by rw [upd_ne (ne_of_none z hfp)]; exact z
          rcases hc with rfl | hc
          · exact kk c v (nfp c o q).1 (nfp c o q).2 z
          · exact kk c v (nfp c _ hc).1 (nfp c _ hc).2 z
    refine ⟨_, rfl, wpAny_letOwnedTupleGo_enum out fun h'' he'' sb => ?_⟩
    obtain ⟨f0, f1, f2, f3, f4, f5⟩ := hf e (by simp)
    have hen : upd H s.heap.objs.size (.tup [.int i, x]) e = none := by
      rw [upd_ne (Nat.ne_of_lt (Heap.lt_size he))]; exact f0
    have I2 := I1.turned (h' := h'') (t' := s.toks + 1) (it := e) (fun b o hb q => (sb.2 b hb).trans q) hen f1 f3 f4 f5
    refine ⟨.ref s.heap.objs.size, _, I2, rfl, ⟨x, _, rfl, hfp, rfl, fun ys hy => by rw [I.list_inj hy hq]; exact hx⟩, ⟨⟨u, ?_⟩, hit'.at fun o q => (sb.2 it (Ne.symm hne)).trans q⟩, fun b hb => ?_⟩
    · have : ((i + 1 : Nat) : Int) = (i : Int) + 1 := by omega
      rw [this]; exact he''
    · have hlt : b < s.heap.objs.size := by
        rcases List.mem_cons.mp hb with rfl | hb
        · exact Heap.lt_size he
        · have q : b = it := by simpa using hb
          subst q
          obtain ⟨o, e1, _⟩ := hi
          exact Heap.lt_size e1
      rw [upd_ne (Nat.ne_of_lt hlt)]
      exact (hf b hb).1
  done := by
    intro X hP hw hK hc i pins s σ H E I hf st hg
    subst hP hw hK
    obtain ⟨⟨old, he⟩, hi⟩ := st
    obtain ⟨xs, hq, hx⟩ := hg
    obtain ⟨its, rv, p, hz⟩ := I.list hq
    obtain ⟨f0, f1, f2, f3, f4, f5⟩ := hf it (by simp)
    have hl := rv.length
    exact wpAny_pyNext_enum_end (I.ok.hd hc) he hi p.isList (by simp; omega) fun h' eb => ⟨rfl, I.turned (t' := s.toks) (fun b o hb e => eb b o hb e) f0 f1 f3 f4 f5⟩
  self := fun _ _ _ _ _ st h => by
    obtain ⟨⟨old, he⟩, hi⟩ := st
    exact wpAny_pyIter_enum he h
section
variable {X : Cx}
def iEnum (K : PySem.W.Frag) (ta : TA) : TI := fun σ H R => ta σ H fun vs H1 => ∃ a, vs = [.ref a] ∧ (∃ xs, SqL K H1 a xs) ∧ R (Ite K a) H1
theorem pi_enum {es : List Expr} {x1 : Nat} {tp : Pos} {a : Expr} {ta : TA} {p pos : Pos} (hg : Gl X "enumerate") (hm : X.mg "enumerate" = none) (ha : PA X [a] ta) (hs : starEach [a] X.env = [(false, eval a X.env)] := by rfl) : PI X (.Tuple es x1 tp) (.Call (.Name "enumerate" p) [a] [] pos) (iEnum X.K ta) := by
  intro pins s σ H R I h
  refine Call_ (ld_blt I hg hm boot_enumerate (PyProof.Rows.callWith_type1 (thn (ha pos pins s σ H _ I h) fun us s1 ⟨vs, H1, I1, r1, q1⟩ => ?_) hs rfl))
  obtain ⟨a', e, ⟨xs, hq⟩, q⟩ := q1
  subst e
  obtain ⟨u, rfl, ru⟩ := r1.one
  cases ru
  obtain ⟨its, rv, pl, hz⟩ := I1.list hq
  refine call_enumerate_list pl.isList fun h' he hit hsz hk => ?_
  have I2 : Inv X pins σ H1 { s1 with heap := h' } := I1.kept (t' := s1.toks) hk
  refine wpAny_pyIter_enum he ?_
  refine ⟨s1.heap.objs.size + 1, [s1.heap.objs.size + 1, s1.heap.objs.size], _, _, H1, rfl, I2, turn_enum a' _ _ (Nat.succ_ne_self _), ⟨⟨_, he⟩, hit⟩, fun b hb => ?_, q⟩
  have hb' : s1.heap.objs.size ≤ b := by
    rcases List.mem_cons.mp hb with rfl | hb
    · exact Nat.le_succ _
    · have q : b = s1.heap.objs.size := by simpa using hb
      subst q; exact Nat.le_refl _
  exact I1.fpOk hb' (I1.hok.fresh hb')
end
/-- over enumerate of a list that the body leaves as it is; the pairs lie about -/
theorem for_enum {K : PySem.W.Frag} {a : Addr} {xs : List V} {g : TG} {tb : TS} {D : Ends} {σ : St} {H : Hp} (Pv : Nat → St → Hp → Prop) (h0 : Pv 0 σ H) (hl : ∀ i σ H, i ≤ xs.length → Pv i σ H → SqL K H a xs)
    (hs : ∀ i x σ H p, xs[i]? = some x → Pv i σ H → H p = none → g (.ref p) σ (upd H p (.tup [.int i, x])) fun σ2 H2 => tb { D with nx := Pv (i + 1), ct := Pv (i + 1), bk := D.nx } σ2 H2) (hd : ∀ σ H, Pv xs.length σ H → D.nx σ H) :
    ∃ W : Nat → Nat → St → Hp → Prop, (∃ m, W 0 m σ H) ∧ ∀ i m σ H, W i m σ H →
      ((Ite K a).stop i H ∧ D.nx σ H) ∨ ((Ite K a).go i H ∧ ∃ N : St → Hp → Prop, (∀ σ' H', N σ' H' → ∃ m', m' < m ∧ W (i + 1) m' σ' H') ∧ ∀ x H', (Ite K a).yld i H x H' → g x σ H' fun σ2 H2 => tb { D with nx := N, ct := N, bk := D.nx } σ2 H2) := by
  refine ⟨fun i m σ H => m = xs.length - i ∧ i ≤ xs.length ∧ Pv i σ H, ⟨xs.length, by simp, Nat.zero_le _, h0⟩, ?_⟩
  rintro i m σ H ⟨rfl, hi, p⟩
  have q := hl i σ H hi p
  by_cases hlt : i < xs.length
  · refine .inr ⟨⟨xs, xs[i], q, by simp [hlt]⟩, Pv (i + 1), fun σ' H' p' => ⟨xs.length - (i + 1), by omega, rfl, hlt, p'⟩, fun x H' y => ?_⟩
    obtain ⟨v, r, rfl, hr, rfl, y⟩ := y
    exact hs i v σ _ r (y xs q) p hr
  · have e : i = xs.length := by omega
    subst e
    exact .inl ⟨⟨xs, q, Nat.le_refl _⟩, hd σ H p⟩
theorem comp_enum {n : Nat} {js : List Nat} {K : PySem.W.Frag} {a : Addr} {xs : List V} {g : TG} {te : TE} {σ0 : St} {H : Hp} {Q : VK} (Pv : Nat → List V → St → Hp → Prop) (hz : xs.length ≤ sizeLine) (h0 : Pv 0 [] (inSt n js σ0) H) (hl : ∀ i ys σ H, i ≤ xs.length → Pv i ys σ H → SqL K H a xs ∧ ys.length ≤ i)
    (hs : ∀ i x ys σ H p, xs[i]? = some x → Pv i ys σ H → H p = none → g (.ref p) σ (upd H p (.tup [.int i, x])) fun σ2 H2 => te σ2 H2 fun y H3 => Pv (i + 1) (ys ++ [y]) σ2 H3) (hd : ∀ ys σ H p, Pv xs.length ys σ H → H p = none → Q (.ref p) (upd H p (.lst ys))) :
    CompR n js g te σ0 Q (Ite K a) H := by
  refine ⟨fun i m ys σ H => m = xs.length - i ∧ i ≤ xs.length ∧ Pv i ys σ H, ⟨xs.length, by simp, Nat.zero_le _, h0⟩, ?_⟩
  rintro i m ys σ H ⟨rfl, hi, p⟩
  obtain ⟨q, hy⟩ := hl i ys σ H hi p
  by_cases hlt : i < xs.length
  · refine .inr ⟨⟨xs, xs[i], q, by simp [hlt]⟩, by omega, fun y σ'' H'' => Pv (i + 1) (ys ++ [y]) σ'' H'', fun y σ' H' p' => ⟨xs.length - (i + 1), by omega, rfl, hlt, p'⟩, fun x H' y => ?_⟩
    obtain ⟨v, r, rfl, hr, rfl, y⟩ := y
    exact hs i v ys σ _ r (y xs q) p hr
  · have e : i = xs.length := by omega
    subst e
    exact .inl ⟨⟨xs, q, Nat.le_refl _⟩, fun r hr => hd ys σ H r p hr⟩

/-- the list at a from its end, as it stood (n items) -/
def Itv (K : PySem.W.Frag) (a : Addr) (xs : List V) : It :=
  ⟨fun i H => SqL K H a xs ∧ i < xs.length, fun i H x H' => H' = H ∧ xs[xs.length - 1 - i]? = some x, fun i H => xs.length ≤ i⟩
theorem turn_rev {P : Program} {w : World} {K : PySem.W.Frag} {tg : Expr} (a it : Addr) (xs : List V) : Turn P w K tg (Itv K a xs) [it] it (fun i h => i ≤ xs.length ∧ h.IsRevIter it a ((xs.length : Int) - 1 - i)) where
  mem := by simp
  obj := fun i h st b hb => by
    have e : b = it := by simpa using hb
    subst e
    obtain ⟨_, o, e, c, d⟩ := st
    exact ⟨o, e, fun v z => by rw [d] at z; cases z⟩
  keep := fun i h h' st k => ⟨st.1, st.2.at fun o e => k it (by simp) o e⟩
  item := by
    intro X hP hw hK hc i pins s σ H E I hf st hg
    subst hP hw hK
    obtain ⟨hq, hlt⟩ := hg
    obtain ⟨its, rv, p, hz⟩ := I.list hq
    have hl := rv.length
    obtain ⟨x, hx⟩ : ∃ x, xs[xs.length - 1 - i]? = some x := ⟨_, List.getElem?_eq_getElem (by omega)⟩
    obtain ⟨u, hu, ru⟩ := rv.get hx
    obtain ⟨f0, f1, f2, f3, f4, f5⟩ := hf it (by simp)
    have e1 : (xs.length : Int) - 1 - i = ((xs.length - 1 - i : Nat) : Int) := by omega
    have hit := st.2
    rw [e1] at hit
    refine wpAny_pyNext_rev_item hit p.isList (x := u) (by simpa using hu) fun h' st' sb => ?_
    have I1 : Inv X pins σ H { s with heap := h' } := I.turned (t' := s.toks) (fun b o hb e => (sb.2 b hb).trans e) f0 f1 f3 f4 f5
    obtain ⟨o, e, c, d⟩ := id st'
    refine ⟨u, rfl, go_of (s := { s with heap := h' }) e c d (by decide) ⟨x, H, I1, ru, ⟨rfl, hx⟩, ⟨hlt, ?_⟩, fun b hb => (hf b hb).1⟩⟩
    have e2 : (xs.length : Int) - 1 - ((i + 1 : Nat) : Int) = ((xs.length - 1 - i : Nat) : Int) - 1 := by omega
    rw [e2]; exact st'
  done := by
    intro X hP hw hK hc i pins s σ H E I hf st hg
    subst hP hw hK
    obtain ⟨f0, f1, f2, f3, f4, f5⟩ := hf it (by simp)
    have hle : xs.length ≤ i := hg
    have e1 : (xs.length : Int) - 1 - i = -1 := by have := st.1; omega
    have hit := st.2
    rw [e1] at hit
    exact wpAny_pyNext_rev_end (I.ok.hd hc) hit fun h' eb => ⟨rfl, I.turned (t' := s.toks) (fun b o hb e => eb b o hb e) f0 f1 f3 f4 f5⟩
  self := fun _ _ _ _ _ st h => wpAny_pyIter_revIter st.2 h
section
variable {X : Cx} {tg : Expr}
def iRev (K : PySem.W.Frag) (ta : TA) : TI := fun σ H R => ta σ H fun vs H1 => ∃ a xs, vs = [.ref a] ∧ SqL K H1 a xs ∧ R (Itv K a xs) H1
theorem pi_rev {a : Expr} {ta : TA} {p pos : Pos} (hg : Gl X "reversed") (hm : X.mg "reversed" = none) (ha : PA X [a] ta) (hs : starEach [a] X.env = [(false, eval a X.env)] := by rfl) : PI X tg (.Call (.Name "reversed" p) [a] [] pos) (iRev X.K ta) := by
  intro pins s σ H R I h
  refine Call_ (ld_blt I hg hm boot_reversed (PyProof.Rows.callWith_type1 (thn (ha pos pins s σ H _ I h) fun us s1 ⟨vs, H1, I1, r1, q1⟩ => ?_) hs rfl))
  obtain ⟨a', xs, e, hq, q⟩ := q1
  subst e
  obtain ⟨u, rfl, ru⟩ := r1.one
  cases ru
  obtain ⟨its, rv, pl, hz⟩ := I1.list hq
  have hl := rv.length
  refine call_reversed_list pl.isList ?_
  have hit : (s1.heap.push (revObj a' ((its.toArray.size : Int) - 1))).IsRevIter s1.heap.objs.size a' ((xs.length : Int) - 1 - ((0 : Nat) : Int)) := by
    have e1 : (xs.length : Int) - 1 - ((0 : Nat) : Int) = (its.toArray.size : Int) - 1 := by rw [List.size_toArray]; omega
    rw [e1]
    exact ⟨_, Heap.get?_push_size _ rfl, rfl, rfl⟩
  have I2 : Inv X pins σ H1 { s1 with heap := s1.heap.push (revObj a' ((its.toArray.size : Int) - 1)) } := I1.kept (t' := s1.toks) fun b o e => Heap.get?_push_of_some _ e
  refine wpAny_pyIter_revIter (s := { s1 with heap := s1.heap.push (revObj a' ((its.toArray.size : Int) - 1)) }) hit ?_
  refine ⟨s1.heap.objs.size, [s1.heap.objs.size], _, _, H1, rfl, I2, turn_rev a' _ xs, ⟨Nat.zero_le _, hit⟩, fun b hb => ?_, q⟩
  have e : b = s1.heap.objs.size := by simpa using hb
  subst e
  exact I1.fpOk (Nat.le_refl _) (I1.hok.fresh (Nat.le_refl _))
end
theorem for_rev {K : PySem.W.Frag} {a : Addr} {xs : List V} {g : TG} {tb : TS} {D : Ends} {σ : St} {H : Hp} (Pv : Nat → St → Hp → Prop) (h0 : Pv 0 σ H) (hl : ∀ i σ H, i ≤ xs.length → Pv i σ H → SqL K H a xs)
    (hs : ∀ i x σ H, i < xs.length → xs[xs.length - 1 - i]? = some x → Pv i σ H → g x σ H fun σ2 H2 => tb { D with nx := Pv (i + 1), ct := Pv (i + 1), bk := D.nx } σ2 H2) (hd : ∀ σ H, Pv xs.length σ H → D.nx σ H) :
    ∃ W : Nat → Nat → St → Hp → Prop, (∃ m, W 0 m σ H) ∧ ∀ i m σ H, W i m σ H →
      ((Itv K a xs).stop i H ∧ D.nx σ H) ∨ ((Itv K a xs).go i H ∧ ∃ N : St → Hp → Prop, (∀ σ' H', N σ' H' → ∃ m', m' < m ∧ W (i + 1) m' σ' H') ∧ ∀ x H', (Itv K a xs).yld i H x H' → g x σ H' fun σ2 H2 => tb { D with nx := N, ct := N, bk := D.nx } σ2 H2) := by
  refine ⟨fun i m σ H => m = xs.length - i ∧ i ≤ xs.length ∧ Pv i σ H, ⟨xs.length, by simp, Nat.zero_le _, h0⟩, ?_⟩
  rintro i m σ H ⟨rfl, hi, p⟩
  by_cases hlt : i < xs.length
  · refine .inr ⟨⟨hl i σ H hi p, hlt⟩, Pv (i + 1), fun σ' H' p' => ⟨xs.length - (i + 1), by omega, rfl, hlt, p'⟩, fun x H' y => ?_⟩
    obtain ⟨e, y⟩ := y
    subst e
    exact hs i x σ _ hlt y p
  · have e : i = xs.length := by omega
    subst e
    exact .inl ⟨Nat.le_refl _, hd σ H p⟩
end L2

/-! EXT 5: list(reversed(xs)) -/
namespace L2
open PySem PySem.Spec PyProof.Rows
section
variable {prog : Program} {w : World} {A : Around} {E : Value → Shared → Prop} {s : Shared}
theorem lri_no_len : typeLookup (.type "list_reverseiterator") "__len__" = pure none := by rw [typeLookup_type, builtinLookup_eq_fast]; kernel_rfl
theorem lri_hint : typeLookup (.type "list_reverseiterator") "__length_hint__" = pure (some (.builtin "list_reverseiterator.__length_hint__")) := by rw [typeLookup_type, builtinLookup_eq_fast]; kernel_rfl
theorem rev_hint {r : Addr} {Q : Bool → Shared → Prop} (hT : s.TypeIs (.ref r) "list_reverseiterator") (h : Q false s) : wpAny (model prog w) A (Builtin.List.listLengthHint (.ref r)) Q E s := by
  unfold Builtin.List.listLengthHint
  refine wpAny_bind (wpAny_specialOf hT lri_no_len ?_)
  show wpAny _ A (specialOf (Value.ref r) (Str.ofString "__length_hint__") >>= _) _ _ _
  refine wpAny_bind (wpAny_specialOf hT lri_hint ?_)
  generalize hid : ("list_reverseiterator.__length_hint__" : String) = id0
  wp_delta
  rw [show splitId id0 = some ("list_reverseiterator", "__length_hint__") from by subst hid; decide +kernel]
  subst hid
  refine wpAny_bind (wpAny_isInstance (T := "list_reverseiterator") (b := true) hT (by rw [isSubtype_type]; kernel_rfl) ?_)
  refine wpAny_ite_split (fun hab => absurd hab (by decide)) (fun _ => ?_)
  refine wpAny_ite_split (fun _ => ?_) (fun hab => absurd (by decide +kernel) hab)
  refine wpAny_ite_split (fun hab => absurd hab (by decide +kernel)) (fun _ => ?_)
  exact wpAny_pure h
theorem rev_extend {R : Result → Shared → Prop} {I l : Addr} {items : Array Value} (hh : A.handled = none) (hit : s.heap.IsRevIter I l ((items.size : Int) - 1)) (hl : s.heap.IsList l items) (hne : l ≠ I) (S : Addr) (hSI : S ≠ I) (hSl : S ≠ l) (res : Value) (c₀ : Nat)
    (hS : s.heap.get? S = some { cls := .type "list", data := .seq #[] c₀ })
    (hR : ∀ h' tk acc' c', (∀ b o, b ≠ S → b ≠ I → s.heap.get? b = some o → h'.get? b = some o) → h'.get? S = some { cls := .type "list", dict := none, data := .seq acc' c', slots := #[] } → ItemsOf (fun i v => items[items.size - 1 - i]? = some v) acc' items.size → R (.ok (.ret res)) { s with heap := h', toks := tk }) (hn : items.size ≤ sizeLine) :
    wpAny (model prog w) A.in1 (Builtin.List.listExtendWith (.ref S) (.ref I) res)
      (fun fin s' => match fin with | .done f => R (.ok f) s' | .again c' => c'.quiet = true ∧ codeAny (model prog w) A c' R s') (fun e s' => R (.error e) s') s := by
  have hSf : S ∉ [I, l] := by simp only [List.mem_cons, List.not_mem_nil, or_false, not_or]; exact ⟨hSI, hSl⟩
  have W := Walks.listRev (prog := prog) (w := w) (A := A.in1) hh I l hne items
  have st : 0 ≤ items.size ∧ s.heap.IsRevIter I l ((items.size : Int) - 1 - ((0 : Nat) : Int)) ∧ s.heap.IsList l items := ⟨Nat.zero_le _, by rw [show (items.size : Int) - 1 - ((0 : Nat) : Int) = (items.size : Int) - 1 by omega]; exact hit, hl⟩
  unfold Builtin.List.listExtendWith
  refine wpAny_bind (wpAny_typeOf (T := "list_reverseiterator") hit.typeIs ?_)
  have h1 : Builtin.List.listSameRef (.ref S) (.ref I) = false := by simp [Builtin.List.listSameRef, hSI]
  have h2 : (Value.type "list_reverseiterator" == Value.type "list") = false := by decide
  have h3 : (Value.type "list_reverseiterator" == Value.type "tuple") = false := by decide
  simp only [h1, h2, h3, Bool.or_false, Bool.false_eq_true, if_false]
  refine wpAny_bind (wpAny_pyIter_revIter hit ?_)
  refine wpAny_bind (wpAny_holding (rev_hint hit.typeIs ?_))
  refine wpAny_ite_split (fun hab => absurd hab (by decide)) (fun _ => wpAny_pure ⟨plainId_quiet PySem.F.plain_extend_loop _, ?_⟩)
  refine codeAny_extend_loopS W.toS hn S hSf res items.size 0 _ #[] c₀ rfl (Nat.zero_le _) st hS (ItemsOf.nil _) fun s' acc' c' hm hS' hacc => ?_
  rw [Moved.eq_with hm]
  refine hR s'.heap s'.toks acc' c' (fun b o hb hb' e => hm.heap b o (fun hmem => ?_) e) hS' hacc
  rcases List.mem_cons.mp hmem with e' | hmem
  · exact hb e'
  · exact hb' (List.mem_singleton.mp hmem)
theorem rev_init {R : Result → Shared → Prop} {I l : Addr} {items : Array Value} (hh : A.handled = none) (hit : s.heap.IsRevIter I l ((items.size : Int) - 1)) (hl : s.heap.IsList l items) (hne : l ≠ I) (S : Addr) (hSI : S ≠ I) (hSl : S ≠ l)
    (hS : s.heap.get? S = some { cls := .type "list", data := .seq #[] })
    (hR : ∀ h' tk acc' c', (∀ b o, b ≠ S → b ≠ I → s.heap.get? b = some o → h'.get? b = some o) → h'.get? S = some { cls := .type "list", dict := none, data := .seq acc' c', slots := #[] } → ItemsOf (fun i v => items[items.size - 1 - i]? = some v) acc' items.size → R (.ok (.ret .none)) { s with heap := h', toks := tk }) (hn : items.size ≤ sizeLine) :
    wpAny (model prog w) A.in1 (Builtin.«list.__init__» ⟨[.ref S, .ref I], []⟩)
      (fun fin s' => match fin with | .done f => R (.ok f) s' | .again c' => c'.quiet = true ∧ codeAny (model prog w) A c' R s') (fun e s' => R (.error e) s') s := by
  show wpAny _ _ (do let old ← Builtin.List.listItems (.ref S); Builtin.List.listUpdate (.ref S) (fun _ => #[]); letGo old.toList.reverse; Builtin.List.listExtendWith (.ref S) (.ref I) .none) _ _ s
  refine wpAny_bind ?_
  unfold Builtin.List.listItems
  refine wpAny_bind (wpAny_seqItems hS rfl (wpAny_pure ?_))
  show wpAny _ _ (updateSeq S (fun _ => #[]) >>= fun _ => letGo (#[] : Array Value).toList.reverse >>= fun _ => Builtin.List.listExtendWith (.ref S) (.ref I) .none) _ _ s
  refine wpAny_bind (wpAny_updateSeq hS rfl ?_)
  have hS₂ := Heap.get?_update_self (Obj.mapSeq (fun _ => (#[] : Array Value))) hS rfl
  have oth : ∀ b o, b ≠ S → s.heap.get? b = some o → (s.heap.update S (Obj.mapSeq (fun _ => (#[] : Array Value)))).get? b = some o :=
    fun b o hb e => (Heap.get?_update_other _ _ (Ne.symm hb)).trans e
  refine wpAny_bind (wpAny_letGo ?_)
  refine rev_extend hh (hit.at fun o e => oth I o hSI.symm e) (hl.at fun o e => oth l o hSl.symm e) hne S hSI hSl .none _ hS₂ (fun h' tk acc' c' hk hS' hacc => ?_) hn
  exact hR h' tk acc' c' (fun b o hb hb' e => hk b o hb hb' (oth b o hb e)) hS' hacc
theorem rev_call {Q : Value → Shared → Prop} {I l : Addr} {items : Array Value} (hh : A.handled = none) (hit : s.heap.IsRevIter I l ((items.size : Int) - 1)) (hl : s.heap.IsList l items) (hne : l ≠ I) (hn : items.size ≤ sizeLine)
    (hQ : ∀ h' tk acc' c', (∀ b o, b ≠ I → s.heap.get? b = some o → h'.get? b = some o) → h'.get? s.heap.objs.size = some { cls := .type "list", dict := none, data := .seq acc' c', slots := #[] } → ItemsOf (fun i v => items[items.size - 1 - i]? = some v) acc' items.size → Q (.ref s.heap.objs.size) { s with heap := h', toks := tk }) :
    wpAny (model prog w) A (call (.type "list") [.ref I]) Q E s := by
  refine callType_codes (Q₁ := fun obj s₁ => obj = .ref s.heap.objs.size ∧ s₁ = { s with heap := s.heap.push { cls := .type "list", data := .seq #[] } }) PySem.F.called_list (PySem.F.typeCall_list_1 _) PySem.F.entry_list_init
    (code_list_new _ ⟨rfl, rfl⟩) fun obj s₁ h₁ => ?_
  obtain ⟨rfl, rfl⟩ := h₁
  have hS : (s.heap.push { cls := .type "list", data := .seq #[] }).get? s.heap.objs.size = some { cls := .type "list", data := .seq #[] } := Heap.get?_push_size _ rfl
  have hI : I < s.heap.objs.size := by obtain ⟨o, e, _⟩ := hit; exact Heap.lt_size e
  have hl' : l < s.heap.objs.size := by obtain ⟨o, e, _⟩ := hl; exact Heap.lt_size e
  refine ⟨⟨_, hS, rfl⟩, PySem.F.args_list_init_2 _ _, rev_init (A := A.in1) hh (hit.at fun o e => Heap.get?_push_of_some _ e) (hl.at fun o e => Heap.get?_push_of_some _ e) hne _ (Nat.ne_of_gt hI) (Nat.ne_of_gt hl') hS (fun h' tk acc' c' hk hS' hacc => ?_) hn⟩
  exact ⟨rfl, hQ h' tk acc' c' (fun b o hb e => hk b o (Nat.ne_of_lt (Heap.lt_size e)) hb (Heap.get?_push_of_some _ e)) hS' hacc⟩
end
theorem rev_vals {xs : List V} {its : List Value} {acc : Array Value} (r : Vals xs its) (h : ItemsOf (fun i v => its.toArray[its.toArray.size - 1 - i]? = some v) acc its.toArray.size) : Vals xs.reverse acc.toList := by
  have e : acc.toList = its.reverse := by
    apply List.ext_getElem?
    intro i
    have hs : acc.size = its.length := by have := h.1; simpa using this
    by_cases hi : i < its.length
    · obtain ⟨v, hv⟩ : ∃ v, acc[i]? = some v := ⟨_, Array.getElem?_eq_getElem (by omega)⟩
      have q := h.2 i v hv
      rw [List.getElem?_reverse hi, Array.getElem?_toList, hv]
      simpa using q.symm
    · rw [List.getElem?_eq_none_iff.mpr (by simp; omega), List.getElem?_eq_none_iff.mpr (by simp; omega)]
  rw [e]; exact r.reverse
section
variable {X : Cx} {K : PySem.W.Frag}
def tLRev (K : PySem.W.Frag) (ta : TA) : TE := fun σ H Q => ta σ H fun vs H1 => ∃ a xs, vs = [.ref a] ∧ SqL K H1 a xs ∧ ∀ p, H1 p = none → Q (.ref p) (upd H1 p (.lst xs.reverse))
theorem pe_listRev {a : Expr} {ta : TA} {p1 p2 pos1 pos2 : Pos} (hK : X.K = K) (hc : X.calm = true) (hg : Gl X "list") (hm : X.mg "list" = none) (hg2 : Gl X "reversed") (hm2 : X.mg "reversed" = none) (ha : PA X [a] ta) (hs : starEach [a] X.env = [(false, eval a X.env)] := by rfl)
    (hs2 : starEach [.Call (.Name "reversed" p2) [a] [] pos2] X.env = [(false, eval (.Call (.Name "reversed" p2) [a] [] pos2) X.env)] := by rfl) : PE X (.Call (.Name "list" p1) [.Call (.Name "reversed" p2) [a] [] pos2] [] pos1) (tLRev K ta) := by
  subst hK
  intro pins s σ H Q I h
  refine Call_ (ld_blt I hg hm PyProof.Rows.boot_list (PyProof.Rows.callWith_type1 ?_ hs2 rfl))
  rw [hs2]
  show wpAny _ _ (spliced ((false, eval (.Call (.Name "reversed" p2) [a] [] pos2) X.env) :: [])) _ _ s
  refine Calls.spliced_cons (Call_ (ld_blt I hg2 hm2 boot_reversed (PyProof.Rows.callWith_type1 (thn (ha pos2 pins s σ H _ I h) fun us s1 ⟨vs, H1, I1, r1, q1⟩ => ?_) hs rfl)))
  obtain ⟨a', xs, e, hq, q⟩ := q1
  subst e
  obtain ⟨u, rfl, ru⟩ := r1.one
  cases ru
  obtain ⟨its, rv, pl, hz⟩ := I1.list hq
  have hlen := rv.length
  refine call_reversed_list pl.isList (Calls.spliced_nil ?_)
  have hlt : a' < s1.heap.objs.size := by obtain ⟨o, e, _⟩ := pl.isList; exact Heap.lt_size e
  refine rev_call (s := { s1 with heap := s1.heap.push (revObj a' ((its.toArray.size : Int) - 1)) }) (I.ok.hd hc) ⟨_, Heap.get?_push_size _ rfl, rfl, rfl⟩ (pl.isList.at fun o e => Heap.get?_push_of_some _ e) (Nat.ne_of_lt hlt) (by rw [List.size_toArray]; omega) fun h' tk acc' c' hk hS' hacc => ?_
  have hsz : (s1.heap.push (revObj a' ((its.toArray.size : Int) - 1))).objs.size = s1.heap.objs.size + 1 := Heap.size_push ..
  have kept : ∀ b o, s1.heap.get? b = some o → h'.get? b = some o := fun b o e => hk b o (Nat.ne_of_lt (Heap.lt_size e)) (Heap.get?_push_of_some _ e)
  have hge : s1.heap.objs.size ≤ (s1.heap.push (revObj a' ((its.toArray.size : Int) - 1))).objs.size := by rw [hsz]; exact Nat.le_succ _
  have hf : H1 (s1.heap.push (revObj a' ((its.toArray.size : Int) - 1))).objs.size = none := I1.hok.fresh hge
  have rvv := rev_vals rv hacc
  refine ⟨.ref _, _, I1.laid (t' := tk) kept hge ?_, rfl, q _ hf⟩
  exact ⟨by rw [List.length_reverse]; exact hz, acc'.toList, c', rvv, by rw [Array.toArray_toList]; exact hS'⟩
theorem pg_tupK {pos : Pos} {es : List Expr} {k : Nat} {t : TGs} {n : Nat} (hK : X.K = K) (hc : X.calm = true) (h : PGs X es t) (hn : (assignEach es X.env).length = n) (hst : (assignEach es X.env).findIdx? (·.1) = none) : PG X (.Tuple es k pos) (gTup K n t) := by subst hK; exact pg_tup hc h hn hst
end
end L2

/-! EXT 11: range(lo, hi, -1) -/
namespace L2
open PySem PySem.Spec PyProof.Rows
def ItrD (lo : Int) (n : Nat) : It := ⟨fun i _ => i < n, fun i H x H' => H' = H ∧ x = .int (lo + i * -1), fun i _ => n ≤ i⟩
theorem turn_rangeD {P : Program} {w : World} {K : PySem.W.Frag} {tg : Expr} (it : Addr) (lo : Int) (n : Nat) : Turn P w K tg (ItrD lo n) [it] it (fun i h => IsRangeIter h it (lo + (i : Nat) * -1) ((n : Int) - (i : Nat)) (-1)) where
  mem := by simp
  obj := fun i h st b hb => by
    have e : b = it := by simpa using hb
    subst e
    exact ⟨_, st, fun v z => by
      have z' : Data.fields _ = Data.cell v := z
      cases z'⟩
  keep := fun i h h' st k => k it (by simp) _ st
  item := by
    intro X hP hw hK hc i pins s σ H E I hf st hg
    subst hP hw hK
    obtain ⟨f0, f1, f2, f3, f4, f5⟩ := hf it (by simp)
    have W := Walks.range (prog := X.prog) (w := X.w) (I.ok.hd hc) it lo (-1) n
    refine W.item i s _ _ hg st fun v h' tk hv st' kk => ?_
    obtain ⟨t, rfl⟩ := hv
    have I1 : Inv X pins σ H { s with heap := h', toks := tk } := I.turned (fun b o hb e => kk b o (by simpa using hb) e) f0 f1 f3 f4 f5
    exact ⟨_, rfl, go_of (s := { s with heap := h', toks := tk }) (n := "range_iterator") st' rfl rfl (by decide) ⟨.int (lo + i * -1), H, I1, ⟨t, rfl⟩, ⟨rfl, rfl⟩, st', fun b hb => (hf b hb).1⟩⟩
  done := by
    intro X hP hw hK hc i pins s σ H E I hf st hg
    subst hP hw hK
    obtain ⟨f0, f1, f2, f3, f4, f5⟩ := hf it (by simp)
    exact wpAny_pyNext_range_end (I.ok.hd hc) st (by have : n ≤ i := hg; omega) fun h' eb => ⟨rfl, I.turned (t' := s.toks) (fun b o hb e => eb b o hb e) f0 f1 f3 f4 f5⟩
  self := fun _ _ _ _ _ st h => wpAny_pyIter_rangeiter st h
theorem rangeSize_down (a b : Int) : Builtin.Range.rangeSize a b (-1) = if b < a then a - b else 0 := by
  unfold Builtin.Range.rangeSize
  rw [if_neg (by decide)]
  show (if a > b then (a - b - 1) / 1 + 1 else 0) = _
  rw [Int.ediv_one]
  split <;> omega
theorem small_down {a b : Int} (ha : -(2 ^ 61) ≤ a) (ha' : a < 2 ^ 61) (hb : -(2 ^ 61) ≤ b) (hb' : b < 2 ^ 61) : Builtin.Range.small a b (-1) = true := by
  unfold Builtin.Range.small
  rw [rangeSize_down]
  simp only [Builtin.Range.rangeFitsLong, Bool.and_eq_true, Bool.or_eq_true, decide_eq_true_eq, beq_iff_eq, show ¬ ((-1 : Int) > 0) by decide, if_false]
  split <;> omega
section
variable {X : Cx} {tg : Expr}
theorem range_itD {pins : List (Addr × Obj)} {σ : St} {H : Hp} {s : Shared} {R : It → Hp → Prop} {E : Value → Shared → Prop} {lo hi : Int} {t u v : Tok} {tk : Nat} (I : Inv X pins σ H s) (h1 : -(2 ^ 61) ≤ lo) (h2 : lo < 2 ^ 61) (h3 : -(2 ^ 61) ≤ hi) (h4 : hi < 2 ^ 61)
    (q : R (ItrD lo (lo - hi).toNat) H) : wpAny (model X.prog X.w) X.A (pyIter (.ref s.heap.objs.size)) (PIE X pins σ tg R) E { s with heap := s.heap.push { cls := .type "range", data := .fields #[.int lo t, .int hi u, .int (-1) v] }, toks := tk } := by
  refine wpAny_pyIter_range (IsRange.new ..) (small_down h1 h2 h3 h4) ?_
  have I1 : Inv X pins σ H { s with heap := s.heap.push { cls := .type "range", data := .fields #[.int lo t, .int hi u, .int (-1) v] }, toks := tk } := I.kept fun b o e => Heap.get?_push_of_some _ e
  refine ⟨(s.heap.push { cls := .type "range", data := .fields #[.int lo t, .int hi u, .int (-1) v] }).objs.size, [(s.heap.push { cls := .type "range", data := .fields #[.int lo t, .int hi u, .int (-1) v] }).objs.size], _, _, H, rfl,
    I1.kept (t' := tk) fun b o e => Heap.get?_push_of_some _ e, turn_rangeD _ lo (lo - hi).toNat, ?_, fun b hb => ?_, q⟩
  · have e1 : lo + ((0 : Nat) : Int) * -1 = lo := by simp
    have e2 : (((lo - hi).toNat : Nat) : Int) - ((0 : Nat) : Int) = Builtin.Range.rangeSize lo hi (-1) := by rw [rangeSize_down]; split <;> omega
    show IsRangeIter _ _ (lo + ((0 : Nat) : Int) * -1) ((((lo - hi).toNat : Nat) : Int) - ((0 : Nat) : Int)) (-1)
    rw [e1, e2]
    exact Heap.get?_push_size _ rfl
  · have e : b = (s.heap.push { cls := .type "range", data := .fields #[.int lo t, .int hi u, .int (-1) v] }).objs.size := by simpa using hb
    subst e
    exact I1.fpOk (Nat.le_refl _) (I1.hok.fresh (Nat.le_refl _))
def iRngD (ta : TA) : TI := fun σ H R => ta σ H fun vs H1 => ∃ i j : Int, vs = [.int i, .int j, .int (-1)] ∧ (-(2 ^ 61) ≤ i ∧ i < 2 ^ 61 ∧ -(2 ^ 61) ≤ j ∧ j < 2 ^ 61) ∧ R (ItrD i (i - j).toNat) H1
theorem pi_rangeD {a b c : Expr} {ta : TA} {p pos : Pos} (hg : Gl X "range") (hm : X.mg "range" = none) (ha : PA X [a, b, c] ta) (hs : starEach [a, b, c] X.env = [(false, eval a X.env), (false, eval b X.env), (false, eval c X.env)] := by rfl) (hs2 : starEach [b, c] X.env = [(false, eval b X.env), (false, eval c X.env)] := by rfl) :
    PI X tg (.Call (.Name "range" p) [a, b, c] [] pos) (iRngD ta) := by
  intro pins s σ H R I h
  refine Call_ (ld_blt I hg hm boot_range (PyProof.Rows.callWith_type1 (thn (ha pos pins s σ H _ I h) fun us s1 ⟨vs, H1, I1, r1, q1⟩ => ?_) (by rw [hs, hs2]) (by rw [hs2]; rfl)))
  obtain ⟨i, j, e, ⟨q1, q2, q3, q4⟩, q⟩ := q1
  subst e
  cases r1 with
  | cons r rr =>
    cases rr with
    | cons r' rr =>
      cases rr with
      | cons r'' rr =>
        cases rr
        obtain ⟨t, rfl⟩ := r
        obtain ⟨t', rfl⟩ := r'
        obtain ⟨t'', rfl⟩ := r''
        exact call_range_3 (by decide) (range_itD I1 q1 q2 q3 q4 q) (Or.inl (PyProof.noPylong_small (by decide)))
end
theorem for_rangeD {lo : Int} {n : Nat} {g : TG} {tb : TS} {D : Ends} {σ : St} {H : Hp} (Pv : Nat → St → Hp → Prop) (h0 : Pv 0 σ H)
    (hs : ∀ i σ H, i < n → Pv i σ H → g (.int (lo + i * -1)) σ H fun σ2 H2 => tb { D with nx := Pv (i + 1), ct := Pv (i + 1), bk := D.nx } σ2 H2) (hd : ∀ σ H, Pv n σ H → D.nx σ H) :
    ∃ W : Nat → Nat → St → Hp → Prop, (∃ m, W 0 m σ H) ∧ ∀ i m σ H, W i m σ H →
      ((ItrD lo n).stop i H ∧ D.nx σ H) ∨ ((ItrD lo n).go i H ∧ ∃ N : St → Hp → Prop, (∀ σ' H', N σ' H' → ∃ m', m' < m ∧ W (i + 1) m' σ' H') ∧ ∀ x H', (ItrD lo n).yld i H x H' → g x σ H' fun σ2 H2 => tb { D with nx := N, ct := N, bk := D.nx } σ2 H2) := by
  refine ⟨fun i m σ H => m = n - i ∧ i ≤ n ∧ Pv i σ H, ⟨n, by simp, Nat.zero_le _, h0⟩, ?_⟩
  rintro i m σ H ⟨rfl, hi, p⟩
  by_cases hlt : i < n
  · refine .inr ⟨hlt, Pv (i + 1), fun σ' H' p' => ⟨n - (i + 1), by omega, rfl, hlt, p'⟩, fun x H' y => ?_⟩
    obtain ⟨e, y⟩ := y
    subst e y
    exact hs i σ _ hlt p
  · have e : i = n := by omega
    subst e
    exact .inl ⟨Nat.le_refl _, hd σ H p⟩
end L2

/-! EXT 14: lists of lists of ints (behind Ext2) -/
namespace L2
open PySem PySem.Spec PyProof.Rows
/-- at ps stand lists of ints, those of xss -/
def Rws (K : PySem.W.Frag) (H : Hp) (ps : List Addr) (xss : List (List Int)) : Prop := ps.length = xss.length ∧ ∀ (i : Nat) (p : Addr) (xs : List Int), ps[i]? = some p → xss[i]? = some xs → SqL K H p (xs.map V.int)
def rEqLL (K : PySem.W.Frag) : R2 := fun x y H Q => ∃ (a b : Addr) (ps qs : List Addr) (xss yss : List (List Int)), x = .ref a ∧ y = .ref b ∧ SqL K H a (ps.map V.ref) ∧ SqL K H b (qs.map V.ref) ∧ Rws K H ps xss ∧ Rws K H qs yss ∧ Q (.bl (decide (xss = yss))) H
def rNeLL (K : PySem.W.Frag) : R2 := fun x y H Q => ∃ (a b : Addr) (ps qs : List Addr) (xss yss : List (List Int)), x = .ref a ∧ y = .ref b ∧ SqL K H a (ps.map V.ref) ∧ SqL K H b (qs.map V.ref) ∧ Rws K H ps xss ∧ Rws K H qs yss ∧ Q (.bl (!decide (xss = yss))) H
theorem refs_of : ∀ {ps : List Addr} {us : List Value}, Vals (ps.map V.ref) us → us = ps.map Value.ref
  | [], _, h => by cases h; rfl
  | p :: ps, _, h => by
    cases h with
    | cons r rr =>
      cases r
      rw [refs_of rr]; rfl
theorem all_rows {xss yss : List (List Int)} (hl : xss.length = yss.length) : (List.range xss.length).all (fun j => decide (xss[j]? = yss[j]?)) = decide (xss = yss) := by
  rw [Bool.eq_iff_iff, List.all_eq_true, decide_eq_true_eq]
  constructor
  · intro h
    refine List.ext_getElem? fun j => ?_
    by_cases hj : j < xss.length
    · exact of_decide_eq_true (h j (List.mem_range.mpr hj))
    · rw [List.getElem?_eq_none_iff.mpr (by omega), List.getElem?_eq_none_iff.mpr (by omega)]
  · intro h j _
    rw [h]; exact decide_eq_true rfl
section
variable {X : Cx} {K : PySem.W.Frag}
theorem rows_eqAt {pins : List (Addr × Obj)} {σ : St} {H : Hp} {s : Shared} {ps qs : List Addr} {xss yss : List (List Int)} (I : Inv X pins σ H s) (hu : X.A.units + 66 < cLine) (hp : Rws X.K H ps xss) (hq : Rws X.K H qs yss) (j : Nat) (h1 : j < (ps.map Value.ref).toArray.size) (h2 : j < (qs.map Value.ref).toArray.size) :
    SeqAt.EqAt X.A.in1 s (ps.map Value.ref).toArray[j] (qs.map Value.ref).toArray[j] (decide (xss[j]? = yss[j]?)) := by
  have j1 : j < ps.length := by simpa using h1
  have j2 : j < qs.length := by simpa using h2
  have k1 : j < xss.length := by rw [← hp.1]; exact j1
  have k2 : j < yss.length := by rw [← hq.1]; exact j2
  obtain ⟨i1, r1, p1, _⟩ := I.list (hp.2 j ps[j] xss[j] (by simp) (by simp))
  obtain ⟨i2, r2, p2, _⟩ := I.list (hq.2 j qs[j] yss[j] (by simp) (by simp))
  have e := PySem.W.keq_ints (A := X.A) p1.isList (intsAre_of r1) p2.isList (intsAre_of r2) (by show X.A.units + 1 + 64 < cLine; omega)
  have ee : decide (xss[j]? = yss[j]?) = decide (xss[j] = yss[j]) := by
    rw [List.getElem?_eq_getElem k1, List.getElem?_eq_getElem k2]
    simp
  rw [ee]
  simpa using e
theorem op_eqLL (hu : X.A.units + 66 < cLine) : OpR X (compareOp .Eq) (rEqLL X.K) := by
  intro pins s σ H x y v u Q I rx ry h
  obtain ⟨a, b, ps, qs, xss, yss, rfl, rfl, ha, hb, hp, hq, q⟩ := h
  cases rx; cases ry
  obtain ⟨i1, r1, p1, _⟩ := I.list ha
  obtain ⟨i2, r2, p2, _⟩ := I.list hb
  obtain rfl := refs_of r1
  obtain rfl := refs_of r2
  by_cases hl : ps.length = qs.length
  · refine SeqAt.eq_listAt (e := fun j => decide (xss[j]? = yss[j]?)) p1.isList p2.isList (by simpa using hl) (by omega) (fun j h1 h2 => rows_eqAt I hu hp hq j h1 h2) ⟨.bl _, H, I, ?_, q⟩
    show Value.bool _ = Value.bool _
    congr 1
    have e : (ps.map Value.ref).toArray.size = xss.length := by rw [← hp.1]; simp
    rw [e]
    exact all_rows (by rw [← hp.1, ← hq.1, hl])
  · refine SeqAt.eq_list_lengthsAt p1.isList p2.isList (by simpa using hl) (by omega) ⟨.bl _, H, I, ?_, q⟩
    show Value.bool _ = Value.bool _
    congr 1
    exact (decide_eq_false fun z => hl (by rw [hp.1, hq.1, z])).symm
theorem op_neLL (hu : X.A.units + 66 < cLine) : OpR X (compareOp .NotEq) (rNeLL X.K) := by
  intro pins s σ H x y v u Q I rx ry h
  obtain ⟨a, b, ps, qs, xss, yss, rfl, rfl, ha, hb, hp, hq, q⟩ := h
  cases rx; cases ry
  obtain ⟨i1, r1, p1, _⟩ := I.list ha
  obtain ⟨i2, r2, p2, _⟩ := I.list hb
  obtain rfl := refs_of r1
  obtain rfl := refs_of r2
  by_cases hl : ps.length = qs.length
  · refine SeqAt.RcNeAt.lists (e := fun j => decide (xss[j]? = yss[j]?)) p1.isList p2.isList (by simpa using hl) (by omega) (fun j h1 h2 => rows_eqAt I hu hp hq j h1 h2) _ _ _ _ ⟨.bl _, H, I, ?_, q⟩
    show Value.bool _ = Value.bool _
    congr 2
    have e : (ps.map Value.ref).toArray.size = xss.length := by rw [← hp.1]; simp
    rw [e]
    exact all_rows (by rw [← hp.1, ← hq.1, hl])
  · refine SeqAt.RcNeAt.lists_lengths p1.isList p2.isList (by simpa using hl) (by omega) _ _ _ _ ⟨.bl _, H, I, ?_, q⟩
    show Value.bool _ = Value.bool _
    congr 1
    have : decide (xss = yss) = false := decide_eq_false fun z => hl (by rw [hp.1, hq.1, z])
    rw [this]; rfl
theorem op_neLLK (h : X.K = K) (hu : X.A.units + 66 < cLine) : OpR X (compareOp .NotEq) (rNeLL K) := by subst h; exact op_neLL hu
theorem op_eqLLK (h : X.K = K) (hu : X.A.units + 66 < cLine) : OpR X (compareOp .Eq) (rEqLL K) := by subst h; exact op_eqLL hu
end
end L2

namespace L2
open PySem PySem.Spec PyProof.Rows
theorem law_callS {P : Program} {w : World} {K : PySem.W.Frag} {mg mb : Str → Option Value} {CX : CXT} {k : Nat} {fa a : Addr} {fd : FuncData} {x : Str} {sp : Sp} {s₁ : Shared} {vs : List Value} {ns : List Int}
    (KX : K.In s₁.heap) (hns : s₁.heap.Ns mainGlobals mg) (hb : s₁.heap.Ns builtinsNs mb) (hbb : ∀ x : Str, x ≠ "__name__" → mb x = bootBuiltins x) (hlim : s₁.heap.NoLimit) (hse : s₁.heap.NoSeer) (hg : s₁.gens = #[])
    (ha : s₁.heap.get? a = some { cls := .type "list", data := .seq vs.toArray }) (hi : IntsAre vs ns) (hl : ns.length ≤ sizeLine) (hr : Room k callerA)
    (F : ∀ base : Heap, K.In base → base.Ns mainGlobals mg → base.NoSeer → FnOk P w K mg base CX k fa fd [x] sp) (hbind : ∀ (s : Shared) (u : Value), BindsTo s fd ⟨[u], []⟩ [(x, u)])
    (hsp : ∀ H : Hp, Only H → SqL K H a (ns.map V.int) → sp [.ref a] H (fun v _ => v = .bl true) fun _ _ _ => False)
    (hCX : ∀ H e s', CX [] H s₁ (fun _ _ _ => False) e s' → False) :
    codeAny (model P w) callerA (.call (.ref fa) ⟨[.ref a], []⟩) (fun r s' => r = .ok (.ret (.bool true)) ∧ OldK s₁.heap s'.heap ∧ s'.os = s₁.os ∧ AllBare s'.gens) s₁ := by
  have rv := vals_ints hi
  have lenV := hi.length
  -- from an abstract heap in which nothing but the script may be tracked
  have core : ∀ H : Hp, Only H → SqL K H a (ns.map V.int) → HOk P w H s₁.heap → (∀ b, H b ≠ none → b = a) → (H a ≠ none → K.lookup a = none) →
      codeAny (model P w) callerA (.call (.ref fa) ⟨[.ref a], []⟩) (fun r s' => r = .ok (.ret (.bool true)) ∧ OldK s₁.heap s'.heap ∧ s'.os = s₁.os ∧ AllBare s'.gens) s₁ := by
    intro H hO hS hok hA hK
    have base_of : ∀ {b : Addr} {o : Obj}, s₁.heap.get? b = some o → H b = none → (hidT s₁.heap H).get? b = some o := fun e n => hidT_get e n
    have noA : ∀ {b : Addr} {o : Obj} {es : Array DictEntry} {ep : Nat}, s₁.heap.get? b = some o → o.data = .dict es ep → H b = none := fun {b o es ep} e d => by
      cases q : H b with
      | none => rfl
      | some u =>
        have e' : b = a := hA b (by rw [q]; simp)
        subst e'
        rw [ha] at e; cases e
        have d' : Data.seq vs.toArray _ = Data.dict es ep := d
        cases d'
    have nsK : ∀ {b : Addr} {m : Str → Option Value}, s₁.heap.Ns b m → (hidT s₁.heap H).Ns b m := fun {b m} ⟨o, es, ep, e, d, r⟩ => ⟨o, es, ep, base_of e (noA e d), d, r⟩
    have hKb : K.In (hidT s₁.heap H) := fun b o e => base_of (KX b o e) (by
      cases q : H b with
      | none => rfl
      | some u =>
        have e' : b = a := hA b (by rw [q]; simp)
        subst e'
        rw [hK (by rw [q]; simp)] at e; cases e)
    have hM : Mod K mg (hidT s₁.heap H) := ⟨hKb, nsK hns, ⟨mb, nsK hb, hbb⟩, let ⟨mc, h1, h2⟩ := hlim; ⟨mc, nsK h1, h2⟩⟩
    have hSb : (hidT s₁.heap H).NoSeer := by
      obtain ⟨⟨mc, c1, c2, c3⟩, ⟨mm, m1, m2⟩, ⟨mb', b1, b2⟩, ⟨mg', bm, ob, g1, g2, g3, g4, g5⟩⟩ := hse
      refine ⟨⟨mc, nsK c1, c2, c3⟩, ⟨mm, nsK m1, m2⟩, ⟨mb', nsK b1, b2⟩, ⟨mg', bm, ob, nsK g1, g2, base_of g3 ?_, g4, g5⟩⟩
      cases q : H bm with
      | none => rfl
      | some u =>
        have e' : bm = a := hA bm (by rw [q]; simp)
        rw [e', ha] at g3
        cases g3
        exact absurd (Value.type.inj g4) (by decide)
    have e0 : Env0 P w K mg (hidT s₁.heap H) callerA [] s₁ H := ⟨rfl, hM, fun b o e => of_hidT e, Nat.le_of_eq (hidT_size _ _), trivial, fun b hb => absurd (show b ∈ ([] : List Addr) from hb) (by simp), hok, .of_eq hg⟩
    refine codeAny_mono ((F _ hKb (nsK hns) hSb).run callerA [] s₁ H ⟨[.ref a], []⟩ [.ref a] [.ref a] _ _ hr e0 (hbind s₁ (.ref a)) (.cons rfl .nil) (hsp H hO hS)) fun r s' h => ?_
    cases r with
    | error e => exact (hCX H e s' h).elim
    | ok fl =>
      cases fl with
      | next => exact False.elim h
      | brk => exact False.elim h
      | cont => exact False.elim h
      | ret u =>
        obtain ⟨v, H', os, bare, un, hok', r', q⟩ := h
        have q' : v = .bl true := q
        subst q'
        obtain rfl : u = Value.bool true := r'
        refine ⟨rfl, OldK.of_keep fun b o e => ?_, os, bare⟩
        cases q : H b with
        | none => exact un.keep b o e q (by intro z; exact absurd (show b ∈ ([] : List Addr) from z) (by simp)) (by simp)
        | some u =>
          rcases hO b with z | ⟨ob, xs, z⟩
          · rw [q] at z; cases z
          · have z2 := un.frzs b ob _ z
            obtain ⟨e1, _⟩ := hok b _ z
            obtain ⟨e2, _⟩ := hok' b _ z2
            rw [e] at e1; cases e1
            exact e2
  cases hk : K.lookup a with
  | some o =>
    -- the script is one of the module's own objects
    have e := KX a o hk
    rw [ha] at e
    cases e
    refine core (fun _ => none) (fun _ => .inl rfl) (.inr ⟨_, vs.toArray, _, hk, rfl, rfl, rfl, by rw [List.size_toArray, lenV]; exact hl, by simpa using rv⟩) (fun b u z => by have z' : (none : Option HO) = some u := z; cases z') (fun b z => absurd rfl z) fun z => absurd rfl z
  | none =>
    refine core (fun b => if b = a then some (.frz { cls := .type "list", data := .seq vs.toArray } (.lst (ns.map V.int))) else none) (fun b => ?_) (.inl (.inr ⟨{ cls := .type "list", data := .seq vs.toArray }, if_pos rfl⟩)) (fun b u z => ?_) (fun b z => ?_) fun _ => hk
    · by_cases hb : b = a
      · exact .inr ⟨_, _, if_pos hb⟩
      · exact .inl (if_neg hb)
    · by_cases hb : b = a
      · have z' := (if_pos hb).symm.trans z
        cases z'
        subst hb
        exact ⟨ha, by rw [List.length_map]; exact hl, vs, _, rv, ha⟩
      · have z' := (if_neg hb).symm.trans z
        cases z'
    · by_cases hb : b = a
      · exact hb
      · exact absurd (if_neg hb) z
theorem walk_ofS {l : PySem.W.OpenLaw} {n k : Nat} {q : Program} {loose : List Str} {XP : (Str → Option Value) → Heap → Prop} {YP : World → Heap → Prop} {d : DefRec} {K : Params → PySem.W.Frag} {CX : World → CXT} {sp : World → Sp} {x : Str}
    (hi : PyProof.Rows.importsNone q = true) (hn : l.most = some n) (hn2 : n ≤ sizeLine) (hdf : d.params.defaults = []) (hr : Room k callerA)
    (hY : ∀ (w : World) (h : Heap), YP w h → (K w.params).In h)
    (F : ∀ (w : World) (mg : Str → Option Value) (fa : Addr) (h : Heap), (K w.params).In h → h.Ns mainGlobals mg → mg d.name = some (.ref fa) →
      ∃ fd : FuncData, (∀ (s : Shared) (u : Value), BindsTo s fd ⟨[u], []⟩ [(x, u)]) ∧
        ∀ base : Heap, (K w.params).In base → base.Ns mainGlobals mg → base.NoSeer → FnOk l.prog w (K w.params) mg base (CX w) k fa fd [x] (sp w))
    (hsp : ∀ (w : World) (H : Hp) (a : Addr) (ns : List Int), ns.length ≤ n → Only H → SqL (K w.params) H a (ns.map V.int) → sp w [.ref a] H (fun v _ => v = .bl true) fun _ _ _ => False)
    (hCX : ∀ (w : World) (H : Hp) (s : Shared) (e : Value) (s' : Shared), CX w [] H s (fun _ _ _ => False) e s' → False) :
    PySem.W.WalkO q loose XP YP l.row.toRowW d [] (fun f vs => PySem.call f vs) := by
  refine Att.attach_call hn hdf fun w s₀ s₁ mg mb fa o pm cd doc a vs ns G Y ho hd hcd hmg hobj hints hlen hg => ?_
  have KX := hY w _ Y
  obtain ⟨fd, hb, hF⟩ := F w mg fa _ KX G.T.g hmg
  exact law_callS KX G.T.g G.T.b G.T.builtins G.T.nolimit (G.T.seer hi) hg hobj hints (Nat.le_trans hlen hn2) hr hF hb (fun H hO hS => hsp w H a ns hlen hO hS) fun H e s' => hCX w H s₁ e s'
end L2
/-! EXT 16: // by numbers of any size: what the big division asks of the heap stands from the start (ext16.py makes the rest) -/
namespace L2
open PySem PySem.Spec PyProof.Rows
section
variable {X : Cx} {e : Env} {l : List Env}
theorem room_big {pins : List (Addr × Obj)} {σ : St} {H : Hp} {s : Shared} (hs : X.base.NoSeer) (ht : X.prog.given.tree = none) (hd : X.A.depth + 100 < recursionLimit) (hst : X.stack = e :: l) (h1 : e.scope.isGenerator = false) (h2 : e.scope.isCoroutine = false) (h3 : e.builtins = builtinsNs) (h4 : e.globals = mainGlobals) (I : Inv X pins σ H s) : PylongRoom (model X.prog X.w) X.A s :=
  PylongRoom.of (I.ok.mod.nolimit.keeps I.bk) hd (SeerAt.of (hs.keeps I.bk) ht (by rw [I.ok.frames, hst]) h1 h2 h3 h4)
/-- // by a number above 0 of any size -/
theorem op_fdivS (hs : X.base.NoSeer) (ht : X.prog.given.tree = none) (hd : X.A.depth + 100 < recursionLimit) (hst : X.stack = e :: l) (h1 : e.scope.isGenerator = false) (h2 : e.scope.isCoroutine = false) (h3 : e.builtins = builtinsNs) (h4 : e.globals = mainGlobals) : OpR X (binaryOp .FloorDiv) (rI (fun _ j => 0 < j) fun i j => .int (i / j)) := by
  intro pins s σ H x y v u Q I rx ry h
  obtain ⟨i, j, rfl, rfl, hj, q⟩ := h
  obtain ⟨t, rfl⟩ := rx
  obtain ⟨t', rfl⟩ := ry
  have hj' : (0 : Int) < j := hj
  refine floordiv_int (Int.ne_of_gt hj') ?_ (.inr (room_big hs ht hd hst h1 h2 h3 h4 I))
  rw [Int.fdiv_eq_ediv_of_nonneg _ (Int.le_of_lt hj')]
  exact ⟨.int (i / j), H, I.tok _, ⟨_, rfl⟩, q⟩
theorem op_fdivSB (hs : X.base.NoSeer) (ht : X.prog.given.tree = none) (hd : X.A.depth + 100 < recursionLimit) (hst : X.stack = e :: l) (h1 : e.scope.isGenerator = false) (h2 : e.scope.isCoroutine = false) (h3 : e.builtins = builtinsNs) (h4 : e.globals = mainGlobals) : OpR X (binaryOp .FloorDiv) (rI (fun _ j => j ≠ 0) fun i j => .int (i.fdiv j)) := by
  intro pins s σ H x y v u Q I rx ry h
  obtain ⟨i, j, rfl, rfl, hj, q⟩ := h
  obtain ⟨t, rfl⟩ := rx
  obtain ⟨t', rfl⟩ := ry
  refine floordiv_int hj ?_ (.inr (room_big hs ht hd hst h1 h2 h3 h4 I))
  exact ⟨.int (i.fdiv j), H, I.tok _, ⟨_, rfl⟩, q⟩
end
end L2

/-! EXT 19: tuples of lists of ints (behind Ext14) -/
namespace L2
open PySem PySem.Spec PyProof.Rows
def rNeTL (K : PySem.W.Frag) : R2 := fun x y H Q => ∃ (a b : Addr) (ps qs : List Addr) (xss yss : List (List Int)), x = .ref a ∧ y = .ref b ∧ SqT K H a (ps.map V.ref) ∧ SqT K H b (qs.map V.ref) ∧ Rws K H ps xss ∧ Rws K H qs yss ∧ ps.length = qs.length ∧ Q (.bl (!decide (xss = yss))) H
def rEqTL (K : PySem.W.Frag) : R2 := fun x y H Q => ∃ (a b : Addr) (ps qs : List Addr) (xss yss : List (List Int)), x = .ref a ∧ y = .ref b ∧ SqT K H a (ps.map V.ref) ∧ SqT K H b (qs.map V.ref) ∧ Rws K H ps xss ∧ Rws K H qs yss ∧ ps.length = qs.length ∧ Q (.bl (decide (xss = yss))) H
section
variable {X : Cx} {K : PySem.W.Frag}
theorem op_neTL (hu : X.A.units + 66 < cLine) : OpR X (compareOp .NotEq) (rNeTL X.K) := by
  intro pins s σ H x y v u Q I rx ry h
  obtain ⟨a, b, ps, qs, xss, yss, rfl, rfl, ha, hb, hp, hq, hl, q⟩ := h
  cases rx; cases ry
  obtain ⟨i1, r1, p1, _⟩ := I.tuple ha
  obtain ⟨i2, r2, p2, _⟩ := I.tuple hb
  obtain rfl := refs_of r1
  obtain rfl := refs_of r2
  refine SeqAt.RcNeAt.tuples (e := fun j => decide (xss[j]? = yss[j]?)) p1 p2 (by omega) (fun j h1 h2 => rows_eqAt I hu hp hq j h1 h2) _ _ _ _ ⟨.bl _, H, I, ?_, q⟩
  show Value.bool _ = Value.bool _
  congr 2
  have e1 : (ps.map Value.ref).toArray.size = xss.length := by rw [← hp.1]; simp
  have e2 : (qs.map Value.ref).toArray.size = yss.length := by rw [← hq.1]; simp
  have hxy : xss.length = yss.length := by rw [← hp.1, ← hq.1, hl]
  rw [e1, e2, hxy, Nat.min_self, ← hxy, all_rows hxy]
  simp
theorem op_eqTL (hu : X.A.units + 66 < cLine) : OpR X (compareOp .Eq) (rEqTL X.K) := by
  intro pins s σ H x y v u Q I rx ry h
  obtain ⟨a, b, ps, qs, xss, yss, rfl, rfl, ha, hb, hp, hq, hl, q⟩ := h
  cases rx; cases ry
  obtain ⟨i1, r1, p1, _⟩ := I.tuple ha
  obtain ⟨i2, r2, p2, _⟩ := I.tuple hb
  obtain rfl := refs_of r1
  obtain rfl := refs_of r2
  refine SeqAt.eq_tupleAt (e := fun j => decide (xss[j]? = yss[j]?)) p1 p2 (by omega) (fun j h1 h2 => rows_eqAt I hu hp hq j h1 h2) ⟨.bl _, H, I, ?_, q⟩
  show Value.bool _ = Value.bool _
  congr 1
  have e1 : (ps.map Value.ref).toArray.size = xss.length := by rw [← hp.1]; simp
  have e2 : (qs.map Value.ref).toArray.size = yss.length := by rw [← hq.1]; simp
  have hxy : xss.length = yss.length := by rw [← hp.1, ← hq.1, hl]
  rw [e1, e2, hxy, Nat.min_self, ← hxy, all_rows hxy]
  simp
theorem op_eqTLK (h : X.K = K) (hu : X.A.units + 66 < cLine) : OpR X (compareOp .Eq) (rEqTL K) := by subst h; exact op_eqTL hu
theorem op_neTLK (h : X.K = K) (hu : X.A.units + 66 < cLine) : OpR X (compareOp .NotEq) (rNeTL K) := by subst h; exact op_neTL hu
end
end L2

/-! Lists of coefficients: plain mathematics -/
namespace RM

/-- the coefficient at place k -/
def cf (l : List Int) (k : Nat) : Int := l.getD k 0
theorem cf_nil (k : Nat) : cf [] k = 0 := by simp [cf]
theorem cf_zero (x : Int) (l : List Int) : cf (x :: l) 0 = x := rfl
theorem cf_succ (x : Int) (l : List Int) (k : Nat) : cf (x :: l) (k + 1) = cf l k := rfl
theorem cf_ge {l : List Int} {k : Nat} (h : l.length ≤ k) : cf l k = 0 := by
  unfold cf; rw [List.getD, List.getElem?_eq_none_iff.mpr h]; rfl
theorem cf_lt {l : List Int} {k : Nat} (h : k < l.length) : cf l k = l[k] := by
  unfold cf; rw [List.getD, List.getElem?_eq_getElem h]; rfl
theorem cf_some {l : List Int} {k : Nat} {x : Int} (h : l[k]? = some x) : cf l k = x := by
  unfold cf; rw [List.getD, h]; rfl
theorem get_cf {l : List Int} {k : Nat} (h : k < l.length) : l[k]? = some (cf l k) := by
  rw [cf_lt h, List.getElem?_eq_getElem h]
theorem cf_append_left {l r : List Int} {k : Nat} (h : k < l.length) : cf (l ++ r) k = cf l k := by
  unfold cf; rw [List.getD, List.getD, List.getElem?_append_left h]
theorem cf_append_right {l r : List Int} {k : Nat} (h : l.length ≤ k) : cf (l ++ r) k = cf r (k - l.length) := by
  unfold cf; rw [List.getD, List.getD, List.getElem?_append_right h]
theorem cf_set {l : List Int} {j k : Nat} {x : Int} (h : j < l.length) : cf (l.set j x) k = if k = j then x else cf l k := by
  unfold cf; rw [List.getD, List.getD, List.getElem?_set]
  by_cases e : j = k
  · subst e; simp [h]
  · rw [if_neg e, if_neg (fun z => e z.symm)]
theorem cf_replicate (n k : Nat) : cf (List.replicate n 0) k = 0 := by
  unfold cf; rw [List.getD, List.getElem?_replicate]; split <;> rfl
theorem cf_map_range (f : Nat → Int) (n k : Nat) : cf ((List.range n).map f) k = if k < n then f k else 0 := by
  unfold cf; rw [List.getD, List.getElem?_map]
  by_cases h : k < n
  · rw [if_pos h, List.getElem?_range h]; rfl
  · rw [if_neg h, List.getElem?_eq_none_iff.mpr (by simpa using h)]; rfl
theorem ext_cf {a b : List Int} (hl : a.length = b.length) (h : ∀ k, k < a.length → cf a k = cf b k) : a = b := by
  apply List.ext_getElem hl
  intro k h1 h2
  rw [← cf_lt h1, ← cf_lt h2]; exact h k h1

/-- noughts at the end left out -/
def trim (l : List Int) : List Int := (l.reverse.dropWhile (· == 0)).reverse
theorem trim_nil : trim [] = [] := rfl
theorem trim_snoc_zero (l : List Int) : trim (l ++ [0]) = trim l := by
  unfold trim; rw [List.reverse_append]; rfl
theorem trim_snoc_ne (l : List Int) {x : Int} (h : x ≠ 0) : trim (l ++ [x]) = l ++ [x] := by
  unfold trim
  rw [List.reverse_append]
  show ((x :: l.reverse).dropWhile (· == 0)).reverse = _
  rw [List.dropWhile_cons_of_neg (by simpa using h)]
  simp
/-- its last one is not 0 -/
def Tr (l : List Int) : Prop := ∀ n, l.length = n + 1 → cf l n ≠ 0
theorem snoc_cases (l : List Int) : l = [] ∨ ∃ r x, l = r ++ [x] := by
  cases h : l.reverse with
  | nil => left; simpa using h
  | cons x r => right; exact ⟨r.reverse, x, by rw [← List.reverse_reverse l, h]; simp⟩
theorem cf_last (r : List Int) (x : Int) : cf (r ++ [x]) r.length = x := by
  rw [cf_append_right (Nat.le_refl _), Nat.sub_self]; rfl
theorem tr_nil : Tr [] := fun n h => by simp at h
theorem tr_snoc {r : List Int} {x : Int} : Tr (r ++ [x]) ↔ x ≠ 0 := by
  constructor
  · intro h
    have := h r.length (by simp)
    rwa [cf_last] at this
  · intro h n hn
    have e : n = r.length := by simp at hn; omega
    subst e
    rwa [cf_last]
theorem trim_spec : ∀ (n : Nat) (l : List Int), l.length = n → Tr (trim l) ∧ (trim l).length ≤ l.length ∧ ∀ k, cf (trim l) k = cf l k
  | 0, l, h => by
    have : l = [] := List.length_eq_zero_iff.mp h
    subst this
    exact ⟨tr_nil, Nat.le_refl _, fun _ => rfl⟩
  | n + 1, l, h => by
    rcases snoc_cases l with rfl | ⟨r, x, rfl⟩
    · simp at h
    · by_cases hx : x = 0
      · subst hx
        obtain ⟨h1, h2, h3⟩ := trim_spec n r (by simpa using h)
        rw [trim_snoc_zero]
        refine ⟨h1, by rw [List.length_append]; exact Nat.le_trans h2 (Nat.le_add_right _ _), fun k => ?_⟩
        rw [h3]
        by_cases hk : k < r.length
        · rw [cf_append_left hk]
        · rw [cf_append_right (Nat.le_of_not_lt hk), cf_ge (Nat.le_of_not_lt hk)]
          cases e : k - r.length with
          | zero => rfl
          | succ j => rw [cf_succ, cf_nil]
      · rw [trim_snoc_ne r hx]
        exact ⟨tr_snoc.mpr hx, Nat.le_refl _, fun _ => rfl⟩
theorem tr_trim (l : List Int) : Tr (trim l) := (trim_spec _ l rfl).1
theorem length_trim (l : List Int) : (trim l).length ≤ l.length := (trim_spec _ l rfl).2.1
theorem cf_trim (l : List Int) (k : Nat) : cf (trim l) k = cf l k := (trim_spec _ l rfl).2.2 k
theorem trim_of_tr {l : List Int} (h : Tr l) : trim l = l := by
  rcases snoc_cases l with rfl | ⟨r, x, rfl⟩
  · rfl
  · exact trim_snoc_ne r (tr_snoc.mp h)
/-- polynomials are alike where their coefficients are -/
theorem eq_of_cf {a b : List Int} (ha : Tr a) (hb : Tr b) (h : ∀ k, cf a k = cf b k) : a = b := by
  have le : ∀ {a b : List Int}, Tr a → (∀ k, cf a k = cf b k) → a.length ≤ b.length := fun {a b} ha h => by
    cases e : a.length with
    | zero => exact Nat.zero_le _
    | succ n =>
      apply Classical.byContradiction
      intro hn
      exact ha n e (by rw [h n, cf_ge (by omega)])
  have hl : a.length = b.length := Nat.le_antisymm (le ha h) (le hb fun k => (h k).symm)
  exact ext_cf hl fun k _ => h k
theorem trim_eq {a b : List Int} (h : ∀ k, cf a k = cf b k) : trim a = trim b := eq_of_cf (tr_trim a) (tr_trim b) fun k => by rw [cf_trim, cf_trim, h k]
theorem trim_take_zero {l : List Int} {n : Nat} (hn : n < l.length) (h : cf l n = 0) : trim (l.take (n + 1)) = trim (l.take n) := by
  rw [List.take_add_one, get_cf hn, h]
  exact trim_snoc_zero _
theorem trim_take_ne {l : List Int} {n : Nat} (hn : n < l.length) (h : cf l n ≠ 0) : trim (l.take (n + 1)) = l.take (n + 1) := by
  rw [List.take_add_one, get_cf hn]
  exact trim_snoc_ne _ h
end RM

namespace RM
/-- the sum of two rows, place by place, the second times a factor -/
def linL (f : Int) (a b : List Int) : List Int := (List.range (max a.length b.length)).map fun k => cf a k + f * cf b k
theorem cf_linL (f : Int) (a b : List Int) (k : Nat) : cf (linL f a b) k = cf a k + f * cf b k := by
  unfold linL
  rw [cf_map_range]
  by_cases h : k < max a.length b.length
  · rw [if_pos h]
  · have h1 : a.length ≤ k := by omega
    have h2 : b.length ≤ k := by omega
    rw [if_neg h, cf_ge h1, cf_ge h2]; simp
def addL (a b : List Int) : List Int := trim (linL 1 a b)
def subL (a b : List Int) : List Int := trim (linL (-1) a b)

/-- the terms of a product's coefficient -/
def tm (a b : List Int) (n i : Nat) : Int := if i ≤ n then cf a i * cf b (n - i) else 0
def sm (a b : List Int) (n : Nat) : Nat → Int
  | 0 => 0
  | j + 1 => sm a b n j + tm a b n j
def mulc (a b : List Int) (n : Nat) : Int := sm a b n a.length
def mulL (a b : List Int) : List Int := if a = [] ∨ b = [] then [] else (List.range (a.length + b.length - 1)).map (mulc a b)
theorem tm_zero_left {a b : List Int} {n i : Nat} (h : a.length ≤ i) : tm a b n i = 0 := by
  unfold tm; split
  · rw [cf_ge h, Int.zero_mul]
  · rfl
theorem tm_zero_right {a b : List Int} {n i : Nat} (h : b.length ≤ n - i) : tm a b n i = 0 := by
  unfold tm; split
  · rw [cf_ge h, Int.mul_zero]
  · rfl
theorem sm_zero {a b : List Int} {n : Nat} : ∀ {j : Nat}, (∀ i, i < j → tm a b n i = 0) → sm a b n j = 0
  | 0, _ => rfl
  | j + 1, h => by
    rw [sm, sm_zero fun i hi => h i (Nat.lt_succ_of_lt hi), h j (Nat.lt_succ_self _)]; rfl
theorem mulc_big {a b : List Int} {n : Nat} (h : a.length + b.length ≤ n + 1) : mulc a b n = 0 := by
  apply sm_zero
  intro i hi
  exact tm_zero_right (by omega)
theorem mulc_top {a b : List Int} {la lb : Nat} (ha : a.length = la + 1) (hb : b.length = lb + 1) : mulc a b (la + lb) = cf a la * cf b lb := by
  unfold mulc
  rw [ha, sm, sm_zero fun i hi => tm_zero_right (by omega)]
  unfold tm
  rw [if_pos (Nat.le_add_right _ _), Nat.add_sub_cancel_left, Int.zero_add]
theorem cf_mulL (a b : List Int) (n : Nat) : cf (mulL a b) n = mulc a b n := by
  unfold mulL
  by_cases h : a = [] ∨ b = []
  · rw [if_pos h, cf_nil]
    symm
    apply sm_zero
    intro i hi
    rcases h with rfl | rfl
    · simp at hi
    · exact tm_zero_right (Nat.zero_le _)
  · rw [if_neg h, cf_map_range]
    by_cases hn : n < a.length + b.length - 1
    · rw [if_pos hn]
    · rw [if_neg hn, mulc_big (by omega)]
theorem tr_mulL {a b : List Int} (ha : Tr a) (hb : Tr b) : Tr (mulL a b) := by
  intro n hn
  rw [cf_mulL]
  by_cases h : a = [] ∨ b = []
  · unfold mulL at hn; rw [if_pos h] at hn; simp at hn
  · have h1 : a ≠ [] := fun z => h (.inl z)
    have h2 : b ≠ [] := fun z => h (.inr z)
    obtain ⟨la, ea⟩ : ∃ la, a.length = la + 1 := ⟨a.length - 1, by have := List.length_pos_iff.mpr h1; omega⟩
    obtain ⟨lb, eb⟩ : ∃ lb, b.length = lb + 1 := ⟨b.length - 1, by have := List.length_pos_iff.mpr h2; omega⟩
    unfold mulL at hn
    rw [if_neg h, List.length_map, List.length_range] at hn
    have e : n = la + lb := by omega
    subst e
    rw [mulc_top ea eb]
    exact Int.mul_ne_zero (ha la ea) (hb lb eb)
/-- one more term laid on -/
theorem mul_step {a b acc : List Int} {j k : Nat} (hj : j < a.length) (hk : k < b.length) (hl : j + k < acc.length)
    (h : ∀ n, n < acc.length → cf acc n = sm a b n j + (if j ≤ n ∧ n - j < k then tm a b n j else 0)) :
    ∀ n, n < (acc.set (j + k) (cf acc (j + k) + cf a j * cf b k)).length → cf (acc.set (j + k) (cf acc (j + k) + cf a j * cf b k)) n = sm a b n j + (if j ≤ n ∧ n - j < k + 1 then tm a b n j else 0) := by
  intro n hn
  rw [List.length_set] at hn
  rw [cf_set hl]
  by_cases e : n = j + k
  · subst e
    rw [if_pos rfl, h _ hl, if_neg (by omega), if_pos ⟨by omega, by omega⟩]
    unfold tm
    rw [if_pos (by omega), Nat.add_sub_cancel_left, Int.add_zero]
  · rw [if_neg e, h n hn]
    congr 1
    by_cases h1 : j ≤ n ∧ n - j < k
    · rw [if_pos h1, if_pos ⟨h1.1, by omega⟩]
    · rw [if_neg h1, if_neg (by omega)]
theorem mul_row {a b acc : List Int} {j : Nat} (h : ∀ n, n < acc.length → cf acc n = sm a b n j + (if j ≤ n ∧ n - j < b.length then tm a b n j else 0)) : ∀ n, n < acc.length → cf acc n = sm a b n (j + 1) := by
  intro n hn
  rw [h n hn, sm]
  congr 1
  by_cases h1 : j ≤ n ∧ n - j < b.length
  · rw [if_pos h1]
  · rw [if_neg h1]
    by_cases h2 : j ≤ n
    · rw [tm_zero_right (by omega)]
    · unfold tm; rw [if_neg h2]
theorem mul_start {a b acc : List Int} {j : Nat} (h : ∀ n, n < acc.length → cf acc n = sm a b n j) : ∀ n, n < acc.length → cf acc n = sm a b n j + (if j ≤ n ∧ n - j < 0 then tm a b n j else 0) := by
  intro n hn
  rw [if_neg (by omega), Int.add_zero]; exact h n hn
theorem mul_end {a b acc : List Int} (hl : a.length + b.length ≤ acc.length + 1) (h : ∀ n, n < acc.length → cf acc n = sm a b n a.length) (n : Nat) : cf acc n = mulc a b n := by
  by_cases hn : n < acc.length
  · exact h n hn
  · rw [cf_ge (Nat.le_of_not_lt hn), mulc_big (by omega)]
end RM
namespace RM
theorem addL_eq (a b : List Int) : trim ((List.range (max a.length b.length)).map fun k => cf a k + cf b k) = addL a b := by
  unfold addL linL
  congr 2; funext k; rw [Int.one_mul]
theorem subL_eq (a b : List Int) : trim ((List.range (max a.length b.length)).map fun k => cf a k - cf b k) = subL a b := by
  unfold subL linL
  congr 2; funext k; omega
end RM

/-! Fractions in lowest terms: plain mathematics -/
namespace RM
/-- the divisor with the bottom's sign -/
def dv (t b : Int) : Int := if b < 0 then -((Nat.gcd t.natAbs b.natAbs : Nat) : Int) else ((Nat.gcd t.natAbs b.natAbs : Nat) : Int)
def rt (t b : Int) : Int := t.fdiv (dv t b)
def rb (t b : Int) : Int := b.fdiv (dv t b)
theorem gcd_pos {t b : Int} (hb : b ≠ 0) : 0 < Nat.gcd t.natAbs b.natAbs := Nat.gcd_pos_of_pos_right _ (Int.natAbs_pos.mpr hb)
theorem dv_ne {t b : Int} (hb : b ≠ 0) : dv t b ≠ 0 := by
  have := @gcd_pos t b hb
  unfold dv; split <;> omega
theorem dv_abs (t b : Int) : (dv t b).natAbs = Nat.gcd t.natAbs b.natAbs := by unfold dv; split <;> omega
theorem dv_dvd_left (t b : Int) : dv t b ∣ t := Int.natAbs_dvd_natAbs.mp (by rw [dv_abs]; exact Nat.gcd_dvd_left _ _)
theorem dv_dvd_right (t b : Int) : dv t b ∣ b := Int.natAbs_dvd_natAbs.mp (by rw [dv_abs]; exact Nat.gcd_dvd_right _ _)
theorem fdiv_of_dvd {a d : Int} (hd : d ≠ 0) (h : d ∣ a) : d * a.fdiv d = a := by
  obtain ⟨c, rfl⟩ := h
  rw [Int.mul_fdiv_cancel_left c hd]
theorem rt_eq {t b : Int} (hb : b ≠ 0) : dv t b * rt t b = t := fdiv_of_dvd (dv_ne hb) (dv_dvd_left t b)
theorem rb_eq {t b : Int} (hb : b ≠ 0) : dv t b * rb t b = b := fdiv_of_dvd (dv_ne hb) (dv_dvd_right t b)
theorem rb_pos {t b : Int} (hb : b ≠ 0) : 0 < rb t b := by
  have h1 := @rb_eq t b hb
  have h2 := @gcd_pos t b hb
  by_cases hn : b < 0
  · have hd : dv t b < 0 := by unfold dv; rw [if_pos hn]; omega
    apply Classical.byContradiction
    intro h
    have : 0 ≤ dv t b * rb t b := Int.mul_nonneg_of_nonpos_of_nonpos (Int.le_of_lt hd) (by omega)
    omega
  · have hd : 0 < dv t b := by unfold dv; rw [if_neg hn]; omega
    apply Classical.byContradiction
    intro h
    have : dv t b * rb t b ≤ 0 := Int.mul_nonpos_of_nonneg_of_nonpos (Int.le_of_lt hd) (by omega)
    omega
theorem r_gcd {t b : Int} (hb : b ≠ 0) : Nat.gcd (rt t b).natAbs (rb t b).natAbs = 1 := by
  have h1 : t.natAbs = Nat.gcd t.natAbs b.natAbs * (rt t b).natAbs := by
    rw [← dv_abs, ← Int.natAbs_mul, rt_eq hb]
  have h2 : b.natAbs = Nat.gcd t.natAbs b.natAbs * (rb t b).natAbs := by
    rw [← dv_abs, ← Int.natAbs_mul, rb_eq hb]
  have hp := @gcd_pos t b hb
  have e : Nat.gcd t.natAbs b.natAbs = Nat.gcd t.natAbs b.natAbs * Nat.gcd (rt t b).natAbs (rb t b).natAbs := by
    rw [← Nat.gcd_mul_left, ← h1, ← h2]
  exact (Nat.eq_of_mul_eq_mul_left hp (by rw [Nat.mul_one]; exact e)).symm
theorem r_cross {t b : Int} (hb : b ≠ 0) : rt t b * b = t * rb t b := by
  have e1 := @rt_eq t b hb
  have e2 := @rb_eq t b hb
  calc rt t b * b = rt t b * (dv t b * rb t b) := by rw [e2]
    _ = (dv t b * rt t b) * rb t b := by rw [← Int.mul_assoc, Int.mul_comm (rt t b)]
    _ = t * rb t b := by rw [e1]
theorem rt_abs {t b : Int} (hb : b ≠ 0) : (rt t b).natAbs ≤ t.natAbs := by
  have h1 : t.natAbs = Nat.gcd t.natAbs b.natAbs * (rt t b).natAbs := by rw [← dv_abs, ← Int.natAbs_mul, rt_eq hb]
  rw [h1]; exact Nat.le_mul_of_pos_left _ (gcd_pos hb)
theorem rb_abs {t b : Int} (hb : b ≠ 0) : (rb t b).natAbs ≤ b.natAbs := by
  have h1 : b.natAbs = Nat.gcd t.natAbs b.natAbs * (rb t b).natAbs := by rw [← dv_abs, ← Int.natAbs_mul, rb_eq hb]
  rw [h1]; exact Nat.le_mul_of_pos_left _ (gcd_pos hb)
/-- the sign -/
def sg (x : Int) : Int := if x < 0 then -1 else if 0 < x then 1 else 0
theorem sg_neg (x : Int) : sg (-x) = -sg x := by unfold sg; split <;> split <;> (try split) <;> (try split) <;> omega
theorem sg_mul_pos {x p : Int} (hp : 0 < p) : sg (x * p) = sg x := by
  unfold sg
  by_cases h1 : x < 0
  · rw [if_pos h1, if_pos (Int.mul_neg_of_neg_of_pos h1 hp)]
  · by_cases h2 : 0 < x
    · have := Int.mul_pos h2 hp
      rw [if_neg h1, if_pos h2, if_neg (by omega), if_pos this]
    · obtain rfl : x = 0 := by omega
      simp
/-- the order of two fractions by any of their forms -/
theorem sg_cross {t b u d t' b' u' d' : Int} (hb : 0 < b) (hd : 0 < d) (hb' : 0 < b') (hd' : 0 < d') (e1 : t' * b = t * b') (e2 : u' * d = u * d') : sg (t' * d' - u' * b') = sg (t * d - u * b) := by
  have h : (t' * d' - u' * b') * (b * d) = (t * d - u * b) * (b' * d') := by
    rw [Int.sub_mul, Int.sub_mul]
    congr 1
    · calc t' * d' * (b * d) = (t' * b) * (d' * d) := by simp only [Int.mul_comm, Int.mul_left_comm, Int.mul_assoc]
        _ = (t * b') * (d' * d) := by rw [e1]
        _ = t * d * (b' * d') := by simp only [Int.mul_comm, Int.mul_left_comm, Int.mul_assoc]
    · calc u' * b' * (b * d) = (u' * d) * (b' * b) := by simp only [Int.mul_comm, Int.mul_left_comm, Int.mul_assoc]
        _ = (u * d') * (b' * b) := by rw [e2]
        _ = u * b * (b' * d') := by simp only [Int.mul_comm, Int.mul_left_comm, Int.mul_assoc]
  rw [← sg_mul_pos (x := t' * d' - u' * b') (Int.mul_pos hb hd), h, sg_mul_pos (Int.mul_pos hb' hd')]
end RM

/-! The value of a row at t/b, cleared of bottoms (behind MathPoly, MathRatio) -/
namespace RM
def hv (t b : Int) : List Int → Int
  | [] => 0
  | v :: l => v * b ^ (l.length + 1) + t * hv t b l
theorem hv_nil (t b : Int) : hv t b [] = 0 := rfl
theorem hv_cons (t b v : Int) (l : List Int) : hv t b (v :: l) = v * b ^ (l.length + 1) + t * hv t b l := rfl
/-- a row times (b x - a), with what is carried in -/
def mb (a b : Int) : Int → List Int → List Int
  | c, [] => [c]
  | c, x :: l => (-a * x + c) :: mb a b (b * x) l
theorem mb_len (a b : Int) : ∀ (c : Int) (l : List Int), (mb a b c l).length = l.length + 1
  | c, [] => rfl
  | c, x :: l => by show (mb a b (b * x) l).length + 1 = _; rw [mb_len]; rfl
theorem cf_mb (a b : Int) : ∀ (c : Int) (l : List Int) (k : Nat), cf (mb a b c l) k = -a * cf l k + (if k = 0 then c else b * cf l (k - 1))
  | c, [], 0 => by show c = _; rw [cf_nil]; simp
  | c, [], k + 1 => by show cf [] k = _; rw [cf_nil, cf_nil]; simp [cf_nil]
  | c, x :: l, 0 => rfl
  | c, x :: l, k + 1 => by
    show cf (mb a b (b * x) l) k = _
    rw [cf_mb a b (b * x) l k, cf_succ, if_neg (Nat.succ_ne_zero k)]
    cases k with
    | zero => rfl
    | succ k => rw [if_neg (Nat.succ_ne_zero k)]; rfl
theorem hv_mb (t u a b : Int) : ∀ (c : Int) (l : List Int), hv t u (mb a b c l) = c * u ^ (l.length + 1) + (b * t - a * u) * hv t u l
  | c, [] => by show c * u ^ 1 + t * 0 = c * u ^ 1 + (b * t - a * u) * 0; simp
  | c, x :: l => by
    show (-a * x + c) * u ^ ((mb a b (b * x) l).length + 1) + t * hv t u (mb a b (b * x) l) = c * u ^ (l.length + 1 + 1) + (b * t - a * u) * (x * u ^ (l.length + 1) + t * hv t u l)
    rw [hv_mb t u a b (b * x) l, mb_len]
    generalize hv t u l = h
    rw [Int.pow_succ u (l.length + 1)]
    generalize u ^ (l.length + 1) = p
    grind
theorem cf_two (x y : Int) (k : Nat) : cf [x, y] k = if k = 0 then x else if k = 1 then y else 0 := by
  rcases k with _ | _ | k
  · rfl
  · rfl
  · rw [if_neg (by omega), if_neg (by omega)]; exact cf_ge (by simp)
theorem sm_two (l : List Int) (x y : Int) (n : Nat) : ∀ j, sm l [x, y] n j = (if n < j then cf l n * x else 0) + (if 1 ≤ n ∧ n - 1 < j then cf l (n - 1) * y else 0)
  | 0 => by rw [if_neg (by omega), if_neg (by omega)]; rfl
  | j + 1 => by
    show sm l [x, y] n j + tm l [x, y] n j = _
    rw [sm_two l x y n j]
    unfold tm
    rw [cf_two]
    grind
theorem mul_two {a b : Int} {l : List Int} (h : l ≠ []) : mulL l [-a, b] = mb a b 0 l := by
  apply ext_cf
  · rw [mb_len]; unfold mulL; rw [if_neg (by simp [h]), List.length_map, List.length_range]; simp
  · intro k _
    rw [cf_mulL, cf_mb]
    unfold mulc
    rw [sm_two]
    have e1 : (if k < l.length then cf l k * -a else 0) = -a * cf l k := by
      by_cases hk : k < l.length
      · rw [if_pos hk, Int.mul_comm]
      · rw [if_neg hk, cf_ge (Nat.le_of_not_lt hk), Int.mul_zero]
    have e2 : (if 1 ≤ k ∧ k - 1 < l.length then cf l (k - 1) * b else 0) = if k = 0 then 0 else b * cf l (k - 1) := by
      by_cases h0 : k = 0
      · rw [if_neg (by omega), if_pos h0]
      · rw [if_neg h0]
        by_cases hk : k - 1 < l.length
        · rw [if_pos (by omega), Int.mul_comm]
        · rw [if_neg (by omega), cf_ge (Nat.le_of_not_lt hk), Int.mul_zero]
    rw [e1, e2]
theorem hv_mul (t u a b : Int) (l : List Int) : hv t u (mulL l [-a, b]) = (b * t - a * u) * hv t u l := by
  by_cases h : l = []
  · subst h
    have e : mulL [] [-a, b] = [] := by unfold mulL; rw [if_pos (.inl rfl)]
    rw [e, hv_nil, Int.mul_zero]
  · rw [mul_two h, hv_mb, Int.zero_mul, Int.zero_add]
theorem mul_two_len {a b : Int} (l : List Int) : (mulL l [-a, b]).length = if l = [] then 0 else l.length + 1 := by
  by_cases h : l = []
  · subst h
    have e : mulL [] [-a, b] = [] := by unfold mulL; rw [if_pos (.inl rfl)]
    rw [e, if_pos rfl]; rfl
  · rw [mul_two h, mb_len, if_neg h]
/-- t and b over one divisor -/
theorem hv_scale (g t b : Int) : ∀ l : List Int, hv (g * t) (g * b) l = g ^ l.length * hv t b l
  | [] => by simp [hv_nil]
  | v :: l => by
    rw [hv_cons, hv_cons, hv_scale g t b l, Int.mul_pow]
    show v * (g ^ (l.length + 1) * b ^ (l.length + 1)) + g * t * (g ^ l.length * hv t b l) = g ^ (l.length + 1) * (v * b ^ (l.length + 1) + t * hv t b l)
    rw [Int.pow_succ g l.length]
    generalize b ^ (l.length + 1) = p
    generalize g ^ l.length = q
    generalize hv t b l = h
    grind
theorem pow_ne {g : Int} (h : g ≠ 0) (n : Nat) : g ^ n ≠ 0 := by
  induction n with
  | zero => simp
  | succ n ih => rw [Int.pow_succ]; exact Int.mul_ne_zero ih h
theorem pow_pos' {g : Int} (h : 0 < g) (n : Nat) : 0 < g ^ n := by
  induction n with
  | zero => simp
  | succ n ih => rw [Int.pow_succ]; exact Int.mul_pos ih h
/-- the word that the row's value at t/b is top/bot -/
def At (l : List Int) (t b top bot : Int) : Prop := hv t b l * bot = top * b ^ l.length
theorem At.red {l : List Int} {t b top bot : Int} (hb : b ≠ 0) (h : At l t b top bot) : At l (rt t b) (rb t b) top bot := by
  unfold At at *
  have e1 := rt_eq (t := t) hb
  have e2 := rb_eq (t := t) hb
  have hg := dv_ne (t := t) hb
  generalize dv t b = g at e1 e2 hg
  generalize rt t b = t' at *
  generalize rb t b = b' at *
  subst e1 
  rw [← e2, hv_scale, Int.mul_pow] at h
  have hp := pow_ne hg l.length
  refine Int.eq_of_mul_eq_mul_left hp ?_
  generalize g ^ l.length = q at *
  generalize hv t' b' l = x at *
  generalize b' ^ l.length = y at *
  grind
/-- the value as a fraction in least terms -/
theorem At.value {l : List Int} {t b top bot : Int} (hb : 0 < b) (h : At l t b top bot) : rt (hv t b l) (b ^ l.length) * bot = top * rb (hv t b l) (b ^ l.length) := by
  unfold At at h
  have hp : b ^ l.length ≠ 0 := pow_ne (Int.ne_of_gt hb) _
  have c := r_cross (t := hv t b l) hp
  refine Int.eq_of_mul_eq_mul_right hp ?_
  generalize b ^ l.length = p at *
  generalize hv t b l = x at *
  generalize rt x p = r at *
  generalize rb x p = s at *
  grind
theorem At.sign {l : List Int} {t b top bot : Int} (hb : 0 < b) (hbot : 0 < bot) (h : At l t b top bot) : sg (hv t b l) = sg top := by
  unfold At at h
  rw [← sg_mul_pos (x := hv t b l) hbot, h, sg_mul_pos (pow_pos' hb _)]
theorem at_root {l : List Int} {a b : Int} (h : hv a b l = 0) : At l a b 0 1 := by unfold At; rw [h]; simp
theorem at_nil (t b : Int) : At [] t b 0 1 := at_root rfl
theorem at_lin (a b u lead : Int) : At [-a, b] (a * u + lead) (b * u) lead u := by
  unfold At
  show (-a * (b * u) ^ 2 + (a * u + lead) * (b * (b * u) ^ 1 + (a * u + lead) * 0)) * u = lead * (b * u) ^ 2
  grind
theorem at_whole {l : List Int} {t u top : Int} {n : Nat} (h : hv t u l = top * u) (hl : l.length = n + 1 ∨ top = 0) : At l t u top (u ^ n) := by
  unfold At
  rw [h]
  rcases hl with hl | hl
  · rw [hl, Int.pow_succ]; generalize u ^ n = p; grind
  · rw [hl]; simp
theorem hv_one (t u c : Int) : hv t u [c] = c * u := by
  show c * u ^ 1 + t * 0 = c * u
  grind
theorem drop_hv (t b : Int) {l : List Int} {n : Nat} (h : n < l.length) : hv t b (l.drop n) = cf l n * b ^ (l.length - n) + t * hv t b (l.drop (n + 1)) := by
  rw [List.drop_eq_getElem_cons h, hv_cons, List.length_drop, cf_lt h]
  have e : l.length - (n + 1) + 1 = l.length - n := by omega
  rw [e]
end RM

/-! Changes of sign (behind MathEval) -/
namespace RM
def lv (t b : Int) : List Int → Int
  | [] => 0
  | v :: l => v * b ^ l.length + t * lv t b l
theorem hv_lv (t b : Int) : ∀ l : List Int, hv t b l = b * lv t b l
  | [] => by show (0 : Int) = b * 0; simp
  | v :: l => by
    show v * b ^ (l.length + 1) + t * hv t b l = b * (v * b ^ l.length + t * lv t b l)
    rw [hv_lv t b l, Int.pow_succ]
    generalize b ^ l.length = p
    generalize lv t b l = x
    grind
theorem sg_red {t b : Int} (hb : 0 < b) (l : List Int) : sg (hv (rt t b) (rb t b) l) = sg (lv t b l) := by
  have h0 : b ≠ 0 := Int.ne_of_gt hb
  have hd : 0 < dv t b := by
    have h1 := dv_ne (t := t) h0
    unfold dv at *
    rw [if_neg (by omega)] at *
    omega
  have e := hv_scale (dv t b) (rt t b) (rb t b) l
  rw [rt_eq h0, rb_eq h0, hv_lv] at e
  have e1 : sg (b * lv t b l) = sg (lv t b l) := by rw [Int.mul_comm]; exact sg_mul_pos hb
  have e2 : sg (dv t b ^ l.length * hv (rt t b) (rb t b) l) = sg (hv (rt t b) (rb t b) l) := by rw [Int.mul_comm]; exact sg_mul_pos (pow_pos' hd _)
  rw [← e1, e, e2]
theorem drop_lv (t b : Int) {l : List Int} {n : Nat} (h : n < l.length) : lv t b (l.drop n) = cf l n * b ^ (l.length - (n + 1)) + t * lv t b (l.drop (n + 1)) := by
  have e : l.drop n = cf l n :: l.drop (n + 1) := by rw [cf_lt h]; exact List.drop_eq_getElem_cons h
  rw [e]
  show cf l n * b ^ (l.drop (n + 1)).length + _ = _
  rw [List.length_drop]
def chF (z : Int × Int) (s : Int) : Int × Int := (if s * z.2 < 0 then z.1 + 1 else z.1, if s = 0 then z.2 else s)
def chS (l : List Int) : Int × Int := l.foldl chF (0, 0)
theorem chS_snoc (l : List Int) (s : Int) : chS (l ++ [s]) = chF (chS l) s := by unfold chS; rw [List.foldl_append]; rfl
theorem sg_zero (x : Int) : sg x = 0 ↔ x = 0 := by unfold sg; split <;> (try split) <;> omega
theorem sg_cases (x : Int) : (x < 0 ∧ sg x = -1) ∨ (x = 0 ∧ sg x = 0) ∨ (0 < x ∧ sg x = 1) := by unfold sg; split <;> (try split) <;> omega
theorem chS_small' : ∀ (n : Nat) (l : List Int), l.length = n → (∀ s ∈ l, s.natAbs ≤ 1) → (chS l).2.natAbs ≤ 1 ∧ 0 ≤ (chS l).1 ∧ (chS l).1 ≤ l.length
  | n, l, hn, h => by
    rcases snoc_cases l with rfl | ⟨r, s, rfl⟩
    · decide
    · have hr : r.length + 1 = n := by rw [← hn, List.length_append]; rfl
      obtain ⟨i1, i2, i3⟩ := chS_small' (n - 1) r (by omega) (fun x hx => h x (List.mem_append_left _ hx))
      have hs := h s (by simp)
      rw [chS_snoc]
      unfold chF
      refine ⟨?_, ?_, ?_⟩
      · dsimp only; split
        · exact i1
        · exact hs
      · dsimp only; split <;> omega
      · dsimp only; rw [List.length_append]; show _ ≤ ((r.length + 1 : Nat) : Int); split <;> omega
termination_by n => n
theorem chS_small (l : List Int) (h : ∀ s ∈ l, s.natAbs ≤ 1) : (chS l).2.natAbs ≤ 1 ∧ 0 ≤ (chS l).1 ∧ (chS l).1 ≤ l.length := chS_small' _ l rfl h
theorem sg_small (x : Int) : (sg x).natAbs ≤ 1 := by unfold sg; split <;> (try split) <;> decide
end RM

/-! The steps of the determinant (behind MathPoly) -/
namespace RM
def clr (head : List Int) (bf : Int) (row : List Int) : List Int := (List.range (row.length - 1)).map fun k => (cf head 0 * cf row (k + 1) - cf row 0 * cf head (k + 1)).fdiv bf
theorem length_clr (h : List Int) (b : Int) (r : List Int) : (clr h b r).length = r.length - 1 := by unfold clr; simp
/-- the first row that does not begin with 0 -/
def fnn : List (List Int) → Nat
  | [] => 0
  | r :: rs => if cf r 0 = 0 then fnn rs + 1 else 0
theorem fnn_le : ∀ l : List (List Int), fnn l ≤ l.length
  | [] => Nat.le_refl _
  | r :: rs => by
    unfold fnn
    split
    · have := fnn_le rs; simp; omega
    · exact Nat.zero_le _
theorem fnn_ne : ∀ {l : List (List Int)}, fnn l < l.length → cf (l.getD (fnn l) []) 0 ≠ 0
  | [], h => absurd h (by simp)
  | r :: rs, h => by
    unfold fnn at *
    by_cases e : cf r 0 = 0
    · rw [if_pos e] at *
      exact fnn_ne (l := rs) (by simpa using h)
    · rw [if_neg e]; exact e
theorem fnn_zero : ∀ {l : List (List Int)} {j : Nat}, j < fnn l → cf (l.getD j []) 0 = 0
  | [], j, h => absurd h (by simp [fnn])
  | r :: rs, j, h => by
    unfold fnn at h
    by_cases e : cf r 0 = 0
    · rw [if_pos e] at h
      cases j with
      | zero => exact e
      | succ j => exact fnn_zero (l := rs) (by omega)
    · rw [if_neg e] at h; omega
theorem fnn_eq {l : List (List Int)} {k : Nat} (hk : k ≤ l.length) (h0 : ∀ j, j < k → cf (l.getD j []) 0 = 0) (h1 : k = l.length ∨ cf (l.getD k []) 0 ≠ 0) : fnn l = k := by
  have a := fnn_le l
  rcases Nat.lt_trichotomy (fnn l) k with h | h | h
  · exact absurd (h0 _ h) (fnn_ne (by omega))
  · exact h
  · rcases h1 with h1 | h1
    · omega
    · exact absurd (fnn_zero h) h1
def detS : Nat → List (List Int) → Int → Int → Int
  | 0, _, bf, sg => sg * bf
  | n + 1, left, bf, sg => if fnn left = left.length then 0 else detS n ((left.take (fnn left) ++ left.drop (fnn left + 1)).map (clr (left.getD (fnn left) []) bf)) (cf (left.getD (fnn left) []) 0) (if fnn left % 2 = 1 then -sg else sg)
theorem fdiv_one (x : Int) : x.fdiv 1 = x := by simp
theorem det_two (a b c d : Int) : detS 2 [[a, b], [c, d]] 1 1 = a * d - b * c := by
  by_cases ha : a = 0
  · by_cases hc : c = 0
    · subst ha hc
      have e : fnn [[0, b], [0, d]] = 2 := rfl
      unfold detS
      rw [e]
      simp
    · subst ha
      have e : fnn [[0, b], [c, d]] = 1 := by show (if (0 : Int) = 0 then fnn [[c, d]] + 1 else 0) = 1; rw [if_pos rfl]; show (if c = 0 then _ else 0) + 1 = 1; rw [if_neg hc]
      unfold detS
      rw [e]
      show (if 1 = 2 then (0 : Int) else detS 1 [clr [c, d] 1 [0, b]] c (-1)) = _
      rw [if_neg (by decide)]
      have e2 : clr [c, d] 1 [0, b] = [c * b] := by
        show [(c * b - 0 * d).fdiv 1] = _
        rw [fdiv_one]; simp
      rw [e2]
      unfold detS
      by_cases hb : c * b = 0
      · have e3 : fnn [[c * b]] = 1 := by show (if c * b = 0 then 0 + 1 else 0) = 1; rw [if_pos hb]
        rw [e3]
        show (if 1 = 1 then (0 : Int) else _) = _
        rw [if_pos rfl]; grind
      · have e3 : fnn [[c * b]] = 0 := by show (if c * b = 0 then 0 + 1 else 0) = 0; rw [if_neg hb]
        rw [e3]
        show (if 0 = 1 then (0 : Int) else -1 * (c * b)) = _
        rw [if_neg (by decide)]; grind
  · have e : fnn [[a, b], [c, d]] = 0 := by show (if a = 0 then _ else 0) = 0; rw [if_neg ha]
    unfold detS
    rw [e]
    show (if 0 = 2 then (0 : Int) else detS 1 [clr [a, b] 1 [c, d]] a 1) = _
    rw [if_neg (by decide)]
    have e2 : clr [a, b] 1 [c, d] = [a * d - c * b] := by
      show [(a * d - c * b).fdiv 1] = _
      rw [fdiv_one]
    rw [e2]
    unfold detS
    by_cases hb : a * d - c * b = 0
    · have e3 : fnn [[a * d - c * b]] = 1 := by show (if a * d - c * b = 0 then 0 + 1 else 0) = 1; rw [if_pos hb]
      rw [e3]
      show (if 1 = 1 then (0 : Int) else _) = _
      rw [if_pos rfl]; grind
    · have e3 : fnn [[a * d - c * b]] = 0 := by show (if a * d - c * b = 0 then 0 + 1 else 0) = 0; rw [if_neg hb]
      rw [e3]
      show (if 0 = 1 then (0 : Int) else 1 * (a * d - c * b)) = _
      rw [if_neg (by decide)]; grind
theorem det_one (a : Int) : detS 1 [[a]] 1 1 = a := by
  unfold detS
  by_cases ha : a = 0
  · have e3 : fnn [[a]] = 1 := by show (if a = 0 then 0 + 1 else 0) = 1; rw [if_pos ha]
    rw [e3]
    show (if 1 = 1 then (0 : Int) else _) = _
    rw [if_pos rfl, ha]
  · have e3 : fnn [[a]] = 0 := by show (if a = 0 then 0 + 1 else 0) = 0; rw [if_neg ha]
    rw [e3]
    show (if 0 = 1 then (0 : Int) else 1 * a) = _
    rw [if_neg (by decide)]; simp
theorem fdiv_abs_pos (x : Int) {y : Int} (hp : 0 < y) : (x.fdiv y).natAbs ≤ x.natAbs := by
  have h := Int.mul_fdiv_add_fmod x y
  have a := Int.fmod_nonneg_of_pos x hp
  have b := Int.fmod_lt_of_pos x hp
  by_cases q : 0 ≤ x.fdiv y
  · have : x.fdiv y ≤ y * x.fdiv y := by
      have := Int.mul_le_mul_of_nonneg_right (show (1 : Int) ≤ y by omega) q
      omega
    omega
  · have : y * x.fdiv y ≤ x.fdiv y - (y - 1) := by
      have h2 : (y - 1) * x.fdiv y ≤ (y - 1) * (-1) := Int.mul_le_mul_of_nonneg_left (by omega) (by omega)
      have h3 : (y - 1) * x.fdiv y = y * x.fdiv y - x.fdiv y := by rw [Int.sub_mul, Int.one_mul]
      omega
    omega
theorem fdiv_abs (x : Int) {y : Int} (hy : y ≠ 0) : (x.fdiv y).natAbs ≤ x.natAbs := by
  by_cases hp : 0 < y
  · exact fdiv_abs_pos x hp
  · have h := fdiv_abs_pos (-x) (y := -y) (by omega)
    rw [Int.neg_fdiv_neg, Int.natAbs_neg] at h
    exact h
end RM

/-! Determinants by the first column (behind MathDet) -/
namespace RM
abbrev Rw := Nat → Int
def tl (r : Rw) : Rw := fun j => r (j + 1)
def cmb (a : Int) (r : Rw) (b : Int) (s : Rw) : Rw := fun j => a * r j + b * s j
def lap (f : List Rw → Int) : List Rw → List Rw → Int
  | _, [] => 0
  | pre, r :: rs => r 0 * f (pre ++ rs) - lap f (pre ++ [r]) rs
def D : Nat → List Rw → Int
  | 0, _ => 1
  | n + 1, rows => lap (fun m => D n (m.map tl)) [] rows
theorem D_succ (n : Nat) (rows : List Rw) : D (n + 1) rows = lap (fun m => D n (m.map tl)) [] rows := rfl
theorem tl_cmb (a : Int) (r : Rw) (b : Int) (s : Rw) : tl (cmb a r b s) = cmb a (tl r) b (tl s) := rfl
theorem D_lin : ∀ (n : Nat) (pre post : List Rw) (r s : Rw) (a b : Int), pre.length + 1 + post.length = n → D n (pre ++ cmb a r b s :: post) = a * D n (pre ++ r :: post) + b * D n (pre ++ s :: post)
  | 0, pre, post, r, s, a, b, h => by omega
  | n + 1, pre, post, r, s, a, b, h => by
    have fl : ∀ p q : List Rw, p.length + 1 + q.length = n → D n ((p ++ cmb a r b s :: q).map tl) = a * D n ((p ++ r :: q).map tl) + b * D n ((p ++ s :: q).map tl) := fun p q hl => by
      rw [List.map_append, List.map_cons, List.map_append, List.map_cons, List.map_append, List.map_cons, tl_cmb]
      exact D_lin n (p.map tl) (q.map tl) (tl r) (tl s) a b (by simpa using hl)
    have A : ∀ (rows p q : List Rw), p.length + 1 + q.length + rows.length = n + 1 → lap (fun m => D n (m.map tl)) (p ++ cmb a r b s :: q) rows = a * lap (fun m => D n (m.map tl)) (p ++ r :: q) rows + b * lap (fun m => D n (m.map tl)) (p ++ s :: q) rows := by
      intro rows
      induction rows with
      | nil => intro p q _; simp [lap]
      | cons x xs ih =>
        intro p q hl
        rw [List.length_cons] at hl
        have h1 := fl p (q ++ xs) (by rw [List.length_append]; omega)
        have h2 := ih p (q ++ [x]) (by rw [List.length_append]; show p.length + 1 + (q.length + 1) + xs.length = n + 1; omega)
        show x 0 * D n ((p ++ cmb a r b s :: q ++ xs).map tl) - lap _ (p ++ cmb a r b s :: q ++ [x]) xs = a * (x 0 * D n ((p ++ r :: q ++ xs).map tl) - lap _ (p ++ r :: q ++ [x]) xs) + b * (x 0 * D n ((p ++ s :: q ++ xs).map tl) - lap _ (p ++ s :: q ++ [x]) xs)
        simp only [List.append_assoc, List.cons_append] at h1 h2 ⊢
        rw [h1, h2]
        grind
    have B : ∀ (p p0 : List Rw), p0.length + p.length + 1 + post.length = n + 1 → lap (fun m => D n (m.map tl)) p0 (p ++ cmb a r b s :: post) = a * lap (fun m => D n (m.map tl)) p0 (p ++ r :: post) + b * lap (fun m => D n (m.map tl)) p0 (p ++ s :: post) := by
      intro p
      induction p with
      | nil =>
        intro p0 hl
        have h2 := A post p0 [] (by simpa using hl)
        show cmb a r b s 0 * D n ((p0 ++ post).map tl) - lap _ (p0 ++ [cmb a r b s]) post = a * (r 0 * D n ((p0 ++ post).map tl) - lap _ (p0 ++ [r]) post) + b * (s 0 * D n ((p0 ++ post).map tl) - lap _ (p0 ++ [s]) post)
        rw [h2]
        show (a * r 0 + b * s 0) * _ - _ = _
        grind
      | cons x xs ih =>
        intro p0 hl
        rw [List.length_cons] at hl
        have h1 := fl (p0 ++ xs) post (by rw [List.length_append]; omega)
        have h2 := ih (p0 ++ [x]) (by rw [List.length_append]; show p0.length + 1 + xs.length + 1 + post.length = n + 1; omega)
        show x 0 * D n ((p0 ++ (xs ++ cmb a r b s :: post)).map tl) - lap _ (p0 ++ [x]) (xs ++ cmb a r b s :: post) = a * (x 0 * D n ((p0 ++ (xs ++ r :: post)).map tl) - lap _ (p0 ++ [x]) (xs ++ r :: post)) + b * (x 0 * D n ((p0 ++ (xs ++ s :: post)).map tl) - lap _ (p0 ++ [x]) (xs ++ s :: post))
        simp only [List.append_assoc] at h1
        rw [h1, h2]
        grind
    exact B pre [] (by simpa using h)
theorem D_alt : ∀ (n : Nat) (pre post : List Rw) (r : Rw), pre.length + 2 + post.length = n → D n (pre ++ r :: r :: post) = 0
  | 0, pre, post, r, h => by omega
  | n + 1, pre, post, r, h => by
    have fl : ∀ p q : List Rw, p.length + 2 + q.length = n → D n ((p ++ r :: r :: q).map tl) = 0 := fun p q hl => by
      rw [List.map_append, List.map_cons, List.map_cons]
      exact D_alt n (p.map tl) (q.map tl) (tl r) (by simpa using hl)
    have A : ∀ (rows p q : List Rw), p.length + 2 + q.length + rows.length = n + 1 → lap (fun m => D n (m.map tl)) (p ++ r :: r :: q) rows = 0 := by
      intro rows
      induction rows with
      | nil => intro p q _; rfl
      | cons x xs ih =>
        intro p q hl
        rw [List.length_cons] at hl
        have h1 := fl p (q ++ xs) (by rw [List.length_append]; omega)
        have h2 := ih p (q ++ [x]) (by rw [List.length_append]; show p.length + 2 + (q.length + 1) + xs.length = n + 1; omega)
        show x 0 * D n ((p ++ r :: r :: q ++ xs).map tl) - lap _ (p ++ r :: r :: q ++ [x]) xs = 0
        simp only [List.append_assoc, List.cons_append] at h1 h2 ⊢
        rw [h1, h2, Int.mul_zero]; rfl
    have B : ∀ (p p0 : List Rw), p0.length + p.length + 2 + post.length = n + 1 → lap (fun m => D n (m.map tl)) p0 (p ++ r :: r :: post) = 0 := by
      intro p
      induction p with
      | nil =>
        intro p0 hl
        have h2 := A post p0 [] (by simpa using hl)
        show r 0 * D n ((p0 ++ r :: post).map tl) - (r 0 * D n ((p0 ++ [r] ++ post).map tl) - lap _ (p0 ++ [r] ++ [r]) post) = 0
        simp only [List.append_assoc, List.cons_append, List.nil_append] at h2 ⊢
        rw [h2]; omega
      | cons x xs ih =>
        intro p0 hl
        rw [List.length_cons] at hl
        have h1 := fl (p0 ++ xs) post (by rw [List.length_append]; omega)
        have h2 := ih (p0 ++ [x]) (by rw [List.length_append]; show p0.length + 1 + xs.length + 2 + post.length = n + 1; omega)
        show x 0 * D n ((p0 ++ (xs ++ r :: r :: post)).map tl) - lap _ (p0 ++ [x]) (xs ++ r :: r :: post) = 0
        simp only [List.append_assoc] at h1
        rw [h1, h2, Int.mul_zero]; rfl
    exact B pre [] (by simpa using h)
theorem D_swap {n : Nat} {pre post : List Rw} {r s : Rw} (h : pre.length + 2 + post.length = n) : D n (pre ++ r :: s :: post) = - D n (pre ++ s :: r :: post) := by
  have e0 := D_alt n pre post (cmb 1 r 1 s) h
  rw [D_lin n pre (cmb 1 r 1 s :: post) r s 1 1 (by rw [List.length_cons]; omega)] at e0
  have e1 := D_lin n (pre ++ [r]) post r s 1 1 (by rw [List.length_append]; show pre.length + 1 + 1 + post.length = n; omega)
  have e2 := D_lin n (pre ++ [s]) post r s 1 1 (by rw [List.length_append]; show pre.length + 1 + 1 + post.length = n; omega)
  simp only [List.append_assoc, List.cons_append, List.nil_append] at e1 e2
  have e3 := D_alt n pre post r h
  have e4 := D_alt n pre post s h
  rw [e1, e2, e3, e4] at e0
  omega
theorem D_move {n : Nat} {h : Rw} {post : List Rw} : ∀ (pre q : List Rw), q.length + pre.length + 1 + post.length = n → D n (q ++ pre ++ h :: post) = (-1) ^ pre.length * D n (q ++ h :: pre ++ post)
  | [], q, _ => by simp
  | x :: pre, q, hl => by
    rw [List.length_cons] at hl
    have ih := D_move (n := n) (h := h) (post := post) pre (q ++ [x]) (by rw [List.length_append]; show q.length + 1 + pre.length + 1 + post.length = n; omega)
    have e := D_swap (n := n) (pre := q) (post := pre ++ post) (r := x) (s := h) (by rw [List.length_append]; omega)
    simp only [List.append_assoc, List.cons_append, List.nil_append] at ih e ⊢
    rw [ih, e, List.length_cons, Int.pow_succ]
    grind
theorem D_dup {n : Nat} {h : Rw} {q pre post : List Rw} (hl : q.length + pre.length + 2 + post.length = n) : D n (q ++ h :: pre ++ h :: post) = 0 := by
  have e := D_move (n := n) (h := h) (post := post) pre (q ++ [h]) (by rw [List.length_append]; show q.length + 1 + pre.length + 1 + post.length = n; omega)
  have e2 := D_alt n q (pre ++ post) h (by rw [List.length_append]; omega)
  simp only [List.append_assoc, List.cons_append, List.nil_append] at e e2 ⊢
  rw [e, e2, Int.mul_zero]
theorem lap_zero {f : List Rw → Int} : ∀ (X pre : List Rw), (∀ x ∈ X, x 0 = 0) → lap f pre X = 0
  | [], _, _ => rfl
  | x :: X, pre, h => by
    show x 0 * _ - lap f (pre ++ [x]) X = 0
    rw [h x (List.mem_cons_self ..), lap_zero X (pre ++ [x]) fun y hy => h y (List.mem_cons_of_mem _ hy)]
    omega
theorem D_first {m : Nat} {h : Rw} {X : List Rw} (hX : ∀ x ∈ X, x 0 = 0) : D (m + 1) (h :: X) = h 0 * D m (X.map tl) := by
  show h 0 * D m (([] ++ X).map tl) - lap _ ([] ++ [h]) X = _
  rw [lap_zero X _ hX, List.nil_append]; omega
theorem D_none {m : Nat} {X : List Rw} (hX : ∀ x ∈ X, x 0 = 0) : D (m + 1) X = 0 := lap_zero X [] hX
/-- the rows cleared by the first one -/
theorem D_clear {n : Nat} {h : Rw} : ∀ (R q : List Rw), 1 + q.length + R.length = n → D n (h :: (q ++ R.map fun r => cmb (h 0) r (-(r 0)) h)) = h 0 ^ R.length * D n (h :: (q ++ R))
  | [], q, _ => by simp
  | r :: R, q, hl => by
    rw [List.length_cons] at hl
    have e := D_lin n (h :: q) (R.map fun r => cmb (h 0) r (-(r 0)) h) r h (h 0) (-(r 0)) (by rw [List.length_map, List.length_cons]; omega)
    have e2 := D_dup (n := n) (h := h) (q := []) (pre := q) (post := R.map fun r => cmb (h 0) r (-(r 0)) h) (by rw [List.length_map, List.length_nil]; omega)
    have ih := D_clear (n := n) (h := h) R (q ++ [r]) (by rw [List.length_append]; show 1 + (q.length + 1) + R.length = n; omega)
    simp only [List.append_assoc, List.cons_append, List.nil_append] at e e2 ih ⊢
    rw [List.map_cons, e, e2, ih, List.length_cons, Int.pow_succ]
    grind
theorem D_scale {n : Nat} {p : Int} {φ : Rw → Rw} : ∀ (R q : List Rw), q.length + R.length = n → D n (q ++ R.map fun r => fun j => p * φ r j) = p ^ R.length * D n (q ++ R.map φ)
  | [], q, _ => by simp
  | r :: R, q, hl => by
    rw [List.length_cons] at hl
    have e := D_lin n q (R.map fun r => fun j => p * φ r j) (φ r) (φ r) p 0 (by rw [List.length_map]; omega)
    have e0 : cmb p (φ r) 0 (φ r) = fun j => p * φ r j := by funext j; show p * φ r j + 0 * φ r j = _; omega
    rw [e0] at e
    have ih := D_scale (n := n) (p := p) (φ := φ) R (q ++ [φ r]) (by rw [List.length_append]; show q.length + 1 + R.length = n; omega)
    simp only [List.append_assoc, List.cons_append, List.nil_append] at ih
    rw [List.map_cons, List.map_cons, e, ih, List.length_cons, Int.pow_succ]
    grind
theorem D_step {h : Rw} {R : List Rw} {p : Int} {φ : Rw → Rw} (hφ : ∀ r ∈ R, ∀ j, p * φ r j = h 0 * r (j + 1) - r 0 * h (j + 1)) : h 0 ^ R.length * D (R.length + 1) (h :: R) = h 0 * (p ^ R.length * D R.length (R.map φ)) := by
  have e := D_clear (n := R.length + 1) (h := h) R [] (by simp; omega)
  rw [List.nil_append, List.nil_append] at e
  rw [← e, D_first (fun x hx => by
    obtain ⟨r, _, rfl⟩ := List.mem_map.mp hx
    show h 0 * r 0 + -(r 0) * h 0 = 0
    grind)]
  have e2 := D_scale (n := R.length) (p := p) (φ := φ) R [] (by simp)
  rw [List.nil_append, List.nil_append] at e2
  rw [← e2, List.map_map]
  congr 2
  refine List.map_congr_left fun r hr => ?_
  funext j
  show h 0 * r (j + 1) + -(r 0) * h (j + 1) = p * φ r j
  rw [hφ r hr j]
  grind
/-- how great -/
theorem lap_le {f : List Rw → Int} {B F : Nat} {S : Rw → Prop} (hS : ∀ r, S r → (r 0).natAbs ≤ B) : ∀ (rows pre : List Rw), (∀ r ∈ pre, S r) → (∀ r ∈ rows, S r) → (∀ l : List Rw, l.length + 1 = pre.length + rows.length → (∀ r ∈ l, S r) → (f l).natAbs ≤ F) → (lap f pre rows).natAbs ≤ rows.length * (B * F)
  | [], _, _, _, _ => by simp [lap]
  | r :: rs, pre, h1, h2, h3 => by
    have a1 := hS r (h2 r (List.mem_cons_self ..))
    have a2 := h3 (pre ++ rs) (by rw [List.length_append, List.length_cons]; omega) (fun x hx => (List.mem_append.mp hx).elim (h1 x) fun z => h2 x (List.mem_cons_of_mem _ z))
    have a3 := lap_le hS rs (pre ++ [r]) (fun x hx => (List.mem_append.mp hx).elim (h1 x) fun z => by rw [List.mem_singleton.mp z]; exact h2 r (List.mem_cons_self ..)) (fun x hx => h2 x (List.mem_cons_of_mem _ hx)) (fun l hl => h3 l (by rw [List.length_append] at hl; rw [List.length_cons]; have : ([r] : List Rw).length = 1 := rfl; omega))
    show (r 0 * f (pre ++ rs) - lap f (pre ++ [r]) rs).natAbs ≤ (rs.length + 1) * (B * F)
    have a4 : (r 0 * f (pre ++ rs)).natAbs ≤ B * F := by rw [Int.natAbs_mul]; exact Nat.mul_le_mul a1 a2
    have a5 : (rs.length + 1) * (B * F) = rs.length * (B * F) + B * F := by rw [Nat.add_mul, Nat.one_mul]
    omega
theorem D_le {b : Nat} : ∀ (n : Nat) (rows : List Rw), n ≤ 16 → rows.length = n → (∀ r ∈ rows, ∀ j, (r j).natAbs ≤ 2 ^ b) → (D n rows).natAbs ≤ 2 ^ ((b + 4) * n)
  | 0, _, _, _, _ => by show (1 : Int).natAbs ≤ 2 ^ 0; decide
  | n + 1, rows, hn, hl, h => by
    have := lap_le (f := fun m => D n (m.map tl)) (B := 2 ^ b) (F := 2 ^ ((b + 4) * n)) (S := fun r => ∀ j, (r j).natAbs ≤ 2 ^ b) (fun r hr => hr 0) rows [] (fun r hr => nomatch hr) h (fun l hl2 hs => D_le n (l.map tl) (by omega) (by rw [List.length_map]; rw [List.length_nil] at hl2; omega) (fun r hr j => by
      obtain ⟨x, hx, rfl⟩ := List.mem_map.mp hr
      exact hs x hx (j + 1)))
    refine Nat.le_trans this ?_
    rw [hl]
    have e : (b + 4) * (n + 1) = 4 + (b + (b + 4) * n) := by rw [Nat.mul_add]; omega
    rw [e, Nat.pow_add 2 4, Nat.pow_add 2 b]
    exact Nat.mul_le_mul_right _ hn

def sel (C : Nat → Nat) (r : Rw) : Rw := fun j => r (C j)
/-- the lesser determinants of what is left: powers of the divisor times small numbers -/
def DInv (left : List (List Int)) (p : Int) (c k N : Nat) : Prop := ∀ (R : List Rw) (C : Nat → Nat), R ≠ [] → R.length + k ≤ N → (∀ r ∈ R, ∃ x ∈ left, r = cf x) → ∃ M : Int, D R.length (R.map (sel C)) = p ^ (R.length - 1) * M ∧ M.natAbs ≤ 2 ^ (c * (R.length + k))
theorem DInv.start {xss : List (List Int)} {b n : Nat} (hn : n ≤ 16) (h : ∀ x ∈ xss, ∀ j, (cf x j).natAbs ≤ 2 ^ b) : DInv xss 1 (b + 4) 0 n := fun R C _ hl hR => by
  refine ⟨D R.length (R.map (sel C)), by rw [Int.one_pow, Int.one_mul], ?_⟩
  exact D_le R.length _ (by omega) (List.length_map _) fun r hr j => by
    obtain ⟨r', hr', rfl⟩ := List.mem_map.mp hr
    obtain ⟨x, hx, rfl⟩ := hR r' hr'
    exact h x hx _
theorem DInv.bits {left : List (List Int)} {p : Int} {c k N : Nat} (h : DInv left p c k N) (hk : 1 + k ≤ N) {x : List Int} (hx : x ∈ left) (j : Nat) : (cf x j).natAbs ≤ 2 ^ (c * (1 + k)) := by
  obtain ⟨M, e, hM⟩ := h [cf x] (fun _ => j) (by simp) hk (fun r hr => ⟨x, hx, List.mem_singleton.mp hr⟩)
  have e2 : D 1 [sel (fun _ => j) (cf x)] = cf x j := by
    show cf x j * 1 - 0 = _
    omega
  have e3 : cf x j = M := by
    rw [← e2]
    show D 1 [sel (fun _ => j) (cf x)] = M
    have : D 1 [sel (fun _ => j) (cf x)] = p ^ 0 * M := e
    rw [this, Int.pow_zero, Int.one_mul]
  rw [e3]; exact hM
def phi (h : Rw) (p : Int) (r : Rw) : Rw := fun j => (h 0 * r (j + 1) - r 0 * h (j + 1)).fdiv p
theorem cf_clr {hs x : List Int} {p : Int} (hl : hs.length = x.length) : cf (clr hs p x) = phi (cf hs) p (cf x) := by
  funext j
  unfold clr phi
  rw [cf_map_range]
  by_cases hj : j < x.length - 1
  · rw [if_pos hj]
  · rw [if_neg hj, cf_ge (l := x) (k := j + 1) (by omega), cf_ge (l := hs) (k := j + 1) (by omega)]
    simp
theorem DInv.exact {left : List (List Int)} {p : Int} {c k N : Nat} (h : DInv left p c k N) (hp : p ≠ 0) (hk : 2 + k ≤ N) {hs x : List Int} (h1 : hs ∈ left) (h2 : x ∈ left) (j : Nat) : p * phi (cf hs) p (cf x) j = cf hs 0 * cf x (j + 1) - cf x 0 * cf hs (j + 1) := by
  obtain ⟨M, e, _⟩ := h [cf hs, cf x] (fun i => if i = 0 then 0 else j + 1) (by simp) hk (fun r hr => by
    simp only [List.mem_cons, List.not_mem_nil, or_false] at hr
    rcases hr with rfl | rfl
    · exact ⟨hs, h1, rfl⟩
    · exact ⟨x, h2, rfl⟩)
  have e2 : D 2 [sel (fun i => if i = 0 then 0 else j + 1) (cf hs), sel (fun i => if i = 0 then 0 else j + 1) (cf x)] = cf hs 0 * cf x (j + 1) - cf x 0 * cf hs (j + 1) := by
    show cf hs 0 * (cf x (j + 1) * 1 - 0) - (cf x 0 * (cf hs (j + 1) * 1 - 0) - 0) = _
    grind
  have e3 : cf hs 0 * cf x (j + 1) - cf x 0 * cf hs (j + 1) = p * M := by
    rw [← e2]
    have : D 2 [sel (fun i => if i = 0 then 0 else j + 1) (cf hs), sel (fun i => if i = 0 then 0 else j + 1) (cf x)] = p ^ 1 * M := e
    rw [this, Int.pow_succ, Int.pow_zero, Int.one_mul]
  unfold phi
  rw [e3, Int.mul_fdiv_cancel_left _ hp]
theorem pull {P : Rw → Prop} {φ : Rw → Rw} : ∀ R' : List Rw, (∀ r' ∈ R', ∃ r, P r ∧ r' = φ r) → ∃ R : List Rw, R' = R.map φ ∧ ∀ r ∈ R, P r
  | [], _ => ⟨[], rfl, fun _ h => nomatch h⟩
  | x :: R', h => by
    obtain ⟨r, hr, rfl⟩ := h x (List.mem_cons_self ..)
    obtain ⟨R, rfl, hR⟩ := pull R' fun y hy => h y (List.mem_cons_of_mem _ hy)
    exact ⟨r :: R, rfl, fun y hy => by
      rcases List.mem_cons.mp hy with rfl | hy
      · exact hr
      · exact hR y hy⟩
def upC (C : Nat → Nat) : Nat → Nat
  | 0 => 0
  | j + 1 => C j + 1
theorem DInv.step {left others : List (List Int)} {p : Int} {c k N : Nat} (h : DInv left p c k N) (hp : p ≠ 0) {hs : List Int} (h1 : hs ∈ left) (h0 : cf hs 0 ≠ 0) (hsub : ∀ x ∈ others, x ∈ left) (hlen : ∀ x ∈ others, hs.length = x.length) : DInv (others.map (clr hs p)) (cf hs 0) c (k + 1) N := fun R' C hne hl hR' => by
  obtain ⟨R, rfl, hR⟩ := pull (P := fun r => ∃ x ∈ others, r = cf x) (φ := phi (cf hs) p) R' (fun r' hr' => by
    obtain ⟨y, hy, rfl⟩ := hR' r' hr'
    obtain ⟨x, hx, rfl⟩ := List.mem_map.mp hy
    exact ⟨cf x, ⟨x, hx, rfl⟩, cf_clr (hlen x hx)⟩)
  rw [List.length_map] at hl ⊢
  obtain ⟨M, e, hM⟩ := h (cf hs :: R) (upC C) (by simp) (by rw [List.length_cons]; omega) (fun r hr => by
    rcases List.mem_cons.mp hr with rfl | hr
    · exact ⟨hs, h1, rfl⟩
    · obtain ⟨x, hx, rfl⟩ := hR r hr
      exact ⟨x, hsub x hx, rfl⟩)
  have hm : 1 ≤ R.length := by
    have : R ≠ [] := fun z => hne (by rw [z]; rfl)
    have := List.length_pos_iff.mpr this
    omega
  have st := D_step (h := sel (upC C) (cf hs)) (R := R.map (sel (upC C))) (p := p) (φ := phi (sel (upC C) (cf hs)) p) (fun r hr j => by
    obtain ⟨r', hr', rfl⟩ := List.mem_map.mp hr
    obtain ⟨x, hx, rfl⟩ := hR r' hr'
    exact h.exact hp (by omega) h1 (hsub x hx) (C j))
  rw [List.length_map, List.map_map] at st
  have e' : D (R.length + 1) (sel (upC C) (cf hs) :: R.map (sel (upC C))) = p ^ R.length * M := e
  rw [e'] at st
  have em : List.map (phi (sel (upC C) (cf hs)) p ∘ sel (upC C)) R = (R.map (phi (cf hs) p)).map (sel C) := by rw [List.map_map]; rfl
  rw [em] at st
  have hs0 : sel (upC C) (cf hs) 0 = cf hs 0 := rfl
  rw [hs0] at st
  refine ⟨M, ?_, by rw [List.length_cons] at hM; have e5 : R.length + (k + 1) = R.length + 1 + k := by omega
                    rw [e5]; exact hM⟩
  generalize D R.length ((R.map (phi (cf hs) p)).map (sel C)) = D' at st ⊢
  obtain ⟨m, em⟩ : ∃ m, R.length = m + 1 := ⟨R.length - 1, by omega⟩
  rw [em] at st ⊢
  have hpm : p ^ (m + 1) ≠ 0 := Int.pow_ne_zero hp
  show D' = cf hs 0 ^ m * M
  generalize p ^ (m + 1) = q at st hpm
  rw [Int.pow_succ] at st
  generalize cf hs 0 ^ m = x at st ⊢
  generalize cf hs 0 = y at st h0
  have hyq : y * q ≠ 0 := Int.mul_ne_zero h0 hpm
  refine Int.eq_of_mul_eq_mul_left hyq ?_
  grind
theorem pow_sgn (k : Nat) (sg : Int) : (if k % 2 = 1 then -sg else sg) = (-1) ^ k * sg := by
  induction k generalizing sg with
  | zero => simp
  | succ k ih =>
    rw [Int.pow_succ]
    have := ih (-sg)
    have e : (-1 : Int) ^ k * -1 * sg = (-1) ^ k * -sg := by grind
    rw [e, ← this]
    by_cases h : k % 2 = 1
    · rw [if_pos h, if_neg (by omega), Int.neg_neg]
    · rw [if_neg h, if_pos (by omega)]
theorem det_main {c : Nat} : ∀ (m : Nat) (left : List (List Int)) (p sg d : Int) (k : Nat), p ≠ 0 → left.length = m → (∀ x ∈ left, x.length = m) → DInv left p c k (m + k) → p * sg * D m (left.map cf) = p ^ m * d → detS m left p sg = d
  | 0, left, p, sg, d, k, hp, hl, _, _, h => by
    show sg * p = d
    have : p * sg * 1 = p ^ 0 * d := h
    rw [Int.pow_zero] at this
    grind
  | m + 1, left, p, sg, d, k, hp, hl, hw, hI, h => by
    show (if fnn left = left.length then 0 else detS m ((left.take (fnn left) ++ left.drop (fnn left + 1)).map (clr (left.getD (fnn left) []) p)) (cf (left.getD (fnn left) []) 0) (if fnn left % 2 = 1 then -sg else sg)) = d
    have hpm : p ^ (m + 1) ≠ 0 := Int.pow_ne_zero hp
    by_cases hf : fnn left = left.length
    · rw [if_pos hf]
      rw [D_none (fun x hx => by
        obtain ⟨y, hy, rfl⟩ := List.mem_map.mp hx
        obtain ⟨i, hi, rfl⟩ := List.mem_iff_getElem.mp hy
        have := fnn_zero (l := left) (j := i) (by omega)
        simpa [List.getD, hi] using this), Int.mul_zero] at h
      rcases Int.mul_eq_zero.mp h.symm with z | z
      · exact absurd z hpm
      · exact z.symm
    · rw [if_neg hf]
      have hlt : fnn left < left.length := by have := fnn_le left; omega
      have hne := fnn_ne hlt
      have hmem : left.getD (fnn left) [] ∈ left := by
        have : left.getD (fnn left) [] = left[fnn left] := by simp [List.getD, hlt]
        rw [this]; exact List.getElem_mem hlt
      have hdec : left = left.take (fnn left) ++ left.getD (fnn left) [] :: left.drop (fnn left + 1) := by
        have : left.getD (fnn left) [] = left[fnn left] := by simp [List.getD, hlt]
        rw [this]; simp
      generalize fnn left = pl at *
      generalize hh : left.getD pl [] = hs at *
      have hmv : D (m + 1) (left.map cf) = (-1) ^ pl * D (m + 1) (cf hs :: (left.take pl ++ left.drop (pl + 1)).map cf) := by
        have e := D_move (n := m + 1) (h := cf hs) (post := (left.drop (pl + 1)).map cf) ((left.take pl).map cf) [] (by rw [List.length_map, List.length_map, List.length_take, List.length_drop]; simp; omega)
        rw [List.length_map, List.length_take, Nat.min_eq_left (by omega)] at e
        rw [List.map_append]
        rw [List.nil_append, List.nil_append, List.cons_append] at e
        rw [← e, ← List.map_cons, ← List.map_append, ← hdec]
      have hol : (left.take pl ++ left.drop (pl + 1)).length = m := by rw [List.length_append, List.length_take, List.length_drop]; omega
      have hsub : ∀ x ∈ left.take pl ++ left.drop (pl + 1), x ∈ left := fun x hx => (List.mem_append.mp hx).elim List.mem_of_mem_take List.mem_of_mem_drop
      generalize left.take pl ++ left.drop (pl + 1) = others at *
      have hlen : ∀ x ∈ others, hs.length = x.length := fun x hx => by rw [hw hs hmem, hw x (hsub x hx)]
      have hI' := hI.step hp hmem hne hsub hlen
      rw [pow_sgn]
      refine det_main (c := c) m _ _ _ d (k + 1) hne (by rw [List.length_map]; exact hol) (fun x hx => by
        obtain ⟨y, hy, rfl⟩ := List.mem_map.mp hx
        rw [length_clr, hw y (hsub y hy)]; rfl) ?_ ?_
      · have : m + (k + 1) = m + 1 + k := by omega
        rw [this]; exact hI'
      have st : cf hs 0 ^ m * D (m + 1) (cf hs :: others.map cf) = cf hs 0 * (p ^ m * D m ((others.map (clr hs p)).map cf)) := by
        have hex : ∀ r ∈ others.map cf, ∀ j, p * phi (cf hs) p r j = cf hs 0 * r (j + 1) - r 0 * cf hs (j + 1) := fun r hr j => by
          obtain ⟨x, hx, rfl⟩ := List.mem_map.mp hr
          refine hI.exact hp ?_ hmem (hsub x hx) j
          have := List.length_pos_iff.mpr (List.ne_nil_of_mem hx)
          omega
        have e := D_step (h := cf hs) (R := others.map cf) (p := p) (φ := phi (cf hs) p) hex
        rw [List.length_map, hol] at e
        have e2 : (others.map cf).map (phi (cf hs) p) = (others.map (clr hs p)).map cf := by
          rw [List.map_map, List.map_map]
          refine List.map_congr_left fun x hx => ?_
          show phi (cf hs) p (cf x) = cf (clr hs p x)
          rw [cf_clr (hlen x hx)]
        rw [e2] at e
        exact e
      rw [hmv] at h
      generalize D (m + 1) (cf hs :: others.map cf) = X at *
      generalize D m ((others.map (clr hs p)).map cf) = Y at *
      generalize (-1 : Int) ^ pl = e at *
      generalize cf hs 0 = y at *
      have e1 : p ^ (m + 1) = p * p ^ m := by rw [Int.pow_succ, Int.mul_comm]
      rw [e1] at h hpm
      generalize p ^ m = q at *
      generalize y ^ m = z at *
      refine Int.eq_of_mul_eq_mul_left hpm ?_
      have a1 : p * q * (y * (e * sg) * Y) = p * (e * sg) * (y * (q * Y)) := by grind
      rw [a1, ← st]
      have a2 : p * (e * sg) * (z * X) = z * (p * sg * (e * X)) := by grind
      rw [a2, h]
      grind
/-- the determinant, as it is reckoned -/
theorem det_is {xss : List (List Int)} {b : Nat} (hn : xss.length ≤ 16) (hw : ∀ x ∈ xss, x.length = xss.length) (hb : ∀ x ∈ xss, ∀ j, (cf x j).natAbs ≤ 2 ^ b) : detS xss.length xss 1 1 = D xss.length (xss.map cf) :=
  det_main (c := b + 4) xss.length xss 1 1 _ 0 (by decide) rfl hw (DInv.start (by omega) hb) (by rw [Int.one_pow, Int.mul_one])
/-- rows put in other places -/
theorem set_split {l : List Rw} {i : Nat} (h : i < l.length) (x : Rw) : l.set i x = l.take i ++ x :: l.drop (i + 1) := List.set_eq_take_append_cons_drop ▸ (if_pos h ▸ rfl)
theorem D_set_lin {l : List Rw} {i : Nat} (h : i < l.length) (r s : Rw) (a b : Int) : D l.length (l.set i (cmb a r b s)) = a * D l.length (l.set i r) + b * D l.length (l.set i s) := by
  rw [set_split h, set_split h, set_split h]
  exact D_lin _ _ _ _ _ _ _ (by rw [List.length_take, List.length_drop]; omega)
theorem D_same {l : List Rw} {i j : Nat} (hij : i < j) (hj : j < l.length) (e : l[i]'(by omega) = l[j]) : D l.length l = 0 := by
  have h1 : l = l.take i ++ l[i]'(by omega) :: (l.drop (i + 1)).take (j - i - 1) ++ l[j] :: l.drop (j + 1) := by
    apply List.ext_getElem?
    intro k
    rw [List.append_assoc, List.cons_append]
    rcases Nat.lt_trichotomy k i with hk | hk | hk
    · rw [List.getElem?_append_left (by rw [List.length_take]; omega), List.getElem?_take, if_pos hk]
    · subst hk
      rw [List.getElem?_append_right (by rw [List.length_take]; omega), List.length_take, Nat.min_eq_left (by omega), Nat.sub_self]
      simp
    · rw [List.getElem?_append_right (by rw [List.length_take]; omega), List.length_take, Nat.min_eq_left (by omega)]
      obtain ⟨d, hd⟩ : ∃ d, k - i = d + 1 := ⟨k - i - 1, by omega⟩
      rw [hd, List.getElem?_cons_succ]
      have lt : ((l.drop (i + 1)).take (j - i - 1)).length = j - i - 1 := by rw [List.length_take, List.length_drop]; omega
      rcases Nat.lt_trichotomy k j with hk2 | hk2 | hk2
      · rw [List.getElem?_append_left (by omega), List.getElem?_take, if_pos (by omega), List.getElem?_drop]
        congr 1; omega
      · subst hk2
        rw [List.getElem?_append_right (by omega), lt, show d - (k - i - 1) = 0 by omega]
        simp
      · rw [List.getElem?_append_right (by omega), lt]
        obtain ⟨d2, hd2⟩ : ∃ d2, d - (j - i - 1) = d2 + 1 := ⟨d - (j - i - 1) - 1, by omega⟩
        rw [hd2, List.getElem?_cons_succ, List.getElem?_drop]
        congr 1; omega
  have hl : l.length = l.length := rfl
  rw [h1, e]
  refine D_dup ?_
  simp only [List.length_append, List.length_cons, List.length_take, List.length_drop]
  omega
theorem D_row_add {l : List Rw} {i j : Nat} (hi : i < l.length) (hj : j < l.length) (hij : i ≠ j) (m : Int) : D l.length (l.set i (cmb 1 (l[i]) m (l[j]))) = D l.length l := by
  rw [D_set_lin hi]
  have e1 : l.set i l[i] = l := List.set_getElem_self hi
  have e2 : D (l.set i l[j]).length (l.set i l[j]) = 0 := by
    rcases Nat.lt_or_gt_of_ne hij with h | h
    · refine D_same (i := i) (j := j) h (by rw [List.length_set]; exact hj) ?_
      rw [List.getElem_set_self, List.getElem_set_ne hij]
    · refine D_same (i := j) (j := i) h (by rw [List.length_set]; exact hi) ?_
      rw [List.getElem_set_self, List.getElem_set_ne hij]
  rw [List.length_set] at e2
  rw [e1, e2]; omega
theorem D_exchange {l : List Rw} {i j : Nat} (hi : i < l.length) (hj : j < l.length) (hij : i ≠ j) : D l.length ((l.set i l[j]).set j l[i]) = - D l.length l := by
  have z : ∀ x : Rw, D l.length ((l.set i x).set j x) = 0 := fun x => by
    have e : D ((l.set i x).set j x).length ((l.set i x).set j x) = 0 := by
      rcases Nat.lt_or_gt_of_ne hij with h | h
      · refine D_same (i := i) (j := j) h (by rw [List.length_set, List.length_set]; exact hj) ?_
        rw [List.getElem_set_self, List.getElem_set_ne (Ne.symm hij), List.getElem_set_self]
      · refine D_same (i := j) (j := i) h (by rw [List.length_set, List.length_set]; exact hi) ?_
        rw [List.getElem_set_self, List.getElem_set_ne (Ne.symm hij), List.getElem_set_self]
    rw [List.length_set, List.length_set] at e
    exact e
  have lin2 : ∀ x r s : Rw, D l.length ((l.set i x).set j (cmb 1 r 1 s)) = D l.length ((l.set i x).set j r) + D l.length ((l.set i x).set j s) := fun x r s => by
    have e := D_set_lin (l := l.set i x) (i := j) (by rw [List.length_set]; exact hj) r s 1 1
    rw [List.length_set] at e
    rw [e]; omega
  have lin1 : ∀ y r s : Rw, D l.length ((l.set i (cmb 1 r 1 s)).set j y) = D l.length ((l.set i r).set j y) + D l.length ((l.set i s).set j y) := fun y r s => by
    rw [List.set_comm _ _ hij, List.set_comm _ _ hij, List.set_comm _ _ hij]
    have e := D_set_lin (l := l.set j y) (i := i) (by rw [List.length_set]; exact hi) r s 1 1
    rw [List.length_set] at e
    rw [e]; omega
  have h := z (cmb 1 l[i] 1 l[j])
  rw [lin1, lin2, lin2, z, z] at h
  have e1 : (l.set i l[i]).set j l[j] = l := by rw [List.set_getElem_self hi]; exact List.set_getElem_self hj
  rw [e1] at h
  omega
def sh (k : Nat) (r : Rw) : Rw := fun j => r (j + k)
def dp : Nat → List Rw → Int
  | _, [] => 1
  | k, r :: rs => r k * dp (k + 1) rs
theorem D_tri : ∀ (R : List Rw) (k : Nat), (∀ (i : Nat) (r : Rw), R[i]? = some r → ∀ j, j < i → r (j + k) = 0) → D R.length (R.map (sh k)) = dp k R
  | [], _, _ => rfl
  | h :: X, k, hz => by
    have ih := D_tri X (k + 1) fun i r hr j hj => by
      have := hz (i + 1) r hr (j + 1) (by omega)
      have e : j + 1 + k = j + (k + 1) := by omega
      rw [e] at this; exact this
    show D (X.length + 1) (sh k h :: X.map (sh k)) = h k * dp (k + 1) X
    rw [D_first (fun x hx => by
      obtain ⟨y, hy, rfl⟩ := List.mem_map.mp hx
      obtain ⟨i, hi, rfl⟩ := List.mem_iff_getElem.mp hy
      exact hz (i + 1) X[i] (by rw [List.getElem?_cons_succ]; exact List.getElem?_eq_getElem hi) 0 (by omega)), ← ih, List.map_map]
    have e0 : sh k h 0 = h k := by show h (0 + k) = h k; rw [Nat.zero_add]
    rw [e0]
    congr 2
    refine List.map_congr_left fun r _ => ?_
    funext j
    show r (j + 1 + k) = r (j + (k + 1))
    congr 1; omega
end RM

/-! The shared divisor: plain mathematics -/
namespace RM

/-- the mirror of shared -/
def gcdF (d : Nat) (l : List Int) : Nat := l.foldl (fun d v => Nat.gcd d v.natAbs) d
def gcdL (l : List Int) : Nat := gcdF 0 l
theorem gcdF_nil (d : Nat) : gcdF d [] = d := rfl
theorem gcdF_cons (d : Nat) (v : Int) (l : List Int) : gcdF d (v :: l) = gcdF (Nat.gcd d v.natAbs) l := rfl
theorem gcdF_snoc (d : Nat) (l : List Int) (v : Int) : gcdF d (l ++ [v]) = Nat.gcd (gcdF d l) v.natAbs := by
  unfold gcdF; rw [List.foldl_append]; rfl
theorem gcdL_snoc (l : List Int) (v : Int) : gcdL (l ++ [v]) = Nat.gcd (gcdL l) v.natAbs := gcdF_snoc 0 l v
theorem dvd_gcdF {m : Nat} : ∀ {l : List Int} {d : Nat}, m ∣ gcdF d l ↔ m ∣ d ∧ ∀ v ∈ l, m ∣ v.natAbs
  | [], d => by simp [gcdF_nil]
  | v :: l, d => by
    rw [gcdF_cons, dvd_gcdF, Nat.dvd_gcd_iff]
    simp only [List.mem_cons, forall_eq_or_imp]
    exact ⟨fun ⟨⟨a, b⟩, c⟩ => ⟨a, b, c⟩, fun ⟨a, b, c⟩ => ⟨⟨a, b⟩, c⟩⟩
theorem dvd_gcdL {m : Nat} {l : List Int} : m ∣ gcdL l ↔ ∀ v ∈ l, m ∣ v.natAbs := by
  unfold gcdL; rw [dvd_gcdF]; exact ⟨fun h => h.2, fun h => ⟨Nat.dvd_zero m, h⟩⟩
theorem gcdL_dvd {l : List Int} {v : Int} (h : v ∈ l) : gcdL l ∣ v.natAbs := dvd_gcdL.mp (Nat.dvd_refl _) v h
theorem gcdL_nil : gcdL [] = 0 := rfl
theorem gcdL_one (v : Int) : gcdL [v] = v.natAbs := by
  show Nat.gcd 0 v.natAbs = _; exact Nat.gcd_zero_left _
theorem gcdL_zeros : ∀ n : Nat, gcdL (List.replicate n 0) = 0
  | 0 => rfl
  | n + 1 => by
    apply Nat.eq_zero_of_zero_dvd
    rw [dvd_gcdL]
    intro v hv
    rw [List.eq_of_mem_replicate hv]
    exact Nat.dvd_refl _

/-- Euclid's turn -/
theorem gcd_turn {a b : Int} (ha : 0 ≤ a) (hb : 0 < b) : Nat.gcd b.natAbs (a % b).natAbs = Nat.gcd a.natAbs b.natAbs := by
  have e : (a % b).natAbs = a.natAbs % b.natAbs := by
    obtain ⟨x, rfl⟩ := Int.eq_ofNat_of_zero_le ha
    obtain ⟨y, rfl⟩ := Int.eq_ofNat_of_zero_le (Int.le_of_lt hb)
    rfl
  rw [e, Nat.gcd_comm, ← Nat.gcd_rec, Nat.gcd_comm]

/-- a row of multiples of g with g k and g (k + 1) in it, up to signs -/
theorem gcdL_row {l : List Int} {g k : Int} (hg : 0 ≤ g) (all : ∀ v ∈ l, g ∣ v) (h1 : ∃ v ∈ l, v.natAbs = (g * k).natAbs) (h2 : ∃ v ∈ l, v.natAbs = (g * (k + 1)).natAbs) : (gcdL l : Int) = g := by
  obtain ⟨n, rfl⟩ := Int.eq_ofNat_of_zero_le hg
  congr 1
  apply Nat.dvd_antisymm
  · obtain ⟨v, hv, e1⟩ := h1
    obtain ⟨u, hu, e2⟩ := h2
    have d1 := gcdL_dvd hv
    have d2 := gcdL_dvd hu
    rw [e1] at d1
    rw [e2] at d2
    have d1' : ((gcdL l : Nat) : Int) ∣ ((n : Int) * k) := Int.ofNat_dvd_left.mpr d1
    have d2' : ((gcdL l : Nat) : Int) ∣ ((n : Int) * (k + 1)) := Int.ofNat_dvd_left.mpr d2
    have d3 := Int.dvd_sub d2' d1'
    have e : (n : Int) * (k + 1) - (n : Int) * k = n := by rw [Int.mul_add]; omega
    rw [e] at d3
    exact Int.natCast_dvd_natCast.mp d3
  · rw [dvd_gcdL]
    intro v hv
    exact Int.ofNat_dvd_left.mp (all v hv)
end RM

/-! Shrunk and plain: plain mathematics (behind MathGcd, MathPoly) -/
namespace RM
def shrL (l : List Int) : List Int := l.map fun x => x / (gcdL l : Int)
def lastI (l : List Int) : Int := cf l (l.length - 1)
theorem lastI_nil : lastI [] = 0 := rfl
theorem lastI_snoc (r : List Int) (x : Int) : lastI (r ++ [x]) = x := by
  unfold lastI; rw [List.length_append]; exact cf_last r x
def posL (l : List Int) : List Int := if lastI l < 0 then l.map fun x => -x else l
def plainL (l : List Int) : List Int := posL (shrL l)
theorem mem_or_zero : ∀ (n : Nat) (l : List Int), l.length = n → ∀ v ∈ l, v ∈ trim l ∨ v = 0
  | 0, l, h, v, hv => by rw [List.length_eq_zero_iff.mp h] at hv; cases hv
  | n + 1, l, h, v, hv => by
    rcases snoc_cases l with rfl | ⟨r, x, rfl⟩
    · cases hv
    · by_cases hx : x = 0
      · subst hx
        rw [trim_snoc_zero]
        rcases List.mem_append.mp hv with h' | h'
        · exact mem_or_zero n r (by simpa using h) v h'
        · exact .inr (List.mem_singleton.mp h')
      · rw [trim_snoc_ne r hx]; exact .inl hv
theorem mem_trim' {l : List Int} {x : Int} (h : x ∈ trim l) : x ∈ l := by
  unfold trim at h
  rw [List.mem_reverse] at h
  exact List.mem_reverse.mp ((List.dropWhile_sublist _).subset h)
theorem gcdL_trim (l : List Int) : gcdL (trim l) = gcdL l := by
  apply Nat.dvd_antisymm
  · rw [dvd_gcdL]
    intro v hv
    rcases mem_or_zero _ l rfl v hv with h | h
    · exact gcdL_dvd h
    · rw [h]; exact Nat.dvd_zero _
  · rw [dvd_gcdL]
    intro v hv
    exact gcdL_dvd (mem_trim' hv)
theorem trim_map {c : Int → Int} (h0 : ∀ x, c x = 0 ↔ x = 0) : ∀ (n : Nat) (l : List Int), l.length = n → trim (l.map c) = (trim l).map c
  | 0, l, h => by rw [List.length_eq_zero_iff.mp h]; rfl
  | n + 1, l, h => by
    rcases snoc_cases l with rfl | ⟨r, x, rfl⟩
    · rfl
    · rw [List.map_append]
      show trim (r.map c ++ [c x]) = _
      by_cases hx : x = 0
      · subst hx
        rw [(h0 0).mpr rfl, trim_snoc_zero, trim_snoc_zero]
        exact trim_map h0 n r (by simpa using h)
      · rw [trim_snoc_ne r hx, trim_snoc_ne _ (fun z => hx ((h0 x).mp z)), List.map_append]; rfl
/-- the shared divisor is 1, or there is nothing -/
def Prim (l : List Int) : Prop := l = [] ∨ gcdL l = 1
theorem shrL_prim {l : List Int} (h : Prim l) : shrL l = l := by
  rcases h with rfl | h
  · rfl
  · unfold shrL; rw [h]
    conv => rhs; rw [← List.map_id l]
    apply List.map_congr_left
    intro x _
    show x / 1 = x
    exact Int.ediv_one x
theorem gcdL_map_unit {l : List Int} {s : Int} (hs : s = 1 ∨ s = -1) : gcdL (l.map fun x => x * s) = gcdL l := by
  have key : ∀ m : Nat, m ∣ gcdL (l.map fun x => x * s) ↔ m ∣ gcdL l := by
    intro m
    rw [dvd_gcdL, dvd_gcdL]
    have e : ∀ x : Int, (x * s).natAbs = x.natAbs := fun x => by
      rcases hs with rfl | rfl
      · rw [Int.mul_one]
      · rw [Int.mul_neg, Int.mul_one, Int.natAbs_neg]
    constructor
    · intro h v hv
      have := h (v * s) (List.mem_map.mpr ⟨v, hv, rfl⟩)
      rwa [e] at this
    · intro h v hv
      obtain ⟨u, hu, rfl⟩ := List.mem_map.mp hv
      rw [e]; exact h u hu
  exact Nat.dvd_antisymm ((key _).mp (Nat.dvd_refl _)) ((key _).mpr (Nat.dvd_refl _))
theorem prim_neg {l : List Int} (h : Prim l) : Prim (l.map fun x => -x) := by
  rcases h with rfl | h
  · exact .inl rfl
  · right
    have e : (l.map fun x => -x) = l.map fun x => x * (-1) := by
      apply List.map_congr_left; intro x _; omega
    rw [e, gcdL_map_unit (.inr rfl), h]
theorem lastI_map_neg (l : List Int) : lastI (l.map fun x => -x) = -lastI l := by
  rcases snoc_cases l with rfl | ⟨r, x, rfl⟩
  · rfl
  · rw [List.map_append]
    show lastI (r.map _ ++ [-x]) = _
    rw [lastI_snoc, lastI_snoc]
theorem posL_posL (l : List Int) : posL (posL l) = posL l := by
  by_cases h : lastI l < 0
  · have e : posL l = l.map fun x => -x := by unfold posL; rw [if_pos h]
    rw [e]; unfold posL; rw [lastI_map_neg, if_neg (by omega)]
  · have e : posL l = l := by unfold posL; rw [if_neg h]
    rw [e, e]
theorem prim_posL {l : List Int} (h : Prim l) : Prim (posL l) := by
  unfold posL; split
  · exact prim_neg h
  · exact h
theorem tr_map {c : Int → Int} (h0 : ∀ x, c x = 0 ↔ x = 0) {l : List Int} (h : Tr l) : Tr (l.map c) := by
  rw [← trim_of_tr h, ← trim_map h0 _ l rfl]; exact tr_trim _
theorem tr_posL {l : List Int} (h : Tr l) : Tr (posL l) := by
  unfold posL; split
  · exact tr_map (fun x => by omega) h
  · exact h
/-- the heart: a row with k and k + 1 in it, times g, shrunk -/
theorem shr_row {row : List Int} {g k s : Int} (hk : k ∈ row) (hk1 : k + 1 ∈ row) (hg : g ≠ 0) (hs : s = if g < 0 then -1 else 1) :
    shrL (trim (row.map fun x => g * x)) = trim (row.map fun x => x * s) ∧ Prim (trim (row.map fun x => x * s)) := by
  have hs1 : s = 1 ∨ s = -1 := by rw [hs]; split <;> simp
  have hp : (gcdL row : Int) = 1 := gcdL_row (g := 1) (k := k) (by decide) (fun v _ => Int.one_dvd v) ⟨k, hk, by rw [Int.one_mul]⟩ ⟨k + 1, hk1, by rw [Int.one_mul]⟩
  have hgc : (gcdL (trim (row.map fun x => g * x)) : Int) = (g.natAbs : Int) := by
    rw [gcdL_trim]
    apply gcdL_row (k := k) (Int.natCast_nonneg _)
    · intro v hv
      obtain ⟨u, _, rfl⟩ := List.mem_map.mp hv
      exact Int.dvd_trans (Int.natAbs_dvd.mpr (Int.dvd_refl g)) (Int.dvd_mul_right g u)
    · exact ⟨g * k, List.mem_map.mpr ⟨k, hk, rfl⟩, by rw [Int.natAbs_mul, Int.natAbs_mul, Int.natAbs_natCast]⟩
    · exact ⟨g * (k + 1), List.mem_map.mpr ⟨k + 1, hk1, rfl⟩, by rw [Int.natAbs_mul, Int.natAbs_mul, Int.natAbs_natCast]⟩
  refine ⟨?_, ?_⟩
  · unfold shrL
    rw [hgc, trim_map (fun x => ⟨fun h => (Int.mul_eq_zero.mp h).resolve_left hg, fun h => by rw [h, Int.mul_zero]⟩) _ row rfl, trim_map (fun x => ⟨fun h => (Int.mul_eq_zero.mp h).resolve_right (by omega), fun h => by rw [h, Int.zero_mul]⟩) _ row rfl, List.map_map]
    apply List.map_congr_left
    intro x _
    show g * x / (g.natAbs : Int) = x * s
    by_cases hn : g < 0
    · rw [hs, if_pos hn]
      have e : (g.natAbs : Int) = -g := by omega
      rw [e, Int.ediv_neg, Int.mul_ediv_cancel_left x hg]; omega
    · rw [hs, if_neg hn]
      have e : (g.natAbs : Int) = g := by omega
      rw [e, Int.mul_ediv_cancel_left x hg]; omega
  · right
    rw [gcdL_trim, gcdL_map_unit hs1]; omega
end RM

/-! Division of coefficient lists without fractions: plain mathematics (behind MathPoly) -/
namespace RM
/-- the step of the quotient: times c, and l laid down at place p -/
theorem sm_lay {q q' b : List Int} {c l : Int} {p n : Nat} (h : ∀ k, cf q' k = c * cf q k + (if k = p then l else 0)) :
    ∀ j, sm q' b n j = c * sm q b n j + (if p < j ∧ p ≤ n then l * cf b (n - p) else 0)
  | 0 => by rw [sm, sm, if_neg (by omega)]; simp
  | j + 1 => by
    rw [sm, sm, sm_lay h j]
    unfold tm
    by_cases hj : j ≤ n
    · rw [if_pos hj, if_pos hj, h j]
      by_cases e : j = p
      · subst e
        rw [if_pos rfl, if_neg (by omega), if_pos ⟨by omega, hj⟩]; grind
      · rw [if_neg e]
        by_cases h2 : p < j ∧ p ≤ n
        · rw [if_pos h2, if_pos ⟨by omega, h2.2⟩]; grind
        · rw [if_neg h2, if_neg (by omega)]; grind
    · rw [if_neg hj, if_neg hj]
      by_cases h2 : p < j ∧ p ≤ n
      · rw [if_pos h2, if_pos ⟨by omega, h2.2⟩]; grind
      · rw [if_neg h2, if_neg (by omega)]; grind
theorem mulc_lay {q q' b : List Int} {c l : Int} {p n : Nat} (hl : q'.length = q.length) (hp : p < q.length) (h : ∀ k, cf q' k = c * cf q k + (if k = p then l else 0)) :
    mulc q' b n = c * mulc q b n + (if p ≤ n then l * cf b (n - p) else 0) := by
  unfold mulc
  rw [hl, sm_lay h]
  by_cases h2 : p ≤ n
  · rw [if_pos h2, if_pos ⟨hp, h2⟩]
  · rw [if_neg h2, if_neg (by omega)]
def scL (c : Int) (l : List Int) : List Int := l.map fun x => c * x
theorem length_scL (c : Int) (l : List Int) : (scL c l).length = l.length := by unfold scL; rw [List.length_map]
theorem cf_scL (c : Int) (l : List Int) (k : Nat) : cf (scL c l) k = c * cf l k := by
  by_cases h : k < l.length
  · unfold cf scL; simp [h]
  · rw [cf_ge (by rw [length_scL]; omega), cf_ge (by omega)]; simp
/-- what `lowered` tells: without the last, less l times b's coefficients from place p on -/
def lowL (r b : List Int) (p : Nat) (l : Int) : List Int := (List.range (r.length - 1)).map fun k => cf r k - (if p ≤ k then l * cf b (k - p) else 0)
theorem length_lowL (r b : List Int) (p : Nat) (l : Int) : (lowL r b p l).length = r.length - 1 := by unfold lowL; simp
theorem cf_lowL (r b : List Int) (p : Nat) (l : Int) (k : Nat) : cf (lowL r b p l) k = if k < r.length - 1 then cf r k - (if p ≤ k then l * cf b (k - p) else 0) else 0 := by
  unfold lowL; rw [cf_map_range]

theorem sg_self (x : Int) : sg x * x = (x.natAbs : Int) := by unfold sg; split <;> (try split) <;> omega
/-- one step of the division: (quotient, rest), i steps are still to go -/
def divStep (b : List Int) (z : List Int × List Int) (i : Nat) : List Int × List Int :=
  let s : Int := ((cf b (b.length - 1)).natAbs : Int)
  let l := sg (cf b (b.length - 1)) * cf z.2 (z.2.length - 1)
  ((scL s z.1).set i l, lowL (scL s z.2) b i l)
def divAt (a b : List Int) : Nat → List Int × List Int
  | 0 => (List.replicate (a.length + 1 - b.length) 0, a)
  | i + 1 => divStep b (divAt a b i) (a.length + 1 - b.length - 1 - i)
structure DivInv (a b : List Int) (i : Nat) : Prop where
  lq : (divAt a b i).1.length = a.length + 1 - b.length
  lr : (divAt a b i).2.length = a.length - i
  low : ∀ k, k + i < a.length + 1 - b.length → cf (divAt a b i).1 k = 0
  eqn : ∀ n, ((cf b (b.length - 1)).natAbs : Int) ^ i * cf a n = mulc (divAt a b i).1 b n + cf (divAt a b i).2 n
theorem mulc_zero {a b : List Int} {n : Nat} (h : ∀ k, cf a k = 0) : mulc a b n = 0 := by
  apply sm_zero; intro i _; unfold tm; rw [h i]; simp
theorem div_inv {a b : List Int} (hb : b ≠ []) : ∀ i, i ≤ a.length + 1 - b.length → DivInv a b i
  | 0, _ => ⟨by simp [divAt], by simp [divAt], fun k _ => by show cf (List.replicate _ 0) k = 0; rw [cf_replicate], fun n => by
      show _ = mulc (List.replicate _ 0) b n + cf a n
      rw [mulc_zero fun k => cf_replicate _ _]; simp⟩
  | i + 1, hi => by
    obtain ⟨lq, lr, low, eqn⟩ := div_inv (a := a) hb i (by omega)
    have hbl := List.length_pos_iff.mpr hb
    have e : divAt a b (i + 1) = divStep b (divAt a b i) (a.length + 1 - b.length - 1 - i) := rfl
    generalize hz : divAt a b i = z at lq lr low eqn
    have hp : a.length + 1 - b.length - 1 - i < (scL ((cf b (b.length - 1)).natAbs : Int) z.1).length := by rw [length_scL, lq]; omega
    have hq : ∀ k, cf (divStep b z (a.length + 1 - b.length - 1 - i)).1 k = ((cf b (b.length - 1)).natAbs : Int) * cf z.1 k + (if k = a.length + 1 - b.length - 1 - i then sg (cf b (b.length - 1)) * cf z.2 (z.2.length - 1) else 0) := by
      intro k
      unfold divStep
      dsimp only
      rw [cf_set hp, cf_scL]
      by_cases h : k = a.length + 1 - b.length - 1 - i
      · rw [if_pos h, if_pos h, low k (by omega)]; simp
      · rw [if_neg h, if_neg h]; simp
    have hlq : (divStep b z (a.length + 1 - b.length - 1 - i)).1.length = a.length + 1 - b.length := by
      unfold divStep; dsimp only; rw [List.length_set, length_scL, lq]
    refine ⟨?_, ?_, ?_, ?_⟩
    · rw [e, hz, hlq]
    · rw [e, hz]; unfold divStep; dsimp only; rw [length_lowL, length_scL, lr]; omega
    · intro k hk
      rw [e, hz, hq, if_neg (by omega), low k (by omega)]; simp
    · intro n
      rw [e, hz, mulc_lay (by rw [hlq, lq]) (by rw [lq]; omega) hq, Int.pow_succ]
      have en := eqn n
      unfold divStep
      dsimp only
      rw [cf_lowL, length_scL, cf_scL, lr]
      by_cases h1 : n < a.length - i - 1
      · rw [if_pos h1]
        by_cases h2 : a.length + 1 - b.length - 1 - i ≤ n
        · rw [if_pos h2]; grind
        · rw [if_neg h2]; grind
      · rw [if_neg h1]
        by_cases h3 : n = a.length - i - 1
        · have h2 : a.length + 1 - b.length - 1 - i ≤ n := by omega
          have h4 : n - (a.length + 1 - b.length - 1 - i) = b.length - 1 := by omega
          rw [if_pos h2, h4]
          have sg := sg_self (cf b (b.length - 1))
          rw [← h3]
          grind
        · have h2 : a.length + 1 - b.length - 1 - i ≤ n := by omega
          have hc : cf z.2 n = 0 := cf_ge (by rw [lr]; omega)
          rw [if_pos h2, cf_ge (l := b) (k := n - (a.length + 1 - b.length - 1 - i)) (by omega)]
          grind
/-- the quotient's last coefficient, from the first step on -/
theorem div_lead {a b : List Int} (hb : b ≠ []) (ha : Tr a) (hbt : Tr b) : ∀ i, i + 1 ≤ a.length + 1 - b.length → cf (divAt a b (i + 1)).1 (a.length + 1 - b.length - 1) ≠ 0
  | 0, h => by
    obtain ⟨lq, lr, _, _⟩ := div_inv (a := a) hb 0 (by omega)
    have hbl := List.length_pos_iff.mpr hb
    show cf (divStep b (divAt a b 0) _).1 _ ≠ 0
    unfold divStep
    dsimp only
    rw [cf_set (by rw [length_scL, lq]; omega), if_pos (by omega)]
    have hb1 := hbt (b.length - 1) (by omega)
    have ha1 := ha (a.length - 1) (by omega)
    refine Int.mul_ne_zero ?_ ?_
    · unfold sg; split <;> (try split) <;> omega
    · rw [lr]; exact ha1
  | i + 1, h => by
    have ih := div_lead hb ha hbt i (by omega)
    obtain ⟨lq, lr, _, _⟩ := div_inv (a := a) hb (i + 1) (by omega)
    have hbl := List.length_pos_iff.mpr hb
    show cf (divStep b (divAt a b (i + 1)) _).1 _ ≠ 0
    unfold divStep
    dsimp only
    rw [cf_set (by rw [length_scL, lq]; omega), if_neg (by omega), cf_scL]
    have hb1 := hbt (b.length - 1) (by omega)
    refine Int.mul_ne_zero ?_ ih
    omega
def divN (a b : List Int) : Nat := a.length + 1 - b.length
def divF (a b : List Int) : Int := ((cf b (b.length - 1)).natAbs : Int) ^ divN a b
def divQ (a b : List Int) : List Int := (divAt a b (divN a b)).1
def divR (a b : List Int) : List Int := trim (divAt a b (divN a b)).2
theorem div_eqn {a b : List Int} (hb : b ≠ []) (n : Nat) : divF a b * cf a n = mulc (divQ a b) b n + cf (divR a b) n := by
  unfold divR divQ divF; rw [cf_trim]; exact (div_inv hb (divN a b) (Nat.le_refl _)).eqn n
theorem div_lenR {a b : List Int} (hb : b ≠ []) : (divR a b).length < b.length := by
  have h := (div_inv (a := a) hb (divN a b) (Nat.le_refl _)).lr
  have h2 := length_trim (divAt a b (divN a b)).2
  have hbl := List.length_pos_iff.mpr hb
  unfold divR
  unfold divN at *
  omega
theorem div_lenQ {a b : List Int} (hb : b ≠ []) : (divQ a b).length = divN a b := (div_inv (a := a) hb (divN a b) (Nat.le_refl _)).lq
theorem div_trQ {a b : List Int} (hb : b ≠ []) (ha : Tr a) (hbt : Tr b) : Tr (divQ a b) := by
  intro n hn
  rw [div_lenQ hb] at hn
  have h := div_lead hb ha hbt n (by unfold divN at hn; omega)
  unfold divQ
  rw [hn]
  have : a.length + 1 - b.length - 1 = n := by unfold divN at hn; omega
  rwa [this] at h
theorem div_trR (a b : List Int) : Tr (divR a b) := tr_trim _
end RM

/-! What divides what: plain mathematics (behind MathDiv) -/
namespace RM
theorem sm_congr {a a' b b' : List Int} {n : Nat} (h1 : ∀ k, cf a k = cf a' k) (h2 : ∀ k, cf b k = cf b' k) : ∀ j, sm a b n j = sm a' b' n j
  | 0 => rfl
  | j + 1 => by rw [sm, sm, sm_congr h1 h2 j]; unfold tm; rw [h1 j, h2 (n - j)]
theorem sm_ge {a b : List Int} {n : Nat} : ∀ d, sm a b n (a.length + d) = mulc a b n
  | 0 => rfl
  | d + 1 => by rw [← Nat.add_assoc, sm, sm_ge d, tm_zero_left (by omega)]; omega
theorem sm_ge' {a b : List Int} {n N : Nat} (h : a.length ≤ N) : sm a b n N = mulc a b n := by
  obtain ⟨d, rfl⟩ := Nat.exists_eq_add_of_le h
  exact sm_ge d
theorem mulc_congr {a a' b b' : List Int} {n : Nat} (h1 : ∀ k, cf a k = cf a' k) (h2 : ∀ k, cf b k = cf b' k) : mulc a b n = mulc a' b' n := by
  rw [← sm_ge' (Nat.le_max_left a.length a'.length), ← sm_ge' (Nat.le_max_right a.length a'.length)]
  exact sm_congr h1 h2 _
theorem sm_lin {a b c q : List Int} {x y : Int} {n : Nat} (h : ∀ k, cf c k = x * cf a k + y * cf b k) : ∀ j, sm c q n j = x * sm a q n j + y * sm b q n j
  | 0 => by simp [sm]
  | j + 1 => by
    rw [sm, sm, sm, sm_lin h j]; unfold tm; rw [h j]
    by_cases hj : j ≤ n
    · rw [if_pos hj, if_pos hj, if_pos hj]; grind
    · rw [if_neg hj, if_neg hj, if_neg hj]; grind
theorem mulc_lin {a b c q : List Int} {x y : Int} {n : Nat} (h : ∀ k, cf c k = x * cf a k + y * cf b k) : mulc c q n = x * mulc a q n + y * mulc b q n := by
  have h1 : a.length ≤ a.length + b.length + c.length := by omega
  have h2 : b.length ≤ a.length + b.length + c.length := by omega
  have h3 : c.length ≤ a.length + b.length + c.length := by omega
  rw [← sm_ge' h1, ← sm_ge' h2, ← sm_ge' h3]
  exact sm_lin h _
theorem sm_right {a b b' : List Int} {c : Int} {n : Nat} (h : ∀ k, cf b' k = c * cf b k) : ∀ j, sm a b' n j = c * sm a b n j
  | 0 => by simp [sm]
  | j + 1 => by
    rw [sm, sm, sm_right h j]; unfold tm; rw [h (n - j)]
    by_cases hj : j ≤ n
    · rw [if_pos hj, if_pos hj]; grind
    · rw [if_neg hj, if_neg hj]; grind
theorem mulc_right {a b b' : List Int} {c : Int} {n : Nat} (h : ∀ k, cf b' k = c * cf b k) : mulc a b' n = c * mulc a b n := sm_right h _
theorem mulc_one' (c : Int) (l : List Int) (n : Nat) : mulc [c] l n = c * cf l n := by
  unfold mulc
  show sm [c] l n 0 + tm [c] l n 0 = _
  unfold sm tm
  rw [if_pos (Nat.zero_le _), cf_zero, Nat.sub_zero, Int.zero_add]
theorem cf_addL' (a b : List Int) (n : Nat) : cf (addL a b) n = cf a n + cf b n := by
  unfold addL; rw [cf_trim, cf_linL, Int.one_mul]
theorem nil_of_cf {l : List Int} (ht : Tr l) (h : ∀ k, cf l k = 0) : l = [] := by
  refine Classical.byContradiction fun hne => ?_
  have hl := List.length_pos_iff.mpr hne
  exact ht (l.length - 1) (by omega) (h _)
/-- what is times q of a degree less than q's is nought -/
theorem mulc_small {d q : List Int} (hq : q ≠ []) (hqt : Tr q) (h : ∀ n, q.length ≤ n + 1 → mulc d q n = 0) : ∀ k, cf d k = 0 := by
  have e : trim d = [] := by
    refine Classical.byContradiction fun hne => ?_
    have hl := List.length_pos_iff.mpr hne
    have hql := List.length_pos_iff.mpr hq
    have ht := tr_trim d ((trim d).length - 1) (by omega)
    have hb := hqt (q.length - 1) (by omega)
    have h1 := h ((trim d).length - 1 + (q.length - 1)) (by omega)
    rw [← mulc_congr (a := trim d) (b := q) (fun k => cf_trim d k) (fun _ => rfl), mulc_top (la := (trim d).length - 1) (lb := q.length - 1) (by omega) (by omega)] at h1
    exact Int.mul_ne_zero ht hb h1
  intro k
  rw [← cf_trim, e, cf_nil]
theorem divF_ne {a b : List Int} (hb : b ≠ []) (hbt : Tr b) : divF a b ≠ 0 := by
  have hbl := List.length_pos_iff.mpr hb
  have h := hbt (b.length - 1) (by omega)
  have h1 : ((cf b (b.length - 1)).natAbs : Int) ≠ 0 := by omega
  unfold divF
  generalize divN a b = n
  induction n with
  | zero => rw [Int.pow_zero]; decide
  | succ n ih => rw [Int.pow_succ]; exact Int.mul_ne_zero ih h1
/-- the rest of P = A Q + R by c Q, and the quotient -/
theorem div_unique {a q r p q' : List Int} {c : Int} (hq : q ≠ []) (hqt : Tr q) (hr : r.length < q.length) (hc : c ≠ 0) (hp : ∀ n, cf p n = mulc a q n + cf r n) (hq' : ∀ n, cf q' n = c * cf q n) (hl : q'.length = q.length) :
    (∀ n, cf (divR p q') n = divF p q' * cf r n) ∧ ∀ k, divF p q' * cf a k = c * cf (divQ p q') k := by
  have hql := List.length_pos_iff.mpr hq
  have hne' : q' ≠ [] := fun z => by rw [z] at hl; simp at hl; omega
  have key : ∀ n, mulc (linL (-c) (scL (divF p q') a) (divQ p q')) q n = cf (divR p q') n - divF p q' * cf r n := by
    intro n
    rw [mulc_lin (a := a) (b := divQ p q') (x := divF p q') (y := -c) (fun k => by rw [cf_linL, cf_scL])]
    have h1 := div_eqn (a := p) hne' n
    rw [mulc_right (b := q) hq', hp] at h1
    grind
  have z := mulc_small hq hqt (d := linL (-c) (scL (divF p q') a) (divQ p q')) (fun n hn => by
    rw [key, cf_ge (l := divR p q') (by have := div_lenR (a := p) hne'; omega), cf_ge (l := r) (by omega)]; simp)
  constructor
  · intro n
    have h := key n
    rw [mulc_zero z] at h
    omega
  · intro k
    have h := z k
    rw [cf_linL, cf_scL] at h
    grind
end RM

/-! Plain lists that differ by a factor (behind MathShr, MathDiv) -/
namespace RM
theorem gcdF_scL (c : Int) : ∀ (l : List Int) (d : Nat), gcdF (c.natAbs * d) (scL c l) = c.natAbs * gcdF d l
  | [], d => rfl
  | v :: l, d => by
    show gcdF (Nat.gcd (c.natAbs * d) (c * v).natAbs) (scL c l) = c.natAbs * gcdF (Nat.gcd d v.natAbs) l
    rw [Int.natAbs_mul, Nat.gcd_mul_left, gcdF_scL c l]
theorem gcdL_scL (c : Int) (l : List Int) : gcdL (scL c l) = c.natAbs * gcdL l := by
  have h := gcdF_scL c l 0
  rw [Nat.mul_zero] at h
  exact h
theorem int_dvd_gcdL {l : List Int} {x : Int} (h : x ∈ l) : (gcdL l : Int) ∣ x := Int.ofNat_dvd_left.mpr (gcdL_dvd h)
theorem shrL_scL_pos {c : Int} (hc : 0 < c) (l : List Int) : shrL (scL c l) = shrL l := by
  unfold shrL
  rw [gcdL_scL]
  unfold scL
  rw [List.map_map]
  refine List.map_congr_left fun x _ => ?_
  show c * x / ((c.natAbs * gcdL l : Nat) : Int) = x / (gcdL l : Int)
  have e : ((c.natAbs * gcdL l : Nat) : Int) = c * (gcdL l : Int) := by rw [Int.natCast_mul]; congr 1; omega
  rw [e, Int.mul_ediv_mul_of_pos _ _ hc]
theorem shrL_scL_neg {c : Int} (hc : c < 0) (l : List Int) : shrL (scL c l) = (shrL l).map fun x => -x := by
  unfold shrL
  rw [gcdL_scL]
  unfold scL
  rw [List.map_map, List.map_map]
  refine List.map_congr_left fun x hx => ?_
  show c * x / ((c.natAbs * gcdL l : Nat) : Int) = -(x / (gcdL l : Int))
  have e : ((c.natAbs * gcdL l : Nat) : Int) = (-c) * (gcdL l : Int) := by rw [Int.natCast_mul]; congr 1; omega
  have e2 : c * x = (-c) * (-x) := by rw [Int.neg_mul_neg]
  rw [e, e2, Int.mul_ediv_mul_of_pos _ _ (by omega : 0 < -c), Int.neg_ediv_of_dvd (int_dvd_gcdL hx)]
theorem posL_neg {m : List Int} (h : Tr m) : posL (m.map fun x => -x) = posL m := by
  rcases snoc_cases m with rfl | ⟨r, x, rfl⟩
  · rfl
  have hx : x ≠ 0 := tr_snoc.mp h
  have h1 := lastI_map_neg (r ++ [x])
  rw [lastI_snoc] at h1
  unfold posL
  rw [h1, lastI_snoc]
  by_cases hn : x < 0
  · rw [if_neg (by omega), if_pos hn]
  · rw [if_pos (by omega), if_neg hn, List.map_map]
    rw [show ((fun x : Int => -x) ∘ fun x : Int => -x) = id from by funext y; simp]
    exact List.map_id _
theorem tr_shrL {l : List Int} (h : Tr l) : Tr (shrL l) := by
  intro n hn
  have hl : l.length = n + 1 := by rw [← hn]; unfold shrL; rw [List.length_map]
  have hx := h n hl
  have hm : cf l n ∈ l := by rw [cf_lt (by omega)]; exact List.getElem_mem _
  have e : cf (shrL l) n = cf l n / (gcdL l : Int) := by
    have h1 : n < l.length := by omega
    unfold shrL cf
    simp [List.getD, h1]
  rw [e]
  intro z
  have d := int_dvd_gcdL hm
  have := Int.mul_ediv_cancel' d
  rw [z, Int.mul_zero] at this
  exact hx this.symm
theorem plainL_scL {c : Int} (hc : c ≠ 0) {l : List Int} (h : Tr l) : plainL (scL c l) = plainL l := by
  unfold plainL
  by_cases hp : 0 < c
  · rw [shrL_scL_pos hp]
  · rw [shrL_scL_neg (by omega), posL_neg (tr_shrL h)]
theorem tr_scL {c : Int} (hc : c ≠ 0) {l : List Int} (h : Tr l) : Tr (scL c l) := by
  intro n hn
  rw [length_scL] at hn
  rw [cf_scL]
  exact Int.mul_ne_zero hc (h n hn)
theorem plain_prop {a b : List Int} {x y : Int} (hx : x ≠ 0) (hy : y ≠ 0) (ha : Tr a) (hb : Tr b) (h : ∀ k, x * cf a k = y * cf b k) : plainL a = plainL b := by
  have e : scL x a = scL y b := eq_of_cf (tr_scL hx ha) (tr_scL hy hb) fun k => by rw [cf_scL, cf_scL, h k]
  rw [← plainL_scL hx ha, e, plainL_scL hy hb]
end RM

/-! The product's laws: by its first factor's items; commutative, associative (behind MathDiv2) -/
namespace RM
/-- the items one place up -/
def up (f : Nat → Int) (n : Nat) : Int := if n = 0 then 0 else f (n - 1)
theorem sm_cons (x : Int) (a b : List Int) (n : Nat) : ∀ j, sm (x :: a) b n (j + 1) = x * cf b n + (if n = 0 then 0 else sm a b (n - 1) j)
  | 0 => by
    show 0 + tm (x :: a) b n 0 = _
    unfold tm
    rw [if_pos (Nat.zero_le _)]
    rw [cf_zero, Nat.sub_zero]
    by_cases h : n = 0
    · rw [if_pos h]; omega
    · rw [if_neg h]; show _ = _ + 0; omega
  | j + 1 => by
    show sm (x :: a) b n (j + 1) + tm (x :: a) b n (j + 1) = _
    rw [sm_cons x a b n j]
    by_cases h : n = 0
    · rw [if_pos h, if_pos h]
      unfold tm
      rw [if_neg (by omega)]; omega
    · rw [if_neg h, if_neg h]
      show _ = _ + (sm a b (n - 1) j + tm a b (n - 1) j)
      have e : tm (x :: a) b n (j + 1) = tm a b (n - 1) j := by
        unfold tm
        rw [cf_succ]
        by_cases h2 : j + 1 ≤ n
        · rw [if_pos h2, if_pos (by omega)]
          congr 2; omega
        · rw [if_neg h2, if_neg (by omega)]
      rw [e]; omega
theorem mulc_cons (x : Int) (a b : List Int) (n : Nat) : mulc (x :: a) b n = x * cf b n + up (mulc a b) n := sm_cons x a b n a.length
theorem mulc_nil (b : List Int) (n : Nat) : mulc [] b n = 0 := rfl
theorem cf_cons_up (x : Int) (a : List Int) (n : Nat) : cf (x :: a) n = (if n = 0 then x else 0) + up (cf a) n := by
  cases n with
  | zero => show x = x + 0; omega
  | succ n => show cf a n = 0 + cf a n; omega
theorem mulc_cons_right (y : Int) (b : List Int) : ∀ (a : List Int) (n : Nat), mulc a (y :: b) n = y * cf a n + up (mulc a b) n
  | [], n => by
    rw [mulc_nil, cf_nil]
    unfold up
    split
    · simp
    · rw [mulc_nil]; simp
  | x :: a, n => by
    rw [mulc_cons, cf_cons_up, cf_cons_up]
    cases n with
    | zero =>
      show x * (y + 0) + 0 = y * (x + 0) + 0
      simp only [Int.add_zero]; exact Int.mul_comm _ _
    | succ n =>
      show x * (0 + cf b n) + mulc a (y :: b) n = y * (0 + cf a n) + mulc (x :: a) b n
      rw [mulc_cons_right y b a n, mulc_cons]
      simp only [Int.zero_add]
      omega
theorem mulc_nil_right : ∀ (a : List Int) (n : Nat), mulc a [] n = 0
  | [], n => rfl
  | x :: a, n => by
    rw [mulc_cons, cf_nil]
    unfold up
    split
    · simp
    · rw [mulc_nil_right a]; simp
theorem mulc_comm : ∀ (a b : List Int) (n : Nat), mulc a b n = mulc b a n
  | [], b, n => by rw [mulc_nil_right]; rfl
  | x :: a, b, n => by
    rw [mulc_cons, mulc_cons_right]
    congr 1
    unfold up
    split
    · rfl
    · exact mulc_comm a b _
/-- the second factor's parts -/
theorem mulc_lin_right {a b c q : List Int} {x y : Int} {n : Nat} (h : ∀ k, cf c k = x * cf a k + y * cf b k) : mulc q c n = x * mulc q a n + y * mulc q b n := by
  rw [mulc_comm q c, mulc_lin h, mulc_comm q a, mulc_comm q b]
theorem cf_shift (a : List Int) (n : Nat) : cf (0 :: a) n = up (cf a) n := by
  rw [cf_cons_up]; split <;> omega
theorem mulc_shift (a b : List Int) (n : Nat) : mulc (0 :: a) b n = up (mulc a b) n := by
  rw [mulc_cons]; omega
theorem mulc_assoc : ∀ (a b c : List Int) (n : Nat), mulc (mulL a b) c n = mulc a (mulL b c) n
  | [], b, c, n => by
    rw [mulc_nil, mulc_zero fun k => by rw [cf_mulL, mulc_nil]]
  | x :: a, b, c, n => by
    rw [mulc_cons, cf_mulL]
    have e : ∀ k, cf (mulL (x :: a) b) k = x * cf b k + 1 * cf (0 :: mulL a b) k := fun k => by
      rw [cf_mulL, mulc_cons, cf_shift, Int.one_mul]
      congr 1
      unfold up
      split
      · rfl
      · rw [cf_mulL]
    rw [mulc_lin e, mulc_shift, Int.one_mul]
    congr 1
    unfold up
    split
    · rfl
    · exact mulc_assoc a b c _
end RM

/-! Divisors, with any factor; what the chain of plain rests ends with (behind MathRing, MathPlain) -/
namespace RM
/-- d divides p, with fractions -/
def Dv (d p : List Int) : Prop := ∃ (c : Int) (q : List Int), c ≠ 0 ∧ ∀ n, c * cf p n = mulc q d n
theorem Dv.refl (d : List Int) : Dv d d := ⟨1, [1], by decide, fun n => by rw [mulc_one']⟩
theorem Dv.nil (d : List Int) : Dv d [] := ⟨1, [], by decide, fun n => by rw [cf_nil, mulc_nil]; rfl⟩
theorem Dv.trans {d e p : List Int} (h1 : Dv d e) (h2 : Dv e p) : Dv d p := by
  obtain ⟨c1, q1, hc1, e1⟩ := h1
  obtain ⟨c2, q2, hc2, e2⟩ := h2
  refine ⟨c1 * c2, mulL q2 q1, Int.mul_ne_zero hc1 hc2, fun n => ?_⟩
  rw [mulc_assoc, Int.mul_assoc, e2, ← mulc_right (b' := mulL q1 d) (fun k => by rw [cf_mulL, e1])]
/-- f a = q b + r: who divides b and r divides a, who divides a and b divides r -/
theorem Dv.up {d a b r q : List Int} {f : Int} (hf : f ≠ 0) (h : ∀ n, f * cf a n = mulc q b n + cf r n) (hb : Dv d b) (hr : Dv d r) : Dv d a := by
  obtain ⟨c1, q1, hc1, e1⟩ := hb
  obtain ⟨c2, q2, hc2, e2⟩ := hr
  refine ⟨c1 * c2 * f, linL c1 (scL c2 (mulL q q1)) q2, Int.mul_ne_zero (Int.mul_ne_zero hc1 hc2) hf, fun n => ?_⟩
  rw [mulc_lin (a := mulL q q1) (b := q2) (x := c2) (y := c1) (fun k => by rw [cf_linL, cf_scL]), mulc_assoc, ← e2, mulc_right (b := b) (b' := mulL q1 d) (c := c1) (fun k => by rw [cf_mulL, e1])]
  have := h n
  grind
theorem Dv.down {d a b r q : List Int} {f : Int} (h : ∀ n, f * cf a n = mulc q b n + cf r n) (ha : Dv d a) (hb : Dv d b) : Dv d r := by
  obtain ⟨c1, q1, hc1, e1⟩ := ha
  obtain ⟨c2, q2, hc2, e2⟩ := hb
  refine ⟨c1 * c2, linL (-c1) (scL (f * c2) q1) (mulL q q2), Int.mul_ne_zero hc1 hc2, fun n => ?_⟩
  rw [mulc_lin (a := q1) (b := mulL q q2) (x := f * c2) (y := -c1) (fun k => by rw [cf_linL, cf_scL]), mulc_assoc, ← e1, mulc_right (b := b) (b' := mulL q2 d) (c := c2) (fun k => by rw [cf_mulL, e2])]
  have := h n
  grind
theorem Dv.prop_right {d p p' : List Int} {x y : Int} (hx : x ≠ 0) (h : ∀ n, x * cf p' n = y * cf p n) (hd : Dv d p) : Dv d p' := by
  obtain ⟨c, q, hc, e⟩ := hd
  refine ⟨c * x, scL y q, Int.mul_ne_zero hc hx, fun n => ?_⟩
  rw [mulc_lin (a := q) (b := []) (x := y) (y := 0) (fun k => by rw [cf_scL]; simp), ← e]
  have := h n
  grind
theorem Dv.prop_left {d d' p : List Int} {x y : Int} (hx : x ≠ 0) (hy : y ≠ 0) (h : ∀ n, x * cf d' n = y * cf d n) (hd : Dv d p) : Dv d' p :=
  Dv.trans (Dv.prop_right hy (fun n => (h n).symm) (Dv.refl d')) hd
theorem plain_scale {l : List Int} (h : Tr l) : ∃ g : Int, g ≠ 0 ∧ ∀ n, cf l n = g * cf (plainL l) n := by
  by_cases hl : l = []
  · subst hl
    exact ⟨1, by decide, fun n => by rw [cf_nil]; show 0 = 1 * cf [] n; rw [cf_nil]; rfl⟩
  have hg : (gcdL l : Int) ≠ 0 := by
    obtain ⟨r, x, rfl⟩ := (snoc_cases l).resolve_left hl
    have hx : x ≠ 0 := tr_snoc.mp h
    have h1 : 0 < gcdL (r ++ [x]) := Nat.pos_of_dvd_of_pos (gcdL_dvd (by simp : x ∈ r ++ [x])) (Int.natAbs_pos.mpr hx)
    omega
  have e1 : ∀ n, cf l n = (gcdL l : Int) * cf (shrL l) n := fun n => by
    unfold shrL
    by_cases hn : n < l.length
    · rw [cf_lt hn, cf_lt (by rw [List.length_map]; exact hn), List.getElem_map]
      exact (Int.mul_ediv_cancel' (int_dvd_gcdL (List.getElem_mem hn))).symm
    · rw [cf_ge (by omega), cf_ge (by rw [List.length_map]; omega), Int.mul_zero]
  unfold plainL posL
  split
  · refine ⟨-(gcdL l : Int), by omega, fun n => ?_⟩
    have e2 : cf ((shrL l).map fun x => -x) n = -cf (shrL l) n := by
      by_cases hn : n < (shrL l).length
      · rw [cf_lt hn, cf_lt (by rw [List.length_map]; exact hn), List.getElem_map]
      · rw [cf_ge (l := shrL l) (by omega), cf_ge (l := (shrL l).map fun x => -x) (by rw [List.length_map]; omega)]; rfl
    rw [e1, e2]; grind
  · exact ⟨_, hg, e1⟩
theorem Dv.plain {d p : List Int} (hp : Tr p) : Dv d (plainL p) ↔ Dv d p := by
  obtain ⟨g, hg, e⟩ := plain_scale hp
  exact ⟨fun h => Dv.prop_right (x := 1) (y := g) (by decide) (fun n => by rw [e]; omega) h, fun h => Dv.prop_right (x := g) (y := 1) hg (fun n => by rw [← e]; omega) h⟩
theorem plain_len (l : List Int) : (plainL l).length = l.length := by
  unfold plainL posL shrL
  split <;> simp
theorem tr_plain {l : List Int} (h : Tr l) : Tr (plainL l) := tr_posL (tr_shrL h)
/-- what the chain of plain rests ends with -/
def comN : Nat → List Int → List Int → List Int
  | 0, one, _ => one
  | n + 1, one, other => if other = [] then one else comN n other (plainL (divR one other))
theorem comN_nil (n : Nat) (one : List Int) : comN n one [] = one := by cases n <;> rfl
theorem comN_step {n : Nat} {one other : List Int} (h : other ≠ []) : comN (n + 1) one other = comN n other (plainL (divR one other)) := by
  show (if other = [] then one else comN n other (plainL (divR one other))) = _
  rw [if_neg h]
theorem comN_spec : ∀ (n : Nat) (one other : List Int), other.length ≤ n → Tr one → Tr other → Tr (comN n one other) ∧ Dv (comN n one other) one ∧ Dv (comN n one other) other ∧ (∀ d, Dv d one → Dv d other → Dv d (comN n one other)) ∧ (one ≠ [] ∨ other ≠ [] → comN n one other ≠ []) ∧ (comN n one other = one ∨ comN n one other = other ∨ ∃ l, Tr l ∧ comN n one other = plainL l)
  | n, one, [], _, t1, _ => by
    rw [comN_nil]
    exact ⟨t1, Dv.refl _, Dv.nil _, fun d h _ => h, fun h => h.resolve_right fun z => z rfl, .inl rfl⟩
  | 0, one, x :: o, h, _, _ => absurd h (Nat.not_succ_le_zero _)
  | n + 1, one, x :: o, h, t1, t2 => by
    have hne : x :: o ≠ [] := fun z => nomatch z
    rw [comN_step hne]
    generalize x :: o = other at h t2 hne
    have tr := div_trR one other
    have hl := div_lenR (a := one) hne
    obtain ⟨c1, c2, c3, c4, c5, c6⟩ := comN_spec n other (plainL (divR one other)) (by rw [plain_len]; omega) t2 (tr_plain tr)
    have eq := fun k => div_eqn (a := one) hne k
    refine ⟨c1, Dv.up (divF_ne (a := one) hne t2) eq c2 ((Dv.plain tr).mp c3), c2, fun d h1 h2 => c4 d h2 ((Dv.plain tr).mpr (Dv.down eq h1 h2)), fun _ => c5 (.inl hne), ?_⟩
    rcases c6 with e | e | e
    · exact .inr (.inl e)
    · exact .inr (.inr ⟨_, tr, e⟩)
    · exact .inr (.inr e)
/-- no number above 1 divides m and all of a -/
def Cop (a : List Int) (m : Nat) : Prop := ∀ k : Nat, k ∣ m → (∀ n, (k : Int) ∣ cf a n) → k = 1
theorem gauss : ∀ (N : Nat) (a b : List Int) (m : Nat), a.length + b.length ≤ N → Cop a m → Cop b m → (∀ n, (m : Int) ∣ mulc a b n) → m = 1
  | _, [], b, m, _, h1, _, _ => h1 m (Nat.dvd_refl _) fun n => by rw [cf_nil]; exact Int.dvd_zero _
  | _, _ :: _, [], m, _, _, h2, _ => h2 m (Nat.dvd_refl _) fun n => by rw [cf_nil]; exact Int.dvd_zero _
  | 0, _ :: _, _ :: _, _, h, _, _, _ => absurd h (by simp)
  | N + 1, x :: a, y :: b, m, h, h1, h2, h3 => by
    have d1 : Nat.gcd m x.natAbs = 1 := by
      refine gauss N a (y :: b) _ (by simp at h ⊢; omega) (fun k hk hn => h1 k (Nat.dvd_trans hk (Nat.gcd_dvd_left _ _)) fun n => ?_) (fun k hk => h2 k (Nat.dvd_trans hk (Nat.gcd_dvd_left _ _))) fun n => ?_
      · cases n with
        | zero => exact Int.ofNat_dvd_left.mpr (Nat.dvd_trans hk (Nat.gcd_dvd_right _ _))
        | succ n => exact hn n
      · have e := mulc_cons x a (y :: b) (n + 1)
        have g1 : ((Nat.gcd m x.natAbs : Nat) : Int) ∣ mulc (x :: a) (y :: b) (n + 1) := Int.dvd_trans (Int.ofNat_dvd.mpr (Nat.gcd_dvd_left _ _)) (h3 _)
        have g2 : ((Nat.gcd m x.natAbs : Nat) : Int) ∣ x * cf (y :: b) (n + 1) := Int.dvd_mul_of_dvd_left (Int.ofNat_dvd_left.mpr (Nat.gcd_dvd_right _ _))
        have e2 : mulc a (y :: b) n = mulc (x :: a) (y :: b) (n + 1) - x * cf (y :: b) (n + 1) := by
          rw [e]; show _ = _ + mulc a (y :: b) n - _; omega
        rw [e2]; exact Int.dvd_sub g1 g2
    have d2 : Nat.gcd m y.natAbs = 1 := by
      refine gauss N (x :: a) b _ (by simp at h ⊢; omega) (fun k hk => h1 k (Nat.dvd_trans hk (Nat.gcd_dvd_left _ _))) (fun k hk hn => h2 k (Nat.dvd_trans hk (Nat.gcd_dvd_left _ _)) fun n => ?_) fun n => ?_
      · cases n with
        | zero => exact Int.ofNat_dvd_left.mpr (Nat.dvd_trans hk (Nat.gcd_dvd_right _ _))
        | succ n => exact hn n
      · have e := mulc_cons_right y b (x :: a) (n + 1)
        have g1 : ((Nat.gcd m y.natAbs : Nat) : Int) ∣ mulc (x :: a) (y :: b) (n + 1) := Int.dvd_trans (Int.ofNat_dvd.mpr (Nat.gcd_dvd_left _ _)) (h3 _)
        have g2 : ((Nat.gcd m y.natAbs : Nat) : Int) ∣ y * cf (x :: a) (n + 1) := Int.dvd_mul_of_dvd_left (Int.ofNat_dvd_left.mpr (Nat.gcd_dvd_right _ _))
        have e2 : mulc (x :: a) b n = mulc (x :: a) (y :: b) (n + 1) - y * cf (x :: a) (n + 1) := by
          rw [e]; show _ = _ + mulc (x :: a) b n - _; omega
        rw [e2]; exact Int.dvd_sub g1 g2
    have h0 := h3 0
    rw [mulc_cons] at h0
    have h0' : m ∣ x.natAbs * y.natAbs := by
      rw [← Int.natAbs_mul]
      refine Int.ofNat_dvd_left.mp ?_
      have e : x * cf (y :: b) 0 + up (mulc a (y :: b)) 0 = x * y := by
        show x * y + 0 = x * y; omega
      rwa [e] at h0
    have h4 : m ∣ y.natAbs := Nat.Coprime.dvd_of_dvd_mul_left d1 h0'
    rw [Nat.gcd_eq_left h4] at d2
    exact d2
theorem mem_cf {l : List Int} {v : Int} (h : v ∈ l) : ∃ n, n < l.length ∧ cf l n = v := by
  obtain ⟨n, hn, e⟩ := List.getElem_of_mem h
  exact ⟨n, hn, by rw [cf_lt hn, e]⟩
theorem cop_of {a : List Int} {m : Nat} (h : gcdL a = 1) : Cop a m := fun k _ hn => by
  have : k ∣ gcdL a := dvd_gcdL.mpr fun v hv => by
    obtain ⟨n, _, rfl⟩ := mem_cf hv
    exact Int.ofNat_dvd_left.mp (hn n)
  rw [h] at this
  exact Nat.dvd_one.mp this
theorem prim_mul {a b : List Int} (ha : gcdL a = 1) (hb : gcdL b = 1) : gcdL (mulL a b) = 1 := by
  refine gauss _ a b _ (Nat.le_refl _) (cop_of ha) (cop_of hb) fun n => ?_
  rw [← cf_mulL]
  by_cases hn : n < (mulL a b).length
  · rw [cf_lt hn]; exact int_dvd_gcdL (List.getElem_mem hn)
  · rw [cf_ge (by omega)]; exact Int.dvd_zero _
/-- a plain polynomial, not nought -/
structure Pln (l : List Int) : Prop where
  tr : Tr l
  ne : l ≠ []
  prim : gcdL l = 1
  pos : 0 < lastI l
theorem lastI_ne {l : List Int} (h : Tr l) (hne : l ≠ []) : lastI l ≠ 0 := by
  have := List.length_pos_iff.mpr hne
  exact h (l.length - 1) (by omega)
theorem Pln.plain {l : List Int} (h : Pln l) : plainL l = l := by
  unfold plainL
  rw [shrL_prim (.inr h.prim)]
  unfold posL
  rw [if_neg (by have := h.pos; omega)]
theorem shr_scale {l : List Int} : scL (gcdL l : Int) (shrL l) = l := by
  unfold scL shrL
  rw [List.map_map]
  refine (List.map_congr_left (g := id) fun x hx => ?_).trans (List.map_id _)
  exact Int.mul_ediv_cancel' (int_dvd_gcdL hx)
theorem pln_plain {l : List Int} (h : Tr l) (hne : l ≠ []) : Pln (plainL l) := by
  have hg : 0 < gcdL l := by
    obtain ⟨r, x, rfl⟩ := (snoc_cases l).resolve_left hne
    have hx : x ≠ 0 := tr_snoc.mp h
    exact Nat.pos_of_dvd_of_pos (gcdL_dvd (by simp : x ∈ r ++ [x])) (Int.natAbs_pos.mpr hx)
  have h1 : gcdL (shrL l) = 1 := by
    have e := gcdL_scL (gcdL l : Int) (shrL l)
    rw [shr_scale, Int.natAbs_natCast] at e
    exact Nat.eq_of_mul_eq_mul_left hg (by rw [← e, Nat.mul_one])
  have hs : shrL l ≠ [] := fun z => hne (by have := congrArg List.length z; unfold shrL at this; simpa using this)
  have hl := lastI_ne (tr_shrL h) hs
  have hp : gcdL (plainL l) = 1 := by
    rcases prim_posL (.inr h1 : Prim (shrL l)) with z | z
    · exact absurd (congrArg List.length z) (by
        have := plain_len l
        unfold plainL at this
        rw [this]
        exact fun q => hne (List.length_eq_zero_iff.mp q))
    · exact z
  refine ⟨tr_plain h, fun z => hne (List.length_eq_zero_iff.mp (by rw [← plain_len, z]; rfl)), hp, ?_⟩
  unfold plainL posL
  split
  · rw [lastI_map_neg]; omega
  · omega
theorem len_mulL {a b : List Int} (ha : a ≠ []) (hb : b ≠ []) : (mulL a b).length = a.length + b.length - 1 := by
  unfold mulL
  rw [if_neg (fun z => z.elim ha hb), List.length_map, List.length_range]
theorem last_mulL {a b : List Int} (ha : a ≠ []) (hb : b ≠ []) : lastI (mulL a b) = lastI a * lastI b := by
  have h1 := List.length_pos_iff.mpr ha
  have h2 := List.length_pos_iff.mpr hb
  unfold lastI
  rw [len_mulL ha hb, cf_mulL]
  have e : a.length + b.length - 1 - 1 = (a.length - 1) + (b.length - 1) := by omega
  rw [e, mulc_top (by omega) (by omega)]
theorem Pln.mul {a b : List Int} (ha : Pln a) (hb : Pln b) : Pln (mulL a b) := by
  refine ⟨tr_mulL ha.tr hb.tr, fun z => ?_, prim_mul ha.prim hb.prim, by rw [last_mulL ha.ne hb.ne]; exact Int.mul_pos ha.pos hb.pos⟩
  have h1 := List.length_pos_iff.mpr ha.ne
  have h2 := List.length_pos_iff.mpr hb.ne
  have := len_mulL ha.ne hb.ne
  rw [z] at this
  simp at this
  omega
/-- c p = q d, d plain: then plain q times d is plain p -/
theorem plain_mul {p q d : List Int} {c : Int} (hc : c ≠ 0) (hp : Tr p) (hpn : p ≠ []) (hq : Tr q) (hd : Pln d) (h : ∀ n, c * cf p n = mulc q d n) : mulL (plainL q) d = plainL p := by
  have hqn : q ≠ [] := fun z => by
    have h1 := List.length_pos_iff.mpr hpn
    have h2 := h (p.length - 1)
    rw [z, mulc_nil] at h2
    exact Int.mul_ne_zero hc (hp (p.length - 1) (by omega)) h2
  obtain ⟨g, hg, e⟩ := plain_scale hq
  have hm := (pln_plain hq hqn).mul hd
  rw [← hm.plain]
  refine plain_prop hg hc hm.tr hp fun k => ?_
  rw [h, cf_mulL, mulc_lin (a := plainL q) (b := []) (x := g) (y := 0) (c := q) (fun k => by rw [e]; simp), mulc_nil]
  simp
theorem Dv.trim {d p : List Int} (h : Dv d p) : ∃ (c : Int) (q : List Int), c ≠ 0 ∧ Tr q ∧ ∀ n, c * cf p n = mulc q d n := by
  obtain ⟨c, q, hc, e⟩ := h
  exact ⟨c, RM.trim q, hc, tr_trim q, fun n => by rw [e]; exact (mulc_congr (fun k => cf_trim q k) fun _ => rfl).symm⟩
/-- a plain divisor's fellow, whole -/
theorem Dv.fellow {d p : List Int} (hd : Pln d) (hp : Tr p) (hpn : p ≠ []) (h : Dv d p) : ∃ q, Pln q ∧ mulL q d = plainL p := by
  obtain ⟨c, q, hc, hq, e⟩ := h.trim
  have hqn : q ≠ [] := fun z => by
    have h1 := List.length_pos_iff.mpr hpn
    have h2 := e (p.length - 1)
    rw [z, mulc_nil] at h2
    exact Int.mul_ne_zero hc (hp (p.length - 1) (by omega)) h2
  exact ⟨plainL q, pln_plain hq hqn, plain_mul hc hp hpn hq hd e⟩
theorem Pln.const {l : List Int} (h : Pln l) (h1 : l.length = 1) : l = [1] := by
  obtain ⟨x, rfl⟩ : ∃ x, l = [x] := List.length_eq_one_iff.mp h1
  have h2 := h.prim
  rw [gcdL_one] at h2
  have h3 : 0 < x := h.pos
  have : x = 1 := by omega
  rw [this]
theorem one_mul (l : List Int) (h : Tr l) : mulL [1] l = l := by
  refine eq_of_cf (tr_mulL (tr_snoc (r := []).mpr (by decide)) h) h fun k => ?_
  rw [cf_mulL, mulc_one']; omega
/-- two plain ones that divide each other are one -/
theorem pln_same {a b : List Int} (ha : Pln a) (hb : Pln b) (h1 : Dv a b) (h2 : Dv b a) : a = b := by
  obtain ⟨q, hq, e⟩ := h1.fellow ha hb.tr hb.ne
  obtain ⟨r, hr, e'⟩ := h2.fellow hb ha.tr ha.ne
  rw [hb.plain] at e
  rw [ha.plain] at e'
  have l1 := len_mulL hq.ne ha.ne
  have l2 := len_mulL hr.ne hb.ne
  rw [e] at l1
  rw [e'] at l2
  have p1 := List.length_pos_iff.mpr hq.ne
  have p2 := List.length_pos_iff.mpr hr.ne
  have p3 := List.length_pos_iff.mpr ha.ne
  have hq1 := hq.const (by omega)
  rw [hq1, one_mul a ha.tr] at e
  exact e
theorem Dv.short {d r : List Int} (hd : d ≠ []) (hdt : Tr d) (hr : Tr r) (hl : r.length < d.length) (h : Dv d r) : r = [] := by
  obtain ⟨c, q, hc, e⟩ := h
  have z := mulc_small hd hdt (d := q) fun n hn => by rw [← e, cf_ge (by omega), Int.mul_zero]
  refine nil_of_cf hr fun k => ?_
  have h1 := e k
  rw [mulc_zero z] at h1
  exact (Int.mul_eq_zero.mp h1).resolve_left hc
theorem Dv.rest {d p : List Int} (hd : d ≠ []) (hdt : Tr d) (h : Dv d p) : divR p d = [] :=
  Dv.short hd hdt (div_trR _ _) (div_lenR hd) (Dv.down (fun n => div_eqn (a := p) hd n) h (Dv.refl d))
theorem Dv.mul_right (a b : List Int) : Dv b (mulL a b) := ⟨1, a, by decide, fun n => by rw [cf_mulL]; omega⟩
theorem Dv.mul_left (a b : List Int) : Dv a (mulL a b) := ⟨1, b, by decide, fun n => by rw [cf_mulL, mulc_comm]; omega⟩
end RM

/-! How great a factor's figures may be: told by its values at few places (behind MathCom) -/
namespace RM
def ev (t : Int) : List Int → Int
  | [] => 0
  | v :: l => v + t * ev t l
theorem cf_tail (l : List Int) (k : Nat) : cf l.tail k = cf l (k + 1) := by
  cases l with
  | nil => rw [List.tail_nil, cf_nil, cf_nil]
  | cons v l => rfl
theorem ev_tail (t : Int) (l : List Int) : ev t l = cf l 0 + t * ev t l.tail := by
  cases l with
  | nil => show (0 : Int) = cf [] 0 + t * 0; rw [cf_nil]; simp
  | cons v l => rfl
theorem ev_lin {t x y : Int} : ∀ (n : Nat) (a b c : List Int), a.length ≤ n → b.length ≤ n → c.length ≤ n → (∀ k, cf c k = x * cf a k + y * cf b k) → ev t c = x * ev t a + y * ev t b
  | 0, a, b, c, ha, hb, hc, _ => by
    rw [List.length_eq_zero_iff.mp (Nat.le_zero.mp ha), List.length_eq_zero_iff.mp (Nat.le_zero.mp hb), List.length_eq_zero_iff.mp (Nat.le_zero.mp hc)]
    show (0 : Int) = x * 0 + y * 0; simp
  | n + 1, a, b, c, ha, hb, hc, h => by
    have ih := ev_lin (t := t) (x := x) (y := y) n a.tail b.tail c.tail (by rw [List.length_tail]; omega) (by rw [List.length_tail]; omega) (by rw [List.length_tail]; omega) fun k => by rw [cf_tail, cf_tail, cf_tail, h]
    rw [ev_tail t a, ev_tail t b, ev_tail t c, ih, h 0]
    grind
theorem ev_lin' {t x y : Int} {a b c : List Int} (h : ∀ k, cf c k = x * cf a k + y * cf b k) : ev t c = x * ev t a + y * ev t b :=
  ev_lin (max a.length (max b.length c.length)) a b c (by omega) (by omega) (by omega) h
theorem ev_mul (t : Int) : ∀ a b : List Int, ev t (mulL a b) = ev t a * ev t b
  | [], b => by
    have : mulL [] b = [] := by unfold mulL; rw [if_pos (.inl rfl)]
    rw [this]; show (0 : Int) = 0 * _; simp
  | x :: a, b => by
    have e : ∀ k, cf (mulL (x :: a) b) k = x * cf b k + 1 * cf (0 :: mulL a b) k := fun k => by
      rw [cf_mulL, mulc_cons, cf_shift, Int.one_mul]
      congr 1
      unfold up
      split
      · rfl
      · rw [cf_mulL]
    rw [ev_lin' e]
    show x * ev t b + 1 * (0 + t * ev t (mulL a b)) = (x + t * ev t a) * ev t b
    rw [ev_mul t a b]
    grind
/-- (l - l(t)) / (x - t) -/
def syn (t : Int) : List Int → List Int
  | [] => []
  | _ :: l => linL t l (syn t l)
theorem syn_len (t : Int) : ∀ l : List Int, (syn t l).length ≤ l.length - 1
  | [] => Nat.le_refl _
  | v :: l => by
    have := syn_len t l
    show ((List.range (max l.length (syn t l).length)).map _).length ≤ (v :: l).length - 1
    rw [List.length_map, List.length_range, List.length_cons]; omega
theorem syn_ev (t u : Int) : ∀ l : List Int, ev u l = ev t l + (u - t) * ev u (syn t l)
  | [] => by show (0 : Int) = 0 + (u - t) * 0; simp
  | v :: l => by
    have ih := syn_ev t u l
    have e : ev u (linL t l (syn t l)) = 1 * ev u l + t * ev u (syn t l) := ev_lin' fun k => by rw [cf_linL]; omega
    show v + u * ev u l = v + t * ev t l + (u - t) * ev u (linL t l (syn t l))
    rw [e]
    grind
theorem syn_cf (t : Int) : ∀ (l : List Int) (k : Nat), cf l k = (if k = 0 then ev t l else 0) + up (cf (syn t l)) k - t * cf (syn t l) k
  | [], k => by
    show cf [] k = (if k = 0 then 0 else 0) + up (cf []) k - t * cf [] k
    unfold up
    simp only [cf_nil]
    split <;> simp
  | v :: l, k => by
    show cf (v :: l) k = (if k = 0 then v + t * ev t l else 0) + up (cf (linL t l (syn t l))) k - t * cf (linL t l (syn t l)) k
    cases k with
    | zero =>
      have ih := syn_cf t l 0
      rw [cf_linL, cf_zero]
      show v = (v + t * ev t l) + 0 - t * (cf l 0 + t * cf (syn t l) 0)
      have ih' : cf l 0 = ev t l + 0 - t * cf (syn t l) 0 := ih
      grind
    | succ k =>
      have ih := syn_cf t l (k + 1)
      have ih' : cf l (k + 1) = 0 + cf (syn t l) k - t * cf (syn t l) (k + 1) := ih
      rw [cf_succ, cf_linL]
      show cf l k = 0 + cf (linL t l (syn t l)) k - t * (cf l (k + 1) + t * cf (syn t l) (k + 1))
      rw [cf_linL]
      grind
/-- as many noughts as places: all is nought -/
theorem roots_all : ∀ (n : Nat) (l ts : List Int), l.length ≤ n → ts.length = n → ts.Nodup → (∀ t ∈ ts, ev t l = 0) → ∀ k, cf l k = 0
  | 0, l, ts, h, _, _, _ => fun k => cf_ge (by omega)
  | n + 1, l, [], _, h, _, _ => absurd h (by simp)
  | n + 1, l, t :: ts, h1, h2, h3, h4 => by
    have h3' := List.nodup_cons.mp h3
    have e0 := h4 t (List.mem_cons_self ..)
    have z := roots_all n (syn t l) ts (by have := syn_len t l; omega) (by simpa using h2) h3'.2 fun u hu => by
      have e := syn_ev t u l
      rw [h4 u (List.mem_cons_of_mem _ hu), e0] at e
      have hne : u - t ≠ 0 := fun z => h3'.1 (by have : u = t := by omega
                                                 exact this ▸ hu)
      have e' : (u - t) * ev u (syn t l) = 0 := by omega
      exact (Int.mul_eq_zero.mp e').resolve_left hne
    intro k
    rw [syn_cf t l k, e0]
    unfold up
    simp only [z]
    split <;> simp
theorem fac_bound : ∀ (n : Nat) (l ts : List Int) (V : Nat), l.length ≤ n → ts.length = n → ts.Nodup → (∀ t ∈ ts, t.natAbs ≤ 6 ∧ (ev t l).natAbs ≤ V) → ∀ k, (cf l k).natAbs ≤ 16 ^ n * V
  | 0, l, ts, V, h, _, _, _ => fun k => by rw [cf_ge (by omega)]; exact Nat.zero_le _
  | n + 1, l, [], _, _, h, _, _ => absurd h (by simp)
  | n + 1, l, t :: ts, V, h1, h2, h3, h4 => by
    have h3' := List.nodup_cons.mp h3
    obtain ⟨t6, e0⟩ := h4 t (List.mem_cons_self ..)
    have z := fac_bound n (syn t l) ts (2 * V) (by have := syn_len t l; omega) (by simpa using h2) h3'.2 fun u hu => by
      obtain ⟨u6, eu⟩ := h4 u (List.mem_cons_of_mem _ hu)
      refine ⟨u6, ?_⟩
      have e := syn_ev t u l
      have hne : u - t ≠ 0 := fun z => h3'.1 (by have : u = t := by omega
                                                 exact this ▸ hu)
      have e' : (u - t) * ev u (syn t l) = ev u l - ev t l := by omega
      have e2 := congrArg Int.natAbs e'
      rw [Int.natAbs_mul] at e2
      have h5 : 1 ≤ (u - t).natAbs := Int.natAbs_pos.mpr hne
      have h6 : (ev u l - ev t l).natAbs ≤ 2 * V := by omega
      exact Nat.le_trans (Nat.le_mul_of_pos_left _ h5) (by rw [e2]; exact h6)
    intro k
    have hW : ∀ j, (cf (syn t l) j).natAbs ≤ 16 ^ n * (2 * V) := z
    have hup : (up (cf (syn t l)) k).natAbs ≤ 16 ^ n * (2 * V) := by
      unfold up
      split
      · exact Nat.zero_le _
      · exact hW _
    have hmul : (t * cf (syn t l) k).natAbs ≤ 6 * (16 ^ n * (2 * V)) := by
      rw [Int.natAbs_mul]; exact Nat.mul_le_mul t6 (hW k)
    have hif : (if k = 0 then ev t l else 0).natAbs ≤ V := by
      split
      · exact e0
      · exact Nat.zero_le _
    rw [syn_cf t l k]
    have e16 : 16 ^ (n + 1) * V = 16 * (16 ^ n * V) := by rw [Nat.pow_succ]; grind
    have e2V : 16 ^ n * (2 * V) = 2 * (16 ^ n * V) := by grind
    have hV : V ≤ 16 ^ n * V := Nat.le_mul_of_pos_left _ (Nat.pow_pos (by decide))
    rw [e2V] at hup hmul
    rw [e16]
    omega
theorem ev_bound {t : Int} (ht : t.natAbs ≤ 6) {M : Nat} : ∀ l : List Int, (∀ x ∈ l, x.natAbs ≤ M) → (ev t l).natAbs ≤ M * 7 ^ l.length
  | [], _ => Nat.zero_le _
  | v :: l, h => by
    have ih := ev_bound ht l fun x hx => h x (List.mem_cons_of_mem _ hx)
    have hv := h v (List.mem_cons_self ..)
    have hm : (t * ev t l).natAbs ≤ 6 * (M * 7 ^ l.length) := by
      rw [Int.natAbs_mul]; exact Nat.mul_le_mul ht ih
    have e : M * 7 ^ (v :: l).length = 7 * (M * 7 ^ l.length) := by rw [List.length_cons, Nat.pow_succ]; grind
    have hM : M ≤ M * 7 ^ l.length := Nat.le_mul_of_pos_right _ (Nat.pow_pos (by decide))
    rw [e]
    show (v + t * ev t l).natAbs ≤ _
    omega
def pts : List Int := [-6, -5, -4, -3, -2, -1, 0, 1, 2, 3, 4, 5, 6]
theorem filt_len (f : Int → Bool) : ∀ l : List Int, (l.filter f).length + (l.filter fun x => !f x).length = l.length
  | [] => rfl
  | v :: l => by
    have ih := filt_len f l
    rw [List.filter_cons, List.filter_cons]
    cases f v <;> simp <;> omega
theorem factor_bound {q d p : List Int} {M : Nat} (hp : Tr p) (hne : p ≠ []) (hm : mulL q d = p) (hl : p.length ≤ 7) (hM : ∀ x ∈ p, x.natAbs ≤ M) (k : Nat) : (cf d k).natAbs ≤ 16 ^ 7 * (M * 7 ^ 7) := by
  have hq : q ≠ [] := fun z => hne (by rw [← hm, z]; unfold mulL; rw [if_pos (.inl rfl)])
  have hd : d ≠ [] := fun z => hne (by rw [← hm, z]; unfold mulL; rw [if_pos (.inr rfl)])
  have hdl : d.length ≤ 7 := by
    have := len_mulL hq hd
    have h1 := List.length_pos_iff.mpr hq
    rw [hm] at this
    omega
  have nd : pts.Nodup := by decide
  have hr : (pts.filter fun t => decide (ev t p = 0)).length ≤ 6 := by
    refine Classical.byContradiction fun h => ?_
    have z := roots_all 7 p ((pts.filter fun t => decide (ev t p = 0)).take 7) hl (by rw [List.length_take]; omega) ((nd.filter _).sublist (List.take_sublist _ _)) fun t ht => by
      have := (List.mem_filter.mp (List.mem_of_mem_take ht)).2
      exact of_decide_eq_true this
    have h1 := List.length_pos_iff.mpr hne
    exact hp (p.length - 1) (by omega) (z _)
  have hs := filt_len (fun t => decide (ev t p = 0)) pts
  have h13 : pts.length = 13 := rfl
  refine fac_bound 7 d ((pts.filter fun t => !decide (ev t p = 0)).take 7) _ hdl (by rw [List.length_take]; omega) ((nd.filter _).sublist (List.take_sublist _ _)) (fun t ht => ?_) k
  obtain ⟨m1, m2⟩ := List.mem_filter.mp (List.mem_of_mem_take ht)
  have t6 : t.natAbs ≤ 6 := by
    have : ∀ t ∈ pts, t.natAbs ≤ 6 := by decide
    exact this t m1
  have hz : ev t p ≠ 0 := by simpa using m2
  refine ⟨t6, ?_⟩
  have e := ev_mul t q d
  rw [hm] at e
  have hq0 : ev t q ≠ 0 := fun z => hz (by rw [e, z, Int.zero_mul])
  have h1 : 1 ≤ (ev t q).natAbs := Int.natAbs_pos.mpr hq0
  have h2 := ev_bound t6 p hM
  have h3 : (ev t d).natAbs ≤ (ev t p).natAbs := by
    rw [e, Int.natAbs_mul]; exact Nat.le_mul_of_pos_left _ h1
  exact Nat.le_trans h3 (Nat.le_trans h2 (Nat.mul_le_mul_left _ (Nat.pow_le_pow_right (by decide) hl)))
end RM

/-! Resultants: columns, rows that slide (behind MathDet2, MathEval) -/
namespace RM
variable {ι : Type}
def lapi (h : ι → Int) (f : List ι → Int) : List ι → List ι → Int
  | _, [] => 0
  | pre, r :: rs => h r * f (pre ++ rs) - lapi h f (pre ++ [r]) rs
theorem lap_map (F : ι → Rw) (f : List Rw → Int) : ∀ rows pre : List ι, lap f (pre.map F) (rows.map F) = lapi (fun i => F i 0) (fun m => f (m.map F)) pre rows
  | [], _ => rfl
  | r :: rs, pre => by
    show F r 0 * f (pre.map F ++ rs.map F) - lap f (pre.map F ++ [F r]) (rs.map F) = F r 0 * f ((pre ++ rs).map F) - lapi _ _ (pre ++ [r]) rs
    rw [← lap_map F f rs (pre ++ [r]), List.map_append, List.map_append, List.map_cons, List.map_nil]
theorem D_map (n : Nat) (F : ι → Rw) (l : List ι) : D (n + 1) (l.map F) = lapi (fun i => F i 0) (fun m => D n (m.map fun i => tl (F i))) [] l := by
  have := lap_map F (fun m => D n (m.map tl)) l []
  rw [D_succ]
  rw [List.map_nil] at this
  rw [this]
  congr 1
  funext m
  rw [List.map_map]; rfl
theorem lapi_lin_h (x y : Int) (h1 h2 : ι → Int) (f : List ι → Int) : ∀ rows pre : List ι, lapi (fun i => x * h1 i + y * h2 i) f pre rows = x * lapi h1 f pre rows + y * lapi h2 f pre rows
  | [], _ => by simp [lapi]
  | r :: rs, pre => by
    show (x * h1 r + y * h2 r) * f (pre ++ rs) - lapi _ f (pre ++ [r]) rs = x * (h1 r * f (pre ++ rs) - lapi h1 f (pre ++ [r]) rs) + y * (h2 r * f (pre ++ rs) - lapi h2 f (pre ++ [r]) rs)
    rw [lapi_lin_h x y h1 h2 f rs (pre ++ [r])]
    grind
theorem lapi_lin_f (x y : Int) (h : ι → Int) (f f1 f2 : List ι → Int) (hf : ∀ m, f m = x * f1 m + y * f2 m) : ∀ rows pre : List ι, lapi h f pre rows = x * lapi h f1 pre rows + y * lapi h f2 pre rows
  | [], _ => by simp [lapi]
  | r :: rs, pre => by
    show h r * f (pre ++ rs) - lapi h f (pre ++ [r]) rs = x * (h r * f1 (pre ++ rs) - lapi h f1 (pre ++ [r]) rs) + y * (h r * f2 (pre ++ rs) - lapi h f2 (pre ++ [r]) rs)
    rw [lapi_lin_f x y h f f1 f2 hf rs (pre ++ [r]), hf]
    grind
theorem lapi_congr {S : ι → Prop} {h1 h2 : ι → Int} {f1 f2 : List ι → Int} (hh : ∀ i, S i → h1 i = h2 i) (hf : ∀ m, (∀ i ∈ m, S i) → f1 m = f2 m) : ∀ rows pre : List ι, (∀ i ∈ pre, S i) → (∀ i ∈ rows, S i) → lapi h1 f1 pre rows = lapi h2 f2 pre rows
  | [], _, _, _ => rfl
  | r :: rs, pre, hp, hr => by
    show h1 r * f1 (pre ++ rs) - lapi h1 f1 (pre ++ [r]) rs = h2 r * f2 (pre ++ rs) - lapi h2 f2 (pre ++ [r]) rs
    rw [hh r (hr r (List.mem_cons_self ..)), hf (pre ++ rs) (fun i hi => (List.mem_append.mp hi).elim (hp i) fun z => hr i (List.mem_cons_of_mem _ z)),
      lapi_congr hh hf rs (pre ++ [r]) (fun i hi => (List.mem_append.mp hi).elim (hp i) fun z => by rw [List.mem_singleton.mp z]; exact hr r (List.mem_cons_self ..)) (fun i hi => hr i (List.mem_cons_of_mem _ hi))]
/-- only the first n columns count -/
theorem D_congr : ∀ (n : Nat) (l : List ι) (g g' : ι → Rw), (∀ i ∈ l, ∀ j, j < n → g i j = g' i j) → D n (l.map g) = D n (l.map g')
  | 0, _, _, _, _ => rfl
  | n + 1, l, g, g', h => by
    rw [D_map, D_map]
    refine lapi_congr (S := fun i => ∀ j, j < n + 1 → g i j = g' i j) (fun i hi => hi 0 (by omega)) (fun m hm => ?_) l [] (fun _ h => nomatch h) h
    exact D_congr n m (fun i => tl (g i)) (fun i => tl (g' i)) fun i hi j hj => hm i hi (j + 1) (by omega)
def rc (k : Nat) (c : Int) (r : Rw) : Rw := fun j => if j = k then c else r j
theorem tl_rc (k : Nat) (c : Int) (r : Rw) : tl (rc (k + 1) c r) = rc k c (tl r) := by
  funext j
  show (if j + 1 = k + 1 then c else r (j + 1)) = if j = k then c else r (j + 1)
  by_cases h : j = k
  · rw [if_pos h, if_pos (by omega)]
  · rw [if_neg h, if_neg (by omega)]
theorem tl_rc0 (c : Int) (r : Rw) : tl (rc 0 c r) = tl r := by
  funext j
  show (if j + 1 = 0 then c else r (j + 1)) = r (j + 1)
  rw [if_neg (by omega)]
theorem D_col_lin : ∀ (k n : Nat) (l : List ι) (g : ι → Rw) (c d : ι → Int) (x y : Int), k < n → D n (l.map fun i => rc k (x * c i + y * d i) (g i)) = x * D n (l.map fun i => rc k (c i) (g i)) + y * D n (l.map fun i => rc k (d i) (g i))
  | _, 0, _, _, _, _, _, _, h => by omega
  | 0, n + 1, l, g, c, d, x, y, _ => by
    rw [D_map, D_map, D_map]
    simp only [tl_rc0]
    have e : ∀ c : ι → Int, (fun i => rc 0 (c i) (g i) 0) = c := fun c => by funext i; rfl
    rw [e (fun i => x * c i + y * d i), e c, e d]
    exact lapi_lin_h x y c d _ l []
  | k + 1, n + 1, l, g, c, d, x, y, h => by
    rw [D_map, D_map, D_map]
    simp only [tl_rc]
    have e : ∀ c : ι → Int, (fun i => rc (k + 1) (c i) (g i) 0) = fun i => g i 0 := fun c => by funext i; show (if 0 = k + 1 then _ else _) = _; rw [if_neg (by omega)]
    rw [e (fun i => x * c i + y * d i), e c, e d]
    exact lapi_lin_f x y _ _ _ _ (fun m => D_col_lin k n m (fun i => tl (g i)) c d x y (by omega)) l []
theorem D_col01 {n : Nat} {rows : List Rw} (hn : rows.length = n) (h2 : 2 ≤ n) (h : ∀ r ∈ rows, r 1 = r 0) : D n rows = 0 := by
  by_cases hz : ∀ r ∈ rows, r 0 = 0
  · obtain ⟨m, rfl⟩ : ∃ m, n = m + 1 := ⟨n - 1, by omega⟩
    exact D_none hz
  · obtain ⟨hd, hmem, hne⟩ : ∃ r, r ∈ rows ∧ r 0 ≠ 0 := by
      refine Classical.byContradiction fun z => hz fun r hr => Classical.byContradiction fun z2 => z ⟨r, hr, z2⟩
    obtain ⟨pre, post, rfl⟩ := List.append_of_mem hmem
    rw [List.length_append, List.length_cons] at hn
    have e := D_move (n := n) (h := hd) (post := post) pre [] (by rw [List.length_nil]; omega)
    rw [List.nil_append, List.nil_append, List.cons_append] at e
    rw [e]
    have hR : ∀ r ∈ pre ++ post, r 1 = r 0 := fun r hr => h r (by
      rcases List.mem_append.mp hr with z | z
      · exact List.mem_append_left _ z
      · exact List.mem_append_right _ (List.mem_cons_of_mem _ z))
    have hd1 := h hd (by simp)
    have hl : (pre ++ post).length + 1 = n := by rw [List.length_append]; omega
    generalize pre ++ post = R at hR hl
    obtain ⟨m, hm⟩ : ∃ m, R.length = m + 1 := ⟨R.length - 1, by omega⟩
    have c := D_clear (n := n) (h := hd) R [] (by rw [List.length_nil]; omega)
    rw [List.nil_append, List.nil_append] at c
    have z : D n (hd :: R.map fun r => cmb (hd 0) r (-(r 0)) hd) = 0 := by
      obtain ⟨n', rfl⟩ : ∃ n', n = n' + 2 := ⟨n - 2, by omega⟩
      rw [D_first (fun x hx => by
        obtain ⟨r, _, rfl⟩ := List.mem_map.mp hx
        show hd 0 * r 0 + -(r 0) * hd 0 = 0
        grind)]
      rw [D_none (fun x hx => by
        obtain ⟨y, hy, rfl⟩ := List.mem_map.mp hx
        obtain ⟨r, hr, rfl⟩ := List.mem_map.mp hy
        show hd 0 * r 1 + -(r 0) * hd 1 = 0
        rw [hR r hr, hd1]
        grind), Int.mul_zero]
    rw [z] at c
    rcases Int.mul_eq_zero.mp c.symm with z1 | z1
    · exact absurd z1 (Int.pow_ne_zero hne)
    · rw [z1, Int.mul_zero]
theorem lap_none {f : List Rw → Int} {S : Rw → Prop} : ∀ (rows pre : List Rw), (∀ r ∈ pre, S r) → (∀ r ∈ rows, S r) → (∀ m : List Rw, m.length + 1 = pre.length + rows.length → (∀ r ∈ m, S r) → f m = 0) → lap f pre rows = 0
  | [], _, _, _, _ => rfl
  | r :: rs, pre, h1, h2, h3 => by
    show r 0 * f (pre ++ rs) - lap f (pre ++ [r]) rs = 0
    rw [h3 (pre ++ rs) (by rw [List.length_append, List.length_cons]; omega) (fun x hx => (List.mem_append.mp hx).elim (h1 x) fun z => h2 x (List.mem_cons_of_mem _ z)),
      lap_none rs (pre ++ [r]) (fun x hx => (List.mem_append.mp hx).elim (h1 x) fun z => by rw [List.mem_singleton.mp z]; exact h2 r (List.mem_cons_self ..)) (fun x hx => h2 x (List.mem_cons_of_mem _ hx)) (fun m hm => h3 m (by rw [List.length_append] at hm; rw [List.length_cons]; have : ([r] : List Rw).length = 1 := rfl; omega))]
    simp
theorem D_col_eq : ∀ (k n : Nat) (rows : List Rw), rows.length = n → k + 2 ≤ n → (∀ r ∈ rows, r (k + 1) = r k) → D n rows = 0
  | 0, n, rows, hl, hn, h => D_col01 hl hn h
  | k + 1, 0, rows, hl, hn, h => by omega
  | k + 1, n + 1, rows, hl, hn, h => by
    refine lap_none (S := fun r => r (k + 2) = r (k + 1)) rows [] (fun _ z => nomatch z) h (fun m hm hS => ?_)
    exact D_col_eq k n (m.map tl) (by rw [List.length_map]; rw [List.length_nil] at hm; omega) (by omega) (fun r hr => by
      obtain ⟨x, hx, rfl⟩ := List.mem_map.mp hr
      exact hS x hx)
/-- times (b x - a), falling -/
def tm2 (a b : Int) (r : Rw) : Rw := fun j => b * r j - (if j = 0 then 0 else a * r (j - 1))
def tp (a b : Int) (k : Nat) (r : Rw) : Rw := fun j => if k ≤ j then tm2 a b r j else r j
theorem D_tp {a b : Int} {n : Nat} {rows : List Rw} (hl : rows.length = n) : ∀ d k, k + d = n → D n (rows.map (tp a b k)) = b ^ d * D n rows
  | 0, k, hk => by
    have e : D n (rows.map (tp a b k)) = D n (rows.map id) := D_congr n rows _ _ fun i _ j hj => by
      show (if k ≤ j then _ else i j) = i j
      rw [if_neg (by omega)]
    rw [e, List.map_id]; simp
  | d + 1, k, hk => by
    have ih := D_tp (a := a) (b := b) hl d (k + 1) (by omega)
    have e1 : ∀ r : Rw, tp a b k r = rc k (b * r k + (-1) * (if k = 0 then 0 else a * r (k - 1))) (tp a b (k + 1) r) := fun r => by
      funext j
      show (if k ≤ j then b * r j - (if j = 0 then 0 else a * r (j - 1)) else r j) = if j = k then _ else (if k + 1 ≤ j then b * r j - (if j = 0 then 0 else a * r (j - 1)) else r j)
      by_cases h : j = k
      · subst h; rw [if_pos (Nat.le_refl _), if_pos rfl]; omega
      · by_cases h2 : k ≤ j
        · have h3 : k + 1 ≤ j := by omega
          rw [if_pos h2, if_neg h, if_pos h3]
        · have h3 : ¬ k + 1 ≤ j := by omega
          rw [if_neg h2, if_neg h, if_neg h3]
    have e2 : rows.map (tp a b k) = rows.map fun r => rc k (b * r k + (-1) * (if k = 0 then 0 else a * r (k - 1))) (tp a b (k + 1) r) := List.map_congr_left fun r _ => e1 r
    rw [e2, D_col_lin k n rows (tp a b (k + 1)) (fun r => r k) (fun r => if k = 0 then 0 else a * r (k - 1)) b (-1) (by omega)]
    have e3 : (rows.map fun r => rc k (r k) (tp a b (k + 1) r)) = rows.map (tp a b (k + 1)) := List.map_congr_left fun r _ => by
      funext j
      show (if j = k then r k else tp a b (k + 1) r j) = _
      by_cases h : j = k
      · subst h
        rw [if_pos rfl]
        show r j = if j + 1 ≤ j then _ else r j
        rw [if_neg (by omega)]
      · rw [if_neg h]
    have e4 : D n (rows.map fun r => rc k (if k = 0 then 0 else a * r (k - 1)) (tp a b (k + 1) r)) = 0 := by
      by_cases hk0 : k = 0
      · subst hk0
        obtain ⟨n', rfl⟩ : ∃ n', n = n' + 1 := ⟨n - 1, by omega⟩
        exact D_none fun x hx => by
          obtain ⟨r, _, rfl⟩ := List.mem_map.mp hx
          rfl
      · have e5 := D_col_lin k n rows (tp a b (k + 1)) (fun r => r (k - 1)) (fun _ => 0) a 0 (by omega)
        have e6 : (rows.map fun r => rc k (if k = 0 then 0 else a * r (k - 1)) (tp a b (k + 1) r)) = rows.map fun r => rc k (a * r (k - 1) + 0 * 0) (tp a b (k + 1) r) := List.map_congr_left fun r _ => by rw [if_neg hk0]; simp
        rw [e6, e5, D_col_eq (k - 1) n _ (by rw [List.length_map]; exact hl) (by omega) (fun x hx => by
          obtain ⟨r, _, rfl⟩ := List.mem_map.mp hx
          have hk1 : k - 1 + 1 = k := by omega
          show (if k - 1 + 1 = k then r (k - 1) else _) = (if k - 1 = k then _ else (if k + 1 ≤ k - 1 then _ else r (k - 1)))
          rw [if_pos hk1, if_neg (by omega), if_neg (by omega)])]
        simp
    rw [e3, e4, ih, Int.pow_succ]
    grind
theorem D_tm {a b : Int} {n : Nat} {rows : List Rw} (hl : rows.length = n) : D n (rows.map (tm2 a b)) = b ^ n * D n rows := by
  have := D_tp (a := a) (b := b) hl n 0 (by omega)
  have e : rows.map (tp a b 0) = rows.map (tm2 a b) := List.map_congr_left fun r _ => by
    funext j
    show (if 0 ≤ j then _ else _) = _
    rw [if_pos (Nat.zero_le _)]
  rw [e] at this
  exact this
theorem D_zerolast : ∀ (n : Nat) (rows : List Rw), rows.length = n + 1 → (∀ r ∈ rows, r n = 0) → D (n + 1) rows = 0
  | 0, rows, _, h => D_none h
  | n + 1, rows, hl, h => by
    refine lap_none (S := fun r => r (n + 1) = 0) rows [] (fun _ z => nomatch z) h (fun m hm hS => ?_)
    exact D_zerolast n (m.map tl) (by rw [List.length_map]; rw [List.length_nil] at hm; omega) (fun r hr => by
      obtain ⟨x, hx, rfl⟩ := List.mem_map.mp hr
      exact hS x hx)
theorem D_lastcol : ∀ (n : Nat) (rows : List Rw) (u : Rw), rows.length = n → (∀ r ∈ rows, r n = 0) → D (n + 1) (rows ++ [u]) = u n * D n rows
  | 0, rows, u, hl, _ => by
    obtain rfl := List.length_eq_zero_iff.mp hl
    show u 0 * 1 - 0 = u 0 * 1
    omega
  | n + 1, rows, u, hl, h => by
    have A : ∀ (rs pre : List Rw), pre.length + rs.length = n + 1 → (∀ r ∈ pre, r (n + 1) = 0) → (∀ r ∈ rs, r (n + 1) = 0) → lap (fun m => D (n + 1) (m.map tl)) pre (rs ++ [u]) = u (n + 1) * lap (fun m => D n (m.map tl)) pre rs := by
      intro rs
      induction rs with
      | nil =>
        intro pre hl' hp _
        show u 0 * D (n + 1) ((pre ++ []).map tl) - 0 = u (n + 1) * 0
        rw [List.append_nil, D_zerolast n _ (by rw [List.length_map]; simpa using hl') (fun r hr => by
          obtain ⟨x, hx, rfl⟩ := List.mem_map.mp hr
          exact hp x hx)]
        simp
      | cons x xs ih =>
        intro pre hl' hp hr
        rw [List.length_cons] at hl'
        have h1 := ih (pre ++ [x]) (by rw [List.length_append]; show pre.length + 1 + xs.length = n + 1; omega) (fun r hr' => (List.mem_append.mp hr').elim (hp r) fun z => by rw [List.mem_singleton.mp z]; exact hr x (List.mem_cons_self ..)) (fun r hr' => hr r (List.mem_cons_of_mem _ hr'))
        have h2 := D_lastcol n ((pre ++ xs).map tl) (tl u) (by rw [List.length_map, List.length_append]; omega) (fun r hr' => by
          obtain ⟨y, hy, rfl⟩ := List.mem_map.mp hr'
          rcases List.mem_append.mp hy with z | z
          · exact hp y z
          · exact hr y (List.mem_cons_of_mem _ z))
        show x 0 * D (n + 1) ((pre ++ (xs ++ [u])).map tl) - lap _ (pre ++ [x]) (xs ++ [u]) = u (n + 1) * (x 0 * D n ((pre ++ xs).map tl) - lap _ (pre ++ [x]) xs)
        rw [h1, ← List.append_assoc, List.map_append, List.map_cons, List.map_nil, h2]
        show x 0 * (u (n + 1) * _) - _ = _
        grind
    exact A rows [] (by simpa using hl) (fun _ z => nomatch z) h

def shr (k : Nat) (f : Rw) : Rw := fun j => if j < k then 0 else f (j - k)
def slidF (f : Rw) (n : Nat) : List Rw := (List.range n).map fun k => shr k f
def syl (f g : Rw) (n m : Nat) : List Rw := slidF f n ++ slidF g m
theorem len_slidF (f : Rw) (n : Nat) : (slidF f n).length = n := by unfold slidF; simp
theorem tm_shr (a b : Int) (k : Nat) (f : Rw) : tm2 a b (shr k f) = shr k (tm2 a b f) := by
  funext j
  show b * (if j < k then 0 else f (j - k)) - (if j = 0 then 0 else a * (if j - 1 < k then 0 else f (j - 1 - k))) = if j < k then 0 else b * f (j - k) - (if j - k = 0 then 0 else a * f (j - k - 1))
  by_cases h : j < k
  · rw [if_pos h, if_pos h, if_pos (show j - 1 < k by omega)]
    split <;> simp
  · rw [if_neg h, if_neg h]
    by_cases h0 : j = 0
    · rw [if_pos h0, if_pos (show j - k = 0 by omega)]
    · rw [if_neg h0]
      by_cases h1 : j - k = 0
      · rw [if_pos h1, if_pos (show j - 1 < k by omega), Int.mul_zero]
      · rw [if_neg h1, if_neg (show ¬ j - 1 < k by omega)]
        have : j - 1 - k = j - k - 1 := by omega
        rw [this]
theorem cmb_shr (a b : Int) (k : Nat) (f : Rw) : cmb b (shr k f) (-a) (shr (k + 1) f) = tm2 a b (shr k f) := by
  funext j
  show b * (if j < k then 0 else f (j - k)) + -a * (if j < k + 1 then 0 else f (j - (k + 1))) = b * (if j < k then 0 else f (j - k)) - (if j = 0 then 0 else a * (if j - 1 < k then 0 else f (j - 1 - k)))
  by_cases h0 : j = 0
  · subst h0
    rw [if_pos (show 0 < k + 1 by omega), if_pos rfl]; omega
  · rw [if_neg h0]
    by_cases h : j < k + 1
    · rw [if_pos h, if_pos (show j - 1 < k by omega)]; omega
    · rw [if_neg h, if_neg (show ¬ j - 1 < k by omega)]
      have : j - 1 - k = j - (k + 1) := by omega
      rw [this]; grind
def trr (a b : Int) : Rw → List Rw → List Rw
  | x, [] => [x]
  | x, y :: l => cmb b x (-a) y :: trr a b y l
theorem D_trr {a b : Int} {n : Nat} : ∀ (l : List Rw) (x : Rw) (A : List Rw), A.length + 1 + l.length = n → D n (A ++ trr a b x l) = b ^ l.length * D n (A ++ x :: l)
  | [], x, A, _ => by show D n (A ++ [x]) = _; simp
  | y :: l, x, A, h => by
    rw [List.length_cons] at h
    have ih := D_trr (a := a) (b := b) (n := n) l y (A ++ [cmb b x (-a) y]) (by rw [List.length_append]; show A.length + 1 + 1 + l.length = n; omega)
    simp only [List.append_assoc, List.cons_append, List.nil_append] at ih
    show D n (A ++ cmb b x (-a) y :: trr a b y l) = _
    rw [ih, D_lin n A (y :: l) x y b (-a) (by rw [List.length_cons]; omega), D_alt n A l y (by omega), List.length_cons, Int.pow_succ]
    grind
theorem trr_shr (a b : Int) (f : Rw) : ∀ (m i : Nat), trr a b (shr i f) ((List.range' (i + 1) m).map fun k => shr k f) = (List.range' i m).map (fun k => tm2 a b (shr k f)) ++ [shr (i + m) f]
  | 0, i => rfl
  | m + 1, i => by
    have ih := trr_shr a b f m (i + 1)
    show trr a b (shr i f) (shr (i + 1) f :: (List.range' (i + 1 + 1) m).map fun k => shr k f) = tm2 a b (shr i f) :: (List.range' (i + 1) m).map (fun k => tm2 a b (shr k f)) ++ [shr (i + (m + 1)) f]
    show cmb b (shr i f) (-a) (shr (i + 1) f) :: trr a b (shr (i + 1) f) ((List.range' (i + 1 + 1) m).map fun k => shr k f) = _
    rw [cmb_shr, ih]
    have : i + 1 + m = i + (m + 1) := by omega
    rw [this]; rfl
/-- Horner's sums -/
def wj (a b : Int) (h : Rw) : Nat → Int
  | 0 => h 0
  | j + 1 => wj a b h j * a + h (j + 1) * b ^ (j + 1)
theorem wj_shr (a b : Int) (f : Rw) (m : Nat) : (∀ j, j < m → wj a b (shr m f) j = 0) ∧ ∀ t, wj a b (shr m f) (m + t) = b ^ m * wj a b f t := by
  have z : ∀ j, j < m → wj a b (shr m f) j = 0 := by
    intro j
    induction j with
    | zero => intro h; show (if 0 < m then 0 else f (0 - m)) = 0; rw [if_pos h]
    | succ j ih =>
      intro h
      show wj a b (shr m f) j * a + (if j + 1 < m then 0 else f (j + 1 - m)) * b ^ (j + 1) = 0
      rw [ih (by omega), if_pos h]; simp
  refine ⟨z, fun t => ?_⟩
  induction t with
  | zero =>
    cases m with
    | zero => show (if 0 < 0 then 0 else f (0 - 0)) = b ^ 0 * f 0; simp
    | succ m =>
      show wj a b (shr (m + 1) f) m * a + (if m + 1 < m + 1 then 0 else f (m + 1 - (m + 1))) * b ^ (m + 1) = b ^ (m + 1) * f 0
      rw [z m (by omega), if_neg (by omega), Nat.sub_self]; grind
  | succ t ih =>
    show wj a b (shr m f) (m + t) * a + (if m + t + 1 < m then 0 else f (m + t + 1 - m)) * b ^ (m + t + 1) = b ^ m * (wj a b f t * a + f (t + 1) * b ^ (t + 1))
    rw [ih, if_neg (by omega)]
    have e1 : m + t + 1 - m = t + 1 := by omega
    have e2 : m + t + 1 = m + (t + 1) := by omega
    rw [e1, e2, Int.pow_add]
    grind
/-- all rows but the last times (b x - a) -/
theorem D_value {a b : Int} (hb : b ≠ 0) {N : Nat} {G : List Rw} {h : Rw} (hl : G.length = N) (hz : ∀ r ∈ G, r N = 0) : D (N + 1) (G.map (tm2 a b) ++ [h]) = wj a b h N * D N G := by
  have hp : b ^ (N + 1) ≠ 0 := Int.pow_ne_zero hb
  refine Int.eq_of_mul_eq_mul_left hp ?_
  have e1 := D_lin (N + 1) (G.map (tm2 a b)) [] h h (b ^ (N + 1)) 0 (by rw [List.length_map, List.length_nil]; omega)
  rw [Int.zero_mul, Int.add_zero] at e1
  rw [← e1]
  let κ : Rw := fun j => b ^ (N - j) * wj a b h j
  have hk : ∀ j, j < N + 1 → cmb (b ^ (N + 1)) h 0 h j = tm2 a b κ j := by
    intro j hj
    show b ^ (N + 1) * h j + 0 * h j = b * (b ^ (N - j) * wj a b h j) - (if j = 0 then 0 else a * (b ^ (N - (j - 1)) * wj a b h (j - 1)))
    cases j with
    | zero =>
      rw [if_pos rfl, Nat.sub_zero, Int.pow_succ]
      show _ = b * (b ^ N * h 0) - 0
      grind
    | succ j =>
      rw [if_neg (by omega)]
      show _ = b * (b ^ (N - (j + 1)) * (wj a b h j * a + h (j + 1) * b ^ (j + 1))) - a * (b ^ (N - j) * wj a b h j)
      have e : N - j = N - (j + 1) + 1 := by omega
      have e2 : N + 1 = (N - (j + 1)) + (j + 1) + 1 := by omega
      have e3 : b ^ (N + 1) = b ^ (N - (j + 1)) * b ^ (j + 1) * b := by
        calc b ^ (N + 1) = b ^ ((N - (j + 1)) + (j + 1) + 1) := by rw [← e2]
          _ = _ := by rw [Int.pow_succ, Int.pow_add]
      rw [e3, e, Int.pow_succ b (N - (j + 1))]
      generalize b ^ (N - (j + 1)) = x
      generalize b ^ (j + 1) = y
      grind
  have e2 : D (N + 1) (G.map (tm2 a b) ++ [cmb (b ^ (N + 1)) h 0 h]) = D (N + 1) ((G ++ [κ]).map (tm2 a b)) := by
    rw [List.map_append, List.map_cons, List.map_nil]
    have := D_congr (N + 1) ((G.map fun g => (tm2 a b g, tm2 a b g)) ++ [(cmb (b ^ (N + 1)) h 0 h, tm2 a b κ)]) Prod.fst Prod.snd (fun i hi j hj => by
      rcases List.mem_append.mp hi with z | z
      · obtain ⟨g, _, rfl⟩ := List.mem_map.mp z
        rfl
      · rw [List.mem_singleton.mp z]
        exact hk j hj)
    rw [List.map_append, List.map_append, List.map_map, List.map_map] at this
    exact this
  have hkN : κ N = wj a b h N := by show b ^ (N - N) * _ = _; rw [Nat.sub_self]; simp
  rw [e2, D_tm (by rw [List.length_append, hl]; rfl), D_lastcol N G κ hl hz, hkN]
theorem res_step {a b : Int} (hb : b ≠ 0) {n m : Nat} {f g : Rw} (hf : ∀ j, m < j → f j = 0) (hg : ∀ j, n < j → g j = 0) : D (n + (m + 1)) (syl (tm2 a b f) g n (m + 1)) = wj a b g n * D (n + m) (syl f g n m) := by
  have hp : b ^ m ≠ 0 := Int.pow_ne_zero hb
  refine Int.eq_of_mul_eq_mul_left hp ?_
  have er : slidF g (m + 1) = shr 0 g :: (List.range' 1 m).map fun k => shr k g := by
    unfold slidF
    rw [List.range_eq_range', List.range'_succ, List.map_cons]
  have e1 := D_trr (a := a) (b := b) (n := n + (m + 1)) ((List.range' 1 m).map fun k => shr k g) (shr 0 g) (slidF (tm2 a b f) n) (by rw [len_slidF, List.length_map, List.length_range']; omega)
  rw [List.length_map, List.length_range', ← er] at e1
  have e2 := trr_shr a b g m 0
  rw [Nat.zero_add, Nat.zero_add] at e2
  unfold syl
  rw [← e1, e2]
  have e3 : slidF (tm2 a b f) n ++ ((List.range' 0 m).map (fun k => tm2 a b (shr k g)) ++ [shr m g]) = (slidF f n ++ slidF g m).map (tm2 a b) ++ [shr m g] := by
    rw [← List.append_assoc, List.map_append]
    congr 2
    · unfold slidF
      rw [List.map_map]
      exact List.map_congr_left fun k _ => (tm_shr a b k f).symm
    · unfold slidF
      rw [List.map_map, List.range_eq_range']; rfl
  rw [e3]
  have hN : n + (m + 1) = n + m + 1 := by omega
  rw [hN, D_value hb (by rw [List.length_append, len_slidF, len_slidF]) (fun r hr => by
    rcases List.mem_append.mp hr with z | z
    · obtain ⟨k, hk, rfl⟩ := List.mem_map.mp z
      have := List.mem_range.mp hk
      show (if n + m < k then 0 else f (n + m - k)) = 0
      rw [if_neg (by omega)]; exact hf _ (by omega)
    · obtain ⟨k, hk, rfl⟩ := List.mem_map.mp z
      have := List.mem_range.mp hk
      show (if n + m < k then 0 else g (n + m - k)) = 0
      rw [if_neg (by omega)]; exact hg _ (by omega))]
  have e4 := (wj_shr a b g m).2 n
  have e5 : m + n = n + m := Nat.add_comm _ _
  rw [e5] at e4
  rw [e4]; grind
theorem res_const {c : Int} {n : Nat} {f g : Rw} (hf0 : f 0 = c) (hf : ∀ j, 0 < j → f j = 0) : D (n + 0) (syl f g n 0) = c ^ n := by
  have e : syl f g n 0 = slidF f n := by unfold syl slidF; simp
  rw [e]
  have e1 := D_tri (slidF f n) 0 (fun i r hr j hj => by
    unfold slidF at hr
    rw [List.getElem?_map] at hr
    by_cases hi : i < n
    · rw [List.getElem?_range hi] at hr
      obtain rfl := Option.some.inj hr
      show (if j + 0 < i then 0 else f (j + 0 - i)) = 0
      rw [if_pos (by omega)]
    · rw [List.getElem?_eq_none_iff.mpr (by simp; omega)] at hr
      cases hr)
  have e2 : (slidF f n).map (sh 0) = slidF f n := by
    have : (slidF f n).map (sh 0) = (slidF f n).map id := List.map_congr_left fun x _ => rfl
    rw [this, List.map_id]
  rw [e2, len_slidF] at e1
  have e3 : ∀ m k, dp k ((List.range' k m).map fun k => shr k f) = c ^ m := by
    intro m
    induction m with
    | zero => intro k; show (1 : Int) = c ^ 0; simp
    | succ m ih =>
      intro k
      rw [List.range'_succ, List.map_cons]
      show shr k f k * dp (k + 1) _ = _
      rw [ih (k + 1)]
      have : shr k f k = c := by show (if k < k then 0 else f (k - k)) = c; rw [if_neg (by omega), Nat.sub_self, hf0]
      rw [this, Int.pow_succ, Int.mul_comm]
  rw [Nat.add_zero, e1]
  unfold slidF
  rw [List.range_eq_range']
  exact e3 n 0
theorem D_blocks {n : Nat} : ∀ (B q A : List Rw), q.length + A.length + B.length = n → D n (q ++ A ++ B) = (-1) ^ (A.length * B.length) * D n (q ++ B ++ A)
  | [], q, A, _ => by simp
  | x :: B, q, A, h => by
    rw [List.length_cons] at h
    have e := D_move (n := n) (h := x) (post := B) A q (by omega)
    have ih := D_blocks (n := n) B (q ++ [x]) A (by rw [List.length_append]; show q.length + 1 + A.length + B.length = n; omega)
    simp only [List.append_assoc, List.cons_append, List.nil_append] at e ih ⊢
    rw [e, ih, List.length_cons, Nat.mul_succ, Int.pow_add]
    grind

theorem cf_rev (l : List Int) (j : Nat) : cf l.reverse j = if j < l.length then cf l (l.length - 1 - j) else 0 := by
  by_cases h : j < l.length
  · rw [if_pos h, cf_lt (by rw [List.length_reverse]; exact h), List.getElem_reverse, cf_lt (by omega)]
  · rw [if_neg h, cf_ge (by rw [List.length_reverse]; omega)]
theorem tm_rev {a b : Int} {l : List Int} (hl : l ≠ []) : tm2 a b (cf l.reverse) = cf (mulL l [-a, b]).reverse := by
  have hp := List.length_pos_iff.mpr hl
  funext j
  rw [cf_rev, mul_two hl, mb_len]
  show b * cf l.reverse j - (if j = 0 then 0 else a * cf l.reverse (j - 1)) = _
  rw [cf_rev, cf_rev]
  by_cases h : j < l.length + 1
  · rw [if_pos h, cf_mb]
    by_cases h0 : j = 0
    · subst h0
      rw [if_pos rfl, if_pos hp, if_neg (show ¬ l.length + 1 - 1 - 0 = 0 by omega), cf_ge (l := l) (k := l.length + 1 - 1 - 0) (by omega)]
      have : l.length + 1 - 1 - 0 - 1 = l.length - 1 - 0 := by omega
      rw [this]; omega
    · rw [if_neg h0, if_pos (show j - 1 < l.length by omega)]
      have e1 : l.length - 1 - (j - 1) = l.length + 1 - 1 - j := by omega
      rw [e1]
      by_cases h1 : j < l.length
      · rw [if_pos h1, if_neg (show ¬ l.length + 1 - 1 - j = 0 by omega)]
        have e2 : l.length + 1 - 1 - j - 1 = l.length - 1 - j := by omega
        rw [e2]; grind
      · rw [if_neg h1, if_pos (show l.length + 1 - 1 - j = 0 by omega)]; grind
  · rw [if_neg h, if_neg (show ¬ j < l.length by omega), if_neg (show ¬ j = 0 by omega), if_neg (show ¬ j - 1 < l.length by omega)]; simp
theorem cf_slid (k t : Nat) (l : List Int) : cf (List.replicate k 0 ++ l ++ List.replicate t 0) = shr k (cf l) := by
  funext j
  show _ = if j < k then 0 else cf l (j - k)
  rw [List.append_assoc]
  by_cases h : j < k
  · rw [if_pos h, cf_append_left (by rw [List.length_replicate]; exact h), cf_replicate]
  · rw [if_neg h, cf_append_right (by rw [List.length_replicate]; omega), List.length_replicate]
    by_cases h2 : j - k < l.length
    · rw [cf_append_left h2]
    · rw [cf_append_right (by omega), cf_replicate, cf_ge (by omega)]
def slidL (l : List Int) (n : Nat) : List (List Int) := (List.range n).map fun k => List.replicate k 0 ++ l.reverse ++ List.replicate (n - 1 - k) 0
theorem slid_cf (l : List Int) (n : Nat) : (slidL l n).map cf = slidF (cf l.reverse) n := by
  unfold slidL slidF
  rw [List.map_map]
  exact List.map_congr_left fun k _ => cf_slid k _ _
/-- the resultant of two rows that aren't [] -/
def resL (p q : List Int) : Int := D (q.length - 1 + (p.length - 1)) (syl (cf p.reverse) (cf q.reverse) (q.length - 1) (p.length - 1))
theorem rev_zero {l : List Int} (j : Nat) (h : l.length - 1 < j) : cf l.reverse j = 0 := by rw [cf_rev, if_neg (by omega)]
theorem resL_mul {a b : Int} (hb : b ≠ 0) {p q : List Int} (hp : p ≠ []) : resL (mulL p [-a, b]) q = wj a b (cf q.reverse) (q.length - 1) * resL p q := by
  have hl := mul_two_len (a := a) (b := b) p
  rw [if_neg hp] at hl
  have hpl := List.length_pos_iff.mpr hp
  unfold resL
  rw [hl, ← tm_rev hp]
  obtain ⟨m, hm⟩ : ∃ m, p.length = m + 1 := ⟨p.length - 1, by omega⟩
  have e1 : p.length + 1 - 1 = m + 1 := by omega
  have e2 : p.length - 1 = m := by omega
  rw [e1, e2]
  exact res_step hb (fun j hj => rev_zero j (by omega)) (fun j hj => rev_zero j hj)
theorem resL_const (c : Int) (q : List Int) : resL [c] q = c ^ (q.length - 1) := by
  unfold resL
  exact res_const (f := cf [c].reverse) rfl (fun j hj => rev_zero j (by simpa using hj))
theorem resL_swap (p q : List Int) : resL q p = (-1) ^ ((p.length - 1) * (q.length - 1)) * resL p q := by
  unfold resL syl
  have := D_blocks (n := p.length - 1 + (q.length - 1)) (slidF (cf p.reverse) (q.length - 1)) [] (slidF (cf q.reverse) (p.length - 1)) (by rw [len_slidF, len_slidF]; simp)
  rw [List.nil_append, List.nil_append, len_slidF, len_slidF] at this
  rw [this, Nat.add_comm (q.length - 1)]
end RM

/-! Resultants of products (behind MathRes, MathCom) -/
namespace RM
structure AltF (n : Nat) (F : List Rw → Int) : Prop where
  lin : ∀ (pre post : List Rw) (r s : Rw) (a b : Int), pre.length + 1 + post.length = n → F (pre ++ cmb a r b s :: post) = a * F (pre ++ r :: post) + b * F (pre ++ s :: post)
  alt : ∀ (pre post : List Rw) (r : Rw), pre.length + 2 + post.length = n → F (pre ++ r :: r :: post) = 0
theorem AltF.ofD (n : Nat) : AltF n (D n) := ⟨D_lin n, D_alt n⟩
theorem AltF.swap {n : Nat} {F : List Rw → Int} (hF : AltF n F) {pre post : List Rw} {r s : Rw} (h : pre.length + 2 + post.length = n) : F (pre ++ r :: s :: post) = - F (pre ++ s :: r :: post) := by
  have e0 := hF.alt pre post (cmb 1 r 1 s) h
  rw [hF.lin pre (cmb 1 r 1 s :: post) r s 1 1 (by rw [List.length_cons]; omega)] at e0
  have e1 := hF.lin (pre ++ [r]) post r s 1 1 (by rw [List.length_append]; show pre.length + 1 + 1 + post.length = n; omega)
  have e2 := hF.lin (pre ++ [s]) post r s 1 1 (by rw [List.length_append]; show pre.length + 1 + 1 + post.length = n; omega)
  simp only [List.append_assoc, List.cons_append, List.nil_append] at e1 e2
  have e3 := hF.alt pre post r h
  have e4 := hF.alt pre post s h
  rw [e1, e2, e3, e4] at e0
  omega
theorem AltF.move {n : Nat} {F : List Rw → Int} (hF : AltF n F) {h : Rw} {post : List Rw} : ∀ (pre q : List Rw), q.length + pre.length + 1 + post.length = n → F (q ++ pre ++ h :: post) = (-1) ^ pre.length * F (q ++ h :: pre ++ post)
  | [], q, _ => by simp
  | x :: pre, q, hl => by
    rw [List.length_cons] at hl
    have ih := hF.move (h := h) (post := post) pre (q ++ [x]) (by rw [List.length_append]; show q.length + 1 + pre.length + 1 + post.length = n; omega)
    have e := hF.swap (pre := q) (post := pre ++ post) (r := x) (s := h) (by rw [List.length_append]; omega)
    simp only [List.append_assoc, List.cons_append, List.nil_append] at ih e ⊢
    rw [ih, e, List.length_cons, Int.pow_succ]
    grind
theorem AltF.dup {n : Nat} {F : List Rw → Int} (hF : AltF n F) {h : Rw} {q pre post : List Rw} (hl : q.length + pre.length + 2 + post.length = n) : F (q ++ h :: pre ++ h :: post) = 0 := by
  have e := hF.move (h := h) (post := post) pre (q ++ [h]) (by rw [List.length_append]; show q.length + 1 + pre.length + 1 + post.length = n; omega)
  have e2 := hF.alt q (pre ++ post) h (by rw [List.length_append]; omega)
  simp only [List.append_assoc, List.cons_append, List.nil_append] at e e2 ⊢
  rw [e, e2, Int.mul_zero]
theorem AltF.clear {n : Nat} {F : List Rw → Int} (hF : AltF n F) {h : Rw} {c : Int} {d : Rw → Int} : ∀ (R q : List Rw), 1 + q.length + R.length = n → F (h :: (q ++ R.map fun r => cmb c r (-(d r)) h)) = c ^ R.length * F (h :: (q ++ R))
  | [], q, _ => by simp
  | r :: R, q, hl => by
    rw [List.length_cons] at hl
    have e := hF.lin (h :: q) (R.map fun r => cmb c r (-(d r)) h) r h c (-(d r)) (by rw [List.length_map, List.length_cons]; omega)
    have e2 := hF.dup (h := h) (q := []) (pre := q) (post := R.map fun r => cmb c r (-(d r)) h) (by rw [List.length_map, List.length_nil]; omega)
    have ih := hF.clear (h := h) (c := c) (d := d) R (q ++ [r]) (by rw [List.length_append]; show 1 + (q.length + 1) + R.length = n; omega)
    simp only [List.append_assoc, List.cons_append, List.nil_append] at e e2 ih ⊢
    rw [List.map_cons, e, e2, ih, List.length_cons, Int.pow_succ]
    grind
theorem AltF.cons {n : Nat} {F : List Rw → Int} (hF : AltF (n + 1) F) (h : Rw) : AltF n (fun R => F (h :: R)) :=
  ⟨fun pre post r s a b hl => hF.lin (h :: pre) post r s a b (by rw [List.length_cons]; omega), fun pre post r hl => hF.alt (h :: pre) post r (by rw [List.length_cons]; omega)⟩
theorem AltF.zero {n : Nat} {F : List Rw → Int} (hF : AltF n F) {pre post : List Rw} {z : Rw} (hl : pre.length + 1 + post.length = n) (hz : ∀ j, z j = 0) : F (pre ++ z :: post) = 0 := by
  have e := hF.lin pre post z z 0 0 hl
  have e2 : cmb 0 z 0 z = z := by funext j; show 0 * z j + 0 * z j = z j; rw [hz j]; simp
  rw [e2] at e
  omega
/-- the rows lie in the columns from k on, n of them -/
def Sup (k n : Nat) (r : Rw) : Prop := ∀ j, (j < k ∨ k + n ≤ j) → r j = 0
theorem sup_clear {k n : Nat} {h r : Rw} (hh : Sup k (n + 1) h) (hr : Sup k (n + 1) r) : Sup (k + 1) n (cmb (h k) r (-(r k)) h) := fun j hj => by
  show h k * r j + -(r k) * h j = 0
  by_cases e : j = k
  · subst e; grind
  · rw [hr j (by omega), hh j (by omega)]; simp
/-- more rows than columns -/
theorem AltF.over : ∀ (n k : Nat) (F : List Rw → Int), AltF (n + 1) F → ∀ rows : List Rw, rows.length = n + 1 → (∀ r ∈ rows, Sup k n r) → F rows = 0
  | 0, k, F, hF, rows, hl, hS => by
    obtain ⟨r, rfl⟩ := List.length_eq_one_iff.mp hl
    exact hF.zero (pre := []) (post := []) (by simp) (fun j => hS r (by simp) j (by omega))
  | n + 1, k, F, hF, rows, hl, hS => by
    by_cases hz : ∀ r ∈ rows, r k = 0
    · obtain ⟨h, R, rfl⟩ : ∃ h R, rows = h :: R := by cases rows with
        | nil => simp at hl
        | cons h R => exact ⟨h, R, rfl⟩
      refine AltF.over n (k + 1) (fun R => F (h :: R)) (hF.cons h) R (by simpa using hl) (fun r hr j hj => ?_)
      by_cases e : j = k
      · subst e; exact hz r (List.mem_cons_of_mem _ hr)
      · exact hS r (List.mem_cons_of_mem _ hr) j (by omega)
    · obtain ⟨h, hmem, hne⟩ : ∃ r, r ∈ rows ∧ r k ≠ 0 := Classical.byContradiction fun z => hz fun r hr => Classical.byContradiction fun z2 => z ⟨r, hr, z2⟩
      obtain ⟨pre, post, rfl⟩ := List.append_of_mem hmem
      rw [List.length_append, List.length_cons] at hl
      have e := hF.move (h := h) (post := post) pre [] (by rw [List.length_nil]; omega)
      rw [List.nil_append, List.nil_append, List.cons_append] at e
      rw [e]
      have hR : ∀ r ∈ pre ++ post, Sup k (n + 1) r := fun r hr => hS r (by
        rcases List.mem_append.mp hr with z | z
        · exact List.mem_append_left _ z
        · exact List.mem_append_right _ (List.mem_cons_of_mem _ z))
      have hh := hS h hmem
      have hlR : (pre ++ post).length = n + 1 := by rw [List.length_append]; omega
      generalize pre ++ post = R at hR hlR
      have c := hF.clear (h := h) (c := h k) (d := fun r => r k) R [] (by rw [List.length_nil, hlR]; omega)
      rw [List.nil_append, List.nil_append] at c
      have z := AltF.over n (k + 1) (fun R => F (h :: R)) (hF.cons h) (R.map fun r => cmb (h k) r (-(r k)) h) (by rw [List.length_map, hlR]) (fun r hr => by
        obtain ⟨x, hx, rfl⟩ := List.mem_map.mp hr
        exact sup_clear hh (hR x hx))
      rw [z] at c
      rcases Int.mul_eq_zero.mp c.symm with z1 | z1
      · exact absurd z1 (Int.pow_ne_zero hne)
      · rw [z1, Int.mul_zero]
def unit (k : Nat) : Rw := fun j => if j = k then 1 else 0
def units : Nat → Nat → List Rw
  | _, 0 => []
  | k, n + 1 => unit k :: units (k + 1) n
theorem tl_sh (k : Nat) (r : Rw) : tl (sh k r) = sh (k + 1) r := by
  funext j
  show r (j + 1 + k) = r (j + (k + 1))
  congr 1; omega
theorem AltF.uniq : ∀ (n k : Nat) (F : List Rw → Int), AltF n F → ∀ rows : List Rw, rows.length = n → (∀ r ∈ rows, Sup k n r) → F rows = D n (rows.map (sh k)) * F (units k n)
  | 0, k, F, hF, rows, hl, hS => by
    obtain rfl := List.length_eq_zero_iff.mp hl
    show F [] = 1 * F []
    omega
  | n + 1, k, F, hF, rows, hl, hS => by
    by_cases hz : ∀ r ∈ rows, r k = 0
    · rw [AltF.over n (k + 1) F hF rows hl (fun r hr j hj => by
        by_cases e : j = k
        · subst e; exact hz r hr
        · exact hS r hr j (by omega))]
      rw [D_none (fun x hx => by
        obtain ⟨r, hr, rfl⟩ := List.mem_map.mp hx
        show r (0 + k) = 0
        rw [Nat.zero_add]; exact hz r hr), Int.zero_mul]
    · obtain ⟨h, hmem, hne⟩ : ∃ r, r ∈ rows ∧ r k ≠ 0 := Classical.byContradiction fun z => hz fun r hr => Classical.byContradiction fun z2 => z ⟨r, hr, z2⟩
      obtain ⟨pre, post, rfl⟩ := List.append_of_mem hmem
      rw [List.length_append, List.length_cons] at hl
      have e := hF.move (h := h) (post := post) pre [] (by rw [List.length_nil]; omega)
      have e' := (AltF.ofD (n + 1)).move (h := sh k h) (post := post.map (sh k)) (pre.map (sh k)) [] (by rw [List.length_map, List.length_map, List.length_nil]; omega)
      rw [List.nil_append, List.nil_append, List.cons_append] at e e'
      rw [List.map_append, List.map_cons, e, e', List.length_map, ← List.map_append]
      have hR : ∀ r ∈ pre ++ post, Sup k (n + 1) r := fun r hr => hS r (by
        rcases List.mem_append.mp hr with z | z
        · exact List.mem_append_left _ z
        · exact List.mem_append_right _ (List.mem_cons_of_mem _ z))
      have hh := hS h hmem
      have hlR : (pre ++ post).length = n := by rw [List.length_append]; omega
      generalize pre ++ post = R at hR hlR
      suffices hs : F (h :: R) = D (n + 1) (sh k h :: R.map (sh k)) * F (units k (n + 1)) by rw [hs]; grind
      have c := hF.clear (h := h) (c := h k) (d := fun r => r k) R [] (by rw [List.length_nil, hlR]; omega)
      rw [List.nil_append, List.nil_append, hlR] at c
      have c' := (AltF.ofD (n + 1)).clear (h := sh k h) (c := h k) (d := fun r => r 0) (R.map (sh k)) [] (by rw [List.length_nil, List.length_map, hlR]; omega)
      rw [List.nil_append, List.nil_append, List.length_map, hlR, List.map_map] at c'
      have hpn : h k ^ n ≠ 0 := Int.pow_ne_zero hne
      refine Int.eq_of_mul_eq_mul_left hpn ?_
      rw [← c, ← Int.mul_assoc, ← c']
      -- the cleared rows
      have hR' : ∀ r ∈ R.map (fun r => cmb (h k) r (-(r k)) h), Sup (k + 1) n r := fun r hr => by
        obtain ⟨x, hx, rfl⟩ := List.mem_map.mp hr
        exact sup_clear hh (hR x hx)
      have hmap : (R.map ((fun r => cmb (h k) r (-(r 0)) (sh k h)) ∘ sh k)) = (R.map (fun r => cmb (h k) r (-(r k)) h)).map (sh k) := by
        rw [List.map_map]
        refine List.map_congr_left fun r _ => ?_
        funext j
        show h k * r (j + k) + -(r (0 + k)) * h (j + k) = h k * r (j + k) + -(r k) * h (j + k)
        rw [Nat.zero_add]
      rw [hmap]
      have hlR' : (R.map (fun r => cmb (h k) r (-(r k)) h)).length = n := by rw [List.length_map, hlR]
      generalize R.map (fun r => cmb (h k) r (-(r k)) h) = R' at hR' hlR'
      rw [D_first (fun x hx => by
        obtain ⟨r, hr, rfl⟩ := List.mem_map.mp hx
        show r (0 + k) = 0
        rw [Nat.zero_add]; exact hR' r hr k (by omega)), List.map_map]
      have ht : R'.map (tl ∘ sh k) = R'.map (sh (k + 1)) := List.map_congr_left fun r _ => tl_sh k r
      rw [ht]
      have hsh : sh k h 0 = h k := by show h (0 + k) = h k; rw [Nat.zero_add]
      rw [hsh]
      -- the first row
      have hd : h = cmb (h k) (unit k) 1 (rc k 0 h) := by
        funext j
        show h j = h k * (if j = k then 1 else 0) + 1 * (if j = k then 0 else h j)
        by_cases e : j = k
        · subst e; rw [if_pos rfl, if_pos rfl]; omega
        · rw [if_neg e, if_neg e]; omega
      have e1 := hF.lin [] R' (unit k) (rc k 0 h) (h k) 1 (by rw [List.length_nil, hlR']; omega)
      rw [← hd, List.nil_append, List.nil_append, List.nil_append] at e1
      have e2 := AltF.over n (k + 1) F hF (rc k 0 h :: R') (by rw [List.length_cons, hlR']) (fun r hr j hj => by
        rcases List.mem_cons.mp hr with rfl | hr
        · show (if j = k then 0 else h j) = 0
          by_cases e : j = k
          · rw [if_pos e]
          · rw [if_neg e]; exact hh j (by omega)
        · exact hR' r hr j hj)
      have e3 := AltF.uniq n (k + 1) (fun R => F (unit k :: R)) (hF.cons (unit k)) R' hlR' hR'
      rw [e1, e2, e3]
      show _ = _ * F (unit k :: units (k + 1) n)
      grind

/-- times a polynomial, falling -/
def cvR : List Int → Rw → Rw
  | [], _ => fun _ => 0
  | c :: l, f => fun j => c * f j + shr 1 (cvR l f) j
theorem shr_zero (f : Rw) : shr 0 f = f := by funext j; show (if j < 0 then 0 else f (j - 0)) = f j; rw [if_neg (by omega), Nat.sub_zero]
theorem shr_shr (a b : Nat) (f : Rw) : shr a (shr b f) = shr (a + b) f := by
  funext j
  show (if j < a then 0 else if j - a < b then 0 else f (j - a - b)) = if j < a + b then 0 else f (j - (a + b))
  by_cases h1 : j < a
  · rw [if_pos h1, if_pos (show j < a + b by omega)]
  · rw [if_neg h1]
    by_cases h2 : j - a < b
    · rw [if_pos h2, if_pos (show j < a + b by omega)]
    · rw [if_neg h2, if_neg (show ¬ j < a + b by omega)]
      congr 1; omega
theorem shr_cmb (k : Nat) (a : Int) (f : Rw) (b : Int) (g : Rw) : shr k (cmb a f b g) = cmb a (shr k f) b (shr k g) := by
  funext j
  show (if j < k then 0 else a * f (j - k) + b * g (j - k)) = a * (if j < k then 0 else f (j - k)) + b * (if j < k then 0 else g (j - k))
  by_cases h : j < k
  · rw [if_pos h, if_pos h, if_pos h]; simp
  · rw [if_neg h, if_neg h, if_neg h]
theorem cvR_cons (c : Int) (l : List Int) (f : Rw) : cvR (c :: l) f = cmb c f 1 (shr 1 (cvR l f)) := by
  funext j
  show c * f j + shr 1 (cvR l f) j = c * f j + 1 * shr 1 (cvR l f) j
  omega
theorem cvR_cmb (a : Int) (f : Rw) (b : Int) (g : Rw) : ∀ l, cvR l (cmb a f b g) = cmb a (cvR l f) b (cvR l g)
  | [] => by funext j; show 0 = a * 0 + b * 0; simp
  | c :: l => by
    rw [cvR_cons, cvR_cons, cvR_cons, cvR_cmb a f b g l, shr_cmb]
    funext j
    show c * (a * f j + b * g j) + 1 * (a * shr 1 (cvR l f) j + b * shr 1 (cvR l g) j) = a * (c * f j + 1 * shr 1 (cvR l f) j) + b * (c * g j + 1 * shr 1 (cvR l g) j)
    grind
theorem cvR_shr (k : Nat) (f : Rw) : ∀ l, cvR l (shr k f) = shr k (cvR l f)
  | [] => by funext j; show 0 = if j < k then 0 else 0; simp
  | c :: l => by
    rw [cvR_cons, cvR_cons, cvR_shr k f l, shr_cmb, shr_shr, shr_shr, Nat.add_comm]
theorem unit_shr (k : Nat) : unit k = shr k (unit 0) := by
  funext j
  show (if j = k then 1 else 0) = if j < k then 0 else if j - k = 0 then 1 else 0
  by_cases h1 : j < k
  · rw [if_pos h1, if_neg (show ¬ j = k by omega)]
  · rw [if_neg h1]
    by_cases h2 : j = k
    · rw [if_pos h2, if_pos (show j - k = 0 by omega)]
    · rw [if_neg h2, if_neg (show ¬ j - k = 0 by omega)]
theorem cvR_unit0 : ∀ l, cvR l (unit 0) = cf l
  | [] => by funext j; show 0 = cf [] j; rw [cf_nil]
  | c :: l => by
    rw [cvR_cons, cvR_unit0 l]
    funext j
    show c * (if j = 0 then 1 else 0) + 1 * (if j < 1 then 0 else cf l (j - 1)) = cf (c :: l) j
    cases j with
    | zero => rw [if_pos rfl, if_pos (by decide), cf_zero]; omega
    | succ j => rw [if_neg (by omega), if_neg (by omega), cf_succ]; simp
theorem cvR_unit (l : List Int) (k : Nat) : cvR l (unit k) = shr k (cf l) := by rw [unit_shr, cvR_shr, cvR_unit0]
theorem cvR_append (f : Rw) : ∀ p q : List Int, cvR (p ++ q) f = cmb 1 (cvR p f) 1 (shr p.length (cvR q f))
  | [], q => by
    rw [List.nil_append, List.length_nil, shr_zero]
    funext j; show _ = 1 * 0 + 1 * _; omega
  | c :: p, q => by
    rw [List.cons_append, cvR_cons, cvR_append f p q, cvR_cons, shr_cmb, shr_shr, List.length_cons, Nat.add_comm 1]
    funext j
    show c * f j + 1 * (1 * shr 1 (cvR p f) j + 1 * shr (p.length + 1) (cvR q f) j) = 1 * (c * f j + 1 * shr 1 (cvR p f) j) + 1 * shr (p.length + 1) (cvR q f) j
    omega
theorem rev_mul {b : List Int} (hb : b ≠ []) : ∀ a : List Int, a ≠ [] → cf (mulL a b).reverse = cvR a.reverse (cf b.reverse)
  | [x], _ => by
    have e : mulL [x] b = scL x b := by
      apply ext_cf
      · rw [len_mulL (by simp) hb, length_scL]; simp
      · intro k _; rw [cf_mulL, mulc_one', cf_scL]
    rw [e]
    funext j
    show _ = x * cf b.reverse j + shr 1 (cvR [] (cf b.reverse)) j
    have z : shr 1 (cvR [] (cf b.reverse)) j = 0 := by show (if j < 1 then 0 else 0) = (0 : Int); simp
    rw [z, cf_rev, cf_rev, length_scL]
    by_cases h : j < b.length
    · rw [if_pos h, if_pos h, cf_scL]; omega
    · rw [if_neg h, if_neg h]; simp
  | x :: y :: a, _ => by
    have ih := rev_mul hb (y :: a) (by simp)
    have hbl := List.length_pos_iff.mpr hb
    have l1 := len_mulL (a := x :: y :: a) (b := b) (by simp) hb
    have l2 := len_mulL (a := y :: a) (b := b) (by simp) hb
    rw [List.reverse_cons, cvR_append, ← ih, List.length_reverse]
    generalize hA : y :: a = A at *
    have hAl : 1 ≤ A.length := by rw [← hA, List.length_cons]; omega
    rw [List.length_cons] at l1
    funext j
    show _ = 1 * cf (mulL A b).reverse j + 1 * shr A.length (cvR [x] (cf b.reverse)) j
    have e3 : shr A.length (cvR [x] (cf b.reverse)) j = if j < A.length then 0 else x * cf b.reverse (j - A.length) := by
      show (if j < A.length then 0 else x * cf b.reverse (j - A.length) + (if j - A.length < 1 then 0 else 0)) = _
      simp
    rw [e3, cf_rev, cf_rev, l1, l2]
    by_cases h : j < A.length + 1 + b.length - 1
    · rw [if_pos h, cf_mulL, mulc_cons]
      have e4 : x * cf b (A.length + 1 + b.length - 1 - 1 - j) = if j < A.length then 0 else x * cf b.reverse (j - A.length) := by
        by_cases h1 : j < A.length
        · rw [if_pos h1, cf_ge (l := b) (by omega), Int.mul_zero]
        · rw [if_neg h1, cf_rev, if_pos (show j - A.length < b.length by omega)]
          congr 2; omega
      rw [e4]
      have e5 : up (mulc A b) (A.length + 1 + b.length - 1 - 1 - j) = if j < A.length + b.length - 1 then cf (mulL A b) (A.length + b.length - 1 - 1 - j) else 0 := by
        unfold up
        by_cases h2 : j < A.length + b.length - 1
        · rw [if_pos h2, if_neg (show ¬ A.length + 1 + b.length - 1 - 1 - j = 0 by omega), cf_mulL]
          congr 1; omega
        · rw [if_neg h2, if_pos (show A.length + 1 + b.length - 1 - 1 - j = 0 by omega)]
      rw [e5]; omega
    · rw [if_neg h, if_neg (show ¬ j < A.length + b.length - 1 by omega), if_neg (show ¬ j < A.length by omega), cf_rev, if_neg (show ¬ j - A.length < b.length by omega)]; simp
/-- a row that is a sum of others counts for nothing -/
theorem D_absorb {n : Nat} {A rest : List Rw} {f : Rw} : ∀ (l : List Int) (k : Nat), A.length + 1 + rest.length = n → (∀ i, i < l.length → shr (k + i) f ∈ A ∨ shr (k + i) f ∈ rest) → D n (A ++ shr k (cvR l f) :: rest) = 0
  | [], k, hl, _ => (AltF.ofD n).zero hl (fun j => by show (if j < k then 0 else 0) = (0 : Int); simp)
  | c :: l, k, hl, h => by
    have e : shr k (cvR (c :: l) f) = cmb c (shr k f) 1 (shr (k + 1) (cvR l f)) := by rw [cvR_cons, shr_cmb, shr_shr]
    rw [e, D_lin n A rest _ _ c 1 hl, D_absorb l (k + 1) hl (fun i hi => by have := h (i + 1) (by rw [List.length_cons]; omega); rw [show k + 1 + i = k + (i + 1) by omega]; exact this)]
    have z : D n (A ++ shr k f :: rest) = 0 := by
      rcases h 0 (by rw [List.length_cons]; omega) with h0 | h0
      · obtain ⟨p, q, rfl⟩ := List.append_of_mem h0
        rw [Nat.add_zero]
        have := D_dup (n := n) (h := shr k f) (q := p) (pre := q) (post := rest) (by rw [List.length_append, List.length_cons] at hl; omega)
        simp only [List.append_assoc, List.cons_append] at this ⊢
        exact this
      · obtain ⟨p, q, rfl⟩ := List.append_of_mem h0
        rw [Nat.add_zero]
        have := D_dup (n := n) (h := shr k f) (q := A) (pre := p) (post := q) (by rw [List.length_append, List.length_cons] at hl; omega)
        simp only [List.append_assoc, List.cons_append] at this ⊢
        exact this
    rw [z]; omega
theorem sh_shr (a k : Nat) (f : Rw) : sh a (shr (a + k) f) = shr k f := by
  funext j
  show (if j + a < a + k then 0 else f (j + a - (a + k))) = if j < k then 0 else f (j - k)
  by_cases h : j < k
  · rw [if_pos h, if_pos (show j + a < a + k by omega)]
  · rw [if_neg h, if_neg (show ¬ j + a < a + k by omega)]
    congr 1; omega
theorem slid_succ (f : Rw) (n : Nat) : slidF f (n + 1) = f :: (slidF f n).map (shr 1) := by
  unfold slidF
  rw [List.range_succ_eq_map, List.map_cons, List.map_map, List.map_map, shr_zero]
  congr 1
  refine List.map_congr_left fun k _ => ?_
  show shr (k + 1) f = shr 1 (shr k f)
  rw [shr_shr, Nat.add_comm]
theorem tl_shr1 (f : Rw) : tl (shr 1 f) = f := by
  funext j
  show (if j + 1 < 1 then 0 else f (j + 1 - 1)) = f j
  rw [if_neg (by omega)]; rfl
/-- rows that slide ahead of all others -/
theorem D_top {f : Rw} {q : Nat} : ∀ (n : Nat) (X : List Rw), (∀ x ∈ X, ∀ j, j < n → x j = 0) → D (n + q) (slidF f n ++ X) = f 0 ^ n * D q (X.map (sh n))
  | 0, X, _ => by
    have e : X.map (sh 0) = X := by
      have : X.map (sh 0) = X.map id := List.map_congr_left fun x _ => rfl
      rw [this, List.map_id]
    show D (0 + q) ([] ++ X) = _
    rw [List.nil_append, Nat.zero_add, e]; simp
  | n + 1, X, h => by
    rw [slid_succ, List.cons_append]
    have hn : n + 1 + q = n + q + 1 := by omega
    rw [hn, D_first (fun x hx => by
      rcases List.mem_append.mp hx with z | z
      · obtain ⟨y, _, rfl⟩ := List.mem_map.mp z
        rfl
      · exact h x z 0 (by omega)), List.map_append, List.map_map]
    have e1 : (slidF f n).map (tl ∘ shr 1) = slidF f n := by
      have : (slidF f n).map (tl ∘ shr 1) = (slidF f n).map id := List.map_congr_left fun x _ => tl_shr1 x
      rw [this, List.map_id]
    rw [e1, D_top n (X.map tl) (fun x hx j hj => by
      obtain ⟨y, hy, rfl⟩ := List.mem_map.mp hx
      exact h y hy (j + 1) (by omega)), List.map_map]
    have e2 : X.map (sh n ∘ tl) = X.map (sh (n + 1)) := List.map_congr_left fun x _ => by
      funext j
      show x (j + n + 1) = x (j + (n + 1))
      congr 1
    rw [e2, Int.pow_succ]; grind
def slidB (f : Rw) (a n : Nat) : List Rw := (List.range n).map fun t => shr (a + t) f
theorem slid_split (f : Rw) (a n : Nat) : slidF f (a + n) = slidF f a ++ slidB f a n := by
  unfold slidF slidB
  rw [List.range_add, List.map_append, List.map_map]; rfl
theorem len_slidB (f : Rw) (a n : Nat) : (slidB f a n).length = n := by unfold slidB; simp
theorem slidB_sh (f : Rw) (a n : Nat) : (slidB f a n).map (sh a) = slidF f n := by
  unfold slidB slidF
  rw [List.map_map]
  exact List.map_congr_left fun t _ => sh_shr a t f
theorem slidF_cv (l : List Int) (f : Rw) (n : Nat) : (slidF f n).map (cvR l) = slidF (cvR l f) n := by
  unfold slidF
  rw [List.map_map]
  exact List.map_congr_left fun k _ => cvR_shr k f l
theorem units_cv (l : List Int) : ∀ (n k : Nat), (units k n).map (cvR l) = (List.range' k n).map fun i => shr i (cf l)
  | 0, _ => rfl
  | n + 1, k => by
    show cvR l (unit k) :: (units (k + 1) n).map (cvR l) = _
    rw [units_cv l n (k + 1), cvR_unit, List.range'_succ, List.map_cons]
theorem units_slid (l : List Int) (n : Nat) : (units 0 n).map (cvR l) = slidF (cf l) n := by
  rw [units_cv]; unfold slidF; rw [List.range_eq_range']
/-- times a polynomial, carried by rows behind -/
theorem D_carry {l : List Int} {c : Int} {f : Rw} {N r : Nat} (hr : l.length = r) {B : List Rw} : ∀ (n : Nat) (s : Nat), n + s + r + B.length = N → D N (slidF (cvR (c :: l) f) n ++ slidB f n (s + r) ++ B) = c ^ n * D N (slidF f (n + (s + r)) ++ B)
  | 0, s, _ => by
    rw [slid_split f 0 (s + r)]
    show D N ([] ++ slidB f 0 (s + r) ++ B) = c ^ 0 * D N ([] ++ slidB f 0 (s + r) ++ B)
    simp
  | n + 1, s, hN => by
    have e1 : slidF (cvR (c :: l) f) (n + 1) = slidF (cvR (c :: l) f) n ++ [shr n (cvR (c :: l) f)] := by
      rw [slid_split (cvR (c :: l) f) n 1]; rfl
    have e2 : shr n (cvR (c :: l) f) = cmb c (shr n f) 1 (shr (n + 1) (cvR l f)) := by rw [cvR_cons, shr_cmb, shr_shr]
    have ih := D_carry (l := l) (c := c) (f := f) (N := N) (r := r) hr (B := B) n (s + 1) (by omega)
    have e3 : slidB f n (s + 1 + r) = shr n f :: slidB f (n + 1) (s + r) := by
      unfold slidB
      rw [show s + 1 + r = (s + r) + 1 by omega, List.range_succ_eq_map, List.map_cons, List.map_map]
      congr 1
      refine List.map_congr_left fun t _ => ?_
      show shr (n + (t + 1)) f = shr (n + 1 + t) f
      rw [show n + (t + 1) = n + 1 + t by omega]
    have ab := D_absorb (n := N) (A := slidF (cvR (c :: l) f) n) (rest := slidB f (n + 1) (s + r) ++ B) (f := f) l (n + 1) (by rw [len_slidF, List.length_append, len_slidB]; omega) (fun i hi => .inr (List.mem_append_left _ (List.mem_map.mpr ⟨i, List.mem_range.mpr (by omega), rfl⟩)))
    have li := D_lin N (slidF (cvR (c :: l) f) n) (slidB f (n + 1) (s + r) ++ B) (shr n f) (shr (n + 1) (cvR l f)) c 1 (by rw [len_slidF, List.length_append, len_slidB]; omega)
    rw [ab] at li
    rw [e3] at ih
    rw [e1, e2]
    simp only [List.append_assoc, List.cons_append, List.nil_append] at ih li ⊢
    rw [li, ih, Int.pow_succ, show n + (s + 1 + r) = n + 1 + (s + r) by omega]
    grind
theorem mulL_comm {a b : List Int} : mulL a b = mulL b a := by
  by_cases ha : a = []
  · subst ha; unfold mulL; rw [if_pos (.inl rfl), if_pos (.inr rfl)]
  · by_cases hb : b = []
    · subst hb; unfold mulL; rw [if_pos (.inr rfl), if_pos (.inl rfl)]
    · apply ext_cf
      · rw [len_mulL ha hb, len_mulL hb ha]; omega
      · intro k _; rw [cf_mulL, cf_mulL, mulc_comm]
/-- the resultant with a product -/
theorem resL_prod {p q r : List Int} (hp : p ≠ []) (hq : q ≠ []) (hr : r ≠ []) (h0 : lastI r ≠ 0) : resL p (mulL q r) = resL p q * resL p r := by
  have hpl := List.length_pos_iff.mpr hp
  have hql := List.length_pos_iff.mpr hq
  have hrl := List.length_pos_iff.mpr hr
  obtain ⟨m, em⟩ : ∃ m, p.length = m + 1 := ⟨p.length - 1, by omega⟩
  obtain ⟨n, en⟩ : ∃ n, q.length = n + 1 := ⟨q.length - 1, by omega⟩
  obtain ⟨t, et⟩ : ∃ t, r.length = t + 1 := ⟨r.length - 1, by omega⟩
  have hm : p.length - 1 = m := by omega
  have hn : q.length - 1 = n := by omega
  have ht : r.length - 1 = t := by omega
  have hqr : (mulL q r).length - 1 = n + t := by rw [len_mulL hq hr]; omega
  -- the last of r first
  obtain ⟨c, l, el⟩ : ∃ c l, r.reverse = c :: l := by
    cases e : r.reverse with
    | nil => exact absurd (List.reverse_eq_nil_iff.mp e) hr
    | cons c l => exact ⟨c, l, rfl⟩
  have hc : c = lastI r := by
    have e1 : cf r.reverse 0 = c := by rw [el]; rfl
    rw [← e1, cf_rev, if_pos (by omega)]; rfl
  have hll : l.length = t := by
    have := congrArg List.length el
    rw [List.length_reverse, List.length_cons] at this
    omega
  have hc0 : c ≠ 0 := by rw [hc]; exact h0
  let N := n + m + t
  let C := slidB (cf p.reverse) n t
  let F : List Rw → Int := fun us => D N (us.map (cvR r.reverse) ++ C)
  have hCl : C.length = t := len_slidB _ _ _
  have hF : AltF (n + m) F := ⟨fun pre post x y a b hl => by
      show D N ((pre ++ cmb a x b y :: post).map (cvR r.reverse) ++ C) = _
      have := D_lin N (pre.map (cvR r.reverse)) (post.map (cvR r.reverse) ++ C) (cvR r.reverse x) (cvR r.reverse y) a b (by rw [List.length_map, List.length_append, List.length_map, hCl]; show _ = n + m + t; omega)
      rw [← cvR_cmb] at this
      show _ = a * D N ((pre ++ x :: post).map (cvR r.reverse) ++ C) + b * D N ((pre ++ y :: post).map (cvR r.reverse) ++ C)
      simp only [List.map_append, List.map_cons, List.append_assoc, List.cons_append] at this ⊢
      exact this, fun pre post x hl => by
      show D N ((pre ++ x :: x :: post).map (cvR r.reverse) ++ C) = 0
      have := D_alt N (pre.map (cvR r.reverse)) (post.map (cvR r.reverse) ++ C) (cvR r.reverse x) (by rw [List.length_map, List.length_append, List.length_map, hCl]; show _ = n + m + t; omega)
      simp only [List.map_append, List.map_cons, List.append_assoc, List.cons_append] at this ⊢
      exact this⟩
  have un := AltF.uniq (n + m) 0 F hF (syl (cf p.reverse) (cf q.reverse) n m) (by unfold syl; rw [List.length_append, len_slidF, len_slidF]) (fun x hx j hj => by
    have hj' : n + m ≤ j := by omega
    rcases List.mem_append.mp hx with z | z
    · obtain ⟨k, hk, rfl⟩ := List.mem_map.mp z
      have := List.mem_range.mp hk
      show (if j < k then 0 else cf p.reverse (j - k)) = 0
      rw [if_neg (by omega)]; exact rev_zero _ (by omega)
    · obtain ⟨k, hk, rfl⟩ := List.mem_map.mp z
      have := List.mem_range.mp hk
      show (if j < k then 0 else cf q.reverse (j - k)) = 0
      rw [if_neg (by omega)]; exact rev_zero _ (by omega))
  have e0 : (syl (cf p.reverse) (cf q.reverse) n m).map (sh 0) = syl (cf p.reverse) (cf q.reverse) n m := by
    have : (syl (cf p.reverse) (cf q.reverse) n m).map (sh 0) = (syl (cf p.reverse) (cf q.reverse) n m).map id := List.map_congr_left fun x _ => rfl
    rw [this, List.map_id]
  rw [e0] at un
  -- the units
  have eU : F (units 0 (n + m)) = c ^ n * ((-1) ^ (m * t) * resL p r) := by
    show D N ((units 0 (n + m)).map (cvR r.reverse) ++ C) = _
    rw [units_slid, slid_split (cf r.reverse) n m, List.append_assoc]
    have hN : N = n + (m + t) := by show n + m + t = _; omega
    rw [hN, D_top n _ (fun x hx j hj => by
      rcases List.mem_append.mp hx with z | z
      · obtain ⟨k, _, rfl⟩ := List.mem_map.mp z
        show (if j < n + k then 0 else _) = (0 : Int)
        rw [if_pos (by omega)]
      · obtain ⟨k, _, rfl⟩ := List.mem_map.mp z
        show (if j < n + k then 0 else _) = (0 : Int)
        rw [if_pos (by omega)]), List.map_append, slidB_sh]
    have : (slidB (cf p.reverse) n t).map (sh n) = slidF (cf p.reverse) t := slidB_sh _ _ _
    rw [show C.map (sh n) = slidF (cf p.reverse) t from this]
    have h1 : cf r.reverse 0 = c := by rw [el]; rfl
    rw [h1]
    have h2 : D (m + t) (slidF (cf r.reverse) m ++ slidF (cf p.reverse) t) = resL r p := by unfold resL syl; rw [hm, ht]
    rw [h2, resL_swap p r, hm, ht]
  -- the other way
  have eV : F (syl (cf p.reverse) (cf q.reverse) n m) = (-1) ^ (m * t) * (c ^ n * resL p (mulL q r)) := by
    show D N ((syl (cf p.reverse) (cf q.reverse) n m).map (cvR r.reverse) ++ C) = _
    unfold syl
    rw [List.map_append, slidF_cv, slidF_cv]
    have hqr2 : cvR r.reverse (cf q.reverse) = cf (mulL q r).reverse := by rw [mulL_comm, rev_mul hq r hr]
    rw [hqr2, el]
    have b1 := D_blocks (n := N) C (slidF (cvR (c :: l) (cf p.reverse)) n) (slidF (cf (mulL q r).reverse) m) (by rw [len_slidF, len_slidF, hCl])
    rw [len_slidF, hCl] at b1
    rw [b1]
    have b2 := D_carry (l := l) (c := c) (f := cf p.reverse) (N := N) (r := t) hll (B := slidF (cf (mulL q r).reverse) m) n 0 (by rw [len_slidF]; show n + 0 + t + m = n + m + t; omega)
    rw [Nat.zero_add] at b2
    rw [b2]
    have h3 : D N (slidF (cf p.reverse) (n + t) ++ slidF (cf (mulL q r).reverse) m) = resL p (mulL q r) := by
      unfold resL syl
      rw [hm, hqr]
      show D (n + m + t) _ = _
      rw [show n + m + t = n + t + m by omega]
    rw [h3]
  rw [eU, eV] at un
  have h4 : D (n + m) (syl (cf p.reverse) (cf q.reverse) n m) = resL p q := by unfold resL; rw [hm, hn]
  rw [h4] at un
  have hs : ((-1 : Int) ^ (m * t)) ≠ 0 := Int.pow_ne_zero (by decide)
  have hcn : c ^ n ≠ 0 := Int.pow_ne_zero hc0
  refine Int.eq_of_mul_eq_mul_left (Int.mul_ne_zero hs hcn) ?_
  grind

theorem neg_pow2 (k : Nat) : (-1 : Int) ^ k * (-1) ^ k = 1 := by
  induction k with
  | zero => rfl
  | succ k ih => rw [Int.pow_succ]; grind
theorem resL_prod_left {p q r : List Int} (hp : p ≠ []) (hq : q ≠ []) (hr : r ≠ []) (h0 : lastI p ≠ 0) : resL (mulL r p) q = resL r q * resL p q := by
  have hpl := List.length_pos_iff.mpr hp
  have hrl := List.length_pos_iff.mpr hr
  have e1 := resL_swap q (mulL r p)
  have e2 := resL_swap r q
  have e3 := resL_swap p q
  rw [resL_prod hq hr hp h0, e2, e3, len_mulL hr hp] at e1
  rw [e1]
  have hx : r.length + p.length - 1 - 1 = (r.length - 1) + (p.length - 1) := by omega
  rw [hx, Nat.mul_add, Int.pow_add, Nat.mul_comm (q.length - 1), Nat.mul_comm (q.length - 1)]
  have a1 := neg_pow2 ((r.length - 1) * (q.length - 1))
  have a2 := neg_pow2 ((p.length - 1) * (q.length - 1))
  generalize (-1 : Int) ^ ((r.length - 1) * (q.length - 1)) = x at *
  generalize (-1 : Int) ^ ((p.length - 1) * (q.length - 1)) = y at *
  have : x * y * (x * resL r q * (y * resL p q)) = (x * x) * (y * y) * (resL r q * resL p q) := by grind
  rw [this, a1, a2]; omega
theorem resL_self {f : List Int} (h : 2 ≤ f.length) : resL f f = 0 := by
  unfold resL syl
  obtain ⟨n, hn⟩ : ∃ n, f.length - 1 = n + 1 := ⟨f.length - 2, by omega⟩
  rw [hn]
  have e := slid_succ (cf f.reverse) n
  have := D_dup (n := n + 1 + (n + 1)) (h := cf f.reverse) (q := []) (pre := (slidF (cf f.reverse) n).map (shr 1)) (post := (slidF (cf f.reverse) n).map (shr 1)) (by rw [List.length_map, len_slidF, List.length_nil]; omega)
  rw [e]
  exact this
theorem resL_common {p q f : List Int} (hp : p ≠ []) (hq : q ≠ []) (hf : 2 ≤ f.length) (h0 : lastI f ≠ 0) : resL (mulL p f) (mulL q f) = 0 := by
  have hf' : f ≠ [] := fun z => by rw [z] at hf; simp at hf
  have hpf : mulL p f ≠ [] := fun z => by
    have := len_mulL hp hf'
    rw [z, List.length_nil] at this
    have := List.length_pos_iff.mpr hp
    omega
  rw [resL_prod hpf hq hf' h0, resL_prod_left hf' hf' hp h0, resL_self hf]; simp
theorem D_rows {N : Nat} {A : List Rw} {u v : Nat → Rw} : ∀ (ks : List Nat) (q : List Rw), (∀ k ∈ ks, ∀ q' post : List Rw, A.length + q'.length + 1 + post.length = N → D N (A ++ q' ++ u k :: post) = 0) → A.length + q.length + ks.length = N → D N (A ++ q ++ ks.map fun k => cmb 1 (u k) 1 (v k)) = D N (A ++ q ++ ks.map v)
  | [], _, _, _ => rfl
  | k :: ks, q, h, hl => by
    rw [List.length_cons] at hl
    have e1 := D_lin N (A ++ q) (ks.map fun k => cmb 1 (u k) 1 (v k)) (u k) (v k) 1 1 (by rw [List.length_append, List.length_map]; omega)
    have e2 := h k (List.mem_cons_self ..) q (ks.map fun k => cmb 1 (u k) 1 (v k)) (by rw [List.length_map]; omega)
    have ih := D_rows (N := N) (A := A) (u := u) (v := v) ks (q ++ [v k]) (fun k' hk' => h k' (List.mem_cons_of_mem _ hk')) (by rw [List.length_append]; show A.length + (q.length + 1) + ks.length = N; omega)
    rw [e2] at e1
    rw [List.map_cons, List.map_cons, e1]
    simp only [List.append_assoc, List.cons_append, List.nil_append] at ih ⊢
    rw [ih]; omega
theorem resL_add {p h low high : List Int} (hp : 2 ≤ p.length) (hh : h ≠ []) (hlow : low ≠ []) (hll : low.length < p.length) (hlen : high.length = (mulL p h).length) (hcf : ∀ k, cf high k = mulc p h k + cf low k) : resL p high * lastI p ^ (low.length - 1) = resL p low * lastI p ^ (high.length - 1) := by
  have hp' : p ≠ [] := fun z => by rw [z] at hp; simp at hp
  have hhl := List.length_pos_iff.mpr hh
  have hlp := List.length_pos_iff.mpr hlow
  have hpl := len_mulL hp' hh
  obtain ⟨m, em⟩ : ∃ m, p.length = m + 1 := ⟨p.length - 1, by omega⟩
  obtain ⟨l, el⟩ : ∃ l, low.length = l + 1 := ⟨low.length - 1, by omega⟩
  obtain ⟨t, et⟩ : ∃ t, h.length = t + 1 := ⟨h.length - 1, by omega⟩
  have hm : p.length - 1 = m := by omega
  have hl : low.length - 1 = l := by omega
  have hd : high.length = m + t + 1 := by rw [hlen, hpl]; omega
  have hd1 : high.length - 1 = m + t := by omega
  obtain ⟨s, es⟩ : ∃ s, m + t = s + l := ⟨m + t - l, by omega⟩
  have hf : cf high.reverse = cmb 1 (cvR h.reverse (cf p.reverse)) 1 (shr s (cf low.reverse)) := by
    rw [← rev_mul hp' h hh]
    have hl2 : (mulL h p).length = m + t + 1 := by rw [len_mulL hh hp']; omega
    funext j
    show _ = 1 * cf (mulL h p).reverse j + 1 * (if j < s then 0 else cf low.reverse (j - s))
    rw [cf_rev, cf_rev, hd, hl2]
    by_cases hj : j < m + t + 1
    · rw [if_pos hj, if_pos hj, hcf, cf_mulL, mulc_comm]
      by_cases hs : j < s
      · rw [if_pos hs, cf_ge (l := low) (by omega)]; omega
      · rw [if_neg hs, cf_rev, if_pos (show j - s < low.length by omega)]
        have : low.length - 1 - (j - s) = m + t + 1 - 1 - j := by omega
        rw [this]; omega
    · rw [if_neg hj, if_neg hj, if_neg (show ¬ j < s by omega), cf_rev, if_neg (show ¬ j - s < low.length by omega)]; simp
  have e1 : resL p high = lastI p ^ s * resL p low := by
    unfold resL syl
    rw [hm, hd1, hl]
    have er : slidF (cf high.reverse) m = (List.range m).map fun k => cmb 1 (shr k (cvR h.reverse (cf p.reverse))) 1 (shr (s + k) (cf low.reverse)) := by
      unfold slidF
      refine List.map_congr_left fun k _ => ?_
      rw [hf, shr_cmb, shr_shr, Nat.add_comm]
    rw [er]
    have b := D_rows (N := m + t + m) (A := slidF (cf p.reverse) (m + t)) (u := fun k => shr k (cvR h.reverse (cf p.reverse))) (v := fun k => shr (s + k) (cf low.reverse)) (List.range m) [] (fun k hk q' post hN => by
      have hk' := List.mem_range.mp hk
      have := D_absorb (n := m + t + m) (A := slidF (cf p.reverse) (m + t) ++ q') (rest := post) (f := cf p.reverse) h.reverse k (by rw [List.length_append]; omega) (fun i hi => .inl (List.mem_append_left _ (List.mem_map.mpr ⟨k + i, List.mem_range.mpr (by rw [List.length_reverse] at hi; omega), rfl⟩)))
      exact this) (by rw [len_slidF, List.length_range, List.length_nil]; omega)
    rw [List.append_nil] at b
    rw [b]
    have e2 : (List.range m).map (fun k => shr (s + k) (cf low.reverse)) = slidB (cf low.reverse) s m := rfl
    rw [e2, es, slid_split (cf p.reverse) s l, List.append_assoc, show s + l + m = s + (l + m) by omega, D_top s _ (fun x hx j hj => by
      rcases List.mem_append.mp hx with z | z
      · obtain ⟨k, _, rfl⟩ := List.mem_map.mp z
        show (if j < s + k then 0 else _) = (0 : Int)
        rw [if_pos (by omega)]
      · obtain ⟨k, _, rfl⟩ := List.mem_map.mp z
        show (if j < s + k then 0 else _) = (0 : Int)
        rw [if_pos (by omega)]), List.map_append, slidB_sh, slidB_sh]
    have h1 : cf p.reverse 0 = lastI p := by rw [cf_rev, if_pos (by omega)]; rfl
    rw [h1]
  rw [e1, hl, hd1, es, Int.pow_add]
  grind
end RM

/-! Polynomials through values, sums and products of known roots (behind MathFac, MathRes, MathChg) -/
namespace RM
def bb : Nat → Nat → Nat
  | 0 => fun _ => 1
  | t + 1 => fun i => Nat.rec 1 (fun i r => bb t (i + 1) + r) i
theorem bb_zero (i : Nat) : bb 0 i = 1 := rfl
theorem bb_one (t : Nat) : bb t 1 = t + 1 := by
  induction t with
  | zero => rfl
  | succ t ih => show bb t 1 + bb (t + 1) 0 = _; rw [ih]; rfl
theorem bb_one' (i : Nat) : bb 1 i = i + 1 := by
  induction i with
  | zero => rfl
  | succ i ih => show bb 0 (i + 1) + bb 1 i = _; rw [ih]; show 1 + _ = _; omega
theorem bb_eq : ∀ (t i : Nat), (t + 1) * bb (t + 1) i = (i + 1) * bb t (i + 1)
  | t, 0 => by rw [bb_one]; show (t + 1) * 1 = 1 * (t + 1); omega
  | 0, i + 1 => by rw [bb_one', bb_zero]; omega
  | t + 1, i + 1 => by
    have h1 := bb_eq (t + 1) i
    have h2 := bb_eq t (i + 1)
    show (t + 1 + 1) * (bb (t + 1) (i + 1) + bb (t + 2) i) = (i + 1 + 1) * (bb t (i + 2) + bb (t + 1) (i + 1))
    rw [Nat.mul_add, Nat.mul_add, h1, ← h2]
    grind
def ff : Nat → Int → Int
  | 0, _ => 1
  | t + 1, x => ff t x * (x - t)
theorem ff_up (x : Int) : ∀ t, ff (t + 1) (x + 1) = (x + 1) * ff t x
  | 0 => by show 1 * (x + 1 - (0 : Nat)) = (x + 1) * 1; simp
  | t + 1 => by
    have ih := ff_up x t
    show ff (t + 1) (x + 1) * (x + 1 - ((t + 1 : Nat) : Int)) = (x + 1) * (ff t x * (x - t))
    rw [ih]
    have : x + 1 - ((t + 1 : Nat) : Int) = x - t := by omega
    rw [this]; grind
theorem ff_diff (x : Int) (t : Nat) : ff (t + 1) (x + 1) - ff (t + 1) x = (t + 1 : Nat) * ff t x := by
  rw [ff_up]
  show (x + 1) * ff t x - ff t x * (x - t) = _
  have : ((t + 1 : Nat) : Int) = t + 1 := by omega
  rw [this]; grind
theorem ff_zero : ∀ t, ff (t + 1) 0 = 0
  | 0 => rfl
  | t + 1 => by show ff (t + 1) 0 * _ = 0; rw [ff_zero t, Int.zero_mul]
def SF (t : Nat) (x : Int) : List Int → Int
  | [] => 0
  | c :: cs => c * ff t x + SF (t + 1) x cs
def dI (i t : Nat) : List Int → List Int
  | [] => []
  | c :: cs => c * (bb t i : Nat) :: dI i (t + 1) cs
theorem SF_zero (t : Nat) : ∀ cs, SF (t + 1) 0 cs = 0
  | [] => rfl
  | c :: cs => by show c * ff (t + 1) 0 + SF (t + 1 + 1) 0 cs = 0; rw [ff_zero, SF_zero (t + 1) cs]; simp
theorem SF_diff (i : Nat) (x : Int) : ∀ (cs : List Int) (t : Nat), SF (t + 1) (x + 1) (dI i (t + 1) cs) - SF (t + 1) x (dI i (t + 1) cs) = (i + 1 : Nat) * SF t x (dI (i + 1) t cs)
  | [], t => by show (0 : Int) - 0 = _ * 0; simp
  | c :: cs, t => by
    have ih := SF_diff i x cs (t + 1)
    show c * (bb (t + 1) i : Nat) * ff (t + 1) (x + 1) + SF (t + 1 + 1) (x + 1) (dI i (t + 1 + 1) cs) - (c * (bb (t + 1) i : Nat) * ff (t + 1) x + SF (t + 1 + 1) x (dI i (t + 1 + 1) cs)) = (i + 1 : Nat) * (c * (bb t (i + 1) : Nat) * ff t x + SF (t + 1) x (dI (i + 1) (t + 1) cs))
    have h1 := ff_diff x t
    have h2 : ((t + 1 : Nat) : Int) * (bb (t + 1) i : Nat) = ((i + 1 : Nat) : Int) * (bb t (i + 1) : Nat) := by
      have := bb_eq t i
      exact_mod_cast this
    rw [Int.mul_add, ← ih]
    generalize ((bb (t + 1) i : Nat) : Int) = u at *
    generalize ((bb t (i + 1) : Nat) : Int) = v at *
    generalize ((t + 1 : Nat) : Int) = p at *
    generalize ((i + 1 : Nat) : Int) = q at *
    have h3 : c * u * (ff (t + 1) (x + 1) - ff (t + 1) x) = q * (c * v * ff t x) := by
      rw [h1]
      have : c * u * (p * ff t x) = c * (p * u) * ff t x := by grind
      rw [this, h2]; grind
    grind
def stepD (i : Nat) (left : List Int) : List Int := (List.range (left.length - 1)).map fun j => (cf left (j + 1) - cf left j) / ((i : Nat) : Int)
def vals (i : Nat) (cs : List Int) : List Int := (List.range cs.length).map fun j => SF 0 (j : Nat) (dI i 0 cs)
theorem vals_head (i : Nat) (c : Int) (cs : List Int) : cf (vals i (c :: cs)) 0 = c := by
  unfold vals
  rw [cf_map_range, if_pos (by simp)]
  show c * (bb 0 i : Nat) * 1 + SF 1 0 (dI i 1 cs) = c
  rw [bb_zero, SF_zero]; simp
theorem vals_step (i : Nat) (c : Int) (cs : List Int) : stepD (i + 1) (vals i (c :: cs)) = vals (i + 1) cs := by
  unfold stepD
  have hl : (vals i (c :: cs)).length = cs.length + 1 := by unfold vals; simp
  rw [hl]
  show (List.range cs.length).map _ = (List.range cs.length).map _
  refine List.map_congr_left fun j hj => ?_
  have hj' := List.mem_range.mp hj
  unfold vals
  rw [cf_map_range, cf_map_range, if_pos (by simp; omega), if_pos (by simp; omega)]
  have e : ((j + 1 : Nat) : Int) = (j : Int) + 1 := by omega
  rw [e]
  show (c * (bb 0 i : Nat) * 1 + SF 1 ((j : Int) + 1) (dI i 1 cs) - (c * (bb 0 i : Nat) * 1 + SF 1 (j : Int) (dI i 1 cs))) / ((i + 1 : Nat) : Int) = SF 0 (j : Int) (dI (i + 1) 0 cs)
  have h : SF 1 ((j : Int) + 1) (dI i 1 cs) - SF 1 (j : Int) (dI i 1 cs) = (i + 1 : Nat) * SF 0 (j : Int) (dI (i + 1) 0 cs) := SF_diff i (j : Int) cs 0
  have h2 : c * (bb 0 i : Nat) * 1 + SF 1 ((j : Int) + 1) (dI i 1 cs) - (c * (bb 0 i : Nat) * 1 + SF 1 (j : Int) (dI i 1 cs)) = (i + 1 : Nat) * SF 0 (j : Int) (dI (i + 1) 0 cs) := by
    rw [← h]; omega
  rw [h2]
  exact Int.mul_ediv_cancel_left _ (by omega)
/-- the leads by the steps -/
def leadsI : Nat → Nat → List Int → List Int
  | 0, _, _ => []
  | n + 1, i, left => cf left 0 :: leadsI n (i + 1) (stepD (i + 1) left)
theorem leads_vals : ∀ (cs : List Int) (i : Nat), leadsI cs.length i (vals i cs) = cs
  | [], _ => rfl
  | c :: cs, i => by
    show cf (vals i (c :: cs)) 0 :: leadsI cs.length (i + 1) (stepD (i + 1) (vals i (c :: cs))) = c :: cs
    rw [vals_head, vals_step, leads_vals cs (i + 1)]
def nc : Nat → Nat → List Int → List Int
  | _, 0, _ => []
  | k, n + 1, W => ev (k : Nat) W :: nc (k + 1) n (syn (k : Nat) W)
theorem len_nc : ∀ (n k : Nat) (W : List Int), (nc k n W).length = n
  | 0, _, _ => rfl
  | n + 1, k, W => by show (nc (k + 1) n (syn (k : Nat) W)).length + 1 = n + 1; rw [len_nc n (k + 1)]
theorem nc_ev (x : Int) : ∀ (n k : Nat) (W : List Int), W.length ≤ n → SF k x (nc k n W) = ff k x * ev x W
  | 0, k, W, h => by
    obtain rfl := List.length_eq_zero_iff.mp (Nat.le_zero.mp h)
    show (0 : Int) = _ * 0; simp
  | n + 1, k, W, h => by
    have hl := syn_len (k : Nat) W
    have ih := nc_ev x n (k + 1) (syn (k : Nat) W) (by omega)
    show ev (k : Nat) W * ff k x + SF (k + 1) x (nc (k + 1) n (syn (k : Nat) W)) = ff k x * ev x W
    rw [ih, syn_ev (k : Nat) x W]
    show _ + ff k x * (x - k) * ev x (syn (k : Nat) W) = _
    grind
theorem bb_t0 (t : Nat) : bb t 0 = 1 := by cases t <;> rfl
theorem dI_zero : ∀ (cs : List Int) (t : Nat), dI 0 t cs = cs
  | [], _ => rfl
  | c :: cs, t => by show c * (bb t 0 : Nat) :: dI 0 (t + 1) cs = _; rw [bb_t0, dI_zero cs (t + 1)]; simp
theorem vals_ev {W : List Int} {n : Nat} (h : W.length ≤ n) : vals 0 (nc 0 n W) = (List.range n).map fun j => ev (j : Nat) W := by
  unfold vals
  rw [len_nc]
  refine List.map_congr_left fun j _ => ?_
  rw [dI_zero, nc_ev _ n 0 W h]
  show 1 * _ = _; omega
def hornN : Nat → List Int → List Int
  | _, [] => []
  | k, c :: cs => addL (mulL (hornN (k + 1) cs) [-(k : Nat), 1]) (trim [c])
theorem mulc_two' (l : List Int) (x y : Int) (n : Nat) : mulc l [x, y] n = x * cf l n + y * up (cf l) n := by
  rw [mulc_comm, mulc_cons]
  congr 1
  unfold up
  by_cases h : n = 0
  · rw [if_pos h, if_pos h]; simp
  · rw [if_neg h, if_neg h, mulc_one']
theorem up_congr {f g : Nat → Int} (h : ∀ n, f n = g n) (n : Nat) : up f n = up g n := by unfold up; split; rfl; exact h _
theorem horn_nc : ∀ (n k : Nat) (W : List Int), W.length ≤ n → hornN k (nc k n W) = trim W
  | 0, k, W, h => by
    obtain rfl := List.length_eq_zero_iff.mp (Nat.le_zero.mp h)
    rfl
  | n + 1, k, W, h => by
    have hl := syn_len (k : Nat) W
    have ih := horn_nc n (k + 1) (syn (k : Nat) W) (by omega)
    show addL (mulL (hornN (k + 1) (nc (k + 1) n (syn (k : Nat) W))) [-(k : Nat), 1]) (trim [ev (k : Nat) W]) = trim W
    rw [ih]
    refine eq_of_cf (tr_trim _) (tr_trim _) fun m => ?_
    rw [cf_addL', cf_mulL, mulc_two', cf_trim, cf_trim, cf_trim, syn_cf (k : Nat) W m, up_congr (cf_trim _)]
    have : cf [ev (k : Nat) W] m = if m = 0 then ev (k : Nat) W else 0 := by
      cases m with
      | zero => rfl
      | succ m => rw [cf_succ, cf_nil, if_neg (by omega)]
    rw [this]; grind
/-- what the program makes of the values -/
theorem through_ok {W : List Int} {n : Nat} (h : W.length ≤ n) (ht : Tr W) : hornN 0 (leadsI n 0 ((List.range n).map fun j => ev (j : Nat) W)) = W := by
  have e := leads_vals (nc 0 n W) 0
  rw [len_nc, vals_ev h] at e
  rw [e, horn_nc n 0 W h, trim_of_tr ht]
/-- values in two numbers -/
theorem lv_snoc (t b v : Int) : ∀ l : List Int, lv t b (l ++ [v]) = lv t b l * b + v * t ^ l.length
  | [] => by show v * b ^ 0 + t * 0 = 0 * b + v * t ^ 0; simp
  | x :: l => by
    show x * b ^ (l ++ [v]).length + t * lv t b (l ++ [v]) = (x * b ^ l.length + t * lv t b l) * b + v * t ^ (l.length + 1)
    rw [lv_snoc t b v l, List.length_append, Int.pow_succ t]
    show x * b ^ (l.length + 1) + _ = _
    rw [Int.pow_succ]; grind
theorem wj_congr {a b : Int} {f g : Rw} : ∀ n, (∀ j, j ≤ n → f j = g j) → wj a b f n = wj a b g n
  | 0, h => h 0 (Nat.le_refl _)
  | n + 1, h => by
    show wj a b f n * a + f (n + 1) * b ^ (n + 1) = wj a b g n * a + g (n + 1) * b ^ (n + 1)
    rw [wj_congr n fun j hj => h j (by omega), h (n + 1) (Nat.le_refl _)]
theorem wj_lv (a b : Int) : ∀ l : List Int, l ≠ [] → wj a b (cf l.reverse) (l.length - 1) = lv a b l
  | [v], _ => by show v = v * b ^ 0 + a * 0; simp
  | v :: x :: l, _ => by
    have ih := wj_lv a b (x :: l) (by simp)
    generalize hA : x :: l = A at *
    have hl : 1 ≤ A.length := by rw [← hA, List.length_cons]; omega
    obtain ⟨n, hn⟩ : ∃ n, A.length = n + 1 := ⟨A.length - 1, by omega⟩
    rw [List.length_cons, hn]
    show wj a b (cf (v :: A).reverse) n * a + cf (v :: A).reverse (n + 1) * b ^ (n + 1) = v * b ^ A.length + a * lv a b A
    rw [List.reverse_cons]
    have e1 : wj a b (cf (A.reverse ++ [v])) n = wj a b (cf A.reverse) n := wj_congr n fun j hj => cf_append_left (by rw [List.length_reverse]; omega)
    have e2 : cf (A.reverse ++ [v]) (n + 1) = v := by
      have : n + 1 = A.reverse.length := by rw [List.length_reverse, hn]
      rw [this]; exact cf_last _ _
    have e3 : A.length - 1 = n := by omega
    rw [e3] at ih
    rw [e1, e2, ih, hn, Int.mul_comm (lv a b A)]; omega
theorem lv_mb (t u a b : Int) : ∀ (c : Int) (l : List Int), lv t u (mb a b c l) = c * u ^ l.length + (b * t - a * u) * lv t u l
  | c, [] => by show c * u ^ 0 + t * 0 = c * u ^ 0 + (b * t - a * u) * 0; simp
  | c, x :: l => by
    show (-a * x + c) * u ^ (mb a b (b * x) l).length + t * lv t u (mb a b (b * x) l) = c * u ^ (l.length + 1) + (b * t - a * u) * (x * u ^ l.length + t * lv t u l)
    rw [lv_mb t u a b (b * x) l, mb_len, Int.pow_succ]
    generalize u ^ l.length = p
    generalize lv t u l = h
    grind
theorem lv_mul (t u a b : Int) {l : List Int} (h : l ≠ []) : lv t u (mulL l [-a, b]) = (b * t - a * u) * lv t u l := by
  rw [mul_two h, lv_mb]; simp
def rootsL (s : Int) (ps : List (Int × Int)) : List Int := ps.foldl (fun l p => mulL l [-p.1, p.2]) [s]
theorem rootsL_snoc (s : Int) (ps : List (Int × Int)) (p : Int × Int) : rootsL s (ps ++ [p]) = mulL (rootsL s ps) [-p.1, p.2] := by unfold rootsL; rw [List.foldl_append]; rfl
theorem len_two {a b : Int} {l : List Int} (h : l ≠ []) : (mulL l [-a, b]).length = l.length + 1 := by rw [mul_two_len, if_neg h]
theorem rootsL_gen : ∀ (ps : List (Int × Int)) (l : List Int), l ≠ [] → ps.foldl (fun l p => mulL l [-p.1, p.2]) l ≠ [] ∧ (ps.foldl (fun l p => mulL l [-p.1, p.2]) l).length = l.length + ps.length
  | [], l, h => ⟨h, rfl⟩
  | p :: ps, l, h => by
    have e := len_two (a := p.1) (b := p.2) h
    have h' : mulL l [-p.1, p.2] ≠ [] := fun z => by rw [z] at e; simp at e
    obtain ⟨a, b⟩ := rootsL_gen ps (mulL l [-p.1, p.2]) h'
    exact ⟨a, by show (ps.foldl (fun l p => mulL l [-p.1, p.2]) (mulL l [-p.1, p.2])).length = _; rw [b, e, List.length_cons]; omega⟩
theorem rootsL_ne (s : Int) (ps : List (Int × Int)) : rootsL s ps ≠ [] := (rootsL_gen ps [s] (by simp)).1
theorem rootsL_len (s : Int) (ps : List (Int × Int)) : (rootsL s ps).length = ps.length + 1 := by
  have := (rootsL_gen ps [s] (by simp)).2
  unfold rootsL
  rw [this, List.length_singleton]; omega
def prI (f : Int × Int → Int) : List (Int × Int) → Int
  | [] => 1
  | p :: ps => f p * prI f ps
theorem prI_congr {f g : Int × Int → Int} : ∀ ps : List (Int × Int), (∀ p ∈ ps, f p = g p) → prI f ps = prI g ps
  | [], _ => rfl
  | p :: ps, h => by show f p * prI f ps = g p * prI g ps; rw [h p (List.mem_cons_self ..), prI_congr ps fun q hq => h q (List.mem_cons_of_mem _ hq)]
theorem prI_app (f : Int × Int → Int) : ∀ a b : List (Int × Int), prI f (a ++ b) = prI f a * prI f b
  | [], b => by show prI f b = 1 * prI f b; omega
  | p :: a, b => by show f p * prI f (a ++ b) = f p * prI f a * prI f b; rw [prI_app f a b, Int.mul_assoc]
theorem lv_roots (t u : Int) : ∀ (ps : List (Int × Int)) (l : List Int), l ≠ [] → lv t u (ps.foldl (fun l p => mulL l [-p.1, p.2]) l) = lv t u l * prI (fun p => p.2 * t - p.1 * u) ps
  | [], l, _ => by show _ = _ * 1; rw [Int.mul_one]; rfl
  | p :: ps, l, h => by
    have e := len_two (a := p.1) (b := p.2) h
    have h' : mulL l [-p.1, p.2] ≠ [] := fun z => by rw [z] at e; simp at e
    show lv t u (ps.foldl (fun l p => mulL l [-p.1, p.2]) (mulL l [-p.1, p.2])) = lv t u l * ((p.2 * t - p.1 * u) * prI _ ps)
    rw [lv_roots t u ps _ h', lv_mul t u p.1 p.2 h]; grind
theorem lv_rootsL (t u s : Int) (ps : List (Int × Int)) : lv t u (rootsL s ps) = s * prI (fun p => p.2 * t - p.1 * u) ps := by
  have := lv_roots t u ps [s] (by simp)
  unfold rootsL
  rw [this]
  have e : lv t u [s] = s := by show s * u ^ 0 + t * 0 = s; simp
  rw [e]
theorem res_roots {q : List Int} (hq : q ≠ []) : ∀ (ps : List (Int × Int)) (l : List Int), l ≠ [] → (∀ p ∈ ps, p.2 ≠ 0) → resL (ps.foldl (fun l p => mulL l [-p.1, p.2]) l) q = resL l q * prI (fun p => lv p.1 p.2 q) ps
  | [], l, _, _ => by show _ = _ * 1; rw [Int.mul_one]; rfl
  | p :: ps, l, h, hp => by
    have e := len_two (a := p.1) (b := p.2) h
    have h' : mulL l [-p.1, p.2] ≠ [] := fun z => by rw [z] at e; simp at e
    show resL (ps.foldl (fun l p => mulL l [-p.1, p.2]) (mulL l [-p.1, p.2])) q = resL l q * (lv p.1 p.2 q * prI _ ps)
    rw [res_roots hq ps _ h' (fun x hx => hp x (List.mem_cons_of_mem _ hx)), resL_mul (hp p (List.mem_cons_self ..)) h, wj_lv _ _ q hq]; grind
theorem res_rootsL {q : List Int} (hq : q ≠ []) (s : Int) (ps : List (Int × Int)) (hp : ∀ p ∈ ps, p.2 ≠ 0) : resL (rootsL s ps) q = s ^ (q.length - 1) * prI (fun p => lv p.1 p.2 q) ps := by
  have := res_roots hq ps [s] (by simp) hp
  rw [resL_const] at this
  exact this
theorem ev_rootsL (x s : Int) : ∀ (ps : List (Int × Int)) (l : List Int), ev x (ps.foldl (fun l p => mulL l [-p.1, p.2]) l) = ev x l * prI (fun p => p.2 * x - p.1) ps
  | [], l => by show _ = _ * 1; rw [Int.mul_one]; rfl
  | p :: ps, l => by
    show ev x (ps.foldl (fun l p => mulL l [-p.1, p.2]) (mulL l [-p.1, p.2])) = ev x l * ((p.2 * x - p.1) * prI _ ps)
    rw [ev_rootsL x s ps, ev_mul]
    have e : ev x [-p.1, p.2] = p.2 * x - p.1 := by show -p.1 + x * (p.2 + x * 0) = _; grind
    rw [e]; grind
theorem ev_roots (x s : Int) (ps : List (Int × Int)) : ev x (rootsL s ps) = s * prI (fun p => p.2 * x - p.1) ps := by
  have := ev_rootsL x s ps [s]
  unfold rootsL
  rw [this]
  have e : ev x [s] = s := by show s + x * 0 = s; simp
  rw [e]
theorem tr_rootsL : ∀ (ps : List (Int × Int)) (l : List Int), Tr l → (∀ p ∈ ps, p.2 ≠ 0) → Tr (ps.foldl (fun l p => mulL l [-p.1, p.2]) l)
  | [], l, h, _ => h
  | p :: ps, l, h, hp => tr_rootsL ps _ (tr_mulL h ((tr_snoc (r := [-p.1])).mpr (hp p (List.mem_cons_self ..)))) fun x hx => hp x (List.mem_cons_of_mem _ hx)
theorem tr_roots {s : Int} (hs : s ≠ 0) {ps : List (Int × Int)} (hp : ∀ p ∈ ps, p.2 ≠ 0) : Tr (rootsL s ps) := tr_rootsL ps [s] ((tr_snoc (r := [])).mpr hs) hp
/-- x less y in the place of x -/
def opp (x : Int) : List Int → List Int
  | [] => []
  | v :: l => addL (mulL (opp x l) [x, -1]) (trim [v])
theorem opp_ok (x : Int) : ∀ l : List Int, Tr l → l ≠ [] → Tr (opp x l) ∧ (opp x l).length = l.length ∧ ∀ a b, lv a b (opp x l) = lv (x * b - a) b l
  | [v], ht, _ => by
    have hv : v ≠ 0 := (tr_snoc (r := [])).mp ht
    have e : opp x [v] = [v] := by
      show addL (mulL [] [x, -1]) (trim [v]) = [v]
      have e1 : mulL [] [x, -1] = [] := by unfold mulL; rw [if_pos (.inl rfl)]
      rw [e1, trim_of_tr ht]
      refine eq_of_cf (tr_trim _) ht fun k => ?_
      rw [cf_addL', cf_nil]; omega
    rw [e]
    exact ⟨ht, rfl, fun a b => by show v * b ^ 0 + a * 0 = v * b ^ 0 + (x * b - a) * 0; simp⟩
  | v :: w :: l, ht, _ => by
    have ht' : Tr (w :: l) := fun n hn => ht (n + 1) (by rw [List.length_cons, hn])
    obtain ⟨i1, i2, i3⟩ := opp_ok x (w :: l) ht' (by simp)
    show Tr (addL (mulL (opp x (w :: l)) [x, -1]) (trim [v])) ∧ (addL (mulL (opp x (w :: l)) [x, -1]) (trim [v])).length = (w :: l).length + 1 ∧ ∀ a b, lv a b (addL (mulL (opp x (w :: l)) [x, -1]) (trim [v])) = v * b ^ (w :: l).length + (x * b - a) * lv (x * b - a) b (w :: l)
    generalize hA : w :: l = A at *
    have hAl : 1 ≤ A.length := by rw [← hA, List.length_cons]; omega
    generalize opp x A = O at *
    have hO : O ≠ [] := fun z => by rw [z, List.length_nil] at i2; omega
    have hm : mulL O [x, -1] = mb (-x) (-1) 0 O := by
      have := mul_two (a := -x) (b := -1) hO
      rw [Int.neg_neg] at this
      exact this
    have hml : (mulL O [x, -1]).length = A.length + 1 := by rw [hm, mb_len, i2]
    have hmt : Tr (mulL O [x, -1]) := tr_mulL i1 ((tr_snoc (r := [x])).mpr (by decide))
    obtain ⟨c, m, hcm⟩ : ∃ c m, mulL O [x, -1] = c :: m := by
      cases e : mulL O [x, -1] with
      | nil => rw [e] at hml; simp at hml
      | cons c m => exact ⟨c, m, rfl⟩
    have hmlen : m.length = A.length := by rw [hcm] at hml; simpa using hml
    have e : addL (mulL O [x, -1]) (trim [v]) = (c + v) :: m := by
      refine eq_of_cf (tr_trim _) (fun n hn => ?_) fun k => ?_
      · have hn' : m.length = n := by simpa using hn
        obtain ⟨n', rfl⟩ : ∃ n', n = n' + 1 := ⟨n - 1, by omega⟩
        rw [cf_succ]
        have := hmt (n' + 1) (by rw [hcm, List.length_cons, hn'])
        rw [hcm, cf_succ] at this
        exact this
      · rw [cf_addL', cf_trim, hcm]
        cases k with
        | zero => rfl
        | succ k => rw [cf_succ, cf_succ, cf_succ, cf_nil]; omega
    rw [e]
    refine ⟨by rw [← e]; exact tr_trim _, by rw [List.length_cons, hmlen], fun a b => ?_⟩
    have h1 : lv a b (mulL O [x, -1]) = (-1 * a - -x * b) * lv a b O := by
      rw [hm, lv_mb]; simp
    rw [hcm] at h1
    have h2 : lv a b ((c + v) :: m) = lv a b (c :: m) + v * b ^ m.length := by
      show (c + v) * b ^ m.length + a * lv a b m = c * b ^ m.length + a * lv a b m + v * b ^ m.length
      grind
    rw [h2, h1, i3, hmlen]; grind
/-- each times a power of x, the other way round -/
def weiU (x : Int) (l : List Int) : List Int := (List.range l.length).map fun i => cf l i * x ^ i
theorem wei_ok (a b x : Int) {l : List Int} (h : l ≠ []) : lv a b (weiU x l).reverse = lv (x * b) a l := by
  have hl : (weiU x l).length = l.length := by unfold weiU; simp
  have hp := List.length_pos_iff.mpr h
  have hne : (weiU x l).reverse ≠ [] := fun z => by
    have := List.reverse_eq_nil_iff.mp z
    rw [this] at hl; simp at hl; omega
  rw [← wj_lv a b _ hne, List.reverse_reverse, List.length_reverse, hl]
  have key : ∀ j, j < l.length → wj a b (cf (weiU x l)) j = lv (x * b) a (l.take (j + 1)) := by
    intro j
    induction j with
    | zero =>
      intro hj
      show cf (weiU x l) 0 = _
      unfold weiU
      rw [cf_map_range, if_pos hj, Int.pow_zero]
      have : l.take 1 = [cf l 0] := by rw [List.take_one, cf_lt hj]; cases l with
        | nil => simp at hj
        | cons v l => rfl
      rw [this]
      show _ = cf l 0 * a ^ 0 + x * b * 0; simp
    | succ j ih =>
      intro hj
      show wj a b (cf (weiU x l)) j * a + cf (weiU x l) (j + 1) * b ^ (j + 1) = _
      have e : l.take (j + 1 + 1) = l.take (j + 1) ++ [cf l (j + 1)] := by rw [List.take_add_one, get_cf hj]; rfl
      rw [ih (by omega), e, lv_snoc, List.length_take, Nat.min_eq_left (by omega)]
      have e2 : cf (weiU x l) (j + 1) = cf l (j + 1) * x ^ (j + 1) := by unfold weiU; rw [cf_map_range, if_pos hj]
      rw [e2, Int.mul_pow]; grind
  have := key (l.length - 1) (by omega)
  rw [this, List.take_of_length_le (by omega)]
theorem lv_zeros (a b c : Int) : ∀ k, lv a b (List.replicate k 0 ++ [c]) = c * a ^ k
  | 0 => by show c * b ^ 0 + a * 0 = c * a ^ 0; simp
  | k + 1 => by
    rw [List.replicate_succ]
    show 0 * _ + a * lv a b (List.replicate k 0 ++ [c]) = _
    rw [lv_zeros a b c k, Int.pow_succ]; grind
theorem pow_lv (a b x : Int) (k : Nat) (hk : 1 ≤ k) : lv a b ([x] ++ List.replicate (k - 1) 0 ++ [-1]) = x * b ^ k - a ^ k := by
  show x * b ^ (List.replicate (k - 1) (0 : Int) ++ [-1]).length + a * lv a b (List.replicate (k - 1) 0 ++ [-1]) = _
  rw [lv_zeros, List.length_append, List.length_replicate]
  obtain ⟨j, rfl⟩ : ∃ j, k = j + 1 := ⟨k - 1, by omega⟩
  show x * b ^ (j + 1 - 1 + 1) + a * (-1 * a ^ (j + 1 - 1)) = _
  rw [show j + 1 - 1 = j by omega, Int.pow_succ a]; grind
/-- plain of products -/
theorem plain_two {a b : List Int} (ha : Tr a) (han : a ≠ []) (hb : Tr b) (hbn : b ≠ []) : plainL (mulL a b) = mulL (plainL a) (plainL b) := by
  obtain ⟨g, hg, e⟩ := plain_scale hb
  have hab : mulL a b ≠ [] := fun z => by
    have := len_mulL han hbn
    rw [z, List.length_nil] at this
    have := List.length_pos_iff.mpr han
    have := List.length_pos_iff.mpr hbn
    omega
  have := plain_mul (p := mulL a b) (q := scL g a) (d := plainL b) (c := 1) (by decide) (tr_mulL ha hb) hab (tr_scL hg ha) (pln_plain hb hbn) (fun n => by
    rw [cf_mulL, Int.one_mul]
    have e1 : mulc a b n = g * mulc a (plainL b) n := mulc_right fun k => e k
    have e2 : mulc (scL g a) (plainL b) n = g * mulc a (plainL b) n + 0 * mulc a (plainL b) n := mulc_lin fun k => by rw [cf_scL]; omega
    rw [e1, e2]; omega)
  rw [← this, plainL_scL hg ha]
theorem plain_roots : ∀ (ps : List (Int × Int)) (l : List Int), Tr l → l ≠ [] → (∀ p ∈ ps, p.2 ≠ 0) → plainL (ps.foldl (fun l p => mulL l [-p.1, p.2]) l) = ps.foldl (fun l p => mulL l (plainL [-p.1, p.2])) (plainL l)
  | [], _, _, _, _ => rfl
  | p :: ps, l, ht, hn, hp => by
    have h2 : Tr [-p.1, p.2] := (tr_snoc (r := [-p.1])).mpr (hp p (List.mem_cons_self ..))
    have e := len_two (a := p.1) (b := p.2) hn
    have h' : mulL l [-p.1, p.2] ≠ [] := fun z => by rw [z] at e; simp at e
    show plainL (ps.foldl (fun l p => mulL l [-p.1, p.2]) (mulL l [-p.1, p.2])) = ps.foldl (fun l p => mulL l (plainL [-p.1, p.2])) (mulL (plainL l) (plainL [-p.1, p.2]))
    rw [plain_roots ps _ (tr_mulL ht h2) h' fun x hx => hp x (List.mem_cons_of_mem _ hx), plain_two ht hn h2 (by simp)]
end RM

/-! The three products of known roots (behind MathThr) -/
namespace RM
def cross (g : Int × Int → Int × Int → Int × Int) (ones others : List (Int × Int)) : List (Int × Int) := ones.flatMap fun p => others.map (g p)
theorem prI_map (f : Int × Int → Int) (g : Int × Int → Int × Int) : ∀ ps, prI f (ps.map g) = prI (fun p => f (g p)) ps
  | [] => rfl
  | p :: ps => by show f (g p) * prI f (ps.map g) = f (g p) * prI _ ps; rw [prI_map f g ps]
theorem prI_cross (f : Int × Int → Int) (g : Int × Int → Int × Int → Int × Int) (others : List (Int × Int)) : ∀ ones, prI f (cross g ones others) = prI (fun p => prI (fun q => f (g p q)) others) ones
  | [] => rfl
  | p :: ones => by
    show prI f (others.map (g p) ++ cross g ones others) = _ * prI _ ones
    rw [prI_app, prI_map, prI_cross f g others ones]
theorem prI_const (c : Int) (h : Int × Int → Int) : ∀ ps, prI (fun p => c * h p) ps = c ^ ps.length * prI h ps
  | [] => by show (1 : Int) = c ^ 0 * 1; simp
  | p :: ps => by
    show c * h p * prI (fun p => c * h p) ps = c ^ (ps.length + 1) * (h p * prI h ps)
    rw [prI_const c h ps, Int.pow_succ]; grind
theorem len_cross (g : Int × Int → Int × Int → Int × Int) (others : List (Int × Int)) : ∀ ones, (cross g ones others).length = ones.length * others.length
  | [] => by simp [cross]
  | p :: ones => by
    show (others.map (g p) ++ cross g ones others).length = _
    rw [List.length_append, List.length_map, len_cross g others ones, List.length_cons, Nat.add_mul, Nat.one_mul, Nat.add_comm]
def gS (p q : Int × Int) : Int × Int := (p.1 * q.2 + q.1 * p.2, p.2 * q.2)
def gM (p q : Int × Int) : Int × Int := (p.1 * q.1, p.2 * q.2)
def gP (k : Nat) (p : Int × Int) : Int × Int := (p.1 ^ k, p.2 ^ k)
variable {s1 s2 : Int} {ones others : List (Int × Int)}
theorem sums_W (h2 : s2 ≠ 0) (ho : ∀ p ∈ ones, p.2 ≠ 0) (hq : ∀ p ∈ others, p.2 ≠ 0) (x : Int) : resL (rootsL s1 ones) (opp x (rootsL s2 others)) = ev x (rootsL (s1 ^ others.length * s2 ^ ones.length) (cross gS ones others)) := by
  obtain ⟨o1, o2, o3⟩ := opp_ok x (rootsL s2 others) (tr_roots h2 hq) (rootsL_ne _ _)
  rw [rootsL_len] at o2
  rw [res_rootsL (fun z => by rw [z] at o2; simp at o2) s1 ones ho, o2, ev_roots, prI_cross]
  have e : ∀ p ∈ ones, lv p.1 p.2 (opp x (rootsL s2 others)) = s2 * prI (fun q => (gS p q).2 * x - (gS p q).1) others := fun p _ => by
    rw [o3, lv_rootsL]
    congr 1
    refine prI_congr others fun q _ => ?_
    show q.2 * (x * p.2 - p.1) - q.1 * p.2 = p.2 * q.2 * x - (p.1 * q.2 + q.1 * p.2)
    grind
  rw [prI_congr ones e, prI_const]
  show s1 ^ (others.length + 1 - 1) * _ = _
  rw [Nat.add_sub_cancel]; grind
theorem prods_W (ho : ∀ p ∈ ones, p.2 ≠ 0) (x : Int) : resL (rootsL s1 ones) (weiU x (rootsL s2 others)).reverse = ev x (rootsL (s1 ^ others.length * s2 ^ ones.length) (cross gM ones others)) := by
  have hl : (weiU x (rootsL s2 others)).reverse.length = others.length + 1 := by rw [List.length_reverse]; unfold weiU; rw [List.length_map, List.length_range, rootsL_len]
  rw [res_rootsL (fun z => by rw [z] at hl; simp at hl) s1 ones ho, hl, ev_roots, prI_cross]
  have e : ∀ p ∈ ones, lv p.1 p.2 (weiU x (rootsL s2 others)).reverse = s2 * prI (fun q => (gM p q).2 * x - (gM p q).1) others := fun p _ => by
    rw [wei_ok _ _ _ (rootsL_ne _ _), lv_rootsL]
    congr 1
    refine prI_congr others fun q _ => ?_
    show q.2 * (x * p.2) - q.1 * p.1 = p.2 * q.2 * x - p.1 * q.1
    grind
  rw [prI_congr ones e, prI_const, Nat.add_sub_cancel]; grind
theorem pows_W (ho : ∀ p ∈ ones, p.2 ≠ 0) {k : Nat} (hk : 1 ≤ k) (x : Int) : resL (rootsL s1 ones) ([x] ++ List.replicate (k - 1) 0 ++ [-1]) = ev x (rootsL (s1 ^ k) (ones.map (gP k))) := by
  have hl : ([x] ++ List.replicate (k - 1) (0 : Int) ++ [-1]).length = k + 1 := by
    rw [List.length_append, List.length_append, List.length_replicate]; show 1 + (k - 1) + 1 = k + 1; omega
  rw [res_rootsL (by simp) s1 ones ho, hl, ev_roots, prI_map, Nat.add_sub_cancel]
  congr 1
  refine prI_congr ones fun p _ => ?_
  rw [pow_lv _ _ _ k hk]
  show x * p.2 ^ k - p.1 ^ k = p.2 ^ k * x - p.1 ^ k
  grind
/-- the plain factors multiplied -/
def plR (ps : List (Int × Int)) : List Int := ps.foldl (fun l p => mulL l (plainL [-p.1, p.2])) [1]
theorem plR_snoc (ps : List (Int × Int)) (p : Int × Int) : plR (ps ++ [p]) = mulL (plR ps) (plainL [-p.1, p.2]) := by unfold plR; rw [List.foldl_append]; rfl
theorem plain_const {c : Int} (hc : c ≠ 0) : plainL [c] = [1] := by
  have h := pln_plain (l := [c]) ((tr_snoc (r := [])).mpr hc) (by simp)
  exact h.const (by rw [plain_len]; rfl)
theorem plain_W {C : Int} (hC : C ≠ 0) {ps : List (Int × Int)} (hp : ∀ p ∈ ps, p.2 ≠ 0) : plainL (rootsL C ps) = plR ps := by
  have := plain_roots ps [C] ((tr_snoc (r := [])).mpr hC) (by simp) hp
  rw [plain_const hC] at this
  exact this
theorem gcd_mod {a b : Int} (hb : 0 < b) : Nat.gcd b.natAbs (a % b).natAbs = Nat.gcd a.natAbs b.natAbs := by
  apply Nat.dvd_antisymm
  · refine Nat.dvd_gcd ?_ (Nat.gcd_dvd_left _ _)
    have h1 : ((Nat.gcd b.natAbs (a % b).natAbs : Nat) : Int) ∣ b := Int.ofNat_dvd_left.mpr (Nat.gcd_dvd_left _ _)
    have h2 : ((Nat.gcd b.natAbs (a % b).natAbs : Nat) : Int) ∣ a % b := Int.ofNat_dvd_left.mpr (Nat.gcd_dvd_right _ _)
    have h4 := Int.dvd_add h2 (Int.dvd_trans h1 (Int.dvd_mul_right b (a / b)))
    rw [Int.emod_add_mul_ediv] at h4
    exact Int.ofNat_dvd_left.mp h4
  · refine Nat.dvd_gcd (Nat.gcd_dvd_right _ _) ?_
    have h1 : ((Nat.gcd a.natAbs b.natAbs : Nat) : Int) ∣ a := Int.ofNat_dvd_left.mpr (Nat.gcd_dvd_left _ _)
    have h2 : ((Nat.gcd a.natAbs b.natAbs : Nat) : Int) ∣ b := Int.ofNat_dvd_left.mpr (Nat.gcd_dvd_right _ _)
    have h4 : ((Nat.gcd a.natAbs b.natAbs : Nat) : Int) ∣ a % b := by
      rw [Int.emod_def]; exact Int.dvd_sub h1 (Int.dvd_trans h2 (Int.dvd_mul_right _ _))
    exact Int.ofNat_dvd_left.mp h4
theorem plain_pair {t b : Int} (hb : 0 < b) : plainL [-t, b] = [-(t / (Nat.gcd t.natAbs b.natAbs : Nat)), b / (Nat.gcd t.natAbs b.natAbs : Nat)] := by
  have hg : gcdL [-t, b] = Nat.gcd t.natAbs b.natAbs := by
    show Nat.gcd (Nat.gcd 0 (-t).natAbs) b.natAbs = _
    rw [Nat.gcd_zero_left, Int.natAbs_neg]
  have hg0 : 0 < Nat.gcd t.natAbs b.natAbs := Nat.gcd_pos_of_pos_right _ (by omega)
  have hd : ((Nat.gcd t.natAbs b.natAbs : Nat) : Int) ∣ t := Int.ofNat_dvd_left.mpr (Nat.gcd_dvd_left _ _)
  have hdb : ((Nat.gcd t.natAbs b.natAbs : Nat) : Int) ∣ b := Int.ofNat_dvd_left.mpr (Nat.gcd_dvd_right _ _)
  have hs : shrL [-t, b] = [-(t / (Nat.gcd t.natAbs b.natAbs : Nat)), b / (Nat.gcd t.natAbs b.natAbs : Nat)] := by
    unfold shrL
    rw [hg]
    show [-t / _, b / _] = _
    rw [Int.neg_ediv_of_dvd hd]
  have hpos : 0 < b / ((Nat.gcd t.natAbs b.natAbs : Nat) : Int) := Int.ediv_pos_of_pos_of_dvd hb (by omega) hdb
  unfold plainL
  rw [hs]
  unfold posL
  have hl : lastI [-(t / (Nat.gcd t.natAbs b.natAbs : Nat)), b / (Nat.gcd t.natAbs b.natAbs : Nat)] = b / (Nat.gcd t.natAbs b.natAbs : Nat) := rfl
  rw [hl, if_neg (by omega)]
end RM

open PySem.W in
local macro_rules | `(tactic| walk_at "comp_ok") => `(tactic| exact ⟨by with_unfolding_all rfl, by decide +kernel, rfl, by decide +kernel, by repeat' (first | exact List.forall_mem_nil _ | refine List.forall_mem_cons.2 ⟨rfl, ?_⟩), by rfl, by repeat' (first | exact .nil | refine .cons ⟨rfl, by first | exact Or.inl rfl | exact Or.inr rfl, rfl⟩ ?_)⟩)

namespace R37
open PySem L2 RM
def top (i : Nat) : Stmt := PySem.Challenge.pw_rootspan_k37_roots_known.main.body.getD i (.Pass ⟨0, 0, 0, 0⟩)
abbrev s_determinant : Stmt := top 1
abbrev s_first_not_nought : Stmt := top 2
abbrev s_cleared : Stmt := top 3
abbrev s_shared : Stmt := top 5
abbrev s_shared_by_two : Stmt := top 6
abbrev s_poly : Stmt := top 8
abbrev s_degree : Stmt := top 9
abbrev s_added : Stmt := top 10
abbrev s_coefficient : Stmt := top 11
abbrev s_multiplied : Stmt := top 12
abbrev s_shrunk : Stmt := top 13
abbrev s_plain : Stmt := top 14
abbrev s_table : Stmt := top 16
abbrev s_slid : Stmt := top 17
abbrev s_sums : Stmt := top 18
abbrev s_products : Stmt := top 19
abbrev s_powers : Stmt := top 20
abbrev s_opposed : Stmt := top 21
abbrev s_weighted : Stmt := top 22
abbrev s_through : Stmt := top 23
abbrev s__law_cell_at : Stmt := top 25
abbrev s__law_is : Stmt := top 26
abbrev s__law_number : Stmt := top 27
abbrev s__law_product : Stmt := top 28
abbrev s__law_shared : Stmt := top 29
abbrev s__law_factor : Stmt := top 30
abbrev s__law_with_roots : Stmt := top 31
abbrev s__law_roots : Stmt := top 32
abbrev s__law_power : Stmt := top 33
abbrev s_law : Stmt := top 34
theorem sc_determinant : FnScope ["rows", "left", "before", "sign", "place", "head"] ["rows"] (defScope s_determinant) := ⟨rfl, rfl, rfl, by decide +kernel, rfl, by decide +kernel, by decide +kernel⟩
theorem sc_first_not_nought : FnScope ["rows", "place"] ["rows"] (defScope s_first_not_nought) := ⟨rfl, rfl, rfl, by decide +kernel, rfl, by decide +kernel, by decide +kernel⟩
theorem sc_cleared : FnScope ["row", "head", "before"] ["row", "head", "before"] (defScope s_cleared) := ⟨rfl, rfl, rfl, by decide +kernel, rfl, by decide +kernel, by decide +kernel⟩
theorem sc_shared : FnScope ["row", "divisor", "value"] ["row"] (defScope s_shared) := ⟨rfl, rfl, rfl, by decide +kernel, rfl, by decide +kernel, by decide +kernel⟩
theorem sc_shared_by_two : FnScope ["one", "other", "greater", "less", "rest"] ["one", "other"] (defScope s_shared_by_two) := ⟨rfl, rfl, rfl, by decide +kernel, rfl, by decide +kernel, by decide +kernel⟩
theorem sc_poly : FnScope ["row", "length"] ["row"] (defScope s_poly) := ⟨rfl, rfl, rfl, by decide +kernel, rfl, by decide +kernel, by decide +kernel⟩
theorem sc_degree : FnScope ["row"] ["row"] (defScope s_degree) := ⟨rfl, rfl, rfl, by decide +kernel, rfl, by decide +kernel, by decide +kernel⟩
theorem sc_added : FnScope ["first", "second", "length"] ["first", "second"] (defScope s_added) := ⟨rfl, rfl, rfl, by decide +kernel, rfl, by decide +kernel, by decide +kernel⟩
theorem sc_coefficient : FnScope ["row", "place"] ["row", "place"] (defScope s_coefficient) := ⟨rfl, rfl, rfl, by decide +kernel, rfl, by decide +kernel, by decide +kernel⟩
theorem sc_multiplied : FnScope ["first", "second", "product", "j", "one", "k", "other"] ["first", "second"] (defScope s_multiplied) := ⟨rfl, rfl, rfl, by decide +kernel, rfl, by decide +kernel, by decide +kernel⟩
theorem sc_shrunk : FnScope ["row", "divisor"] ["row"] (defScope s_shrunk) := ⟨rfl, rfl, rfl, by decide +kernel, rfl, by decide +kernel, by decide +kernel⟩
theorem sc_plain : FnScope ["row", "small"] ["row"] (defScope s_plain) := ⟨rfl, rfl, rfl, by decide +kernel, rfl, by decide +kernel, by decide +kernel⟩
theorem sc_table : FnScope ["first", "second"] ["first", "second"] (defScope s_table) := ⟨rfl, rfl, rfl, by decide +kernel, rfl, by decide +kernel, by decide +kernel⟩
theorem sc_slid : FnScope ["row", "many", "falling"] ["row", "many"] (defScope s_slid) := ⟨rfl, rfl, rfl, by decide +kernel, rfl, by decide +kernel, by decide +kernel⟩
theorem sc_sums : FnScope ["first", "second", "many"] ["first", "second"] (defScope s_sums) := ⟨rfl, rfl, rfl, by decide +kernel, rfl, by decide +kernel, by decide +kernel⟩
theorem sc_products : FnScope ["first", "second", "many"] ["first", "second"] (defScope s_products) := ⟨rfl, rfl, rfl, by decide +kernel, rfl, by decide +kernel, by decide +kernel⟩
theorem sc_powers : FnScope ["row", "k", "many"] ["row", "k"] (defScope s_powers) := ⟨rfl, rfl, rfl, by decide +kernel, rfl, by decide +kernel, by decide +kernel⟩
theorem sc_opposed : FnScope ["row", "x", "found", "value"] ["row", "x"] (defScope s_opposed) := ⟨rfl, rfl, rfl, by decide +kernel, rfl, by decide +kernel, by decide +kernel⟩
theorem sc_weighted : FnScope ["row", "x", "found", "power", "value"] ["row", "x"] (defScope s_weighted) := ⟨rfl, rfl, rfl, by decide +kernel, rfl, by decide +kernel, by decide +kernel⟩
theorem sc_through : FnScope ["values", "leads", "left", "found", "k"] ["values"] (defScope s_through) := ⟨rfl, rfl, rfl, by decide +kernel, rfl, by decide +kernel, by decide +kernel⟩
theorem sc__law_cell_at : FnScope ["_law_script", "_law_k"] ["_law_script", "_law_k"] (defScope s__law_cell_at) := ⟨rfl, rfl, rfl, by decide +kernel, rfl, by decide +kernel, by decide +kernel⟩
theorem sc__law_is : FnScope ["_law_found", "_law_due", "_law_one"] ["_law_found", "_law_due"] (defScope s__law_is) := ⟨rfl, rfl, rfl, by decide +kernel, rfl, by decide +kernel, by decide +kernel⟩
theorem sc__law_number : FnScope ["_law_cell", "_law_at"] ["_law_cell", "_law_at"] (defScope s__law_number) := ⟨rfl, rfl, rfl, by decide +kernel, rfl, by decide +kernel, by decide +kernel⟩
theorem sc__law_product : FnScope ["_law_kp", "_law_kq", "_law_found", "_law_i", "_law_j"] ["_law_kp", "_law_kq"] (defScope s__law_product) := ⟨rfl, rfl, rfl, by decide +kernel, rfl, by decide +kernel, by decide +kernel⟩
theorem sc__law_shared : FnScope ["_law_a", "_law_b", "_law_rest"] ["_law_a", "_law_b"] (defScope s__law_shared) := ⟨rfl, rfl, rfl, by decide +kernel, rfl, by decide +kernel, by decide +kernel⟩
theorem sc__law_factor : FnScope ["_law_top", "_law_bottom", "_law_divisor"] ["_law_top", "_law_bottom"] (defScope s__law_factor) := ⟨rfl, rfl, rfl, by decide +kernel, rfl, by decide +kernel, by decide +kernel⟩
theorem sc__law_with_roots : FnScope ["_law_pairs", "_law_scale", "_law_found", "_law_pair"] ["_law_pairs", "_law_scale"] (defScope s__law_with_roots) := ⟨rfl, rfl, rfl, by decide +kernel, rfl, by decide +kernel, by decide +kernel⟩
theorem sc__law_roots : FnScope ["_law_script", "_law_at", "_law_many", "_law_found", "_law_k", "_law_top", "_law_bottom"] ["_law_script", "_law_at", "_law_many"] (defScope s__law_roots) := ⟨rfl, rfl, rfl, by decide +kernel, rfl, by decide +kernel, by decide +kernel⟩
theorem sc__law_power : FnScope ["_law_base", "_law_k", "_law_found", "_law_turn"] ["_law_base", "_law_k"] (defScope s__law_power) := ⟨rfl, rfl, rfl, by decide +kernel, rfl, by decide +kernel, by decide +kernel⟩
theorem sc_law : FnScope ["_law_script", "_law_first", "_law_m", "_law_n", "_law_k", "_law_ones", "_law_others", "_law_kp", "_law_kq", "_law_summed", "_law_mixed", "_law_one", "_law_other", "_law_top", "_law_raised", "_law_kept"] ["_law_script"] (defScope s_law) := ⟨rfl, rfl, rfl, by decide +kernel, rfl, by decide +kernel, by decide +kernel⟩
structure Txt (K : PySem.W.Frag) (mg : Str → Option Value) : Prop where
  list_ : mg "list" = none
  len_ : mg "len" = none
  range_ : mg "range" = none
  abs_ : mg "abs" = none
  max_ : mg "max" = none
  enumerate_ : mg "enumerate" = none
  reversed_ : mg "reversed" = none
  isinstance_ : mg "isinstance" = none
  bool_ : mg "bool" = none
  int_ : mg "int" = none
def spLaw (K : PySem.W.Frag) : Sp := fun vs H Q _ => ∃ (a : Addr) (ns : List Int), vs = [.ref a] ∧ SqL K H a (ns.map V.int) ∧ ns.length ≤ 63 ∧ ∀ H', Q (.bl true) H'
section
variable {P : Program} {w : World} {K : PySem.W.Frag} {mg : Str → Option Value} {base : Heap}
theorem rep_zero (n : Nat) : (List.replicate n [V.int 0]).flatten = (List.replicate n (0 : Int)).map V.int := by
  induction n with
  | zero => rfl
  | succ n ih => rw [List.replicate_succ, List.flatten_cons, ih, List.replicate_succ]; rfl
theorem ixN_nat {n j : Nat} {i : Int} (e : i = j) (h : j < n) : ixN n i = some j := by
  subst e; unfold ixN; rw [if_pos (Int.natCast_nonneg _), if_pos (by omega)]; simp
theorem map_set_int (l : List Int) (j : Nat) (x : Int) : (l.map V.int).set j (.int x) = (l.set j x).map V.int := by rw [List.map_set]
theorem at_map {l : List Int} {j : Nat} {i : Int} (e : i = j) (h : j < l.length) : atI (l.map V.int) i = some (.int (cf l j)) := by
  subst e
  exact atI_nat (by rw [List.getElem?_map, get_cf h]; rfl)
/-- all but the thing at p is as it was -/
def SameB (p : Addr) (H H' : Hp) : Prop := ∀ b o, b ≠ p → H b = some o → H' b = some o
theorem SameB.refl (p : Addr) (H : Hp) : SameB p H H := fun _ _ _ h => h
theorem SameB.then_new {p q : Addr} {H H1 : Hp} {o : HO} (s : SameB p H H1) (h : H1 q = none) : SameB p H (upd H1 q o) := fun b u n e => by
  rw [upd_ne (ne_of_none (s b u n e) h)]; exact s b u n e
theorem SameB.then_upd {p : Addr} {H H1 : Hp} {o : HO} (s : SameB p H H1) : SameB p H (upd H1 p o) := fun b u n e => by
  rw [upd_ne n]; exact s b u n e
def AllB (k : Nat) (l : List Int) : Prop := ∀ x ∈ l, Bits k x
theorem AllB.cf {k : Nat} {l : List Int} (h : AllB k l) (n : Nat) : Bits k (cf l n) := by
  by_cases hn : n < l.length
  · rw [cf_lt hn]; exact h _ (List.getElem_mem hn)
  · rw [cf_ge (Nat.le_of_not_lt hn)]; exact Bits.zero
theorem mut_same {H H2 : Hp} {p : Addr} {o : HO} (s : Same H H2) (hp : H p = none) : Same H (upd H2 p o) := fun b u e => by rw [upd_ne (ne_of_none e hp)]; exact s b u e
theorem map_snoc (l : List Int) (x : Int) : l.map V.int ++ [V.int x] = (l ++ [x]).map V.int := by rw [List.map_append]; rfl
def cutL (ms : List Int) (lo hi : Option Int) : List Int := (ms.drop (HT.sIx ms.length 0 lo)).take (HT.sIx ms.length ms.length hi - HT.sIx ms.length 0 lo)
theorem cutV_map (ms : List Int) (lo hi : Option Int) : cutV (ms.map V.int) lo hi = (cutL ms lo hi).map V.int := by
  unfold cutV cutL
  rw [List.length_map, ← List.map_drop, ← List.map_take]
theorem cutL_mem {ms : List Int} {lo hi : Option Int} {x : Int} (h : x ∈ cutL ms lo hi) : x ∈ ms := List.mem_of_mem_drop (List.mem_of_mem_take h)
theorem cutL_len (ms : List Int) (lo hi : Option Int) : (cutL ms lo hi).length ≤ ms.length := by
  unfold cutL; rw [List.length_take, List.length_drop]; omega
theorem AllB.cut {k : Nat} {ms : List Int} {lo hi : Option Int} (h : AllB k ms) : AllB k (cutL ms lo hi) := fun x hx => h x (cutL_mem hx)
theorem AllB.app {k : Nat} {l r : List Int} (h1 : AllB k l) (h2 : AllB k r) : AllB k (l ++ r) := fun x hx => (List.mem_append.mp hx).elim (h1 x) (h2 x)
theorem AllB.zeros {k n : Nat} : AllB k (List.replicate n 0) := fun x hx => by rw [List.eq_of_mem_replicate hx]; exact Bits.zero
theorem AllB.mono {j k : Nat} {l : List Int} (h : AllB j l) (hk : j ≤ k) : AllB k l := fun x hx => (h x hx).mono hk
theorem AllB.nil {k : Nat} : AllB k [] := fun _ h => nomatch h
theorem AllB.snoc {k : Nat} {l : List Int} {x : Int} (h : AllB k l) (hx : Bits k x) : AllB k (l ++ [x]) := h.app fun y hy => by rw [List.mem_singleton.mp hy]; exact hx
theorem mem_trim {l : List Int} {x : Int} (h : x ∈ trim l) : x ∈ l := by
  unfold trim at h
  rw [List.mem_reverse] at h
  exact List.mem_reverse.mp ((List.dropWhile_sublist _).subset h)
theorem AllB.trim {k : Nat} {l : List Int} (h : AllB k l) : AllB k (trim l) := fun x hx => h x (mem_trim hx)
theorem map_cat (l r : List Int) : l.map V.int ++ r.map V.int = (l ++ r).map V.int := (List.map_append ..).symm
theorem get_int {l : List Int} {i : Nat} {x : V} (h : (l.map V.int)[i]? = some x) : ∃ c, l[i]? = some c ∧ x = .int c ∧ c ∈ l ∧ l.take (i + 1) = l.take i ++ [c] := by
  rw [List.getElem?_map] at h
  cases e : l[i]? with
  | none => rw [e] at h; cases h
  | some c => rw [e] at h; exact ⟨c, rfl, (Option.some.inj h).symm, List.mem_of_getElem? e, by rw [List.take_add_one, e]; rfl⟩
/-- a new list of ints is handed back, all else is as it was -/
def mkL (H : Hp) (Q : VK) (r : List Int) : Prop := ∀ (p : Addr) (H' : Hp), Same H H' → H p = none → H' p = some (.lst (r.map V.int)) → Q (.ref p) H'
def spTrim (K : PySem.W.Frag) : Sp := fun vs H Q _ => ∃ (a : Addr) (ns : List Int), vs = [.ref a] ∧ SqL K H a (ns.map V.int) ∧ mkL H Q (trim ns)
def spCell (K : PySem.W.Frag) : Sp := fun vs H Q _ => ∃ (a : Addr) (ns : List Int) (k : Nat), vs = [.ref a, .int k] ∧ SqL K H a (ns.map V.int) ∧ Q (.int (ns.getD k 0)) H
def sp2L (K : PySem.W.Frag) (g : List Int → List Int → List Int) : Sp := fun vs H Q _ => ∃ (a b : Addr) (xs ys : List Int), vs = [.ref a, .ref b] ∧ SqL K H a (xs.map V.int) ∧ SqL K H b (ys.map V.int) ∧ xs.length ≤ 1000000 ∧ ys.length ≤ 1000000 ∧ mkL H Q (g xs ys)
theorem max_eq (i j : Nat) : (if ((j : Nat) : Int) > ((i : Nat) : Int) then ((j : Nat) : Int) else ((i : Nat) : Int)) = ((max i j : Nat) : Int) := by split <;> omega
theorem small62 {n : Nat} (h : n ≤ sizeLine) : -(2 ^ 62) ≤ ((n : Nat) : Int) ∧ ((n : Nat) : Int) < 2 ^ 62 := by have := sizeLine_eq; omega
/-- at ps stand the lists of xss -/
def RwH (H : Hp) (ps : List Addr) (xss : List (List Int)) : Prop := ps.length = xss.length ∧ ∀ (i : Nat) (p : Addr) (xs : List Int), ps[i]? = some p → xss[i]? = some xs → H p = some (.lst (xs.map V.int))
theorem RwH.nil {H : Hp} : RwH H [] [] := ⟨rfl, fun i p xs h => by simp at h⟩
theorem RwH.same {H H' : Hp} {ps : List Addr} {xss : List (List Int)} (h : RwH H ps xss) (s : Same H H') : RwH H' ps xss := ⟨h.1, fun i p xs a b => s _ _ (h.2 i p xs a b)⟩
theorem RwH.rws {H : Hp} {ps : List Addr} {xss : List (List Int)} (h : RwH H ps xss) : Rws K H ps xss := ⟨h.1, fun i p xs a b => SqL.of (h.2 i p xs a b)⟩
theorem RwH.snoc {H : Hp} {ps : List Addr} {xss : List (List Int)} {p : Addr} {xs : List Int} (h : RwH H ps xss) (hp : H p = some (.lst (xs.map V.int))) : RwH H (ps ++ [p]) (xss ++ [xs]) := by
  refine ⟨by rw [List.length_append, List.length_append, h.1]; rfl, fun i q ys a b => ?_⟩
  by_cases hi : i < ps.length
  · rw [List.getElem?_append_left hi] at a
    rw [List.getElem?_append_left (by rw [← h.1]; exact hi)] at b
    exact h.2 i q ys a b
  · rw [List.getElem?_append_right (by omega)] at a
    rw [List.getElem?_append_right (by rw [← h.1]; omega), ← h.1] at b
    by_cases h0 : i - ps.length = 0
    · rw [h0] at a b
      obtain rfl : p = q := by simpa using a
      obtain rfl : xs = ys := by simpa using b
      exact hp
    · rw [List.getElem?_eq_none_iff.mpr (by simp; omega)] at a
      cases a
theorem RwH.get {H : Hp} {ps : List Addr} {xss : List (List Int)} {i : Nat} (h : RwH H ps xss) (hi : i < xss.length) : ∃ p, ps[i]? = some p ∧ H p = some (.lst ((xss.getD i []).map V.int)) := by
  have hi' : i < ps.length := by rw [h.1]; exact hi
  refine ⟨ps[i], List.getElem?_eq_getElem hi', h.2 i _ _ (List.getElem?_eq_getElem hi') ?_⟩
  rw [List.getElem?_eq_getElem hi]; simp [List.getD, hi]
theorem RwH.of_get {H : Hp} {ps : List Addr} {xss : List (List Int)} {i : Nat} {x : V} (h : RwH H ps xss) (hx : (ps.map V.ref)[i]? = some x) : ∃ p xs, x = .ref p ∧ ps[i]? = some p ∧ xss[i]? = some xs ∧ H p = some (.lst (xs.map V.int)) ∧ i < xss.length := by
  rw [List.getElem?_map] at hx
  cases e : ps[i]? with
  | none => rw [e] at hx; cases hx
  | some p =>
    rw [e] at hx
    have hi : i < ps.length := (List.getElem?_eq_some_iff.mp e).1
    have hi' : i < xss.length := by rw [← h.1]; exact hi
    exact ⟨p, xss[i], (Option.some.inj hx).symm, rfl, List.getElem?_eq_getElem hi', h.2 i p _ e (List.getElem?_eq_getElem hi'), hi'⟩
theorem RwH.erase {H : Hp} {ps : List Addr} {xss : List (List Int)} (h : RwH H ps xss) (k : Nat) : RwH H (ps.take k ++ ps.drop (k + 1)) (xss.take k ++ xss.drop (k + 1)) := by
  have hl := h.1
  refine ⟨by simp [hl], fun i q ys a b => ?_⟩
  by_cases hi : i < (ps.take k).length
  · have hi2 : i < (xss.take k).length := by rw [List.length_take] at *; omega
    rw [List.getElem?_append_left hi, List.getElem?_take] at a
    rw [List.getElem?_append_left hi2, List.getElem?_take] at b
    have hk : i < k := by rw [List.length_take] at hi; omega
    rw [if_pos hk] at a b
    exact h.2 i q ys a b
  · have hi2 : (xss.take k).length ≤ i := by rw [List.length_take] at *; omega
    rw [List.getElem?_append_right (by omega), List.getElem?_drop] at a
    rw [List.getElem?_append_right hi2, List.getElem?_drop] at b
    have e : (ps.take k).length = (xss.take k).length := by rw [List.length_take, List.length_take, hl]
    rw [e] at a
    exact h.2 _ q ys a b
theorem map_ref_snoc (ps : List Addr) (p : Addr) : ps.map V.ref ++ [V.ref p] = (ps ++ [p]).map V.ref := by rw [List.map_append]; rfl
theorem cutV_to (ps : List Addr) (k : Nat) : cutV (ps.map V.ref) none (some (k : Int)) = (ps.take k).map V.ref := by
  unfold cutV
  rw [HT.sIx_none, HT.sIx_nat, List.drop_zero, Nat.sub_zero, List.length_map, List.map_take]
  by_cases h : k ≤ ps.length
  · rw [Nat.min_eq_left h]
  · rw [Nat.min_eq_right (by omega), List.take_of_length_le (by simp), List.take_of_length_le (by simp; omega)]
theorem cutV_from (ps : List Addr) (k : Nat) : cutV (ps.map V.ref) (some (k : Int)) none = (ps.drop k).map V.ref := by
  unfold cutV
  rw [HT.sIx_none, HT.sIx_nat, List.length_map]
  by_cases h : k ≤ ps.length
  · rw [Nat.min_eq_left h, ← List.map_drop, List.take_of_length_le (by simp)]
  · rw [Nat.min_eq_right (by omega), Nat.sub_self, List.take_zero, List.drop_of_length_le (by omega)]; rfl
theorem rd_name {i : Nat} {v : V} {σ : St} {H : Hp} {Q : St → Hp → Prop} (h : Q (σ.set i (some v)) H) : gName i v σ H Q := h
/-- at ps stand the tuples of xss -/
def TuH (H : Hp) (ps : List Addr) (xss : List (List Int)) : Prop := ps.length = xss.length ∧ ∀ (i : Nat) (p : Addr) (xs : List Int), ps[i]? = some p → xss[i]? = some xs → H p = some (.tup (xs.map V.int))
theorem TuH.nil {H : Hp} : TuH H [] [] := ⟨rfl, fun i p xs h => by simp at h⟩
theorem TuH.same {H H' : Hp} {ps : List Addr} {xss : List (List Int)} (h : TuH H ps xss) (s : Same H H') : TuH H' ps xss := ⟨h.1, fun i p xs a b => s _ _ (h.2 i p xs a b)⟩
theorem TuH.snoc {H : Hp} {ps : List Addr} {xss : List (List Int)} {p : Addr} {xs : List Int} (h : TuH H ps xss) (hp : H p = some (.tup (xs.map V.int))) : TuH H (ps ++ [p]) (xss ++ [xs]) := by
  refine ⟨by rw [List.length_append, List.length_append, h.1]; rfl, fun i q ys a b => ?_⟩
  by_cases hi : i < ps.length
  · rw [List.getElem?_append_left hi] at a
    rw [List.getElem?_append_left (by rw [← h.1]; exact hi)] at b
    exact h.2 i q ys a b
  · rw [List.getElem?_append_right (by omega)] at a
    rw [List.getElem?_append_right (by rw [← h.1]; omega), ← h.1] at b
    by_cases h0 : i - ps.length = 0
    · rw [h0] at a b
      obtain rfl : p = q := by simpa using a
      obtain rfl : xs = ys := by simpa using b
      exact hp
    · rw [List.getElem?_eq_none_iff.mpr (by simp; omega)] at a
      cases a
theorem TuH.of_get {H : Hp} {ps : List Addr} {xss : List (List Int)} {i : Nat} {x : V} (h : TuH H ps xss) (hx : (ps.map V.ref)[i]? = some x) : ∃ p xs, x = .ref p ∧ ps[i]? = some p ∧ xss[i]? = some xs ∧ H p = some (.tup (xs.map V.int)) ∧ i < xss.length := by
  rw [List.getElem?_map] at hx
  cases e : ps[i]? with
  | none => rw [e] at hx; cases hx
  | some p =>
    rw [e] at hx
    have hi : i < ps.length := (List.getElem?_eq_some_iff.mp e).1
    have hi' : i < xss.length := by rw [← h.1]; exact hi
    exact ⟨p, xss[i], (Option.some.inj hx).symm, rfl, List.getElem?_eq_getElem hi', h.2 i p _ e (List.getElem?_eq_getElem hi'), hi'⟩
theorem TuH.upd_lst {H : Hp} {ps : List Addr} {xss : List (List Int)} {a : Addr} {vs : List V} {o : HO} (h : TuH H ps xss) (ha : H a = some (.lst vs)) : TuH (upd H a o) ps xss := ⟨h.1, fun i p xs e1 e2 => by
  have e3 := h.2 i p xs e1 e2
  rw [L2.upd_ne (fun z => by rw [z, ha] at e3; cases e3)]; exact e3⟩
theorem RwH.upd_no {H : Hp} {ps : List Addr} {xss : List (List Int)} {a : Addr} {o : HO} (h : RwH H ps xss) (hn : ∀ p ∈ ps, p ≠ a) : RwH (upd H a o) ps xss := ⟨h.1, fun i p xs e1 e2 => by rw [L2.upd_ne (hn p (List.mem_of_getElem? e1))]; exact h.2 i p xs e1 e2⟩
def spFnn : Sp := fun vs H Q _ => ∃ (l : Addr) (ps : List Addr) (xss : List (List Int)), vs = [.ref l] ∧ H l = some (.lst (ps.map V.ref)) ∧ RwH H ps xss ∧ (∀ xs ∈ xss, xs ≠ []) ∧ xss.length ≤ 1000000 ∧ Q (.int (fnn xss : Nat)) H
theorem getD_mem {xss : List (List Int)} {i : Nat} (h : i < xss.length) : xss.getD i [] ∈ xss := by
  have : xss.getD i [] = xss[i] := by simp [List.getD, h]
  rw [this]; exact List.getElem_mem h
theorem ok_first_not_nought {f : Addr} {fd : FuncData} (F : Fun K "first_not_nought" "first_not_nought" s_first_not_nought f fd) (T : Txt K mg) : FnOk P w K mg base CX0 1 f fd ["rows"] spFnn := by
  refine F.ok sc_first_not_nought (fun vs H Q E h => ?_) (fun cdv A outer s H vs Q E hr h => ?_)
  · obtain ⟨l, ps, xss, rfl, _⟩ := h
    rfl
  · obtain ⟨l, ps, xss, rfl, hL, hR, hne, hn, k⟩ := h
    refine ⟨_, (pss_cons (ps_set (i := 1) sc_first_not_nought.nd rfl (Or.inl rfl) pe_int)
      (pss_cons (ps_while PassesOwn.never (PW.pt (pw_and (pt_cmpR op_lt (pv 1) (pe_callB (call_lenK (K := K) rfl) (by rfl) T.len_ PySem.boot_len (pa_cons (pv 0) pa_nil)) (nomark _)) (pw_and1 (pt_cmpR op_eqI (pe_ix (ix_listK (K := K) rfl) (pe_ix (ix_listK (K := K) rfl) (pv 0) (pv 1) (fun _ _ => rfl)) pe_int (fun _ _ => rfl)) pe_int (nomark _)))))
        (pss_one (ps_set (i := 1) sc_first_not_nought.nd rfl (Or.inl rfl) (pe_op op_add (pv 1) pe_int))))
      (pss_one (ps_ret (pv 1))))), ?_⟩
    have hpl : (ps.map V.ref).length = xss.length := by rw [List.length_map, hR.1]
    refine rd_sa ?_
    refine ⟨fun m σ' H' => ∃ j : Nat, σ' = [some (.ref l), some (.int j)] ∧ H = H' ∧ j ≤ xss.length ∧ xss.length - j = m ∧ ∀ i, i < j → cf (xss.getD i []) 0 = 0, ⟨_, 0, rfl, rfl, Nat.zero_le _, rfl, fun i h => absurd h (Nat.not_lt_zero _)⟩, ?_⟩
    rintro m σ' H' ⟨j, rfl, rfl, hj, rfl, hz⟩
    have fin : fnn xss = j → Q (.int (j : Nat)) H := fun e => by rw [e] at k; exact k
    refine ⟨_, rfl, _, rfl, l, _, rfl, .inl (SqL.of hL), _, _, rfl, rfl, _, rfl, rd_dec (fun h => ?_) (fun h => ?_)⟩
    · rw [hpl] at h
      have hj' : j < xss.length := by omega
      obtain ⟨p, ep, hp⟩ := hR.get hj'
      have hne' := hne _ (getD_mem hj')
      have hl0 := List.length_pos_iff.mpr hne'
      refine ⟨_, rfl, _, rfl, l, _, _, .ref p, rfl, rfl, SqL.of hL, atI_nat (by rw [List.getElem?_map, ep]; rfl), p, _, _, _, rfl, rfl, SqL.of hp, at_map (j := 0) rfl hl0, _, _, rfl, rfl, _, rfl, rd_dec (fun h0 => ?_) (fun h0 => ?_)⟩
      · refine ⟨fun σ'' H'' => ∃ m', m' < xss.length - j ∧ ∃ j : Nat, σ'' = [some (.ref l), some (.int j)] ∧ H = H'' ∧ j ≤ xss.length ∧ xss.length - j = m' ∧ ∀ i, i < j → cf (xss.getD i []) 0 = 0, fun _ _ h => h, ?_⟩
        refine ⟨_, rfl, _, _, rfl, rfl, xss.length - (j + 1), by omega, j + 1, rfl, rfl, hj', rfl, fun i hi => ?_⟩
        by_cases e : i = j
        · subst e; exact h0
        · exact hz i (by omega)
      · exact ⟨_, rfl, fin (fnn_eq (Nat.le_of_lt hj') hz (.inr h0))⟩
    · rw [hpl] at h
      exact ⟨_, rfl, fin (fnn_eq hj hz (.inl (by omega)))⟩
def spClr : Sp := fun vs H Q _ => ∃ (a h : Addr) (xs hs : List Int) (bf : Int), vs = [.ref a, .ref h, .int bf] ∧ H a = some (.lst (xs.map V.int)) ∧ H h = some (.lst (hs.map V.int)) ∧ xs ≠ [] ∧ xs.length ≤ hs.length ∧ xs.length ≤ 1000000 ∧ AllB 400000 xs ∧ AllB 400000 hs ∧ bf ≠ 0 ∧ mkL H Q (clr hs bf xs)
theorem ok_cleared {f : Addr} {fd : FuncData} (F : Fun K "cleared" "cleared" s_cleared f fd) (T : Txt K mg) (hNS : base.NoSeer) (hTr : P.given.tree = none) : FnOk P w K mg base CX0 33 f fd ["row", "head", "before"] spClr := by
  refine F.ok sc_cleared (fun vs H Q E h => ?_) (fun cdv A outer s H vs Q E hr h => ?_)
  · obtain ⟨a, h', xs, hs, bf, rfl, _⟩ := h
    rfl
  · obtain ⟨a, h', xs, hs, bf, rfl, hA, hH, hne, hle, hn, bx, bh, b0, k⟩ := h
    have big := sizeLine_eq
    have hxl := List.length_pos_iff.mpr hne
    have hdp : (A.deeper (PyProof.Rows.envOfC (Str.ofString "cleared") (defScope s_cleared) s.heap.objs.size f cdv)).depth + 100 < recursionLimit := by have := hr.dp; omega
    refine ⟨_, (pss_one (ps_ret (pe_comp (own := ["k"]) (fr := ["before", "head", "row"]) (js := [2, 1, 0]) (by walk_at "comp_ok") rfl (pi_range2 rfl T.range_ (pa_cons pe_int (pa_cons (pe_callB (call_lenK (K := K) rfl) (by rfl) T.len_ PySem.boot_len (pa_cons (pv 0) pa_nil)) pa_nil))) (fun _ _ _ _ => (pg_name (i := 0) (show List.Nodup (["k", "before", "head", "row"] : List Str) from by decide +kernel) rfl (Or.inl rfl))) (fun _ _ _ _ => (pe_op (op_fdivSB hNS hTr hdp rfl rfl rfl rfl rfl) (pe_op op_sub (pe_op op_mulB (pe_ix (ix_listK (K := K) rfl) (pv 2) pe_int (fun _ _ => rfl)) (pe_ix (ix_listK (K := K) rfl) (pv 3) (pv 0) (fun _ _ => rfl))) (pe_op op_mulB (pe_ix (ix_listK (K := K) rfl) (pv 3) pe_int (fun _ _ => rfl)) (pe_ix (ix_listK (K := K) rfl) (pv 2) (pv 0) (fun _ _ => rfl)))) (pv 1)))))), ?_⟩
    have hl : (xs.map V.int).length = xs.length := List.length_map _
    refine rd_ret ⟨_, rfl, a, _, rfl, .inl (SqL.of hA), _, _, rfl, by rw [hl]; omega, ?_⟩
    have en : (((xs.map V.int).length : Int) - 1).toNat = xs.length - 1 := by rw [hl]; omega
    rw [en]
    refine comp_range (lo := 1) (n := xs.length - 1) (fun i ys σ' H' => ∃ z : Option V, σ' = [z, some (.int bf), some (.ref h'), some (.ref a)] ∧ ys = ((List.range i).map fun k => V.int ((cf hs 0 * cf xs (k + 1) - cf xs 0 * cf hs (k + 1)).fdiv bf)) ∧ H = H') (by omega) ⟨none, rfl, rfl, rfl⟩ ?_ ?_ ?_
    · rintro i ys σ' H' _ ⟨z, rfl, rfl, rfl⟩
      simp
    · rintro i ys σ' H' hi ⟨z, rfl, rfl, rfl⟩
      have e0 : (1 : Int) + (i : Int) = ((i + 1 : Nat) : Int) := by omega
      have m9 : (400000 : Nat) ≤ 1000000 := by decide
      refine ⟨_, rfl, h', _, _, _, rfl, rfl, SqL.of hH, at_map (j := 0) rfl (by omega), _, rfl, _, rfl, a, _, _, _, rfl, rfl, SqL.of hA, at_map e0 (by omega), _, _, rfl, rfl, ⟨(bh.cf 0).mono m9, (bx.cf (i + 1)).mono m9⟩, _, rfl, a, _, _, _, rfl, rfl, SqL.of hA, at_map (j := 0) rfl hxl, _, rfl, _, rfl, h', _, _, _, rfl, rfl, SqL.of hH, at_map e0 (by omega), _, _, rfl, rfl, ⟨(bx.cf 0).mono m9, (bh.cf (i + 1)).mono m9⟩, _, _, rfl, rfl, _, rfl, _, _, rfl, rfl, b0, _, rfl, ?_, rfl⟩
      rw [List.range_succ, List.map_append]; rfl
    · rintro ys σ' H' p ⟨z, rfl, rfl, rfl⟩ hp
      refine k p _ (Same.upd_new hp) hp ?_
      rw [upd_same]
      unfold clr
      rw [List.map_map]; rfl
def spDet : Sp := fun vs H Q _ => ∃ (l : Addr) (ps : List Addr) (xss : List (List Int)) (b : Nat), vs = [.ref l] ∧ H l = some (.lst (ps.map V.ref)) ∧ RwH H ps xss ∧ (∀ xs ∈ xss, xs.length = xss.length) ∧ (∀ xs ∈ xss, AllB b xs) ∧ xss.length ≤ 16 ∧ b ≤ 2000 ∧ ∀ H', Same H H' → Q (.int (D xss.length (xss.map cf))) H'
theorem ok_determinant {f : Addr} {fd : FuncData} (F : Fun K "determinant" "determinant" s_determinant f fd) (T : Txt K mg) {f_first_not_nought : Addr} {fd_first_not_nought : FuncData} (C_first_not_nought : Cal P w K mg base 1 "first_not_nought" ["rows"] spFnn f_first_not_nought fd_first_not_nought) {f_cleared : Addr} {fd_cleared : FuncData} (C_cleared : Cal P w K mg base 33 "cleared" ["row", "head", "before"] spClr f_cleared fd_cleared) : FnOk P w K mg base CX0 34 f fd ["rows"] spDet := by
  obtain ⟨G_first_not_nought, m_first_not_nought, k_first_not_nought, b_first_not_nought⟩ := C_first_not_nought
  obtain ⟨G_cleared, m_cleared, k_cleared, b_cleared⟩ := C_cleared
  refine F.ok sc_determinant (fun vs H Q E h => ?_) (fun cdv A outer s H vs Q E hr h => ?_)
  · obtain ⟨l, ps, xss, b, rfl, _⟩ := h
    rfl
  · obtain ⟨l0, ps0, xss, b, rfl, hL, hR, hsq, hbt, hsz, hb5, k⟩ := h
    have big := sizeLine_eq
    have hbt' : ∀ x ∈ xss, ∀ j, (cf x j).natAbs ≤ 2 ^ b := fun x hx j => Nat.le_of_lt ((hbt x hx).cf j)
    have hstart : DInv xss 1 (b + 4) 0 xss.length := DInv.start hsz hbt'
    rw [← det_is hsz hsq hbt'] at k
    clear hbt'
    refine ⟨_, (pss_cons (ps_setComp (i := 1) sc_determinant.nd rfl (Or.inl rfl) (own := ["row"]) (fr := []) (js := []) (by walk_at "comp_ok") rfl (pi_listK (K := K) rfl (pv 0)) (fun _ _ _ _ => (pg_name (i := 0) (show List.Nodup (["row"] : List Str) from by decide +kernel) rfl (Or.inl rfl))) (fun _ _ _ _ => (pe_callTy (call_listK (K := K) rfl) (by rfl) T.list_ PyProof.Rows.boot_list (pa_cons (pv 0) pa_nil))) (by rfl))
      (pss_cons (ps_set (i := 2) sc_determinant.nd rfl (Or.inr rfl) pe_int)
      (pss_cons (ps_set (i := 3) sc_determinant.nd rfl (Or.inl rfl) pe_int)
      (pss_cons (ps_while PassesOwn.never (pt_cmpR op_gt (pe_callB (call_lenK (K := K) rfl) (by rfl) T.len_ PySem.boot_len (pa_cons (pv 1) pa_nil)) pe_int (nomark _))
        (pss_cons (ps_set (i := 4) sc_determinant.nd rfl (Or.inl rfl) (pe_call G_first_not_nought (hr.mono (by decide)) rfl m_first_not_nought k_first_not_nought b_first_not_nought .nil pass0 (pa_cons (pv 1) pa_nil)))
          (pss_cons (ps_if (pt_cmpR op_eqI (pv 4) (pe_callB (call_lenK (K := K) rfl) (by rfl) T.len_ PySem.boot_len (pa_cons (pv 1) pa_nil)) (nomark _))
            (pss_one (ps_ret pe_int))
            pss_nil)
          (pss_cons (ps_if (pt_cmpR op_eqI (pe_op op_modP (pv 4) pe_int) pe_int (nomark _))
            (pss_one (ps_set (i := 3) sc_determinant.nd rfl (Or.inl rfl) (pe_un un_neg (pv 3))))
            pss_nil)
          (pss_cons (ps_set (i := 5) sc_determinant.nd rfl (Or.inr rfl) (pe_ix (ix_listK (K := K) rfl) (pv 1) (pv 4) (fun _ _ => rfl)))
          (pss_cons (ps_setComp (i := 1) sc_determinant.nd rfl (Or.inl rfl) (own := ["row"]) (fr := ["head", "before"]) (js := [5, 2]) (by walk_at "comp_ok") rfl (pi_listK (K := K) rfl (pe_op op_cat (pe_slice (sl_listK (K := K) rfl) (pv 1) po_none (po_some (pv 4))) (pe_slice (sl_listK (K := K) rfl) (pv 1) (po_some (pe_op op_add (pv 4) pe_int)) po_none))) (fun _ _ _ _ => (pg_name (i := 0) (show List.Nodup (["row", "head", "before"] : List Str) from by decide +kernel) rfl (Or.inl rfl))) (fun _ _ _ _ => (pe_call G_cleared (hr.mono (by decide)) rfl m_cleared k_cleared b_cleared .nil pass0 (pa_cons (pv 0) (pa_cons (pv 1) (pa_cons (pv 2) pa_nil))))) (by rfl))
          (pss_one (ps_set (i := 2) sc_determinant.nd rfl (Or.inr rfl) (pe_ix (ix_listK (K := K) rfl) (pv 5) pe_int (fun _ _ => rfl))))))))))
      (pss_one (ps_ret (pe_op op_mulB (pv 3) (pv 2)))))))), ?_⟩
    have hpl : (ps0.map V.ref).length = xss.length := by rw [List.length_map, hR.1]
    -- the copies
    refine ⟨_, rfl, l0, rfl, ⟨_, SqL.of hL⟩, comp_list (K := K) (a := l0) (xs := ps0.map V.ref) (fun i ys σ' H' => ∃ (z0 : Option V) (qs : List Addr), σ' = [z0] ∧ ys = qs.map V.ref ∧ qs.length = i ∧ Same H H' ∧ RwH H' qs (xss.take i)) (by rw [hpl]; omega) ⟨none, [], rfl, rfl, rfl, fun _ _ e => e, RwH.nil⟩ ?_ ?_ ?_⟩
    · rintro i ys σ' H' _ ⟨z0, qs, rfl, rfl, rfl, sm, _⟩
      exact ⟨SqL.of (sm _ _ hL), by rw [List.length_map]; exact Nat.le_refl _⟩
    · rintro i x ys σ' H' hi ⟨z0, qs, rfl, rfl, rfl, sm, hq⟩
      obtain ⟨p, xs, rfl, ep, ex, hp, hlt⟩ := hR.of_get hi
      refine ⟨_, rfl, p, _, rfl, .inl (SqL.of (sm _ _ hp)), fun q hq' => ?_⟩
      refine ⟨_, qs ++ [q], rfl, map_ref_snoc qs q, by rw [List.length_append]; rfl, sm.then_new hq', ?_⟩
      have et : xss.take (qs.length + 1) = xss.take qs.length ++ [xs] := by rw [List.take_add_one, ex]; rfl
      rw [et]
      exact (hq.same (Same.upd_new hq')).snoc upd_same
    rintro ys σ' H1 l1 ⟨z0, ps, rfl, rfl, hql, sm1, hR1⟩ hl1
    rw [hpl, List.take_length] at hR1
    rw [hpl] at hql
    have s2 := sm1.then_new (o := .lst (ps.map V.ref)) hl1
    have hL2 : upd H1 l1 (.lst (ps.map V.ref)) l1 = some (.lst (ps.map V.ref)) := upd_same
    have hR2 := hR1.same (Same.upd_new (o := .lst (ps.map V.ref)) hl1)
    generalize upd H1 l1 (.lst (ps.map V.ref)) = H2 at s2 hL2 hR2 ⊢
    show tSeq (tAsg (tC (V.int 1)) (gName 2)) _ _ _ _
    refine rd_sa (rd_C ?_)
    show tSeq (tAsg (tC (V.int 1)) (gName 3)) _ _ _ _
    refine rd_sa (rd_C ?_)
    show tSeq (tWhile _ _) _ _ _ _
    refine ⟨fun m σ' H' => ∃ (l : Addr) (ps : List Addr) (left : List (List Int)) (bf sgn : Int) (z4 z5 : Option V), σ' = [some (.ref l0), some (.ref l), some (.int bf), some (.int sgn), z4, z5] ∧ Same H H' ∧ H' l = some (.lst (ps.map V.ref)) ∧ RwH H' ps left ∧ left.length = m ∧ (∀ xs ∈ left, xs.length = m) ∧ DInv left bf (b + 4) (xss.length - m) xss.length ∧ m ≤ xss.length ∧ bf ≠ 0 ∧ Bits 33000 bf ∧ Bits 1 sgn ∧ detS m left bf sgn = detS xss.length xss 1 1,
      ⟨_, l1, ps, xss, 1, 1, none, none, rfl, s2, hL2, hR2, rfl, hsq, by rw [Nat.sub_self]; exact hstart, Nat.le_refl _, by decide, Bits.mono (j := 1) (by show (1 : Int).natAbs < 2 ^ 1; decide) (by decide), by show (1 : Int).natAbs < 2 ^ 1; decide, rfl⟩, ?_⟩
    rintro m σ' H3 ⟨l, ps, left, bf, sgn, z4, z5, rfl, s3, hL3, hR3, hlen, hsq3, hI, hmn, hbf, bbf, bsg, hdet⟩
    have hpl3 : (ps.map V.ref).length = m := by rw [List.length_map, hR3.1, hlen]
    refine ⟨_, rfl, l, _, rfl, .inl (SqL.of hL3), _, _, rfl, rfl, _, rfl, rd_dec (fun h => ?_) (fun h => ?_)⟩
    rotate_left
    · rw [hpl3] at h
      have hm0 : m = 0 := by omega
      subst hm0
      refine ⟨_, rfl, _, rfl, _, _, rfl, rfl, ⟨bsg.mono (by decide), bbf.mono (by decide)⟩, ?_⟩
      have e : sgn * bf = detS xss.length xss 1 1 := hdet
      dsimp only
      rw [e]
      exact k _ s3
    rw [hpl3] at h
    have hm0 : 0 < m := by omega
    have hm9 : m ≤ 9000 := by omega
    have hc9 : 33000 ≤ 33000 := by decide
    have hb3 : ∀ xs ∈ left, AllB 33000 xs := fun xs hx y hy => by
      obtain ⟨i, hi, rfl⟩ := List.mem_iff_getElem.mp hy
      have h1 := hI.bits (by omega) hx i
      rw [cf_lt hi] at h1
      have h2 : (b + 4) * (1 + (xss.length - m)) ≤ 2004 * 16 := Nat.mul_le_mul (by omega) (by omega)
      have h3 : 2 ^ ((b + 4) * (1 + (xss.length - m))) < 2 ^ 33000 := (Nat.pow_lt_pow_iff_right (by decide)).mpr (by omega)
      exact Nat.lt_of_le_of_lt h1 h3
    have hne3 : ∀ xs ∈ left, xs ≠ [] := fun xs hx z => by have := hsq3 xs hx; rw [z] at this; simp at this; omega
    refine ⟨fun σ'' H'' => ∃ m', m' < m ∧ ∃ (l : Addr) (ps : List Addr) (left : List (List Int)) (bf sgn : Int) (z4 z5 : Option V), σ'' = [some (.ref l0), some (.ref l), some (.int bf), some (.int sgn), z4, z5] ∧ Same H H'' ∧ H'' l = some (.lst (ps.map V.ref)) ∧ RwH H'' ps left ∧ left.length = m' ∧ (∀ xs ∈ left, xs.length = m') ∧ DInv left bf (b + 4) (xss.length - m') xss.length ∧ m' ≤ xss.length ∧ bf ≠ 0 ∧ Bits 33000 bf ∧ Bits 1 sgn ∧ detS m' left bf sgn = detS xss.length xss 1 1, fun _ _ h => h, ?_⟩
    refine rd_sa ⟨_, rfl, l, ps, left, rfl, hL3, hR3, hne3, by omega, ?_⟩
    have hfl := fnn_le left
    obtain ⟨m1, rfl⟩ : ∃ m1, m = m1 + 1 := ⟨m - 1, by omega⟩
    refine rd_sr ⟨_, rfl, _, rfl, l, _, rfl, .inl (SqL.of hL3), _, _, rfl, rfl, _, rfl, rd_dec (fun h0 => ?_) (fun h0 => ?_)⟩
    · rw [hpl3] at h0
      have e : fnn left = left.length := by omega
      have e2 : detS xss.length xss 1 1 = 0 := by rw [← hdet]; show (if fnn left = left.length then 0 else _) = _; rw [if_pos e]
      refine rd_ret ?_
      have kk := k H3 s3
      rw [e2] at kk
      exact kk
    rw [hpl3] at h0
    have hfn : fnn left < left.length := by omega
    have hfne := fnn_ne hfn
    have hd1 : detS m1 ((left.take (fnn left) ++ left.drop (fnn left + 1)).map (clr (left.getD (fnn left) []) bf)) (cf (left.getD (fnn left) []) 0) (if fnn left % 2 = 1 then -sgn else sgn) = detS xss.length xss 1 1 := by
      rw [← hdet]
      show _ = (if fnn left = left.length then 0 else _)
      rw [if_neg (show ¬ fnn left = left.length by omega)]
    obtain ⟨hd, ehd, hhd⟩ := hR3.get hfn
    have hmem := getD_mem hfn
    generalize hplc : fnn left = plc at hfn hfne hd1 ehd hhd hmem ⊢
    generalize left.getD plc [] = head at hfne hd1 hhd hmem
    have hhl := hsq3 head hmem
    -- sign
    refine rd_cutIf (fun σ' H' => σ' = [some (.ref l0), some (.ref l), some (.int bf), some (.int (if plc % 2 = 1 then -sgn else sgn)), some (.int (plc : Nat)), z5] ∧ H3 = H') ?_ ?_
    case refine_2 =>
      intro rest
      refine ⟨_, rfl, _, _, rfl, rfl, (by show (0 : Int) < 2; decide), _, _, rfl, rfl, _, rfl, rd_dec (fun h1 => ?_) (fun h1 => ?_)⟩
      · have e : plc % 2 = 1 := by have : ((plc : Nat) : Int) % 2 = 1 := h1; omega
        refine rd_asg ⟨_, rfl, _, rfl, rest _ _ ⟨?_, rfl⟩⟩
        rw [if_pos e]; rfl
      · have e : ¬ plc % 2 = 1 := by have : ¬ ((plc : Nat) : Int) % 2 = 1 := h1; omega
        refine rest _ _ ⟨?_, rfl⟩
        rw [if_neg e]; rfl
    rintro σ' H' ⟨rfl, rfl⟩
    have bsg' : Bits 1 (if plc % 2 = 1 then -sgn else sgn) := by split; exact bsg.neg; exact bsg
    generalize (if plc % 2 = 1 then -sgn else sgn) = sgn' at hd1 bsg' ⊢
    -- head
    refine rd_sa ⟨_, rfl, _, rfl, l, _, _, .ref hd, rfl, rfl, SqL.of hL3, atI_nat (by rw [List.getElem?_map, ehd]; rfl), ?_⟩
    -- the rest of the rows
    refine ⟨_, rfl, _, rfl, _, rfl, l, _, rfl, SqL.of hL3, fun p1 hp1 => ?_⟩
    rw [cutV_to]
    have t1 := Same.upd_new (o := .lst ((ps.take plc).map V.ref)) hp1
    have ep1 : ((plc : Nat) : Int) + 1 = ((plc + 1 : Nat) : Int) := by omega
    refine ⟨_, rfl, _, rfl, _, _, rfl, rfl, ((plc + 1 : Nat) : Int), by rw [← ep1], l, _, rfl, SqL.of (t1 _ _ hL3), fun p2 hp2 => ?_⟩
    rw [cutV_from]
    have n12 : p1 ≠ p2 := ne_of_none upd_same hp2
    have t2 := t1.then_new (o := .lst ((ps.drop (plc + 1)).map V.ref)) hp2
    refine ⟨p1, p2, _, _, rfl, rfl, by rw [upd_ne n12, upd_same], upd_same, ?_, fun p3 hp3 => ?_⟩
    · rw [List.length_map, List.length_map, List.length_take, List.length_drop]
      rw [List.length_map] at hpl3
      omega
    rw [← List.map_append]
    have t3 := t2.then_new (o := .lst ((ps.take plc ++ ps.drop (plc + 1)).map V.ref)) hp3
    have hR4 := (hR3.same t3).erase plc
    have h33 : upd (upd (upd H3 p1 (.lst ((ps.take plc).map V.ref))) p2 (.lst ((ps.drop (plc + 1)).map V.ref))) p3 (.lst ((ps.take plc ++ ps.drop (plc + 1)).map V.ref)) p3 = some (.lst ((ps.take plc ++ ps.drop (plc + 1)).map V.ref)) := upd_same
    generalize upd (upd (upd H3 p1 (.lst ((ps.take plc).map V.ref))) p2 (.lst ((ps.drop (plc + 1)).map V.ref))) p3 (.lst ((ps.take plc ++ ps.drop (plc + 1)).map V.ref)) = H4 at t3 hR4 h33 ⊢
    have hel : (left.take plc ++ left.drop (plc + 1)).length = m1 := by rw [List.length_append, List.length_take, List.length_drop]; omega
    have hmem4 : ∀ xs, xs ∈ left.take plc ++ left.drop (plc + 1) → xs ∈ left := fun xs hx => (List.mem_append.mp hx).elim List.mem_of_mem_take List.mem_of_mem_drop
    generalize left.take plc ++ left.drop (plc + 1) = lefts at hd1 hR4 hel hmem4
    generalize ps.take plc ++ ps.drop (plc + 1) = es at hR4 h33 ⊢
    have hel2 : (es.map V.ref).length = m1 := by rw [List.length_map, hR4.1, hel]
    have hhd4 := t3 _ _ hhd
    refine ⟨p3, rfl, ⟨_, SqL.of h33⟩, comp_list (K := K) (a := p3) (xs := es.map V.ref) (fun i ys σ' H' => ∃ (z0 : Option V) (qs : List Addr), σ' = [z0, some (.ref hd), some (.int bf)] ∧ ys = qs.map V.ref ∧ qs.length = i ∧ Same H4 H' ∧ RwH H' qs ((lefts.take i).map (clr head bf))) (by rw [hel2]; omega) ⟨none, [], rfl, rfl, rfl, fun _ _ e => e, RwH.nil⟩ ?_ ?_ ?_⟩
    · rintro i ys σ' H' _ ⟨z0, qs, rfl, rfl, rfl, sm, _⟩
      exact ⟨SqL.of (sm _ _ h33), by rw [List.length_map]; exact Nat.le_refl _⟩
    · rintro i x ys σ' H' hi ⟨z0, qs, rfl, rfl, rfl, sm, hq⟩
      obtain ⟨p, xs, rfl, ep, ex, hp, hlt⟩ := hR4.of_get hi
      have hxm := hmem4 xs (List.mem_of_getElem? ex)
      have hxl := hsq3 xs hxm
      refine ⟨_, rfl, _, rfl, _, rfl, p, hd, xs, head, bf, rfl, sm _ _ hp, sm _ _ hhd4, hne3 xs hxm, by omega, by omega, (hb3 xs hxm).mono (by omega), (hb3 head hmem).mono (by omega), hbf, fun q H5 sm5 hq5 e5 => ?_⟩
      refine ⟨_, qs ++ [q], rfl, map_ref_snoc qs q, by rw [List.length_append]; rfl, sm.trans sm5, ?_⟩
      have et : lefts.take (qs.length + 1) = lefts.take qs.length ++ [xs] := by rw [List.take_add_one, ex]; rfl
      rw [et, List.map_append]
      exact (hq.same sm5).snoc e5
    rintro ys σ' H6 l6 ⟨z0, qs, rfl, rfl, hql6, sm6, hR6⟩ hl6
    rw [hel2, ← hel, List.take_length] at hR6
    have t6 := (t3.trans sm6).then_new (o := .lst (qs.map V.ref)) hl6
    have hL6 : upd H6 l6 (.lst (qs.map V.ref)) l6 = some (.lst (qs.map V.ref)) := upd_same
    have hR7 := hR6.same (Same.upd_new (o := .lst (qs.map V.ref)) hl6)
    generalize upd H6 l6 (.lst (qs.map V.ref)) = H7 at t6 hL6 hR7 ⊢
    have hh0 : 0 < head.length := by omega
    refine ⟨_, rfl, hd, _, _, _, rfl, rfl, SqL.of (t6 _ _ hhd), at_map (j := 0) rfl hh0, ?_⟩
    refine ⟨m1, Nat.lt_succ_self _, l6, qs, lefts.map (clr head bf), cf head 0, sgn', _, _, rfl, s3.trans t6, hL6, hR7, by rw [List.length_map, hel], ?_, ?_, ?_, hfne, ((hb3 head hmem).cf 0).mono hc9, bsg', hd1⟩
    · intro ys hy
      obtain ⟨xs, hx, rfl⟩ := List.mem_map.mp hy
      rw [length_clr, hsq3 xs (hmem4 xs hx)]; rfl
    · have e := hI.step hbf hmem hfne hmem4 (fun x hx => by rw [hsq3 head hmem, hsq3 x (hmem4 x hx)])
      have e2 : xss.length - (m1 + 1) + 1 = xss.length - m1 := by omega
      rw [e2] at e
      exact e
    · omega
def sp2 : Sp := fun vs H Q _ => ∃ a b : Int, vs = [.int a, .int b] ∧ Q (.int (Nat.gcd a.natAbs b.natAbs : Nat)) H
theorem abs_eq (i : Int) : (if i < 0 then -i else i) = (i.natAbs : Int) := by split <;> omega
theorem ok_shared_by_two {f : Addr} {fd : FuncData} (F : Fun K "shared_by_two" "shared_by_two" s_shared_by_two f fd) (T : Txt K mg) : FnOk P w K mg base CX0 1 f fd ["one", "other"] sp2 := by
  refine F.ok sc_shared_by_two (fun vs H Q E h => ?_) (fun cdv A outer s H vs Q E hr h => ?_)
  · obtain ⟨a, b, rfl, _⟩ := h
    rfl
  · obtain ⟨a, b, rfl, k⟩ := h
    refine ⟨_, (pss_cons (ps_set (i := 2) sc_shared_by_two.nd rfl (Or.inl rfl) (pe_callB call_abs (by rfl) T.abs_ PyProof.Rows.boot_abs (pa_cons (pv 0) pa_nil)))
      (pss_cons (ps_set (i := 3) sc_shared_by_two.nd rfl (Or.inl rfl) (pe_callB call_abs (by rfl) T.abs_ PyProof.Rows.boot_abs (pa_cons (pv 1) pa_nil)))
      (pss_cons (ps_while PassesOwn.never (pt_cmpR op_neI (pv 3) pe_int (nomark _))
        (pss_cons (ps_set (i := 4) sc_shared_by_two.nd rfl (Or.inl rfl) (pe_op op_modP (pv 2) (pv 3)))
          (pss_cons (ps_set (i := 2) sc_shared_by_two.nd rfl (Or.inl rfl) (pv 3))
          (pss_one (ps_set (i := 3) sc_shared_by_two.nd rfl (Or.inl rfl) (pv 4))))))
      (pss_one (ps_ret (pv 2)))))), ?_⟩
    refine ⟨_, rfl, _, rfl, ?_⟩
    refine ⟨_, rfl, _, rfl, ?_⟩
    refine ⟨fun m σ' H' => ∃ (x y : Int) (z : Option V), σ' = [some (.int a), some (.int b), some (.int x), some (.int y), z] ∧ H = H' ∧ 0 ≤ x ∧ 0 ≤ y ∧ y.natAbs = m ∧ Nat.gcd x.natAbs y.natAbs = Nat.gcd a.natAbs b.natAbs, ⟨_, _, _, none, rfl, rfl, ?_, ?_, rfl, ?_⟩, ?_⟩
    · rw [abs_eq]; exact Int.natCast_nonneg _
    · rw [abs_eq]; exact Int.natCast_nonneg _
    · rw [abs_eq, abs_eq, Int.natAbs_natCast, Int.natAbs_natCast]
    · rintro m σ' H' ⟨x, y, z, rfl, rfl, hx, hy, rfl, hg⟩
      refine ⟨_, rfl, _, _, rfl, rfl, _, rfl, ?_⟩
      refine rd_ndec (fun hn => ?_) (fun h0 => ?_)
      · have hp : 0 < y := by have : y ≠ 0 := hn; omega
        refine ⟨fun σ'' H'' => ∃ m', m' < y.natAbs ∧ ∃ (x' y' : Int) (z : Option V), σ'' = [some (.int a), some (.int b), some (.int x'), some (.int y'), z] ∧ H = H'' ∧ 0 ≤ x' ∧ 0 ≤ y' ∧ y'.natAbs = m' ∧ Nat.gcd x'.natAbs y'.natAbs = Nat.gcd a.natAbs b.natAbs, fun _ _ h => h, ?_⟩
        refine ⟨_, rfl, _, rfl, _, _, rfl, rfl, hp, ?_⟩
        refine ⟨_, rfl, ?_⟩
        refine ⟨_, rfl, ?_⟩
        have h1 := Int.emod_nonneg x (Int.ne_of_gt hp)
        have h2 := Int.emod_lt_of_pos x hp
        exact ⟨(x % y).natAbs, by omega, y, x % y, _, rfl, rfl, hy, h1, rfl, by rw [gcd_turn hx hp]; exact hg⟩
      · refine ⟨_, rfl, ?_⟩
        have e : (y : Int) = 0 := h0
        subst e
        have e2 : (x : Int) = ((Nat.gcd a.natAbs b.natAbs : Nat) : Int) := by
          rw [← hg]
          show x = ((Nat.gcd x.natAbs 0 : Nat) : Int)
          rw [Nat.gcd_zero_right]; omega
        rw [e2]
        exact k
def spShared (K : PySem.W.Frag) : Sp := fun vs H Q _ => ∃ (a : Addr) (ns : List Int), vs = [.ref a] ∧ SqL K H a (ns.map V.int) ∧ Q (.int (gcdL ns : Nat)) H
theorem ok_shared {f : Addr} {fd : FuncData} (F : Fun K "shared" "shared" s_shared f fd) (T : Txt K mg) {f_shared_by_two : Addr} {fd_shared_by_two : FuncData} (C_shared_by_two : Cal P w K mg base 1 "shared_by_two" ["one", "other"] sp2 f_shared_by_two fd_shared_by_two) : FnOk P w K mg base CX0 2 f fd ["row"] (spShared K) := by
  obtain ⟨G_shared_by_two, m_shared_by_two, k_shared_by_two, b_shared_by_two⟩ := C_shared_by_two
  refine F.ok sc_shared (fun vs H Q E h => ?_) (fun cdv A outer s H vs Q E hr h => ?_)
  · obtain ⟨a, ns, rfl, _⟩ := h
    rfl
  · obtain ⟨a, ns, rfl, hS, k⟩ := h
    refine ⟨_, (pss_cons (ps_set (i := 1) sc_shared.nd rfl (Or.inl rfl) pe_int)
      (pss_cons (ps_for PassesOwn.never rfl (pi_listK (K := K) rfl (pv 0)) (pg_name (i := 2) sc_shared.nd rfl (Or.inl rfl))
        (pss_one (ps_set (i := 1) sc_shared.nd rfl (Or.inl rfl) (pe_call G_shared_by_two (hr.mono (by decide)) rfl m_shared_by_two k_shared_by_two b_shared_by_two .nil pass0 (pa_cons (pv 1) (pa_cons (pv 2) pa_nil))))))
      (pss_one (ps_ret (pv 1))))), ?_⟩
    refine ⟨_, rfl, a, rfl, ⟨_, hS⟩, for_list (K := K) (a := a) (xs := ns.map V.int) (fun i σ' H' => ∃ z : Option V, σ' = [some (.ref a), some (.int (gcdL (ns.take i) : Nat)), z] ∧ H = H') ⟨none, rfl, rfl⟩ (fun i σ' H' _ ⟨z, _, e⟩ => by rw [← e]; exact hS) ?_ ?_⟩
    · rintro i y σ' H' hi ⟨z, rfl, rfl⟩
      rw [List.getElem?_map] at hi
      cases e : ns[i]? with
      | none => rw [e] at hi; cases hi
      | some n =>
        rw [e] at hi
        obtain rfl := Option.some.inj hi
        refine ⟨_, rfl, _, rfl, _, _, rfl, ?_⟩
        have e3 : ns.take (i + 1) = ns.take i ++ [n] := by rw [List.take_add_one, e]; rfl
        refine ⟨some (.int n), ?_, rfl⟩
        rw [e3, gcdL_snoc, Int.natAbs_natCast]
        rfl
    · rintro σ' H' ⟨z, rfl, rfl⟩
      refine ⟨_, rfl, ?_⟩
      rw [List.length_map, List.take_length]
      exact k
def spShr : Sp := fun vs H Q _ => ∃ (a : Addr) (ns : List Int), vs = [.ref a] ∧ H a = some (.lst (ns.map V.int)) ∧ Tr ns ∧ ns.length ≤ 1000000 ∧ AllB 9000 ns ∧ mkL H Q (shrL ns)
theorem gcdL_bits {ns : List Int} (ht : Tr ns) (hb : AllB 9000 ns) (hne : ns ≠ []) : 0 < (gcdL ns : Int) ∧ Bits 9000 (gcdL ns : Int) := by
  obtain ⟨r, x, rfl⟩ := (snoc_cases ns).resolve_left hne
  have hx : x ≠ 0 := tr_snoc.mp ht
  have hm : x ∈ r ++ [x] := by simp
  have hd := gcdL_dvd hm
  have hp : 0 < x.natAbs := Int.natAbs_pos.mpr hx
  have h1 : 0 < gcdL (r ++ [x]) := Nat.pos_of_dvd_of_pos hd hp
  exact ⟨by omega, (hb x hm).of_le (by rw [Int.natAbs_natCast]; exact Nat.le_of_dvd hp hd)⟩
theorem ok_shrunk {f : Addr} {fd : FuncData} (F : Fun K "shrunk" "shrunk" s_shrunk f fd) (T : Txt K mg) {f_shared : Addr} {fd_shared : FuncData} (C_shared : Cal P w K mg base 2 "shared" ["row"] (spShared K) f_shared fd_shared) : FnOk P w K mg base CX0 3 f fd ["row"] spShr := by
  obtain ⟨G_shared, m_shared, k_shared, b_shared⟩ := C_shared
  refine F.ok sc_shrunk (fun vs H Q E h => ?_) (fun cdv A outer s H vs Q E hr h => ?_)
  · obtain ⟨a, ns, rfl, _⟩ := h
    rfl
  · obtain ⟨a, ns, rfl, hA, ht, hn, hb, k⟩ := h
    have big := sizeLine_eq
    refine ⟨_, (pss_cons (ps_set (i := 1) sc_shrunk.nd rfl (Or.inr rfl) (pe_call G_shared (hr.mono (by decide)) rfl m_shared k_shared b_shared .nil pass0 (pa_cons (pv 0) pa_nil)))
      (pss_one (ps_ret (pe_comp (own := ["value"]) (fr := ["divisor"]) (js := [1]) (by walk_at "comp_ok") rfl (pi_listK (K := K) rfl (pv 0)) (fun _ _ _ _ => (pg_name (i := 0) (show List.Nodup (["value", "divisor"] : List Str) from by decide +kernel) rfl (Or.inl rfl))) (fun _ _ _ _ => (pe_op op_fdivP (pv 0) (pv 1))))))), ?_⟩
    refine rd_sa ⟨_, rfl, a, ns, rfl, SqL.of hA, ?_⟩
    refine rd_ret ⟨_, rfl, a, rfl, ⟨_, SqL.of hA⟩, comp_list (K := K) (a := a) (xs := ns.map V.int) (fun i ys σ' H' => ∃ (z0 : Option V), σ' = [z0, some (.int (gcdL ns : Nat))] ∧ ys = ((ns.take i).map fun x => x / (gcdL ns : Int)).map V.int ∧ H = H') (by rw [List.length_map]; omega) ⟨none, rfl, rfl, rfl⟩ ?_ ?_ ?_⟩
    · rintro i ys σ' H' _ ⟨z0, rfl, rfl, rfl⟩
      exact ⟨SqL.of hA, by rw [List.length_map, List.length_map, List.length_take]; exact Nat.min_le_left _ _⟩
    · rintro i x ys σ' H' hi ⟨z0, rfl, rfl, rfl⟩
      rw [List.getElem?_map] at hi
      cases e : ns[i]? with
      | none => rw [e] at hi; cases hi
      | some c =>
        rw [e] at hi
        obtain rfl := Option.some.inj hi
        obtain ⟨g1, g2⟩ := gcdL_bits ht hb (fun z => by rw [z] at e; simp at e)
        refine ⟨_, rfl, _, rfl, _, _, rfl, rfl, ⟨g1, g2⟩, _, rfl, ?_, rfl⟩
        rw [List.take_add_one, e]
        simp
    · rintro ys σ' H' p ⟨z0, rfl, rfl, rfl⟩ hp
      refine k p _ (Same.upd_new hp) hp ?_
      rw [upd_same, List.length_map, List.take_length]
      rfl
def spPlain : Sp := fun vs H Q _ => ∃ (a : Addr) (ns : List Int), vs = [.ref a] ∧ H a = some (.lst (ns.map V.int)) ∧ Tr ns ∧ ns.length ≤ 1000000 ∧ AllB 9000 ns ∧ mkL H Q (plainL ns)
theorem at_last (r : List Int) (x : Int) : atI ((r ++ [x]).map V.int) (-1) = some (.int x) := by
  rw [List.map_append]; exact atI_last _ _
theorem ok_plain {f : Addr} {fd : FuncData} (F : Fun K "plain" "plain" s_plain f fd) (T : Txt K mg) {f_shrunk : Addr} {fd_shrunk : FuncData} (C_shrunk : Cal P w K mg base 3 "shrunk" ["row"] spShr f_shrunk fd_shrunk) : FnOk P w K mg base CX0 4 f fd ["row"] spPlain := by
  obtain ⟨G_shrunk, m_shrunk, k_shrunk, b_shrunk⟩ := C_shrunk
  refine F.ok sc_plain (fun vs H Q E h => ?_) (fun cdv A outer s H vs Q E hr h => ?_)
  · obtain ⟨a, ns, rfl, _⟩ := h
    rfl
  · obtain ⟨a, ns, rfl, hA, ht, hn, hb, k⟩ := h
    have big := sizeLine_eq
    have hu := hr.units
    refine ⟨_, (pss_cons (ps_set (i := 1) sc_plain.nd rfl (Or.inl rfl) (pe_call G_shrunk (hr.mono (by decide)) rfl m_shrunk k_shrunk b_shrunk .nil pass0 (pa_cons (pv 0) pa_nil)))
      (pss_cons (ps_if (PW.pt (pw_and (pt_cmpR (op_neLK (K := K) rfl hu) (pv 1) (pe_lst pa_nil) (nomark _)) (pw_and1 (pt_cmpR op_lt (pe_ix (ix_listK (K := K) rfl) (pv 1) (pe_un un_neg pe_int) (fun _ _ => rfl)) pe_int (nomark _)))))
        (pss_one (ps_ret (pe_comp (own := ["value"]) (fr := []) (js := []) (by walk_at "comp_ok") rfl (pi_listK (K := K) rfl (pv 1)) (fun _ _ _ _ => (pg_name (i := 0) (show List.Nodup (["value"] : List Str) from by decide +kernel) rfl (Or.inl rfl))) (fun _ _ _ _ => (pe_un un_neg (pv 0))))))
        pss_nil)
      (pss_one (ps_ret (pv 1))))), ?_⟩
    refine rd_sa ⟨_, rfl, a, ns, rfl, hA, ht, hn, hb, fun p H1 s1 hp e1 => ?_⟩
    have hsl : (shrL ns).length = ns.length := List.length_map _
    have done : posL (shrL ns) = shrL ns → Q (.ref p) H1 := fun e => k p H1 s1 hp (by rw [e1]; show _ = some (HO.lst ((posL (shrL ns)).map V.int)); rw [e])
    refine rd_cutIf (fun σ' H' => σ' = [some (.ref a), some (.ref p)] ∧ Same H H' ∧ H' p = some (.lst ((shrL ns).map V.int)) ∧ posL (shrL ns) = shrL ns) ?_ ?_
    · rintro σ' H' ⟨rfl, s2, e2, e3⟩
      exact ⟨_, rfl, k p H' s2 hp (by rw [e2]; show _ = some (HO.lst ((posL (shrL ns)).map V.int)); rw [e3])⟩
    intro rest
    refine rd_and ⟨_, rfl, Nat.zero_le _, fun q hq => ?_⟩
    have s2 : Same H (upd H1 q (.lst [])) := s1.then_new hq
    have e2 : upd H1 q (.lst []) p = some (.lst ((shrL ns).map V.int)) := by rw [upd_ne (ne_of_none e1 hq)]; exact e1
    refine ⟨p, q, shrL ns, [], rfl, rfl, SqL.of e2, SqL.of upd_same, _, rfl, ?_⟩
    refine rd_ndec (fun hne => ?_) (fun he => ?_)
    · obtain ⟨r, x, er⟩ := (snoc_cases (shrL ns)).resolve_left hne
      refine ⟨_, rfl, _, rfl, p, _, _, .int x, rfl, rfl, SqL.of e2, (by rw [er]; exact at_last r x), _, _, rfl, rfl, _, rfl, ?_⟩
      have elast : lastI (shrL ns) = x := by rw [er, lastI_snoc]
      refine rd_dec (fun hx => ?_) (fun hx => ?_)
      · have hx' : x < 0 := hx
        have epos : posL (shrL ns) = (shrL ns).map fun x => -x := by unfold posL; rw [elast, if_pos hx']
        refine rd_ret ⟨_, rfl, p, rfl, ⟨_, SqL.of e2⟩, comp_list (K := K) (a := p) (xs := (shrL ns).map V.int) (fun i ys σ' H' => ∃ (z0 : Option V), σ' = [z0] ∧ ys = (((shrL ns).take i).map fun x => -x).map V.int ∧ upd H1 q (.lst []) = H') (by rw [List.length_map, hsl]; omega) ⟨none, rfl, rfl, rfl⟩ ?_ ?_ ?_⟩
        · rintro i ys σ' H' _ ⟨z0, rfl, rfl, rfl⟩
          exact ⟨SqL.of e2, by rw [List.length_map, List.length_map, List.length_take]; exact Nat.min_le_left _ _⟩
        · rintro i x ys σ' H' hi ⟨z0, rfl, rfl, rfl⟩
          rw [List.getElem?_map] at hi
          cases e : (shrL ns)[i]? with
          | none => rw [e] at hi; cases hi
          | some c =>
            rw [e] at hi
            obtain rfl := Option.some.inj hi
            refine ⟨_, rfl, _, rfl, _, rfl, ?_, rfl⟩
            rw [List.take_add_one, e]
            simp
        · rintro ys σ' H' p' ⟨z0, rfl, rfl, rfl⟩ hp'
          refine k p' _ (s2.then_new hp') (s2.free hp') ?_
          rw [upd_same, List.length_map, List.take_length]
          show _ = some (HO.lst ((posL (shrL ns)).map V.int))
          rw [epos]
      · exact rest _ _ ⟨rfl, s2, e2, by unfold posL; rw [elast, if_neg hx]⟩
    · have he' : shrL ns = [] := he
      exact rest _ _ ⟨rfl, s2, e2, by rw [he']; rfl⟩
theorem ok_poly {f : Addr} {fd : FuncData} (F : Fun K "poly" "poly" s_poly f fd) (T : Txt K mg) : FnOk P w K mg base CX0 1 f fd ["row"] (spTrim K) := by
  refine F.ok sc_poly (fun vs H Q E h => ?_) (fun cdv A outer s H vs Q E hr h => ?_)
  · obtain ⟨a, ns, rfl, _⟩ := h
    rfl
  · obtain ⟨a, ns, rfl, hS, k⟩ := h
    refine ⟨_, (pss_cons (ps_set (i := 1) sc_poly.nd rfl (Or.inl rfl) (pe_callB (call_lenK (K := K) rfl) (by rfl) T.len_ PySem.boot_len (pa_cons (pv 0) pa_nil)))
      (pss_cons (ps_while PassesOwn.never (PW.pt (pw_and (pt_cmpR op_gt (pv 1) pe_int (nomark _)) (pw_and1 (pt_cmpR op_eqI (pe_ix (ix_listK (K := K) rfl) (pv 0) (pe_op op_sub (pv 1) pe_int) (fun _ _ => rfl)) pe_int (nomark _)))))
        (pss_one (ps_set (i := 1) sc_poly.nd rfl (Or.inl rfl) (pe_op op_sub (pv 1) pe_int))))
      (pss_one (ps_ret (pe_slice (sl_listK (K := K) rfl) (pv 0) po_none (po_some (pv 1))))))), ?_⟩
    refine ⟨_, rfl, a, _, rfl, .inl hS, ?_⟩
    refine ⟨fun m σ' H' => ∃ n : Nat, n ≤ ns.length ∧ σ' = [some (.ref a), some (.int n)] ∧ H = H' ∧ n = m ∧ trim (ns.take n) = trim ns, ⟨_, ns.length, Nat.le_refl _, ?_, rfl, rfl, ?_⟩, ?_⟩
    · rw [List.length_map]; rfl
    · rw [List.take_length]
    · rintro m σ' H' ⟨n, hn, rfl, rfl, rfl, ht⟩
      have fin : trim (ns.take n) = ns.take n → ∃ v, ([some (V.ref a), some (V.int n)] : St)[0]? = some (some v) ∧ ∃ v_1, ([some (V.ref a), some (V.int n)] : St)[1]? = some (some v_1) ∧ ∃ i, v_1 = V.int i ∧ rSlL K v none (some i) H Q := fun h => by
        refine ⟨_, rfl, _, rfl, n, rfl, a, _, rfl, hS, fun p hp => k p _ (Same.upd_new hp) hp ?_⟩
        rw [upd_same, ← ht, h]
        have e : cutV (ns.map V.int) none (some (n : Int)) = (ns.take n).map V.int := by
          unfold cutV
          rw [HT.sIx_none, HT.sIx_nat, List.drop_zero, Nat.sub_zero, List.length_map, Nat.min_eq_left hn, List.map_take]
        rw [e]
      refine ⟨_, rfl, _, _, rfl, rfl, _, rfl, ?_⟩
      refine rd_dec (fun hp => ?_) (fun hp => ?_)
      · obtain ⟨j, rfl⟩ : ∃ j, n = j + 1 := ⟨n - 1, by have : (0 : Int) < n := hp; omega⟩
        have hj : j < ns.length := hn
        refine ⟨_, rfl, _, rfl, _, _, rfl, rfl, a, _, j, .int (cf ns j), rfl, ?_, hS, atI_nat ?_, _, _, rfl, rfl, _, rfl, ?_⟩
        · show V.int (((j + 1 : Nat) : Int) - 1) = V.int j
          congr 1; omega
        · rw [List.getElem?_map, get_cf hj]; rfl
        refine rd_dec (fun h0 => ?_) (fun h0 => ?_)
        · refine ⟨fun σ'' H'' => ∃ m', m' < j + 1 ∧ ∃ n : Nat, n ≤ ns.length ∧ σ'' = [some (.ref a), some (.int n)] ∧ H = H'' ∧ n = m' ∧ trim (ns.take n) = trim ns, fun _ _ h => h, ?_⟩
          refine ⟨_, rfl, _, _, rfl, rfl, j, Nat.lt_succ_self _, j, Nat.le_of_lt hj, ?_, rfl, rfl, ?_⟩
          · show [some (V.ref a), some (V.int (((j + 1 : Nat) : Int) - 1))] = [some (V.ref a), some (V.int j)]
            congr 4; omega
          · rw [← ht, trim_take_zero hj h0]
        · exact fin (trim_take_ne hj h0)
      · obtain rfl : n = 0 := by have : ¬ (0 : Int) < n := hp; omega
        exact fin (by rw [List.take_zero]; rfl)
def spDeg : Sp := fun vs H Q _ => ∃ (a : Addr) (xs : List V), vs = [.ref a] ∧ H a = some (.lst xs) ∧ Q (.int ((xs.length : Int) - 1)) H
theorem ok_degree {f : Addr} {fd : FuncData} (F : Fun K "degree" "degree" s_degree f fd) (T : Txt K mg) : FnOk P w K mg base CX0 1 f fd ["row"] spDeg := by
  refine F.ok sc_degree (fun vs H Q E h => ?_) (fun cdv A outer s H vs Q E hr h => ?_)
  · obtain ⟨a, xs, rfl, _⟩ := h
    rfl
  · obtain ⟨a, xs, rfl, hA, k⟩ := h
    refine ⟨_, (pss_one (ps_ret (pe_op op_sub (pe_callB (call_lenK (K := K) rfl) (by rfl) T.len_ PySem.boot_len (pa_cons (pv 0) pa_nil)) pe_int))), ?_⟩
    exact ⟨_, rfl, a, _, rfl, .inl (SqL.of hA), _, _, rfl, rfl, k⟩
theorem ok_coefficient {f : Addr} {fd : FuncData} (F : Fun K "coefficient" "coefficient" s_coefficient f fd) (T : Txt K mg) : FnOk P w K mg base CX0 1 f fd ["row", "place"] (spCell K) := by
  refine F.ok sc_coefficient (fun vs H Q E h => ?_) (fun cdv A outer s H vs Q E hr h => ?_)
  · obtain ⟨a, ns, k, rfl, _⟩ := h
    rfl
  · obtain ⟨a, ns, n, rfl, hS, k⟩ := h
    refine ⟨_, (pss_cons (ps_if (pt_cmpR op_lt (pv 1) (pe_callB (call_lenK (K := K) rfl) (by rfl) T.len_ PySem.boot_len (pa_cons (pv 0) pa_nil)) (nomark _))
        (pss_one (ps_ret (pe_ix (ix_listK (K := K) rfl) (pv 0) (pv 1) (fun _ _ => rfl))))
        pss_nil)
      (pss_one (ps_ret pe_int))), ?_⟩
    refine ⟨_, rfl, _, rfl, a, _, rfl, .inl hS, _, _, rfl, rfl, _, rfl, ?_⟩
    refine rd_dec (fun h1 => ?_) (fun h1 => ?_)
    · rw [List.length_map] at h1
      have h2 : n < ns.length := by omega
      refine ⟨_, rfl, _, rfl, a, _, _, _, rfl, rfl, hS, atI_nat (v := .int (ns.getD n 0)) ?_, k⟩
      rw [List.getElem?_map, List.getElem?_eq_getElem h2]
      simp [List.getD, h2]
    · rw [List.length_map] at h1
      have h2 : ns.length ≤ n := by omega
      have e : ns.getD n 0 = 0 := by simp [List.getD, List.getElem?_eq_none_iff.mpr h2]
      rw [e] at k
      exact k
theorem ok_added {f : Addr} {fd : FuncData} (F : Fun K "added" "added" s_added f fd) (T : Txt K mg) {f_poly : Addr} {fd_poly : FuncData} (C_poly : Cal P w K mg base 1 "poly" ["row"] (spTrim K) f_poly fd_poly) {f_coefficient : Addr} {fd_coefficient : FuncData} (C_coefficient : Cal P w K mg base 1 "coefficient" ["row", "place"] (spCell K) f_coefficient fd_coefficient) : FnOk P w K mg base CX0 2 f fd ["first", "second"] (sp2L K addL) := by
  obtain ⟨G_poly, m_poly, k_poly, b_poly⟩ := C_poly
  obtain ⟨G_coefficient, m_coefficient, k_coefficient, b_coefficient⟩ := C_coefficient
  refine F.ok sc_added (fun vs H Q E h => ?_) (fun cdv A outer s H vs Q E hr h => ?_)
  · obtain ⟨a, b, xs, ys, rfl, _⟩ := h
    rfl
  · obtain ⟨a, b, xs, ys, rfl, hA, hB, hx, hy, k⟩ := h
    refine ⟨_, (pss_cons (ps_set (i := 2) sc_added.nd rfl (Or.inl rfl) (pe_callB (call_max2 rfl) (by rfl) T.max_ PyProof.Rows.boot_max (pa_cons (pe_callB (call_lenK (K := K) rfl) (by rfl) T.len_ PySem.boot_len (pa_cons (pv 0) pa_nil)) (pa_cons (pe_callB (call_lenK (K := K) rfl) (by rfl) T.len_ PySem.boot_len (pa_cons (pv 1) pa_nil)) pa_nil))))
      (pss_one (ps_ret (pe_call G_poly (hr.mono (by decide)) rfl m_poly k_poly b_poly .nil pass0 (pa_cons (pe_comp (own := ["k"]) (fr := ["first", "second"]) (js := [0, 1]) (by walk_at "comp_ok") rfl (pi_range1 rfl T.range_ (pa_cons (pv 2) pa_nil)) (fun _ _ _ _ => (pg_name (i := 0) (show List.Nodup (["k", "first", "second"] : List Str) from by decide +kernel) rfl (Or.inl rfl))) (fun _ _ _ _ => (pe_op op_add (pe_call G_coefficient (hr.mono (by decide)) rfl m_coefficient k_coefficient b_coefficient .nil pass0 (pa_cons (pv 1) (pa_cons (pv 0) pa_nil))) (pe_call G_coefficient (hr.mono (by decide)) rfl m_coefficient k_coefficient b_coefficient .nil pass0 (pa_cons (pv 2) (pa_cons (pv 0) pa_nil)))))) pa_nil))))), ?_⟩
    refine ⟨_, rfl, a, _, rfl, .inl hA, _, rfl, b, _, rfl, .inl hB, _, _, rfl, ?_⟩
    rw [max_eq, List.length_map, List.length_map]
    have hz : max xs.length ys.length ≤ sizeLine := by have := sizeLine_eq; omega
    refine ⟨_, rfl, _, rfl, (small62 hz).1, (small62 hz).2, comp_range (lo := 0) (n := max xs.length ys.length) (fun i zs σ' H' => ∃ z : Option V, σ' = [z, some (.ref a), some (.ref b)] ∧ zs = ((List.range i).map fun k => V.int (cf xs k + cf ys k)) ∧ H = H') hz ⟨none, rfl, rfl, rfl⟩ ?_ ?_ ?_⟩
    · rintro i zs σ' H' _ ⟨z, rfl, rfl, rfl⟩
      simp
    · rintro i zs σ' H' hi ⟨z, rfl, rfl, rfl⟩
      refine ⟨_, rfl, _, rfl, a, xs, i, ?_, hA, _, rfl, _, rfl, b, ys, i, ?_, hB, _, _, rfl, rfl, _, rfl, ?_, rfl⟩
      · show [V.ref a, V.int (0 + (i : Int))] = _
        rw [Int.zero_add]
      · show [V.ref b, V.int (0 + (i : Int))] = _
        rw [Int.zero_add]
      · rw [List.range_succ, List.map_append]; rfl
    · rintro zs σ' H' p ⟨z, rfl, rfl, rfl⟩ hp
      refine ⟨p, (List.range (max xs.length ys.length)).map fun k => cf xs k + cf ys k, rfl, SqL.of ?_, ?_⟩
      · rw [upd_same, List.map_map]; rfl
      · intro p' H' sm hp' e
        refine k p' H' ((Same.upd_new hp).trans sm) ((Same.upd_new hp).free hp') ?_
        rw [e, addL_eq]
def spMul : Sp := fun vs H Q _ => ∃ (a b : Addr) (xs ys : List Int), vs = [.ref a, .ref b] ∧ H a = some (.lst (xs.map V.int)) ∧ H b = some (.lst (ys.map V.int)) ∧ xs.length ≤ 1000000 ∧ ys.length ≤ 1000000 ∧ AllB 1000000 xs ∧ AllB 1000000 ys ∧ mkL H Q (mulL xs ys)
theorem ok_multiplied {f : Addr} {fd : FuncData} (F : Fun K "multiplied" "multiplied" s_multiplied f fd) (T : Txt K mg) : FnOk P w K mg base CX0 1 f fd ["first", "second"] spMul := by
  refine F.ok sc_multiplied (fun vs H Q E h => ?_) (fun cdv A outer s H vs Q E hr h => ?_)
  · obtain ⟨a, b, xs, ys, rfl, _⟩ := h
    rfl
  · obtain ⟨a, b, xs, ys, rfl, hA, hB, hx, hy, bx, by', k⟩ := h
    have hu := hr.units
    refine ⟨_, (pss_cons (ps_if (PW.pt (pw_or (pt_cmpR (op_eqLK (K := K) rfl hu) (pv 0) (pe_lst pa_nil) (nomark _)) (pw_or1 (pt_cmpR (op_eqLK (K := K) rfl hu) (pv 1) (pe_lst pa_nil) (nomark _)))))
        (pss_one (ps_ret (pe_lst pa_nil)))
        pss_nil)
      (pss_cons (ps_set (i := 2) sc_multiplied.nd rfl (Or.inl rfl) (pe_op op_rep (pe_lst (pa_cons pe_int pa_nil)) (pe_op op_sub (pe_op op_add (pe_callB (call_lenK (K := K) rfl) (by rfl) T.len_ PySem.boot_len (pa_cons (pv 0) pa_nil)) (pe_callB (call_lenK (K := K) rfl) (by rfl) T.len_ PySem.boot_len (pa_cons (pv 1) pa_nil))) pe_int)))
      (pss_cons (ps_for PassesOwn.never rfl (pi_enum rfl T.enumerate_ (pa_cons (pv 0) pa_nil)) (pg_tup rfl (pgs_cons (pg_name (i := 3) sc_multiplied.nd rfl (Or.inl rfl)) (pgs_cons (pg_name (i := 4) sc_multiplied.nd rfl (Or.inl rfl)) pgs_nil)))
        (pss_one (ps_for PassesOwn.never rfl (pi_enum rfl T.enumerate_ (pa_cons (pv 1) pa_nil)) (pg_tup rfl (pgs_cons (pg_name (i := 5) sc_multiplied.nd rfl (Or.inl rfl)) (pgs_cons (pg_name (i := 6) sc_multiplied.nd rfl (Or.inl rfl)) pgs_nil)))
            (pss_one (ps_asg (pe_op op_add (pe_ix (ix_listK (K := K) rfl) (pv 2) (pe_op op_add (pv 3) (pv 5)) (fun _ _ => rfl)) (pe_op op_mulB (pv 4) (pv 6))) (pg_sub (pv 2) (pe_op op_add (pv 3) (pv 5)) set_list))))))
      (pss_one (ps_ret (pv 2)))))), ?_⟩
    refine ⟨_, rfl, Nat.zero_le _, fun p1 hp1 => ?_⟩
    have s1 : Same H (upd H p1 (.lst [])) := Same.upd_new hp1
    refine ⟨a, p1, xs, [], rfl, rfl, SqL.of (s1 _ _ hA), SqL.of upd_same, _, rfl, ?_⟩
    refine rd_dec (fun h0 => ?_) (fun h0 => ?_)
    · refine rd_true ⟨Nat.zero_le _, fun p2 hp2 => k p2 _ (s1.then_new hp2) (s1.free hp2) ?_⟩
      rw [upd_same]; unfold mulL; rw [if_pos (.inl h0)]; rfl
    refine ⟨_, rfl, Nat.zero_le _, fun p2 hp2 => ?_⟩
    have s2 : Same H (upd (upd H p1 (.lst [])) p2 (.lst [])) := s1.then_new hp2
    refine ⟨b, p2, ys, [], rfl, rfl, SqL.of (s2 _ _ hB), SqL.of upd_same, _, rfl, ?_⟩
    refine rd_dec (fun h1 => ?_) (fun h1 => ?_)
    · refine ⟨Nat.zero_le _, fun p3 hp3 => k p3 _ (s2.then_new hp3) (s2.free hp3) ?_⟩
      rw [upd_same]; unfold mulL; rw [if_pos (.inr h1)]; rfl
    generalize upd (upd H p1 (.lst [])) p2 (.lst []) = H2 at s2 ⊢
    obtain ⟨la, ea⟩ : ∃ la, xs.length = la + 1 := ⟨xs.length - 1, by have := List.length_pos_iff.mpr h0; omega⟩
    obtain ⟨lb, eb⟩ : ∃ lb, ys.length = lb + 1 := ⟨ys.length - 1, by have := List.length_pos_iff.mpr h1; omega⟩
    refine ⟨(by show 1 ≤ sizeLine; decide), fun p3 hp3 => ?_⟩
    have s3 := s2.then_new (o := .lst [V.int 0]) hp3
    have big := sizeLine_eq
    refine ⟨_, rfl, a, _, rfl, .inl (SqL.of (s3 _ _ hA)), _, rfl, b, _, rfl, .inl (SqL.of (s3 _ _ hB)), _, _, rfl, rfl, _, _, rfl, rfl, p3, _, _, rfl, rfl, upd_same, ?_, ?_, ?_, fun p hp => ?_⟩
    · rw [List.length_map, List.length_map]; omega
    · rw [List.length_map, List.length_map]; omega
    · rw [List.length_map, List.length_map]; show 1 * _ ≤ _; omega
    have en : (((xs.map V.int).length : Int) + ((ys.map V.int).length : Int) - 1).toNat = la + lb + 1 := by rw [List.length_map, List.length_map]; omega
    rw [en, rep_zero]
    have s4 := s3.then_new (o := .lst ((List.replicate (la + lb + 1) (0 : Int)).map V.int)) hp
    have npa : a ≠ p := s3.ne hA hp
    have npb : b ≠ p := s3.ne hB hp
    generalize hH4 : upd (upd H2 p3 (.lst [V.int 0])) p (.lst ((List.replicate (la + lb + 1) (0 : Int)).map V.int)) = H4 at s4 ⊢
    have hp4 : H4 p = some (.lst ((List.replicate (la + lb + 1) (0 : Int)).map V.int)) := by rw [← hH4, upd_same]
    refine ⟨_, rfl, a, rfl, ⟨_, SqL.of (s4 _ _ hA)⟩, for_enum (K := K) (a := a) (xs := xs.map V.int) (fun j σ' H' => ∃ (acc : List Int) (z3 z4 z5 z6 : Option V), σ' = [some (.ref a), some (.ref b), some (.ref p), z3, z4, z5, z6] ∧ SameB p H4 H' ∧ H' p = some (.lst (acc.map V.int)) ∧ acc.length = la + lb + 1 ∧ ∀ n, n < acc.length → cf acc n = sm xs ys n j)
      ⟨List.replicate (la + lb + 1) 0, none, none, none, none, rfl, SameB.refl _ _, hp4, by simp, fun n _ => by rw [cf_replicate]; rfl⟩ ?_ ?_ ?_⟩
    · rintro j σ' H' _ ⟨acc, z3, z4, z5, z6, rfl, sb, _⟩
      exact SqL.of (sb _ _ npa (s4 _ _ hA))
    · rintro j x σ' H' q hj ⟨acc, z3, z4, z5, z6, rfl, sb, hpa, hal, hac⟩ hq
      rw [List.getElem?_map] at hj
      have hjl : j < xs.length := by
        apply Classical.byContradiction
        intro hn
        rw [List.getElem?_eq_none_iff.mpr (Nat.le_of_not_lt hn)] at hj
        cases hj
      rw [get_cf hjl] at hj
      obtain rfl := Option.some.inj hj
      refine ⟨q, _, rfl, SqT.of upd_same, rfl, _, _, rfl, _, _, rfl, rfl, ?_⟩
      have nqp : p ≠ q := ne_of_none hpa hq
      have sb1 : SameB p H4 (upd H' q (.tup [.int j, .int (cf xs j)])) := sb.then_new hq
      refine ⟨_, rfl, b, rfl, ⟨_, SqL.of (sb1 _ _ npb (s4 _ _ hB))⟩, for_enum (K := K) (a := b) (xs := ys.map V.int) (fun i σ' H' => ∃ (acc : List Int) (z5 z6 : Option V), σ' = [some (.ref a), some (.ref b), some (.ref p), some (.int j), some (.int (cf xs j)), z5, z6] ∧ SameB p H4 H' ∧ H' p = some (.lst (acc.map V.int)) ∧ acc.length = la + lb + 1 ∧ ∀ n, n < acc.length → cf acc n = sm xs ys n j + (if j ≤ n ∧ n - j < i then tm xs ys n j else 0))
        ⟨acc, z5, z6, rfl, sb1, by rw [upd_ne nqp]; exact hpa, hal, mul_start hac⟩ ?_ ?_ ?_⟩
      · rintro i σ' H' _ ⟨acc, z5, z6, rfl, sb, _⟩
        exact SqL.of (sb _ _ npb (s4 _ _ hB))
      · rintro i x σ' H' q hi ⟨acc, z5, z6, rfl, sb, hpa, hal, hac⟩ hq
        rw [List.getElem?_map] at hi
        have hil : i < ys.length := by
          apply Classical.byContradiction
          intro hn
          rw [List.getElem?_eq_none_iff.mpr (Nat.le_of_not_lt hn)] at hi
          cases hi
        rw [get_cf hil] at hi
        obtain rfl := Option.some.inj hi
        refine ⟨q, _, rfl, SqT.of upd_same, rfl, _, _, rfl, _, _, rfl, rfl, ?_⟩
        have nqp : p ≠ q := ne_of_none hpa hq
        have hpa' : upd H' q (.tup [.int i, .int (cf ys i)]) p = some (.lst (acc.map V.int)) := by rw [upd_ne nqp]; exact hpa
        have hji : j + i < acc.length := by omega
        have eji : ((j : Nat) : Int) + ((i : Nat) : Int) = ((j + i : Nat) : Int) := by omega
        refine ⟨_, rfl, _, rfl, _, rfl, _, _, rfl, rfl, p, _, _, _, rfl, rfl, SqL.of hpa', at_map eji hji, _, rfl, _, rfl, _, _, rfl, rfl, ⟨bx.cf j, by'.cf i⟩, _, _, rfl, rfl, _, rfl, _, rfl, _, rfl, _, _, rfl, rfl, p, _, _, j + i, rfl, rfl, hpa', ixN_nat eji (by rw [List.length_map]; exact hji), ?_⟩
        refine ⟨acc.set (j + i) (cf acc (j + i) + cf xs j * cf ys i), _, _, rfl, (sb.then_new hq).then_upd, by rw [upd_same, map_set_int], by rw [List.length_set]; exact hal, mul_step hjl hil hji hac⟩
      · rintro σ' H' ⟨acc, z5, z6, rfl, sb, hpa, hal, hac⟩
        rw [List.length_map] at hac
        exact ⟨acc, _, _, _, _, rfl, sb, hpa, hal, mul_row hac⟩
    · rintro σ' H' ⟨acc, z3, z4, z5, z6, rfl, sb, hpa, hal, hac⟩
      rw [List.length_map] at hac
      refine ⟨_, rfl, k p H' (fun b' o e => sb b' o (s3.ne e hp) (s4 b' o e)) (s3.free hp) ?_⟩
      rw [hpa]
      have e : acc = mulL xs ys := by
        apply ext_cf
        · rw [hal]; unfold mulL; rw [if_neg (by intro z; exact z.elim h0 h1), List.length_map, List.length_range]; omega
        · intro n _
          rw [cf_mulL, mul_end (by omega) hac]
      rw [e]
def spSlid : Sp := fun vs H Q _ => ∃ (a : Addr) (ns : List Int) (n : Nat), vs = [.ref a, .int (n : Nat)] ∧ H a = some (.lst (ns.map V.int)) ∧ ns.length ≤ 1000 ∧ n ≤ 1000 ∧ ∀ (p : Addr) (H' : Hp) (ps : List Addr), Same H H' → H' p = some (.lst (ps.map V.ref)) → RwH H' ps (slidL ns n) → Q (.ref p) H'
theorem ok_slid {f : Addr} {fd : FuncData} (F : Fun K "slid" "slid" s_slid f fd) (T : Txt K mg) : FnOk P w K mg base CX0 1 f fd ["row", "many"] spSlid := by
  refine F.ok sc_slid (fun vs H Q E h => ?_) (fun cdv A outer s H vs Q E hr h => ?_)
  · obtain ⟨a, ns, n, rfl, _⟩ := h
    rfl
  · obtain ⟨a, ns, n, rfl, hA, hl, hn, k⟩ := h
    have big := sizeLine_eq
    refine ⟨_, (pss_cons (ps_set (i := 2) sc_slid.nd rfl (Or.inr rfl) (pe_listRev (K := K) rfl rfl (by rfl) T.list_ (by rfl) T.reversed_ (pa_cons (pv 0) pa_nil)))
      (pss_one (ps_ret (pe_comp (own := ["k"]) (fr := ["falling", "many"]) (js := [2, 1]) (by walk_at "comp_ok") rfl (pi_range1 rfl T.range_ (pa_cons (pv 1) pa_nil)) (fun _ _ _ _ => (pg_name (i := 0) (show List.Nodup (["k", "falling", "many"] : List Str) from by decide +kernel) rfl (Or.inl rfl))) (fun _ _ _ _ => (pe_op op_cat (pe_op op_cat (pe_op op_rep (pe_lst (pa_cons pe_int pa_nil)) (pv 0)) (pv 1)) (pe_op op_rep (pe_lst (pa_cons pe_int pa_nil)) (pe_op op_sub (pe_op op_sub (pv 2) pe_int) (pv 0))))))))), ?_⟩
    refine rd_sa ⟨_, rfl, a, _, rfl, SqL.of hA, fun pf hpf => ?_⟩
    rw [← List.map_reverse]
    have s1 : Same H (upd H pf (.lst (ns.reverse.map V.int))) := Same.upd_new hpf
    have q1 : upd H pf (.lst (ns.reverse.map V.int)) pf = some (.lst (ns.reverse.map V.int)) := upd_same
    generalize upd H pf (.lst (ns.reverse.map V.int)) = H1 at s1 q1 ⊢
    have hrl : ns.reverse.length = ns.length := List.length_reverse
    refine rd_ret ⟨_, rfl, _, rfl, by omega, by omega, ?_⟩
    refine comp_range (lo := 0) (n := n) (fun t zs σ' H' => ∃ (z : Option V) (ps : List Addr), σ' = [z, some (.ref pf), some (.int (n : Nat))] ∧ zs = ps.map V.ref ∧ ps.length = t ∧ Same H1 H' ∧ RwH H' ps ((slidL ns n).take t)) (by omega) ⟨none, [], rfl, rfl, rfl, fun _ _ e => e, RwH.nil⟩ ?_ ?_ ?_
    · rintro t zs σ' H' _ ⟨z, ps, rfl, rfl, rfl, _⟩
      rw [List.length_map]; exact Nat.le_refl _
    · rintro t zs σ' H' ht ⟨z, ps, rfl, rfl, hpt, sm, hR⟩
      have ei : (0 : Int) + (t : Int) = ((t : Nat) : Int) := by omega
      refine ⟨by show 1 ≤ sizeLine; decide, fun p1 hp1 => ⟨_, rfl, p1, _, _, rfl, rfl, upd_same, by omega, by omega, ?_, fun p2 hp2 => ?_⟩⟩
      · show 1 * (0 + (t : Int)).toNat ≤ sizeLine
        omega
      have t1 : Same H' (upd H' p1 (.lst [V.int 0])) := Same.upd_new hp1
      have er : (List.replicate (0 + (t : Int)).toNat [V.int 0]).flatten = (List.replicate t (0 : Int)).map V.int := by rw [ei, Int.toNat_natCast, rep_zero]
      rw [er]
      have t2 := t1.then_new (o := .lst ((List.replicate t (0 : Int)).map V.int)) hp2
      have q2 : upd (upd H' p1 (.lst [V.int 0])) p2 (.lst ((List.replicate t (0 : Int)).map V.int)) p2 = some (.lst ((List.replicate t (0 : Int)).map V.int)) := upd_same
      generalize upd (upd H' p1 (.lst [V.int 0])) p2 (.lst ((List.replicate t (0 : Int)).map V.int)) = H2 at t2 q2 ⊢
      refine ⟨_, rfl, p2, pf, _, _, rfl, rfl, q2, (sm.trans t2) _ _ q1, by rw [List.length_map, List.length_map, List.length_replicate, hrl]; omega, fun p3 hp3 => ?_⟩
      rw [map_cat]
      have t3 := t2.then_new (o := .lst ((List.replicate t (0 : Int) ++ ns.reverse).map V.int)) hp3
      have q3 : upd H2 p3 (.lst ((List.replicate t (0 : Int) ++ ns.reverse).map V.int)) p3 = some (.lst ((List.replicate t (0 : Int) ++ ns.reverse).map V.int)) := upd_same
      generalize upd H2 p3 (.lst ((List.replicate t (0 : Int) ++ ns.reverse).map V.int)) = H3 at t3 q3 ⊢
      refine ⟨by show 1 ≤ sizeLine; decide, fun p4 hp4 => ⟨_, rfl, _, _, rfl, rfl, _, rfl, _, _, rfl, rfl, ?_⟩⟩
      have en : ((n : Nat) : Int) - 1 - (0 + (t : Int)) = ((n - 1 - t : Nat) : Int) := by omega
      dsimp only
      rw [en]
      refine ⟨p4, _, _, rfl, rfl, upd_same, by omega, by omega, ?_, fun p5 hp5 => ?_⟩
      · show 1 * ((n - 1 - t : Nat) : Int).toNat ≤ sizeLine
        omega
      have er2 : (List.replicate ((n - 1 - t : Nat) : Int).toNat [V.int 0]).flatten = (List.replicate (n - 1 - t) (0 : Int)).map V.int := by rw [Int.toNat_natCast, rep_zero]
      rw [er2]
      have t4 : Same H3 (upd H3 p4 (.lst [V.int 0])) := Same.upd_new hp4
      have t5 := t4.then_new (o := .lst ((List.replicate (n - 1 - t) (0 : Int)).map V.int)) hp5
      refine ⟨p3, p5, _, _, rfl, rfl, t5 _ _ q3, upd_same, by rw [List.length_map, List.length_map, List.length_append, List.length_replicate, List.length_replicate, hrl]; omega, fun p6 hp6 => ?_⟩
      rw [map_cat]
      have t6 := (t3.trans t5).then_new (o := .lst ((List.replicate t (0 : Int) ++ ns.reverse ++ List.replicate (n - 1 - t) (0 : Int)).map V.int)) hp6
      refine ⟨_, ps ++ [p6], rfl, map_ref_snoc ps p6, by rw [List.length_append, hpt]; rfl, sm.trans t6, ?_⟩
      have et : (slidL ns n).take (t + 1) = (slidL ns n).take t ++ [List.replicate t (0 : Int) ++ ns.reverse ++ List.replicate (n - 1 - t) (0 : Int)] := by
        rw [List.take_add_one]
        unfold slidL
        rw [List.getElem?_map, List.getElem?_range (by omega)]; rfl
      rw [et]
      exact (hR.same t6).snoc upd_same
    rintro zs σ' H' p ⟨z, ps, rfl, rfl, hpt, sm, hR⟩ hp
    have hsl : (slidL ns n).length = n := by unfold slidL; simp
    have e : (slidL ns n).take n = slidL ns n := List.take_of_length_le (by omega)
    have hR' : RwH H' ps (slidL ns n) := by rw [← e]; exact hR
    exact k p _ ps ((s1.trans sm).then_new hp) upd_same (hR'.same (Same.upd_new hp))
theorem RwH.cat {H : Hp} {ps qs : List Addr} {xss yss : List (List Int)} (h1 : RwH H ps xss) (h2 : RwH H qs yss) : RwH H (ps ++ qs) (xss ++ yss) := by
  refine ⟨by rw [List.length_append, List.length_append, h1.1, h2.1], fun i p xs a b => ?_⟩
  by_cases hi : i < ps.length
  · rw [List.getElem?_append_left hi] at a
    rw [List.getElem?_append_left (by rw [← h1.1]; exact hi)] at b
    exact h1.2 i p xs a b
  · rw [List.getElem?_append_right (by omega)] at a
    rw [List.getElem?_append_right (by rw [← h1.1]; omega), ← h1.1] at b
    exact h2.2 _ p xs a b
def spTab : Sp := fun vs H Q _ => ∃ (a b : Addr) (xs ys : List Int), vs = [.ref a, .ref b] ∧ H a = some (.lst (xs.map V.int)) ∧ H b = some (.lst (ys.map V.int)) ∧ xs ≠ [] ∧ ys ≠ [] ∧ xs.length ≤ 100 ∧ ys.length ≤ 100 ∧ ∀ (p : Addr) (H' : Hp) (ps : List Addr), Same H H' → H' p = some (.lst (ps.map V.ref)) → RwH H' ps (slidL xs (ys.length - 1) ++ slidL ys (xs.length - 1)) → Q (.ref p) H'
theorem ok_table {f : Addr} {fd : FuncData} (F : Fun K "table" "table" s_table f fd) (T : Txt K mg) {f_slid : Addr} {fd_slid : FuncData} (C_slid : Cal P w K mg base 1 "slid" ["row", "many"] spSlid f_slid fd_slid) {f_degree : Addr} {fd_degree : FuncData} (C_degree : Cal P w K mg base 1 "degree" ["row"] spDeg f_degree fd_degree) : FnOk P w K mg base CX0 2 f fd ["first", "second"] spTab := by
  obtain ⟨G_slid, m_slid, k_slid, b_slid⟩ := C_slid
  obtain ⟨G_degree, m_degree, k_degree, b_degree⟩ := C_degree
  refine F.ok sc_table (fun vs H Q E h => ?_) (fun cdv A outer s H vs Q E hr h => ?_)
  · obtain ⟨a, b, xs, ys, rfl, _⟩ := h
    rfl
  · obtain ⟨a, b, xs, ys, rfl, hA, hB, hx, hy, hxl, hyl, k⟩ := h
    have big := sizeLine_eq
    have hxp := List.length_pos_iff.mpr hx
    have hyp := List.length_pos_iff.mpr hy
    refine ⟨_, (pss_one (ps_ret (pe_op op_cat (pe_call G_slid (hr.mono (by decide)) rfl m_slid k_slid b_slid .nil pass0 (pa_cons (pv 0) (pa_cons (pe_call G_degree (hr.mono (by decide)) rfl m_degree k_degree b_degree .nil pass0 (pa_cons (pv 1) pa_nil)) pa_nil))) (pe_call G_slid (hr.mono (by decide)) rfl m_slid k_slid b_slid .nil pass0 (pa_cons (pv 1) (pa_cons (pe_call G_degree (hr.mono (by decide)) rfl m_degree k_degree b_degree .nil pass0 (pa_cons (pv 0) pa_nil)) pa_nil)))))), ?_⟩
    have e1 : (((ys.map V.int).length : Nat) : Int) - 1 = ((ys.length - 1 : Nat) : Int) := by rw [List.length_map]; omega
    have e2 : (((xs.map V.int).length : Nat) : Int) - 1 = ((xs.length - 1 : Nat) : Int) := by rw [List.length_map]; omega
    refine rd_ret ⟨_, rfl, _, rfl, b, _, rfl, hB, a, xs, ys.length - 1, by rw [e1]; rfl, hA, by omega, by omega, fun p1 H1 ps s1 q1 hR1 => ?_⟩
    refine ⟨_, rfl, _, rfl, a, _, rfl, s1 _ _ hA, b, ys, xs.length - 1, by rw [e2]; rfl, s1 _ _ hB, by omega, by omega, fun p2 H2 qs s2 q2 hR2 => ?_⟩
    have l1 : (slidL xs (ys.length - 1)).length = ys.length - 1 := by unfold slidL; simp
    have l2 : (slidL ys (xs.length - 1)).length = xs.length - 1 := by unfold slidL; simp
    refine ⟨p1, p2, _, _, rfl, rfl, s2 _ _ q1, q2, by rw [List.length_map, List.length_map, hR1.1, hR2.1]; omega, fun p3 hp3 => ?_⟩
    rw [← List.map_append]
    exact k p3 _ (ps ++ qs) ((s1.trans s2).then_new hp3) upd_same (((hR1.same s2).cat hR2).same (Same.upd_new hp3))
theorem bits_le {k : Nat} {z B : Int} (h0 : 0 ≤ z) (h : z ≤ B) (hb : Bits k B) : Bits k z := hb.of_le (by omega)
theorem bits_abs {k : Nat} {z B : Int} (h0 : -B ≤ z) (h : z ≤ B) (hb : Bits k B) : Bits k z := hb.of_le (by omega)
theorem b60 : Bits 200 (10 ^ 60) := by show ((10 : Int) ^ 60).natAbs < 2 ^ 200; decide +kernel
theorem b30 : Bits 100 (10 ^ 30) := by show ((10 : Int) ^ 30).natAbs < 2 ^ 100; decide +kernel
theorem signed_bound {c z : Int} (hz : 0 ≤ z) : -z ≤ c % (2 * z + 1) - z ∧ c % (2 * z + 1) - z ≤ z := by
  have h1 := Int.emod_nonneg c (show 2 * z + 1 ≠ 0 by omega)
  have h2 := Int.emod_lt_of_pos c (show 0 < 2 * z + 1 by omega)
  omega
/-- an item of a written list at a remainder -/
theorem atI_mod {xs : List V} {n : Int} (hn : n = xs.length) (h : 0 < n) (c : Int) : ∃ v, v ∈ xs ∧ atI xs (c % n) = some v := by
  have h1 := Int.emod_nonneg c (Int.ne_of_gt h)
  have h2 := Int.emod_lt_of_pos c h
  obtain ⟨j, hj⟩ := Int.eq_ofNat_of_zero_le h1
  have hl : j < xs.length := by omega
  refine ⟨xs[j], List.getElem_mem hl, ?_⟩
  rw [hj]
  exact atI_nat (by simp [hl])
theorem two9 : Bits 9000 2 := Bits.mono (j := 2) (by show (2 : Int).natAbs < 2 ^ 2; decide) (by decide)
theorem three9 : Bits 9000 3 := Bits.mono (j := 2) (by show (3 : Int).natAbs < 2 ^ 2; decide) (by decide)
theorem AllB.of_cf {k : Nat} {l : List Int} (h : ∀ n, Bits k (RM.cf l n)) : AllB k l := fun x hx => by
  obtain ⟨i, hi, rfl⟩ := List.mem_iff_getElem.mp hx
  have := h i
  rwa [cf_lt hi] at this
theorem cf_addL (a b : List Int) (n : Nat) : cf (addL a b) n = cf a n + cf b n := cf_addL' a b n
theorem sm_bits {i j : Nat} {a b : List Int} {n : Nat} (ha : AllB i a) (hb : AllB j b) : ∀ m, Bits (i + j + m) (sm a b n m)
  | 0 => Bits.zero
  | m + 1 => by
    rw [sm]
    refine (sm_bits ha hb m).add ?_
    unfold tm
    split
    · exact ((ha.cf m).mul (hb.cf _)).mono (by omega)
    · exact Bits.zero
theorem mulL_bits {i j k : Nat} {a b : List Int} (ha : AllB i a) (hb : AllB j b) (hk : i + j + a.length ≤ k) : AllB k (mulL a b) := AllB.of_cf fun n => by
  rw [cf_mulL]; exact (sm_bits ha hb a.length).mono hk
theorem addL_bits {k : Nat} {a b : List Int} (ha : AllB k a) (hb : AllB k b) : AllB (k + 1) (addL a b) := AllB.of_cf fun n => by
  rw [cf_addL]; exact (ha.cf n).add (hb.cf n)
theorem mulL_len (a b : List Int) : (mulL a b).length ≤ a.length + b.length := by
  unfold mulL
  split
  · exact Nat.zero_le _
  · rw [List.length_map, List.length_range]; omega
theorem addL_len (a b : List Int) : (addL a b).length ≤ max a.length b.length := by
  refine Nat.le_trans (length_trim _) ?_
  unfold linL; rw [List.length_map, List.length_range]; exact Nat.le_refl _
theorem mulL_one_len {c : Int} {l : List Int} (h : l ≠ []) : (mulL [c] l).length = l.length := by
  unfold mulL
  rw [if_neg (fun z => z.elim (fun y => nomatch y) h), List.length_map, List.length_range]
  show 1 + l.length - 1 = l.length
  omega
def spOpp : Sp := fun vs H Q _ => ∃ (a : Addr) (ns : List Int) (x : Nat), vs = [.ref a, .int (x : Nat)] ∧ H a = some (.lst (ns.map V.int)) ∧ Tr ns ∧ ns ≠ [] ∧ ns.length ≤ 9 ∧ AllB 1000 ns ∧ x ≤ 100 ∧ mkL H Q (opp (x : Nat) ns)
theorem opp_len (x : Int) : ∀ l : List Int, (opp x l).length ≤ l.length
  | [] => Nat.le_refl _
  | v :: l => by
    have ih := opp_len x l
    show (addL (mulL (opp x l) [x, -1]) (trim [v])).length ≤ l.length + 1
    have h1 := addL_len (mulL (opp x l) [x, -1]) (trim [v])
    have h2 := length_trim [v]
    have h3 : (mulL (opp x l) [x, -1]).length ≤ (opp x l).length + 1 := by
      unfold mulL
      split
      · exact Nat.zero_le _
      · rw [List.length_map, List.length_range]; show _ + 2 - 1 ≤ _; omega
    rw [List.length_singleton] at h2
    omega
theorem opp_bits {x : Int} (hx : Bits 8 x) : ∀ {l : List Int}, l.length ≤ 9 → AllB 1000 l → AllB (1000 + 20 * l.length) (opp x l)
  | [], _, _ => AllB.nil
  | v :: l, hl, h => by
    rw [List.length_cons] at hl
    have ih := opp_bits hx (l := l) (by omega) fun y hy => h y (List.mem_cons_of_mem _ hy)
    have h1 := opp_len x l
    have h2 : AllB 8 [x, -1] := fun y hy => by
      simp only [List.mem_cons, List.not_mem_nil, or_false] at hy
      rcases hy with rfl | rfl
      · exact hx
      · show (-1 : Int).natAbs < 2 ^ 8; decide
    have h3 : AllB (1000 + 20 * l.length + 19) (mulL (opp x l) [x, -1]) := mulL_bits ih h2 (by omega)
    have h4 : AllB (1000 + 20 * l.length + 19) (trim [v]) := AllB.trim fun y hy => by rw [List.mem_singleton.mp hy]; exact (h v (List.mem_cons_self ..)).mono (by omega)
    exact (addL_bits h3 h4).mono (by rw [List.length_cons]; omega)
theorem ok_opposed {f : Addr} {fd : FuncData} (F : Fun K "opposed" "opposed" s_opposed f fd) (T : Txt K mg) {f_added : Addr} {fd_added : FuncData} (C_added : Cal P w K mg base 2 "added" ["first", "second"] (sp2L K addL) f_added fd_added) {f_multiplied : Addr} {fd_multiplied : FuncData} (C_multiplied : Cal P w K mg base 1 "multiplied" ["first", "second"] spMul f_multiplied fd_multiplied) {f_poly : Addr} {fd_poly : FuncData} (C_poly : Cal P w K mg base 1 "poly" ["row"] (spTrim K) f_poly fd_poly) : FnOk P w K mg base CX0 3 f fd ["row", "x"] spOpp := by
  obtain ⟨G_added, m_added, k_added, b_added⟩ := C_added
  obtain ⟨G_multiplied, m_multiplied, k_multiplied, b_multiplied⟩ := C_multiplied
  obtain ⟨G_poly, m_poly, k_poly, b_poly⟩ := C_poly
  refine F.ok sc_opposed (fun vs H Q E h => ?_) (fun cdv A outer s H vs Q E hr h => ?_)
  · obtain ⟨a, ns, x, rfl, _⟩ := h
    rfl
  · obtain ⟨a, ns, x, rfl, hA, ht, hne, hl, hb, hx, k⟩ := h
    have bx : Bits 8 ((x : Nat) : Int) := by show ((x : Nat) : Int).natAbs < 256; omega
    refine ⟨_, (pss_cons (ps_set (i := 2) sc_opposed.nd rfl (Or.inl rfl) (pe_lst pa_nil))
      (pss_cons (ps_for PassesOwn.never rfl (pi_rev rfl T.reversed_ (pa_cons (pv 0) pa_nil)) (pg_name (i := 3) sc_opposed.nd rfl (Or.inl rfl))
        (pss_one (ps_set (i := 2) sc_opposed.nd rfl (Or.inl rfl) (pe_call G_added (hr.mono (by decide)) rfl m_added k_added b_added .nil pass0 (pa_cons (pe_call G_multiplied (hr.mono (by decide)) rfl m_multiplied k_multiplied b_multiplied .nil pass0 (pa_cons (pv 2) (pa_cons (pe_lst (pa_cons (pv 1) (pa_cons (pe_un un_neg pe_int) pa_nil))) pa_nil))) (pa_cons (pe_call G_poly (hr.mono (by decide)) rfl m_poly k_poly b_poly .nil pass0 (pa_cons (pe_lst (pa_cons (pv 3) pa_nil)) pa_nil)) pa_nil))))))
      (pss_one (ps_ret (pv 2))))), ?_⟩
    have hlm : (ns.map V.int).length = ns.length := List.length_map _
    refine rd_sa ⟨Nat.zero_le _, fun p0 hp0 => ?_⟩
    have s0 : Same H (upd H p0 (.lst [])) := Same.upd_new hp0
    have q0 : upd H p0 (.lst []) p0 = some (.lst (([] : List Int).map V.int)) := upd_same
    generalize upd H p0 (.lst []) = H0 at s0 q0 ⊢
    refine ⟨_, rfl, a, _, rfl, SqL.of (s0 _ _ hA), for_rev (K := K) (a := a) (xs := ns.map V.int) (fun i σ' H' => ∃ (p : Addr) (z : Option V), σ' = [some (.ref a), some (.int (x : Nat)), some (.ref p), z] ∧ Same H H' ∧ H p = none ∧ H' p = some (.lst ((opp (x : Nat) (ns.drop (ns.length - i))).map V.int))) ⟨p0, none, rfl, s0, hp0, ?_⟩ ?_ ?_ ?_⟩
    · rw [Nat.sub_zero, List.drop_length]; exact q0
    · rintro i σ' H' _ ⟨p, z, rfl, sm, _⟩
      exact SqL.of (sm _ _ hA)
    · rintro i v σ' H' hi hv ⟨p, z, rfl, sm, hp, ep⟩
      rw [hlm] at hi hv
      obtain ⟨c, ec, rfl, hc, _⟩ := get_int hv
      have hi' : i < ns.length := hi
      have e1 : ns.length - (i + 1) = ns.length - 1 - i := by omega
      have ed : ns.drop (ns.length - (i + 1)) = c :: ns.drop (ns.length - i) := by
        rw [e1, List.drop_eq_getElem_cons (by omega), show ns.length - 1 - i + 1 = ns.length - i by omega]
        congr 1
        have := List.getElem?_eq_some_iff.mp ec
        exact this.2
      have bO := opp_bits bx (l := ns.drop (ns.length - i)) (by rw [List.length_drop]; omega) fun y hy => hb y (List.mem_of_mem_drop hy)
      have lO := opp_len (x : Nat) (ns.drop (ns.length - i))
      rw [List.length_drop] at bO lO
      generalize hO : opp (x : Nat) (ns.drop (ns.length - i)) = O at ep bO lO
      refine ⟨_, rfl, _, rfl, _, rfl, by show 2 ≤ sizeLine; decide, fun p2 hp2 => ?_⟩
      have t2 : Same H' (upd H' p2 (.lst ([((x : Nat) : Int), -1].map V.int))) := Same.upd_new hp2
      have b2 : AllB 8 [((x : Nat) : Int), -1] := fun y hy => by
        simp only [List.mem_cons, List.not_mem_nil, or_false] at hy
        rcases hy with rfl | rfl
        · exact bx
        · show (-1 : Int).natAbs < 2 ^ 8; decide
      refine ⟨p, p2, O, [((x : Nat) : Int), -1], rfl, t2 _ _ ep, upd_same, by omega, by show 2 ≤ 1000000; decide, bO.mono (by omega), b2.mono (by decide), fun p3 H3 s3 hp3 e3 => ?_⟩
      have u3 := t2.trans s3
      refine ⟨_, rfl, by show 1 ≤ sizeLine; decide, fun p4 hp4 => ⟨p4, [c], rfl, SqL.of upd_same, fun p5 H5 s5 hp5 e5 => ?_⟩⟩
      have u5 := (u3.then_new (o := .lst [V.int c]) hp4).trans s5
      have e35 : H5 p3 = some (.lst ((mulL O [((x : Nat) : Int), -1]).map V.int)) := s5 _ _ ((Same.upd_new hp4) _ _ e3)
      have lm : (mulL O [((x : Nat) : Int), -1]).length ≤ O.length + 2 := mulL_len _ _
      have l5 := length_trim [c]
      rw [List.length_singleton] at l5
      refine ⟨p3, p5, mulL O [((x : Nat) : Int), -1], trim [c], rfl, SqL.of e35, SqL.of e5, by omega, by omega, fun p6 H6 s6 hp6 e6 => ?_⟩
      refine ⟨p6, some (.int c), rfl, sm.trans (u5.trans s6), (sm.trans u5).free hp6, ?_⟩
      rw [e6, ed]
      show _ = some (HO.lst ((addL (mulL (opp (x : Nat) (ns.drop (ns.length - i))) [((x : Nat) : Int), -1]) (trim [c])).map V.int))
      rw [hO]
    · rintro σ' H' ⟨p, z, rfl, sm, hp, ep⟩
      rw [hlm, Nat.sub_self, List.drop_zero] at ep
      exact ⟨_, rfl, k p H' sm hp ep⟩
def spWei : Sp := fun vs H Q _ => ∃ (a : Addr) (ns : List Int) (x : Nat), vs = [.ref a, .int (x : Nat)] ∧ H a = some (.lst (ns.map V.int)) ∧ ns.length ≤ 9 ∧ AllB 1000 ns ∧ x ≤ 100 ∧ mkL H Q (weiU (x : Nat) ns).reverse
theorem powx_bits {x : Int} (hx : Bits 8 x) : ∀ i, Bits (1 + 8 * i) (x ^ i)
  | 0 => by rw [Int.pow_zero]; show (1 : Int).natAbs < 2 ^ 1; decide
  | i + 1 => by rw [Int.pow_succ]; exact ((powx_bits hx i).mul hx).mono (by omega)
theorem ok_weighted {f : Addr} {fd : FuncData} (F : Fun K "weighted" "weighted" s_weighted f fd) (T : Txt K mg) : FnOk P w K mg base CX0 1 f fd ["row", "x"] spWei := by
  refine F.ok sc_weighted (fun vs H Q E h => ?_) (fun cdv A outer s H vs Q E hr h => ?_)
  · obtain ⟨a, ns, x, rfl, _⟩ := h
    rfl
  · obtain ⟨a, ns, x, rfl, hA, hl, hb, hx, k⟩ := h
    have big := sizeLine_eq
    have bx : Bits 8 ((x : Nat) : Int) := by show ((x : Nat) : Int).natAbs < 256; omega
    refine ⟨_, (pss_cons (ps_set (i := 2) sc_weighted.nd rfl (Or.inl rfl) (pe_lst pa_nil))
      (pss_cons (ps_set (i := 3) sc_weighted.nd rfl (Or.inl rfl) pe_int)
      (pss_cons (ps_for PassesOwn.never rfl (pi_listK (K := K) rfl (pv 0)) (pg_name (i := 4) sc_weighted.nd rfl (Or.inl rfl))
        (pss_cons (ps_expr (pe_bm PySem.F.plainAttrs_list PySem.F.slot_list_append PySem.F.type_list_append mt_append (pv 2) (pa_cons (pe_op op_mulB (pv 4) (pv 3)) pa_nil)))
          (pss_one (ps_set (i := 3) sc_weighted.nd rfl (Or.inl rfl) (pe_op op_mulB (pv 3) (pv 1))))))
      (pss_one (ps_ret (pe_listRev (K := K) rfl rfl (by rfl) T.list_ (by rfl) T.reversed_ (pa_cons (pv 2) pa_nil))))))), ?_⟩
    refine rd_sa ⟨Nat.zero_le _, fun p hp => ?_⟩
    have s0 : Same H (upd H p (.lst [])) := Same.upd_new hp
    have q0 : upd H p (.lst []) p = some (.lst (([] : List Int).map V.int)) := upd_same
    generalize upd H p (.lst []) = H0 at s0 q0 ⊢
    refine rd_sa ?_
    refine ⟨_, rfl, a, rfl, ⟨_, SqL.of (s0 _ _ hA)⟩, for_list (K := K) (a := a) (xs := ns.map V.int) (fun i σ' H' => ∃ z : Option V, σ' = [some (.ref a), some (.int (x : Nat)), some (.ref p), some (.int (((x : Nat) : Int) ^ i)), z] ∧ Same H H' ∧ H' p = some (.lst (((List.range i).map fun j => cf ns j * ((x : Nat) : Int) ^ j).map V.int))) ⟨none, ?_, s0, q0⟩ ?_ ?_ ?_⟩
    · rw [Int.pow_zero]; rfl
    · rintro i σ' H' _ ⟨z, rfl, sm, _⟩
      exact SqL.of (sm _ _ hA)
    · rintro i v σ' H' hi ⟨z, rfl, sm, ep⟩
      obtain ⟨c, ec, rfl, hc, _⟩ := get_int hi
      have hi' : i < ns.length := (List.getElem?_eq_some_iff.mp ec).1
      have bp := powx_bits bx i
      refine rd_sd ⟨_, rfl, .inl ⟨rfl, _, SqL.of ep⟩, _, rfl, _, rfl, _, _, rfl, rfl, ⟨(hb c hc).mono (by decide), bp.mono (by omega)⟩, p, _, _, rfl, rfl, ep, by rw [List.length_map, List.length_map, List.length_range]; omega, ?_⟩
      dsimp only
      rw [map_snoc]
      refine rd_asg ⟨_, rfl, _, rfl, _, _, rfl, rfl, ⟨bp.mono (by omega), bx.mono (by decide)⟩, ?_⟩
      refine ⟨some (.int c), ?_, mut_same sm hp, ?_⟩
      · rw [Int.pow_succ]; rfl
      · have e : ((List.range (i + 1)).map fun j => cf ns j * ((x : Nat) : Int) ^ j) = ((List.range i).map fun j => cf ns j * ((x : Nat) : Int) ^ j) ++ [c * ((x : Nat) : Int) ^ i] := by rw [List.range_succ, List.map_append, List.map_cons, List.map_nil, cf_some ec]
        rw [upd_same, e]
    · rintro σ' H' ⟨z, rfl, sm, ep⟩
      dsimp only
      rw [List.length_map] at ep
      refine rd_ret ⟨_, rfl, p, _, rfl, SqL.of ep, fun q hq => ?_⟩
      rw [← List.map_reverse]
      exact k q _ (sm.then_new hq) (sm.free hq) upd_same
theorem step_bits {B i : Nat} {l : List Int} (h : AllB B l) : AllB (B + 1) (stepD i l) := fun x hx => by
  obtain ⟨j, _, rfl⟩ := List.mem_map.mp hx
  exact ((h.cf (j + 1)).sub (h.cf j)).of_le (Int.natAbs_ediv_le_natAbs _ _)
theorem step_len (i : Nat) (l : List Int) : (stepD i l).length = l.length - 1 := by unfold stepD; simp
theorem horn_len : ∀ (cs : List Int) (k : Nat), (hornN k cs).length ≤ cs.length
  | [], _ => Nat.le_refl _
  | c :: cs, k => by
    have ih := horn_len cs (k + 1)
    show (addL (mulL (hornN (k + 1) cs) [-(k : Nat), 1]) (trim [c])).length ≤ cs.length + 1
    have h1 := addL_len (mulL (hornN (k + 1) cs) [-(k : Nat), 1]) (trim [c])
    have h2 := length_trim [c]
    have h3 : (mulL (hornN (k + 1) cs) [-((k : Nat) : Int), 1]).length ≤ (hornN (k + 1) cs).length + 1 := by
      unfold mulL
      split
      · exact Nat.zero_le _
      · rw [List.length_map, List.length_range]; show _ + 2 - 1 ≤ _; omega
    rw [List.length_singleton] at h2
    omega
theorem two_bits {k : Nat} (hk : k ≤ 100) : AllB 8 [-((k : Nat) : Int), 1] := fun y hy => by
  simp only [List.mem_cons, List.not_mem_nil, or_false] at hy
  rcases hy with rfl | rfl
  · show (-((k : Nat) : Int)).natAbs < 256; omega
  · show (1 : Int).natAbs < 2 ^ 8; decide
theorem horn_bits : ∀ (cs : List Int) (k : Nat), k + cs.length ≤ 50 → AllB 100100 cs → AllB (100100 + 100 * cs.length) (hornN k cs)
  | [], _, _, _ => AllB.nil
  | c :: cs, k, hk, h => by
    rw [List.length_cons] at hk
    have ih := horn_bits cs (k + 1) (by omega) fun y hy => h y (List.mem_cons_of_mem _ hy)
    have h1 := horn_len cs (k + 1)
    have h3 : AllB (100100 + 100 * cs.length + 99) (mulL (hornN (k + 1) cs) [-((k : Nat) : Int), 1]) := mulL_bits ih (two_bits (by omega)) (by omega)
    have h4 : AllB (100100 + 100 * cs.length + 99) (trim [c]) := AllB.trim fun y hy => by rw [List.mem_singleton.mp hy]; exact (h c (List.mem_cons_self ..)).mono (by omega)
    exact (addL_bits h3 h4).mono (by rw [List.length_cons]; omega)
def spThr : Sp := fun vs H Q _ => ∃ (a : Addr) (W : List Int) (n : Nat), vs = [.ref a] ∧ H a = some (.lst (((List.range n).map fun j => ev (j : Nat) W).map V.int)) ∧ W.length ≤ n ∧ Tr W ∧ n ≤ 30 ∧ AllB 100000 ((List.range n).map fun j => ev (j : Nat) W) ∧ mkL H Q W
theorem ok_through {f : Addr} {fd : FuncData} (F : Fun K "through" "through" s_through f fd) (T : Txt K mg) {f_added : Addr} {fd_added : FuncData} (C_added : Cal P w K mg base 2 "added" ["first", "second"] (sp2L K addL) f_added fd_added) {f_multiplied : Addr} {fd_multiplied : FuncData} (C_multiplied : Cal P w K mg base 1 "multiplied" ["first", "second"] spMul f_multiplied fd_multiplied) {f_poly : Addr} {fd_poly : FuncData} (C_poly : Cal P w K mg base 1 "poly" ["row"] (spTrim K) f_poly fd_poly) : FnOk P w K mg base CX0 3 f fd ["values"] spThr := by
  obtain ⟨G_added, m_added, k_added, b_added⟩ := C_added
  obtain ⟨G_multiplied, m_multiplied, k_multiplied, b_multiplied⟩ := C_multiplied
  obtain ⟨G_poly, m_poly, k_poly, b_poly⟩ := C_poly
  refine F.ok sc_through (fun vs H Q E h => ?_) (fun cdv A outer s H vs Q E hr h => ?_)
  · obtain ⟨a, W, n, rfl, _⟩ := h
    rfl
  · obtain ⟨a, W, n, rfl, hA, hWl, hWt, hn, hb, k⟩ := h
    have big := sizeLine_eq
    have thr := through_ok hWl hWt
    have hzl : ((List.range n).map fun j => ev (j : Nat) W).length = n := by simp
    generalize (List.range n).map (fun j => ev (j : Nat) W) = zs at hA hb thr hzl
    refine ⟨_, (pss_cons (ps_set (i := 1) sc_through.nd rfl (Or.inr rfl) (pe_lst pa_nil))
      (pss_cons (ps_set (i := 2) sc_through.nd rfl (Or.inr rfl) (pe_callTy (call_listK (K := K) rfl) (by rfl) T.list_ PyProof.Rows.boot_list (pa_cons (pv 0) pa_nil)))
      (pss_cons (ps_while PassesOwn.never (pt_cmpR op_gt (pe_callB (call_lenK (K := K) rfl) (by rfl) T.len_ PySem.boot_len (pa_cons (pv 2) pa_nil)) pe_int (nomark _))
        (pss_cons (ps_expr (pe_bm PySem.F.plainAttrs_list PySem.F.slot_list_append PySem.F.type_list_append mt_append (pv 1) (pa_cons (pe_ix (ix_listK (K := K) rfl) (pv 2) pe_int (fun _ _ => rfl)) pa_nil)))
          (pss_one (ps_set (i := 2) sc_through.nd rfl (Or.inr rfl) (pe_comp (own := ["j"]) (fr := ["leads", "left"]) (js := [1, 2]) (by walk_at "comp_ok") rfl (pi_range1 rfl T.range_ (pa_cons (pe_op op_sub (pe_callB (call_lenK (K := K) rfl) (by rfl) T.len_ PySem.boot_len (pa_cons (pv 2) pa_nil)) pe_int) pa_nil)) (fun _ _ _ _ => (pg_name (i := 0) (show List.Nodup (["j", "leads", "left"] : List Str) from by decide +kernel) rfl (Or.inl rfl))) (fun _ _ _ _ => (pe_op op_fdivP (pe_op op_sub (pe_ix (ix_listK (K := K) rfl) (pv 2) (pe_op op_add (pv 0) pe_int) (fun _ _ => rfl)) (pe_ix (ix_listK (K := K) rfl) (pv 2) (pv 0) (fun _ _ => rfl))) (pe_callB (call_lenK (K := K) rfl) (by rfl) T.len_ PySem.boot_len (pa_cons (pv 1) pa_nil)))))))))
      (pss_cons (ps_set (i := 3) sc_through.nd rfl (Or.inl rfl) (pe_lst pa_nil))
      (pss_cons (ps_for PassesOwn.never rfl (pi_rangeD rfl T.range_ (pa_cons (pe_op op_sub (pe_callB (call_lenK (K := K) rfl) (by rfl) T.len_ PySem.boot_len (pa_cons (pv 1) pa_nil)) pe_int) (pa_cons (pe_un un_neg pe_int) (pa_cons (pe_un un_neg pe_int) pa_nil)))) (pg_name (i := 4) sc_through.nd rfl (Or.inl rfl))
        (pss_one (ps_set (i := 3) sc_through.nd rfl (Or.inl rfl) (pe_call G_added (hr.mono (by decide)) rfl m_added k_added b_added .nil pass0 (pa_cons (pe_call G_multiplied (hr.mono (by decide)) rfl m_multiplied k_multiplied b_multiplied .nil pass0 (pa_cons (pv 3) (pa_cons (pe_lst (pa_cons (pe_un un_neg (pv 4)) (pa_cons pe_int pa_nil))) pa_nil))) (pa_cons (pe_call G_poly (hr.mono (by decide)) rfl m_poly k_poly b_poly .nil pass0 (pa_cons (pe_lst (pa_cons (pe_ix (ix_listK (K := K) rfl) (pv 1) (pv 4) (fun _ _ => rfl)) pa_nil)) pa_nil)) pa_nil))))))
      (pss_one (ps_ret (pv 3)))))))), ?_⟩
    refine rd_sa ⟨Nat.zero_le _, fun pl hpl => ?_⟩
    have s0 : Same H (upd H pl (.lst [])) := Same.upd_new hpl
    have q0 : upd H pl (.lst []) pl = some (.lst (([] : List Int).map V.int)) := upd_same
    generalize upd H pl (.lst []) = H0 at s0 q0 ⊢
    refine rd_sa ⟨_, rfl, a, _, rfl, .inl (SqL.of (s0 _ _ hA)), fun p hp => ?_⟩
    have s1 := s0.then_new (o := .lst (zs.map V.int)) hp
    have q1 : upd H0 p (.lst (zs.map V.int)) p = some (.lst (zs.map V.int)) := upd_same
    have np : pl ≠ p := ne_of_none q0 hp
    have q2 : upd H0 p (.lst (zs.map V.int)) pl = some (.lst (([] : List Int).map V.int)) := by rw [upd_ne np]; exact q0
    generalize upd H0 p (.lst (zs.map V.int)) = H1 at s1 q1 q2 ⊢
    refine ⟨fun m σ' H' => ∃ (p : Addr) (cur ls : List Int), σ' = [some (.ref a), some (.ref pl), some (.ref p), none, none] ∧ Same H H' ∧ H' pl = some (.lst (ls.map V.int)) ∧ H' p = some (.lst (cur.map V.int)) ∧ p ≠ pl ∧ cur.length = m ∧ ls ++ leadsI cur.length ls.length cur = leadsI n 0 zs ∧ AllB (100000 + ls.length) cur ∧ AllB 100100 ls ∧ ls.length + cur.length = n, ⟨_, p, zs, [], rfl, s1, q2, q1, Ne.symm np, rfl, by rw [hzl]; rfl, hb, AllB.nil, by rw [List.length_nil, hzl]; omega⟩, ?_⟩
    rintro m σ' H' ⟨p, cur, ls, rfl, sm, el, ep, npl, rfl, hld, bc, bl, hsum⟩
    refine ⟨_, rfl, p, _, rfl, .inl (SqL.of ep), _, _, rfl, rfl, _, rfl, rd_dec (fun h0 => ?_) (fun h0 => ?_)⟩
    · rw [List.length_map] at h0
      obtain ⟨m1, hm1⟩ : ∃ m1, cur.length = m1 + 1 := ⟨cur.length - 1, by omega⟩
      refine ⟨fun σ'' H'' => ∃ m', m' < cur.length ∧ ∃ (p : Addr) (cur ls : List Int), σ'' = [some (.ref a), some (.ref pl), some (.ref p), none, none] ∧ Same H H'' ∧ H'' pl = some (.lst (ls.map V.int)) ∧ H'' p = some (.lst (cur.map V.int)) ∧ p ≠ pl ∧ cur.length = m' ∧ ls ++ leadsI cur.length ls.length cur = leadsI n 0 zs ∧ AllB (100000 + ls.length) cur ∧ AllB 100100 ls ∧ ls.length + cur.length = n, fun _ _ h => h, ?_⟩
      refine rd_sd ⟨_, rfl, .inl ⟨rfl, _, SqL.of el⟩, _, rfl, p, _, _, _, rfl, rfl, SqL.of ep, at_map (j := 0) rfl (by omega), pl, _, _, rfl, rfl, el, by rw [List.length_map]; omega, ?_⟩
      rw [map_snoc]
      have sm2 : Same H (upd H' pl (.lst ((ls ++ [cf cur 0]).map V.int))) := mut_same sm hpl
      have el2 : upd H' pl (.lst ((ls ++ [cf cur 0]).map V.int)) pl = some (.lst ((ls ++ [cf cur 0]).map V.int)) := upd_same
      have ep2 : upd H' pl (.lst ((ls ++ [cf cur 0]).map V.int)) p = some (.lst (cur.map V.int)) := by rw [upd_ne npl]; exact ep
      generalize upd H' pl (.lst ((ls ++ [cf cur 0]).map V.int)) = H2 at sm2 el2 ep2 ⊢
      have hl2 : (ls ++ [cf cur 0]).length = ls.length + 1 := by rw [List.length_append]; rfl
      refine ⟨_, rfl, p, _, rfl, .inl (SqL.of ep2), _, _, rfl, rfl, _, rfl, by rw [List.length_map]; show -(2 ^ 62) ≤ (cur.length : Int) - 1; omega, by rw [List.length_map]; show (cur.length : Int) - 1 < 2 ^ 62; omega, ?_⟩
      have en : (((cur.map V.int).length : Nat) - 1 : Int).toNat = cur.length - 1 := by rw [List.length_map]; omega
      dsimp only
      rw [en]
      refine comp_range (lo := 0) (n := cur.length - 1) (fun t ys σ' H'' => ∃ z : Option V, σ' = [z, some (.ref pl), some (.ref p)] ∧ ys = ((List.range t).map fun j => V.int ((cf cur (j + 1) - cf cur j) / ((ls.length + 1 : Nat) : Int))) ∧ H2 = H'') (by omega) ⟨none, rfl, rfl, rfl⟩ ?_ ?_ ?_
      · rintro t ys σ' H'' _ ⟨z, rfl, rfl, rfl⟩
        simp
      · rintro t ys σ' H'' ht ⟨z, rfl, rfl, rfl⟩
        have e0 : (0 : Int) + (t : Int) = ((t : Nat) : Int) := by omega
        have e1 : (0 : Int) + (t : Int) + 1 = ((t + 1 : Nat) : Int) := by omega
        refine ⟨_, rfl, _, rfl, _, _, rfl, rfl, p, _, _, _, rfl, rfl, SqL.of ep2, at_map e1 (by omega), _, rfl, _, rfl, p, _, _, _, rfl, rfl, SqL.of ep2, at_map e0 (by omega), _, _, rfl, rfl, _, rfl, pl, _, rfl, .inl (SqL.of el2), _, _, rfl, rfl, ⟨?_, ?_⟩, ?_⟩
        · show (0 : Int) < (((ls ++ [cf cur 0]).map V.int).length : Nat)
          rw [List.length_map, hl2]; omega
        · show Bits 9000 (((ls ++ [cf cur 0]).map V.int).length : Nat)
          rw [List.length_map, hl2]
          exact Bits.mono (j := 8) (show (((ls.length + 1 : Nat) : Int)).natAbs < 256 by omega) (by decide)
        refine ⟨_, rfl, ?_, rfl⟩
        rw [List.length_map, hl2, List.range_succ, List.map_append]; rfl
      rintro ys σ' H'' q ⟨z, rfl, rfl, rfl⟩ hq
      have ey : ((List.range (cur.length - 1)).map fun j => V.int ((cf cur (j + 1) - cf cur j) / ((ls.length + 1 : Nat) : Int))) = (stepD (ls.length + 1) cur).map V.int := by unfold stepD; rw [List.map_map]; rfl
      rw [ey]
      refine rd_name ?_
      have sl := step_len (ls.length + 1) cur
      refine ⟨cur.length - 1, by omega, q, stepD (ls.length + 1) cur, ls ++ [cf cur 0], rfl, sm2.then_new hq, (Same.upd_new hq) _ _ el2, upd_same, (fun z => by rw [z, el2] at hq; cases hq), sl, ?_, ?_, ?_, ?_⟩
      · rw [← hld, sl, hl2, hm1, List.append_assoc]; rfl
      · rw [hl2]; exact (step_bits bc).mono (by omega)
      · exact bl.snoc ((bc.cf 0).mono (by omega))
      · rw [hl2, sl]; omega
    · rw [List.length_map] at h0
      have hc0 : cur = [] := List.length_eq_zero_iff.mp (by omega)
      subst hc0
      have hls : ls = leadsI n 0 zs := by rw [← hld]; simp [leadsI]
      have hln : ls.length = n := by simpa using hsum
      dsimp only
      refine rd_sa ⟨Nat.zero_le _, fun p0 hp0 => ?_⟩
      have s3 := sm.then_new (o := .lst []) hp0
      have q3 : upd H' p0 (.lst []) p0 = some (.lst (([] : List Int).map V.int)) := upd_same
      have el3 := (Same.upd_new (o := .lst []) hp0) _ _ el
      have fp0 : H p0 = none := sm.free hp0
      have npl0 : pl ≠ p0 := ne_of_none el hp0
      generalize upd H' p0 (.lst []) = H3 at s3 q3 el3 ⊢
      have hll : (ls.map V.int).length = n := by rw [List.length_map, hln]
      refine ⟨_, rfl, pl, _, rfl, .inl (SqL.of el3), _, _, rfl, rfl, _, rfl, _, rfl, ((n : Nat) : Int) - 1, -1, by rw [hll], ⟨by omega, by omega, by decide, by decide⟩, ?_⟩
      have en : (((n : Nat) : Int) - 1 - -1).toNat = n := by omega
      rw [en]
      refine for_rangeD (fun i σ' H' => ∃ (q : Addr) (z4 : Option V), σ' = [some (.ref a), some (.ref pl), some (.ref p), some (.ref q), z4] ∧ Same H H' ∧ H' pl = some (.lst (ls.map V.int)) ∧ H q = none ∧ H' q = some (.lst ((hornN (n - i) (ls.drop (n - i))).map V.int))) ⟨p0, none, rfl, s3, el3, fp0, ?_⟩ ?_ ?_
      · rw [Nat.sub_zero, List.drop_of_length_le (by omega)]; exact q3
      · rintro i σ' H5 hi ⟨q, z4, rfl, s5, el5, fq, eq5⟩
        have ek : ((n : Nat) : Int) - 1 + (i : Int) * -1 = ((n - 1 - i : Nat) : Int) := by omega
        have hd : ls.drop (n - (i + 1)) = cf ls (n - 1 - i) :: ls.drop (n - i) := by
          rw [show n - (i + 1) = n - 1 - i by omega, List.drop_eq_getElem_cons (by omega), show n - 1 - i + 1 = n - i by omega, cf_lt (by omega)]
        have hk1 : n - (i + 1) = n - 1 - i := by omega
        have hk2 : n - 1 - i + 1 = n - i := by omega
        have bO := horn_bits (ls.drop (n - i)) (n - i) (by rw [List.length_drop]; omega) fun y hy => bl y (List.mem_of_mem_drop hy)
        have lO := horn_len (ls.drop (n - i)) (n - i)
        rw [List.length_drop] at bO lO
        generalize hO : hornN (n - i) (ls.drop (n - i)) = O at eq5 bO lO
        refine ⟨_, rfl, _, rfl, _, rfl, by show 2 ≤ sizeLine; decide, fun p2 hp2 => ?_⟩
        rw [ek]
        have t2 : Same H5 (upd H5 p2 (.lst ([-((n - 1 - i : Nat) : Int), 1].map V.int))) := Same.upd_new hp2
        refine ⟨q, p2, O, [-((n - 1 - i : Nat) : Int), 1], rfl, t2 _ _ eq5, upd_same, by omega, by show 2 ≤ 1000000; decide, bO.mono (by omega), (two_bits (by omega)).mono (by decide), fun p3 H6 s6 hp3 e3 => ?_⟩
        have u3 := t2.trans s6
        have el6 := u3 _ _ el5
        refine ⟨_, rfl, _, rfl, pl, _, _, _, rfl, rfl, SqL.of el6, at_map rfl (by omega), by show 1 ≤ sizeLine; decide, fun p4 hp4 => ⟨p4, [cf ls (n - 1 - i)], rfl, SqL.of upd_same, fun p5 H7 s7 hp5 e5 => ?_⟩⟩
        have u5 := (u3.then_new (o := .lst [V.int (cf ls (n - 1 - i))]) hp4).trans s7
        have e35 : H7 p3 = some (.lst ((mulL O [-((n - 1 - i : Nat) : Int), 1]).map V.int)) := s7 _ _ ((Same.upd_new hp4) _ _ e3)
        have lm : (mulL O [-((n - 1 - i : Nat) : Int), 1]).length ≤ O.length + 2 := mulL_len _ _
        have l5 := length_trim [cf ls (n - 1 - i)]
        rw [List.length_singleton] at l5
        refine ⟨p3, p5, mulL O [-((n - 1 - i : Nat) : Int), 1], trim [cf ls (n - 1 - i)], rfl, SqL.of e35, SqL.of e5, by omega, by omega, fun p6 H8 s8 hp6 e6 => ?_⟩
        refine ⟨p6, _, rfl, s5.trans (u5.trans s8), (u5.trans s8) _ _ el5, (s5.trans u5).free hp6, ?_⟩
        rw [e6, hd, hk1]
        show _ = some (HO.lst ((addL (mulL (hornN (n - 1 - i + 1) (ls.drop (n - i))) [-((n - 1 - i : Nat) : Int), 1]) (trim [cf ls (n - 1 - i)])).map V.int))
        rw [hk2, hO]
      · rintro σ' H5 ⟨q, z4, rfl, s5, el5, fq, eq5⟩
        rw [Nat.sub_self, List.drop_zero, hls, thr] at eq5
        exact ⟨_, rfl, k q H5 s5 fq eq5⟩
theorem resL_bits {xs ys : List Int} (hx : AllB 2000 xs) (hy : AllB 2000 ys) (h : xs.length + ys.length ≤ 18) (hx0 : xs ≠ []) (hy0 : ys ≠ []) : Bits 40000 (resL xs ys) := by
  have hxp := List.length_pos_iff.mpr hx0
  have hyp := List.length_pos_iff.mpr hy0
  have hb := D_le (b := 2000) (ys.length - 1 + (xs.length - 1)) (syl (cf xs.reverse) (cf ys.reverse) (ys.length - 1) (xs.length - 1)) (by omega) (by unfold syl; rw [List.length_append, len_slidF, len_slidF]) (fun r hr j => by
    have hz : (0 : Int).natAbs ≤ 2 ^ 2000 := Nat.zero_le _
    rcases List.mem_append.mp hr with z | z
    · obtain ⟨k, _, rfl⟩ := List.mem_map.mp z
      show (if j < k then (0 : Int) else cf xs.reverse (j - k)).natAbs ≤ _
      split
      · exact hz
      · exact Nat.le_of_lt (AllB.cf (fun x hx' => hx x (List.mem_reverse.mp hx')) (j - k))
    · obtain ⟨k, _, rfl⟩ := List.mem_map.mp z
      show (if j < k then (0 : Int) else cf ys.reverse (j - k)).natAbs ≤ _
      split
      · exact hz
      · exact Nat.le_of_lt (AllB.cf (fun x hx' => hy x (List.mem_reverse.mp hx')) (j - k)))
  have h2 : (2000 + 4) * (ys.length - 1 + (xs.length - 1)) ≤ 2004 * 16 := Nat.mul_le_mul_left _ (by omega)
  exact Nat.lt_of_le_of_lt hb ((Nat.pow_lt_pow_iff_right (by decide)).mpr (by omega))
theorem tab_pre {xs ys : List Int} (hx : xs ≠ []) (hy : ys ≠ []) (bx : AllB 2000 xs) (by' : AllB 2000 ys) (h : xs.length + ys.length ≤ 18) : (∀ r ∈ slidL xs (ys.length - 1) ++ slidL ys (xs.length - 1), r.length = (slidL xs (ys.length - 1) ++ slidL ys (xs.length - 1)).length) ∧ (∀ r ∈ slidL xs (ys.length - 1) ++ slidL ys (xs.length - 1), AllB 2000 r) ∧ (slidL xs (ys.length - 1) ++ slidL ys (xs.length - 1)).length ≤ 16 ∧ D (slidL xs (ys.length - 1) ++ slidL ys (xs.length - 1)).length ((slidL xs (ys.length - 1) ++ slidL ys (xs.length - 1)).map cf) = resL xs ys := by
  have hxp := List.length_pos_iff.mpr hx
  have hyp := List.length_pos_iff.mpr hy
  have l1 : (slidL xs (ys.length - 1)).length = ys.length - 1 := by unfold slidL; simp
  have l2 : (slidL ys (xs.length - 1)).length = xs.length - 1 := by unfold slidL; simp
  have lt : (slidL xs (ys.length - 1) ++ slidL ys (xs.length - 1)).length = ys.length - 1 + (xs.length - 1) := by rw [List.length_append, l1, l2]
  refine ⟨?_, ?_, by rw [lt]; omega, by rw [lt, List.map_append, slid_cf, slid_cf]; rfl⟩
  · intro r hr
    rw [lt]
    rcases List.mem_append.mp hr with z | z
    · obtain ⟨i, hi, rfl⟩ := List.mem_map.mp z
      have := List.mem_range.mp hi
      rw [List.length_append, List.length_append, List.length_replicate, List.length_replicate, List.length_reverse]; omega
    · obtain ⟨i, hi, rfl⟩ := List.mem_map.mp z
      have := List.mem_range.mp hi
      rw [List.length_append, List.length_append, List.length_replicate, List.length_replicate, List.length_reverse]; omega
  · intro r hr
    rcases List.mem_append.mp hr with z | z
    · obtain ⟨i, hi, rfl⟩ := List.mem_map.mp z
      exact (AllB.zeros.app fun x hx => bx x (List.mem_reverse.mp hx)).app AllB.zeros
    · obtain ⟨i, hi, rfl⟩ := List.mem_map.mp z
      exact (AllB.zeros.app fun x hx => by' x (List.mem_reverse.mp hx)).app AllB.zeros
def spTwo (g : Int → List Int → List Int) : Sp := fun vs H Q _ => ∃ (a b : Addr) (xs ys W : List Int), vs = [.ref a, .ref b] ∧ H a = some (.lst (xs.map V.int)) ∧ H b = some (.lst (ys.map V.int)) ∧ Tr ys ∧ xs ≠ [] ∧ ys ≠ [] ∧ xs.length ≤ 9 ∧ ys.length ≤ 9 ∧ (xs.length - 1) * (ys.length - 1) ≤ 20 ∧ AllB 1000 xs ∧ AllB 1000 ys ∧ W.length = (xs.length - 1) * (ys.length - 1) + 1 ∧ Tr W ∧ AllB 9000 W ∧ (∀ x : Nat, resL xs (g (x : Nat) ys) = ev (x : Nat) W) ∧ mkL H Q (plainL W)
theorem mul_cast {x y : Nat} (hx : 1 ≤ x) (hy : 1 ≤ y) : ((x : Int) - 1) * ((y : Int) - 1) + 1 = (((x - 1) * (y - 1) + 1 : Nat) : Int) := by
  rw [Int.natCast_add, Int.natCast_mul, Int.natCast_sub hx, Int.natCast_sub hy]; rfl
theorem wei_len (x : Int) (l : List Int) : (weiU x l).reverse.length = l.length := by rw [List.length_reverse]; unfold weiU; simp
theorem wei_bits {x : Int} (hx : Bits 8 x) {l : List Int} (hl : l.length ≤ 9) (h : AllB 1000 l) : AllB 2000 (weiU x l).reverse := fun y hy => by
  obtain ⟨j, hj, rfl⟩ := List.mem_map.mp (List.mem_reverse.mp hy)
  have := List.mem_range.mp hj
  exact ((h.cf j).mul (powx_bits hx j)).mono (by omega)
theorem ok_sums {f : Addr} {fd : FuncData} (F : Fun K "sums" "sums" s_sums f fd) (T : Txt K mg) {f_degree : Addr} {fd_degree : FuncData} (C_degree : Cal P w K mg base 1 "degree" ["row"] spDeg f_degree fd_degree) {f_plain : Addr} {fd_plain : FuncData} (C_plain : Cal P w K mg base 4 "plain" ["row"] spPlain f_plain fd_plain) {f_through : Addr} {fd_through : FuncData} (C_through : Cal P w K mg base 3 "through" ["values"] spThr f_through fd_through) {f_determinant : Addr} {fd_determinant : FuncData} (C_determinant : Cal P w K mg base 34 "determinant" ["rows"] spDet f_determinant fd_determinant) {f_table : Addr} {fd_table : FuncData} (C_table : Cal P w K mg base 2 "table" ["first", "second"] spTab f_table fd_table) {f_opposed : Addr} {fd_opposed : FuncData} (C_opposed : Cal P w K mg base 3 "opposed" ["row", "x"] spOpp f_opposed fd_opposed) : FnOk P w K mg base CX0 35 f fd ["first", "second"] (spTwo opp) := by
  obtain ⟨G_degree, m_degree, k_degree, b_degree⟩ := C_degree
  obtain ⟨G_plain, m_plain, k_plain, b_plain⟩ := C_plain
  obtain ⟨G_through, m_through, k_through, b_through⟩ := C_through
  obtain ⟨G_determinant, m_determinant, k_determinant, b_determinant⟩ := C_determinant
  obtain ⟨G_table, m_table, k_table, b_table⟩ := C_table
  obtain ⟨G_opposed, m_opposed, k_opposed, b_opposed⟩ := C_opposed
  refine F.ok sc_sums (fun vs H Q E h => ?_) (fun cdv A outer s H vs Q E hr h => ?_)
  · obtain ⟨a, b, xs, ys, W, rfl, _⟩ := h
    rfl
  · obtain ⟨a, b, xs, ys, W, rfl, hA, hB, hty, hx, hy, hxl, hyl, hN, bx, by', hW, hWt, hWb, hv, k⟩ := h
    have big := sizeLine_eq
    have hxp := List.length_pos_iff.mpr hx
    have hyp := List.length_pos_iff.mpr hy
    refine ⟨_, (pss_cons (ps_set (i := 2) sc_sums.nd rfl (Or.inl rfl) (pe_op op_add (pe_op op_mulB (pe_call G_degree (hr.mono (by decide)) rfl m_degree k_degree b_degree .nil pass0 (pa_cons (pv 0) pa_nil)) (pe_call G_degree (hr.mono (by decide)) rfl m_degree k_degree b_degree .nil pass0 (pa_cons (pv 1) pa_nil))) pe_int))
      (pss_one (ps_ret (pe_call G_plain (hr.mono (by decide)) rfl m_plain k_plain b_plain .nil pass0 (pa_cons (pe_call G_through (hr.mono (by decide)) rfl m_through k_through b_through .nil pass0 (pa_cons (pe_comp (own := ["x"]) (fr := ["first", "second"]) (js := [0, 1]) (by walk_at "comp_ok") rfl (pi_range1 rfl T.range_ (pa_cons (pv 2) pa_nil)) (fun _ _ _ _ => (pg_name (i := 0) (show List.Nodup (["x", "first", "second"] : List Str) from by decide +kernel) rfl (Or.inl rfl))) (fun _ _ _ _ => (pe_call G_determinant (hr.mono (by decide)) rfl m_determinant k_determinant b_determinant .nil pass0 (pa_cons (pe_call G_table (hr.mono (by decide)) rfl m_table k_table b_table .nil pass0 (pa_cons (pv 1) (pa_cons (pe_call G_opposed (hr.mono (by decide)) rfl m_opposed k_opposed b_opposed .nil pass0 (pa_cons (pv 2) (pa_cons (pv 0) pa_nil))) pa_nil))) pa_nil)))) pa_nil)) pa_nil))))), ?_⟩
    have sm8 : ∀ z : Nat, z ≤ 9 → Bits 1000000 ((z : Int) - 1) := fun z hz => Bits.mono (j := 8) (show ((z : Int) - 1).natAbs < 256 by omega) (by decide)
    refine rd_sa ⟨_, rfl, a, _, rfl, hA, _, rfl, b, _, rfl, hB, _, _, rfl, rfl, ⟨by rw [List.length_map]; exact sm8 _ hxl, by rw [List.length_map]; exact sm8 _ hyl⟩, _, _, rfl, rfl, ?_⟩
    have em := mul_cast hxp hyp
    dsimp only
    rw [List.length_map, List.length_map, em]
    generalize (xs.length - 1) * (ys.length - 1) = N at hN hW
    refine rd_ret ⟨_, rfl, _, rfl, by omega, by omega, ?_⟩
    refine comp_range (lo := 0) (n := N + 1) (fun t zs σ' H' => ∃ z : Option V, σ' = [z, some (.ref a), some (.ref b)] ∧ zs = ((List.range t).map fun j => ev (j : Nat) W).map V.int ∧ Same H H') (by omega) ⟨none, rfl, rfl, fun _ _ e => e⟩ ?_ ?_ ?_
    · rintro t zs σ' H' _ ⟨z, rfl, rfl, _⟩
      simp
    · rintro t zs σ' H' ht ⟨z, rfl, rfl, sm⟩
      have e0 : (0 : Int) + (t : Int) = ((t : Nat) : Int) := by omega
      obtain ⟨o1, o2, _⟩ := opp_ok ((t : Nat) : Int) ys hty hy
      have bo := opp_bits (x := ((t : Nat) : Int)) (show ((t : Nat) : Int).natAbs < 256 by omega) hyl by'
      have ho : opp ((t : Nat) : Int) ys ≠ [] := fun z => by rw [z] at o2; simp at o2; omega
      refine ⟨_, rfl, _, rfl, _, rfl, b, ys, t, by rw [e0]; rfl, sm _ _ hB, hty, hy, hyl, by', by omega, fun p1 H1 s1 hp1 e1 => ?_⟩
      have hvt := hv t
      have bo2 : AllB 2000 (opp ((t : Nat) : Int) ys) := bo.mono (by omega)
      generalize opp ((t : Nat) : Int) ys = O at e1 o2 ho hvt bo2
      have t1 := sm.trans s1
      refine ⟨a, p1, xs, O, rfl, t1 _ _ hA, e1, hx, ho, by omega, by omega, fun p2 H2 ps s2 q2 hR2 => ?_⟩
      obtain ⟨d1, d2, d3, d4⟩ := tab_pre hx ho (bx.mono (by decide)) bo2 (by omega)
      refine ⟨p2, ps, _, 2000, rfl, q2, hR2, d1, d2, d3, by decide, fun H3 s3 => ?_⟩
      refine ⟨some (.int (0 + (t : Int))), rfl, ?_, (t1.trans s2).trans s3⟩
      have er : ((List.range (t + 1)).map fun j => ev (j : Nat) W) = ((List.range t).map fun j => ev (j : Nat) W) ++ [ev (t : Nat) W] := by rw [List.range_succ, List.map_append]; rfl
      rw [d4, hvt, map_snoc, er]
    rintro zs σ' H' p ⟨z, rfl, rfl, sm⟩ hp
    have bv : AllB 100000 ((List.range (N + 1)).map fun j => ev (j : Nat) W) := fun y hy' => by
      obtain ⟨j, hj, rfl⟩ := List.mem_map.mp hy'
      have hj' := List.mem_range.mp hj
      show Bits 100000 (ev (j : Nat) W)
      rw [← hv j]
      obtain ⟨o1, o2, _⟩ := opp_ok ((j : Nat) : Int) ys hty hy
      have bo := opp_bits (x := ((j : Nat) : Int)) (show ((j : Nat) : Int).natAbs < 256 by omega) hyl by'
      exact (resL_bits (bx.mono (by decide)) (bo.mono (by omega)) (by omega) hx (fun z => by rw [z] at o2; simp at o2; omega)).mono (by decide)
    refine ⟨p, W, N + 1, rfl, upd_same, by omega, hWt, by omega, bv, fun q H2 s2 hq e2 => ?_⟩
    refine ⟨q, W, rfl, e2, hWt, by omega, hWb, fun q3 H3 s3 hq3 e3 => k q3 H3 ((sm.then_new hp).trans (s2.trans s3)) (((sm.then_new hp).trans s2).free hq3) e3⟩
theorem ok_products {f : Addr} {fd : FuncData} (F : Fun K "products" "products" s_products f fd) (T : Txt K mg) {f_degree : Addr} {fd_degree : FuncData} (C_degree : Cal P w K mg base 1 "degree" ["row"] spDeg f_degree fd_degree) {f_plain : Addr} {fd_plain : FuncData} (C_plain : Cal P w K mg base 4 "plain" ["row"] spPlain f_plain fd_plain) {f_through : Addr} {fd_through : FuncData} (C_through : Cal P w K mg base 3 "through" ["values"] spThr f_through fd_through) {f_determinant : Addr} {fd_determinant : FuncData} (C_determinant : Cal P w K mg base 34 "determinant" ["rows"] spDet f_determinant fd_determinant) {f_table : Addr} {fd_table : FuncData} (C_table : Cal P w K mg base 2 "table" ["first", "second"] spTab f_table fd_table) {f_weighted : Addr} {fd_weighted : FuncData} (C_weighted : Cal P w K mg base 1 "weighted" ["row", "x"] spWei f_weighted fd_weighted) : FnOk P w K mg base CX0 35 f fd ["first", "second"] (spTwo fun x l => (weiU x l).reverse) := by
  obtain ⟨G_degree, m_degree, k_degree, b_degree⟩ := C_degree
  obtain ⟨G_plain, m_plain, k_plain, b_plain⟩ := C_plain
  obtain ⟨G_through, m_through, k_through, b_through⟩ := C_through
  obtain ⟨G_determinant, m_determinant, k_determinant, b_determinant⟩ := C_determinant
  obtain ⟨G_table, m_table, k_table, b_table⟩ := C_table
  obtain ⟨G_weighted, m_weighted, k_weighted, b_weighted⟩ := C_weighted
  refine F.ok sc_products (fun vs H Q E h => ?_) (fun cdv A outer s H vs Q E hr h => ?_)
  · obtain ⟨a, b, xs, ys, W, rfl, _⟩ := h
    rfl
  · obtain ⟨a, b, xs, ys, W, rfl, hA, hB, hty, hx, hy, hxl, hyl, hN, bx, by', hW, hWt, hWb, hv, k⟩ := h
    have big := sizeLine_eq
    have hxp := List.length_pos_iff.mpr hx
    have hyp := List.length_pos_iff.mpr hy
    refine ⟨_, (pss_cons (ps_set (i := 2) sc_products.nd rfl (Or.inl rfl) (pe_op op_add (pe_op op_mulB (pe_call G_degree (hr.mono (by decide)) rfl m_degree k_degree b_degree .nil pass0 (pa_cons (pv 0) pa_nil)) (pe_call G_degree (hr.mono (by decide)) rfl m_degree k_degree b_degree .nil pass0 (pa_cons (pv 1) pa_nil))) pe_int))
      (pss_one (ps_ret (pe_call G_plain (hr.mono (by decide)) rfl m_plain k_plain b_plain .nil pass0 (pa_cons (pe_call G_through (hr.mono (by decide)) rfl m_through k_through b_through .nil pass0 (pa_cons (pe_comp (own := ["x"]) (fr := ["first", "second"]) (js := [0, 1]) (by walk_at "comp_ok") rfl (pi_range1 rfl T.range_ (pa_cons (pv 2) pa_nil)) (fun _ _ _ _ => (pg_name (i := 0) (show List.Nodup (["x", "first", "second"] : List Str) from by decide +kernel) rfl (Or.inl rfl))) (fun _ _ _ _ => (pe_call G_determinant (hr.mono (by decide)) rfl m_determinant k_determinant b_determinant .nil pass0 (pa_cons (pe_call G_table (hr.mono (by decide)) rfl m_table k_table b_table .nil pass0 (pa_cons (pv 1) (pa_cons (pe_call G_weighted (hr.mono (by decide)) rfl m_weighted k_weighted b_weighted .nil pass0 (pa_cons (pv 2) (pa_cons (pv 0) pa_nil))) pa_nil))) pa_nil)))) pa_nil)) pa_nil))))), ?_⟩
    have sm8 : ∀ z : Nat, z ≤ 9 → Bits 1000000 ((z : Int) - 1) := fun z hz => Bits.mono (j := 8) (show ((z : Int) - 1).natAbs < 256 by omega) (by decide)
    refine rd_sa ⟨_, rfl, a, _, rfl, hA, _, rfl, b, _, rfl, hB, _, _, rfl, rfl, ⟨by rw [List.length_map]; exact sm8 _ hxl, by rw [List.length_map]; exact sm8 _ hyl⟩, _, _, rfl, rfl, ?_⟩
    have em := mul_cast hxp hyp
    dsimp only
    rw [List.length_map, List.length_map, em]
    generalize (xs.length - 1) * (ys.length - 1) = N at hN hW
    refine rd_ret ⟨_, rfl, _, rfl, by omega, by omega, ?_⟩
    refine comp_range (lo := 0) (n := N + 1) (fun t zs σ' H' => ∃ z : Option V, σ' = [z, some (.ref a), some (.ref b)] ∧ zs = ((List.range t).map fun j => ev (j : Nat) W).map V.int ∧ Same H H') (by omega) ⟨none, rfl, rfl, fun _ _ e => e⟩ ?_ ?_ ?_
    · rintro t zs σ' H' _ ⟨z, rfl, rfl, _⟩
      simp
    · rintro t zs σ' H' ht ⟨z, rfl, rfl, sm⟩
      have e0 : (0 : Int) + (t : Int) = ((t : Nat) : Int) := by omega
      have o2 := wei_len ((t : Nat) : Int) ys
      have bo2 := wei_bits (x := ((t : Nat) : Int)) (show ((t : Nat) : Int).natAbs < 256 by omega) hyl by'
      have ho : (weiU ((t : Nat) : Int) ys).reverse ≠ [] := fun z => by rw [z] at o2; simp at o2; omega
      refine ⟨_, rfl, _, rfl, _, rfl, b, ys, t, by rw [e0]; rfl, sm _ _ hB, hyl, by', by omega, fun p1 H1 s1 hp1 e1 => ?_⟩
      have hvt := hv t
      dsimp only at hvt
      generalize (weiU ((t : Nat) : Int) ys).reverse = O at e1 o2 ho hvt bo2
      have t1 := sm.trans s1
      refine ⟨a, p1, xs, O, rfl, t1 _ _ hA, e1, hx, ho, by omega, by omega, fun p2 H2 ps s2 q2 hR2 => ?_⟩
      obtain ⟨d1, d2, d3, d4⟩ := tab_pre hx ho (bx.mono (by decide)) bo2 (by omega)
      refine ⟨p2, ps, _, 2000, rfl, q2, hR2, d1, d2, d3, by decide, fun H3 s3 => ?_⟩
      refine ⟨some (.int (0 + (t : Int))), rfl, ?_, (t1.trans s2).trans s3⟩
      have er : ((List.range (t + 1)).map fun j => ev (j : Nat) W) = ((List.range t).map fun j => ev (j : Nat) W) ++ [ev (t : Nat) W] := by rw [List.range_succ, List.map_append]; rfl
      rw [d4, hvt, map_snoc, er]
    rintro zs σ' H' p ⟨z, rfl, rfl, sm⟩ hp
    have bv : AllB 100000 ((List.range (N + 1)).map fun j => ev (j : Nat) W) := fun y hy' => by
      obtain ⟨j, hj, rfl⟩ := List.mem_map.mp hy'
      have hj' := List.mem_range.mp hj
      show Bits 100000 (ev (j : Nat) W)
      rw [← hv j]
      have o2 := wei_len ((j : Nat) : Int) ys
      have bo2 := wei_bits (x := ((j : Nat) : Int)) (show ((j : Nat) : Int).natAbs < 256 by omega) hyl by'
      exact (resL_bits (bx.mono (by decide)) bo2 (by omega) hx (fun z => by rw [z] at o2; simp at o2; omega)).mono (by decide)
    refine ⟨p, W, N + 1, rfl, upd_same, by omega, hWt, by omega, bv, fun q H2 s2 hq e2 => ?_⟩
    refine ⟨q, W, rfl, e2, hWt, by omega, hWb, fun q3 H3 s3 hq3 e3 => k q3 H3 ((sm.then_new hp).trans (s2.trans s3)) (((sm.then_new hp).trans s2).free hq3) e3⟩
def pwG (x : Int) (k : Nat) : List Int := [x] ++ List.replicate (k - 1) 0 ++ [-1]
theorem pwG_len (x : Int) {k : Nat} (hk : 1 ≤ k) : (pwG x k).length = k + 1 := by
  unfold pwG
  rw [List.length_append, List.length_append, List.length_replicate]; show 1 + (k - 1) + 1 = k + 1; omega
theorem pwG_bits {x : Int} (hx : Bits 8 x) (k : Nat) : AllB 2000 (pwG x k) := by
  unfold pwG
  refine (AllB.app (fun y hy => ?_) AllB.zeros).snoc ?_
  · rw [List.mem_singleton.mp hy]; exact hx.mono (by decide)
  · exact Bits.mono (j := 1) (by show (-1 : Int).natAbs < 2 ^ 1; decide) (by decide)
def spPws : Sp := fun vs H Q _ => ∃ (a : Addr) (xs W : List Int) (n : Nat), vs = [.ref a, .int (n : Nat)] ∧ H a = some (.lst (xs.map V.int)) ∧ xs ≠ [] ∧ xs.length ≤ 9 ∧ 1 ≤ n ∧ n ≤ 8 ∧ AllB 1000 xs ∧ W.length = xs.length ∧ Tr W ∧ AllB 9000 W ∧ (∀ x : Nat, resL xs (pwG (x : Nat) n) = ev (x : Nat) W) ∧ mkL H Q (plainL W)
theorem ok_powers {f : Addr} {fd : FuncData} (F : Fun K "powers" "powers" s_powers f fd) (T : Txt K mg) {f_degree : Addr} {fd_degree : FuncData} (C_degree : Cal P w K mg base 1 "degree" ["row"] spDeg f_degree fd_degree) {f_plain : Addr} {fd_plain : FuncData} (C_plain : Cal P w K mg base 4 "plain" ["row"] spPlain f_plain fd_plain) {f_through : Addr} {fd_through : FuncData} (C_through : Cal P w K mg base 3 "through" ["values"] spThr f_through fd_through) {f_determinant : Addr} {fd_determinant : FuncData} (C_determinant : Cal P w K mg base 34 "determinant" ["rows"] spDet f_determinant fd_determinant) {f_table : Addr} {fd_table : FuncData} (C_table : Cal P w K mg base 2 "table" ["first", "second"] spTab f_table fd_table) : FnOk P w K mg base CX0 35 f fd ["row", "k"] spPws := by
  obtain ⟨G_degree, m_degree, k_degree, b_degree⟩ := C_degree
  obtain ⟨G_plain, m_plain, k_plain, b_plain⟩ := C_plain
  obtain ⟨G_through, m_through, k_through, b_through⟩ := C_through
  obtain ⟨G_determinant, m_determinant, k_determinant, b_determinant⟩ := C_determinant
  obtain ⟨G_table, m_table, k_table, b_table⟩ := C_table
  refine F.ok sc_powers (fun vs H Q E h => ?_) (fun cdv A outer s H vs Q E hr h => ?_)
  · obtain ⟨a, xs, W, n, rfl, _⟩ := h
    rfl
  · obtain ⟨a, xs, W, n, rfl, hA, hx, hxl, hn1, hn8, bx, hW, hWt, hWb, hv, k⟩ := h
    have big := sizeLine_eq
    have hxp := List.length_pos_iff.mpr hx
    refine ⟨_, (pss_cons (ps_set (i := 2) sc_powers.nd rfl (Or.inl rfl) (pe_op op_add (pe_call G_degree (hr.mono (by decide)) rfl m_degree k_degree b_degree .nil pass0 (pa_cons (pv 0) pa_nil)) pe_int))
      (pss_one (ps_ret (pe_call G_plain (hr.mono (by decide)) rfl m_plain k_plain b_plain .nil pass0 (pa_cons (pe_call G_through (hr.mono (by decide)) rfl m_through k_through b_through .nil pass0 (pa_cons (pe_comp (own := ["x"]) (fr := ["row", "k"]) (js := [0, 1]) (by walk_at "comp_ok") rfl (pi_range1 rfl T.range_ (pa_cons (pv 2) pa_nil)) (fun _ _ _ _ => (pg_name (i := 0) (show List.Nodup (["x", "row", "k"] : List Str) from by decide +kernel) rfl (Or.inl rfl))) (fun _ _ _ _ => (pe_call G_determinant (hr.mono (by decide)) rfl m_determinant k_determinant b_determinant .nil pass0 (pa_cons (pe_call G_table (hr.mono (by decide)) rfl m_table k_table b_table .nil pass0 (pa_cons (pv 1) (pa_cons (pe_op op_cat (pe_op op_cat (pe_lst (pa_cons (pv 0) pa_nil)) (pe_op op_rep (pe_lst (pa_cons pe_int pa_nil)) (pe_op op_sub (pv 2) pe_int))) (pe_lst (pa_cons (pe_un un_neg pe_int) pa_nil))) pa_nil))) pa_nil)))) pa_nil)) pa_nil))))), ?_⟩
    refine rd_sa ⟨_, rfl, a, _, rfl, hA, _, _, rfl, rfl, ?_⟩
    have em : (((xs.map V.int).length : Nat) : Int) - 1 + 1 = ((xs.length : Nat) : Int) := by rw [List.length_map]; omega
    dsimp only
    rw [em]
    refine rd_ret ⟨_, rfl, _, rfl, by omega, by omega, ?_⟩
    refine comp_range (lo := 0) (n := xs.length) (fun t zs σ' H' => ∃ z : Option V, σ' = [z, some (.ref a), some (.int (n : Nat))] ∧ zs = ((List.range t).map fun j => ev (j : Nat) W).map V.int ∧ Same H H') (by omega) ⟨none, rfl, rfl, fun _ _ e => e⟩ ?_ ?_ ?_
    · rintro t zs σ' H' _ ⟨z, rfl, rfl, _⟩
      simp
    · rintro t zs σ' H' ht ⟨z, rfl, rfl, sm⟩
      have e0 : (0 : Int) + (t : Int) = ((t : Nat) : Int) := by omega
      have o2 := pwG_len ((t : Nat) : Int) hn1
      have bo2 := pwG_bits (x := ((t : Nat) : Int)) (show ((t : Nat) : Int).natAbs < 256 by omega) n
      have ho : pwG ((t : Nat) : Int) n ≠ [] := fun z => by rw [z] at o2; simp at o2
      have hvt := hv t
      refine ⟨_, rfl, _, rfl, by show 1 ≤ sizeLine; decide, fun p1 hp1 => ⟨by show 1 ≤ sizeLine; decide, fun p2 hp2 => ⟨_, rfl, _, _, rfl, rfl, ?_⟩⟩⟩
      have ek : ((n : Nat) : Int) - 1 = ((n - 1 : Nat) : Int) := by omega
      dsimp only
      rw [ek, e0]
      rw [e0] at hp2
      have t1 : Same H' (upd H' p1 (.lst [V.int ((t : Nat) : Int)])) := Same.upd_new hp1
      have q1 : upd H' p1 (.lst [V.int ((t : Nat) : Int)]) p1 = some (.lst (([((t : Nat) : Int)] : List Int).map V.int)) := upd_same
      generalize upd H' p1 (.lst [V.int ((t : Nat) : Int)]) = G1 at t1 q1 hp2 ⊢
      have t2 := t1.then_new (o := .lst [V.int 0]) hp2
      have q12 := (Same.upd_new (o := .lst [V.int 0]) hp2) _ _ q1
      refine ⟨p2, _, _, rfl, rfl, upd_same, by omega, by omega, by show 1 * ((n - 1 : Nat) : Int).toNat ≤ sizeLine; omega, fun p3 hp3 => ?_⟩
      have er0 : (List.replicate ((n - 1 : Nat) : Int).toNat [V.int 0]).flatten = (List.replicate (n - 1) (0 : Int)).map V.int := by rw [Int.toNat_natCast, rep_zero]
      rw [er0]
      have q13 := (Same.upd_new (o := .lst ((List.replicate (n - 1) (0 : Int)).map V.int)) hp3) _ _ q12
      have t3 := t2.then_new (o := .lst ((List.replicate (n - 1) (0 : Int)).map V.int)) hp3
      refine ⟨p1, p3, _, _, rfl, rfl, q13, upd_same, by rw [List.length_map, List.length_map, List.length_replicate]; show 1 + (n - 1) ≤ sizeLine; omega, fun p4 hp4 => ?_⟩
      rw [map_cat]
      have t4 := t3.then_new (o := .lst (([((t : Nat) : Int)] ++ List.replicate (n - 1) (0 : Int)).map V.int)) hp4
      have q4 : upd (upd (upd G1 p2 (.lst [V.int 0])) p3 (.lst ((List.replicate (n - 1) (0 : Int)).map V.int))) p4 (.lst (([((t : Nat) : Int)] ++ List.replicate (n - 1) (0 : Int)).map V.int)) p4 = some (.lst (([((t : Nat) : Int)] ++ List.replicate (n - 1) (0 : Int)).map V.int)) := upd_same
      generalize upd (upd (upd G1 p2 (.lst [V.int 0])) p3 (.lst ((List.replicate (n - 1) (0 : Int)).map V.int))) p4 (.lst (([((t : Nat) : Int)] ++ List.replicate (n - 1) (0 : Int)).map V.int)) = G4 at t4 q4 ⊢
      refine ⟨_, rfl, by show 1 ≤ sizeLine; decide, fun p5 hp5 => ?_⟩
      have t5 := t4.then_new (o := .lst [V.int (-1)]) hp5
      have q45 := (Same.upd_new (o := .lst [V.int (-1)]) hp5) _ _ q4
      refine ⟨p4, p5, _, _, rfl, rfl, q45, upd_same, by rw [List.length_map, List.length_append, List.length_replicate]; show 1 + (n - 1) + 1 ≤ sizeLine; omega, fun p6 hp6 => ?_⟩
      have ec : ([((t : Nat) : Int)] ++ List.replicate (n - 1) (0 : Int)).map V.int ++ [V.int (-1)] = (pwG ((t : Nat) : Int) n).map V.int := map_snoc _ _
      rw [ec]
      have t6 := t5.then_new (o := .lst ((pwG ((t : Nat) : Int) n).map V.int)) hp6
      have q6 : upd (upd G4 p5 (.lst [V.int (-1)])) p6 (.lst ((pwG ((t : Nat) : Int) n).map V.int)) p6 = some (.lst ((pwG ((t : Nat) : Int) n).map V.int)) := upd_same
      generalize upd (upd G4 p5 (.lst [V.int (-1)])) p6 (.lst ((pwG ((t : Nat) : Int) n).map V.int)) = G6 at t6 q6 ⊢
      generalize pwG ((t : Nat) : Int) n = O at q6 o2 ho hvt bo2
      have t7 := sm.trans t6
      refine ⟨a, p6, xs, O, rfl, t7 _ _ hA, q6, hx, ho, by omega, by omega, fun p7 H2 ps s2 q2 hR2 => ?_⟩
      obtain ⟨d1, d2, d3, d4⟩ := tab_pre hx ho (bx.mono (by decide)) bo2 (by omega)
      refine ⟨p7, ps, _, 2000, rfl, q2, hR2, d1, d2, d3, by decide, fun H3 s3 => ?_⟩
      refine ⟨_, rfl, ?_, (t7.trans s2).trans s3⟩
      have er : ((List.range (t + 1)).map fun j => ev (j : Nat) W) = ((List.range t).map fun j => ev (j : Nat) W) ++ [ev (t : Nat) W] := by rw [List.range_succ, List.map_append]; rfl
      rw [d4, hvt, map_snoc, er]
    rintro zs σ' H' p ⟨z, rfl, rfl, sm⟩ hp
    have bv : AllB 100000 ((List.range xs.length).map fun j => ev (j : Nat) W) := fun y hy' => by
      obtain ⟨j, hj, rfl⟩ := List.mem_map.mp hy'
      have hj' := List.mem_range.mp hj
      show Bits 100000 (ev (j : Nat) W)
      rw [← hv j]
      have o2 := pwG_len ((j : Nat) : Int) hn1
      have bo2 := pwG_bits (x := ((j : Nat) : Int)) (show ((j : Nat) : Int).natAbs < 256 by omega) n
      exact (resL_bits (bx.mono (by decide)) bo2 (by omega) hx (fun z => by rw [z] at o2; simp at o2)).mono (by decide)
    refine ⟨p, W, xs.length, rfl, upd_same, by omega, hWt, by omega, bv, fun q H2 s2 hq e2 => ?_⟩
    refine ⟨q, W, rfl, e2, hWt, by omega, hWb, fun q3 H3 s3 hq3 e3 => k q3 H3 ((sm.then_new hp).trans (s2.trans s3)) (((sm.then_new hp).trans s2).free hq3) e3⟩
theorem ok__law_cell_at {f : Addr} {fd : FuncData} (F : Fun K "_law_cell_at" "_law_cell_at" s__law_cell_at f fd) (T : Txt K mg) : FnOk P w K mg base CX0 1 f fd ["_law_script", "_law_k"] (spCell K) := by
  refine F.ok sc__law_cell_at (fun vs H Q E h => ?_) (fun cdv A outer s H vs Q E hr h => ?_)
  · obtain ⟨a, ns, k, rfl, _⟩ := h
    rfl
  · obtain ⟨a, ns, n, rfl, hS, k⟩ := h
    refine ⟨_, (pss_cons (ps_if (pt_cmpR op_lt (pv 1) (pe_callB (call_lenK (K := K) rfl) (by rfl) T.len_ PySem.boot_len (pa_cons (pv 0) pa_nil)) (nomark _))
        (pss_one (ps_ret (pe_ix (ix_listK (K := K) rfl) (pv 0) (pv 1) (fun _ _ => rfl))))
        pss_nil)
      (pss_one (ps_ret pe_int))), ?_⟩
    refine ⟨_, rfl, _, rfl, a, _, rfl, .inl hS, _, _, rfl, rfl, _, rfl, ?_⟩
    refine rd_dec (fun h1 => ?_) (fun h1 => ?_)
    · rw [List.length_map] at h1
      have h2 : n < ns.length := by omega
      refine ⟨_, rfl, _, rfl, a, _, _, _, rfl, rfl, hS, atI_nat (v := .int (ns.getD n 0)) ?_, k⟩
      rw [List.getElem?_map, List.getElem?_eq_getElem h2]
      simp [List.getD, h2]
    · rw [List.length_map] at h1
      have h2 : ns.length ≤ n := by omega
      have e : ns.getD n 0 = 0 := by simp [List.getD, List.getElem?_eq_none_iff.mpr h2]
      rw [e] at k
      exact k
def spProd : Sp := fun vs H Q _ => ∃ (a b : Addr) (xs ys : List Int), vs = [.ref a, .ref b] ∧ H a = some (.lst (xs.map V.int)) ∧ H b = some (.lst (ys.map V.int)) ∧ xs.length ≤ 1000000 ∧ ys.length ≤ 1000000 ∧ AllB 1000000 xs ∧ AllB 1000000 ys ∧ xs ≠ [] ∧ ys ≠ [] ∧ mkL H Q (mulL xs ys)
theorem ok__law_product {f : Addr} {fd : FuncData} (F : Fun K "_law_product" "_law_product" s__law_product f fd) (T : Txt K mg) : FnOk P w K mg base CX0 1 f fd ["_law_kp", "_law_kq"] spProd := by
  refine F.ok sc__law_product (fun vs H Q E h => ?_) (fun cdv A outer s H vs Q E hr h => ?_)
  · obtain ⟨a, b, xs, ys, rfl, _⟩ := h
    rfl
  · obtain ⟨a, b, xs, ys, rfl, hA, hB, hx, hy, bx, by', hx0, hy0, k⟩ := h
    refine ⟨_, (pss_cons (ps_set (i := 2) sc__law_product.nd rfl (Or.inl rfl) (pe_op op_rep (pe_lst (pa_cons pe_int pa_nil)) (pe_op op_sub (pe_op op_add (pe_callB (call_lenK (K := K) rfl) (by rfl) T.len_ PySem.boot_len (pa_cons (pv 0) pa_nil)) (pe_callB (call_lenK (K := K) rfl) (by rfl) T.len_ PySem.boot_len (pa_cons (pv 1) pa_nil))) pe_int)))
      (pss_cons (ps_for PassesOwn.never rfl (pi_range1 rfl T.range_ (pa_cons (pe_callB (call_lenK (K := K) rfl) (by rfl) T.len_ PySem.boot_len (pa_cons (pv 0) pa_nil)) pa_nil)) (pg_name (i := 3) sc__law_product.nd rfl (Or.inl rfl))
        (pss_one (ps_for PassesOwn.never rfl (pi_range1 rfl T.range_ (pa_cons (pe_callB (call_lenK (K := K) rfl) (by rfl) T.len_ PySem.boot_len (pa_cons (pv 1) pa_nil)) pa_nil)) (pg_name (i := 4) sc__law_product.nd rfl (Or.inl rfl))
            (pss_one (ps_asg (pe_op op_add (pe_ix (ix_listK (K := K) rfl) (pv 2) (pe_op op_add (pv 3) (pv 4)) (fun _ _ => rfl)) (pe_op op_mulB (pe_ix (ix_listK (K := K) rfl) (pv 0) (pv 3) (fun _ _ => rfl)) (pe_ix (ix_listK (K := K) rfl) (pv 1) (pv 4) (fun _ _ => rfl)))) (pg_sub (pv 2) (pe_op op_add (pv 3) (pv 4)) set_list))))))
      (pss_one (ps_ret (pv 2))))), ?_⟩
    have big := sizeLine_eq
    have hxp := List.length_pos_iff.mpr hx0
    have hyp := List.length_pos_iff.mpr hy0
    have hlx : (xs.map V.int).length = xs.length := List.length_map _
    have hly : (ys.map V.int).length = ys.length := List.length_map _
    refine ⟨(by show 1 ≤ sizeLine; decide), fun p1 hp1 => ?_⟩
    have s1 := Same.upd_new (o := .lst [V.int 0]) hp1
    refine ⟨_, rfl, a, _, rfl, .inl (SqL.of (s1 _ _ hA)), _, rfl, b, _, rfl, .inl (SqL.of (s1 _ _ hB)), _, _, rfl, rfl, _, _, rfl, rfl, ?_⟩
    dsimp only
    rw [hlx, hly]
    refine ⟨p1, _, _, rfl, rfl, upd_same, by omega, by omega, by show 1 * _ ≤ _; omega, fun p hp => ?_⟩
    have en : ((xs.length : Int) + (ys.length : Int) - 1).toNat = xs.length + ys.length - 1 := by omega
    rw [en, rep_zero]
    have s2 := s1.then_new (o := .lst ((List.replicate (xs.length + ys.length - 1) (0 : Int)).map V.int)) hp
    have npa : a ≠ p := s1.ne hA hp
    have npb : b ≠ p := s1.ne hB hp
    generalize hH4 : upd (upd H p1 (.lst [V.int 0])) p (.lst ((List.replicate (xs.length + ys.length - 1) (0 : Int)).map V.int)) = H4 at s2 ⊢
    have hp4 : H4 p = some (.lst ((List.replicate (xs.length + ys.length - 1) (0 : Int)).map V.int)) := by rw [← hH4, upd_same]
    refine ⟨_, rfl, a, _, rfl, .inl (SqL.of (s2 _ _ hA)), _, rfl, by rw [hlx]; omega, by rw [hlx]; omega, for_range (lo := 0) (fun j σ' H' => ∃ (acc : List Int) (z4 z5 : Option V), σ' = [some (.ref a), some (.ref b), some (.ref p), z4, z5] ∧ SameB p H4 H' ∧ H' p = some (.lst (acc.map V.int)) ∧ acc.length = xs.length + ys.length - 1 ∧ ∀ n, n < acc.length → cf acc n = sm xs ys n j)
      ⟨_, none, none, rfl, SameB.refl _ _, hp4, by simp, fun n _ => by rw [cf_replicate]; rfl⟩ ?_ ?_⟩
    · rintro j σ' H' hj ⟨acc, z4, z5, rfl, sb, hpa, hal, hac⟩
      have hj' : j < xs.length := by rw [hlx] at hj; omega
      have e0 : (0 : Int) + (j : Int) = (j : Nat) := by omega
      refine ⟨_, rfl, b, _, rfl, .inl (SqL.of (sb _ _ npb (s2 _ _ hB))), _, rfl, by rw [hly]; omega, by rw [hly]; omega, for_range (lo := 0) (fun i σ' H' => ∃ (acc : List Int) (z5 : Option V), σ' = [some (.ref a), some (.ref b), some (.ref p), some (.int (0 + (j : Int))), z5] ∧ SameB p H4 H' ∧ H' p = some (.lst (acc.map V.int)) ∧ acc.length = xs.length + ys.length - 1 ∧ ∀ n, n < acc.length → cf acc n = sm xs ys n j + (if j ≤ n ∧ n - j < i then tm xs ys n j else 0))
        ⟨acc, z5, rfl, sb, hpa, hal, mul_start hac⟩ ?_ ?_⟩
      · rintro i σ' H' hi ⟨acc, z5, rfl, sb, hpa, hal, hac⟩
        have hi' : i < ys.length := by rw [hly] at hi; omega
        have e1 : (0 : Int) + (i : Int) = (i : Nat) := by omega
        have hji : j + i < acc.length := by omega
        have eji : (0 + (j : Int)) + (0 + (i : Int)) = ((j + i : Nat) : Int) := by omega
        refine ⟨_, rfl, _, rfl, _, rfl, _, _, rfl, rfl, p, _, _, _, rfl, rfl, SqL.of hpa, at_map eji hji, _, rfl, _, rfl, a, _, _, _, rfl, rfl, SqL.of (sb _ _ npa (s2 _ _ hA)), at_map e0 hj', _, rfl, _, rfl, b, _, _, _, rfl, rfl, SqL.of (sb _ _ npb (s2 _ _ hB)), at_map e1 hi', _, _, rfl, rfl, ⟨bx.cf j, by'.cf i⟩, _, _, rfl, rfl, _, rfl, _, rfl, _, rfl, _, _, rfl, rfl, p, _, _, j + i, rfl, rfl, hpa, ixN_nat eji (by rw [List.length_map]; exact hji), ?_⟩
        exact ⟨acc.set (j + i) (cf acc (j + i) + cf xs j * cf ys i), _, rfl, sb.then_upd, by rw [upd_same, map_set_int], by rw [List.length_set]; exact hal, mul_step hj' hi' hji hac⟩
      · rintro σ' H' ⟨acc, z5, rfl, sb, hpa, hal, hac⟩
        rw [hly, Int.toNat_natCast] at hac
        exact ⟨acc, _, _, rfl, sb, hpa, hal, mul_row hac⟩
    · rintro σ' H5 ⟨acc, z4, z5, rfl, sb, hpa, hal, hac⟩
      rw [hlx, Int.toNat_natCast] at hac
      have s5 : Same H H5 := fun b' o e' => sb b' o (s1.ne e' hp) (s2 b' o e')
      have e2 : acc = mulL xs ys := by
        apply ext_cf
        · rw [hal, len_mulL hx0 hy0]
        · intro n _; rw [cf_mulL, mul_end (by omega) hac]
      rw [e2] at hpa
      exact ⟨_, rfl, k p H5 s5 (s1.free hp) hpa⟩
theorem mod3 {x m : Int} (h : 0 < m) : 0 ≤ x % m ∧ x % m < m := ⟨Int.emod_nonneg _ (Int.ne_of_gt h), Int.emod_lt_of_pos _ h⟩
theorem sml {k : Nat} {x : Int} (h : x.natAbs < 2 ^ k) {m : Nat} (hm : k ≤ m) : Bits m x := Bits.mono (j := k) h hm
theorem b12 : Bits 41 (10 ^ 12) := by show ((10 : Int) ^ 12).natAbs < 2 ^ 41; decide +kernel
theorem spNum_aux : True := trivial
def spNum : Sp := fun vs H Q _ => ∃ c t : Int, vs = [.int c, .int t] ∧ Bits 20 t ∧ ∀ v : Int, Bits 41 v → Q (.int v) H
theorem ok__law_number {f : Addr} {fd : FuncData} (F : Fun K "_law_number" "_law_number" s__law_number f fd) (T : Txt K mg) : FnOk P w K mg base CX0 1 f fd ["_law_cell", "_law_at"] spNum := by
  refine F.ok sc__law_number (fun vs H Q E h => ?_) (fun cdv A outer s H vs Q E hr h => ?_)
  · obtain ⟨c, t, rfl, _⟩ := h
    rfl
  · obtain ⟨c, t, rfl, bt, k⟩ := h
    refine ⟨_, (pss_cons (ps_if (pt_cmpR op_eqI (pe_op op_modP (pv 0) pe_int) pe_int (nomark _))
        (pss_one (ps_ret (pe_op op_sub (pe_op op_modP (pe_op op_fdivP (pv 0) pe_int) (pe_op op_add (pe_op op_mulB pe_int (pe_op op_pow pe_int pe_int)) pe_int)) (pe_op op_pow pe_int pe_int))))
        pss_nil)
      (pss_one (ps_ret (pe_op op_sub (pe_op op_modP (pe_op op_add (pe_op op_fdivP (pv 0) pe_int) (pe_op op_mulB pe_int (pv 1))) pe_int) pe_int)))), ?_⟩
    have three : (0 : Int) < 3 := by decide
    have h12 : (0 : Int) ≤ 10 ^ 12 := by decide +kernel
    refine rd_sr ⟨_, rfl, _, _, rfl, rfl, three, _, _, rfl, rfl, _, rfl, rd_dec (fun _ => ?_) (fun _ => ?_)⟩
    · refine rd_ret ⟨_, rfl, _, _, rfl, rfl, ⟨three, three9⟩, _, _, rfl, rfl, ⟨by decide, by decide, by decide⟩, _, _, rfl, rfl, ⟨two9.mono (by decide), b12.mono (by decide)⟩, _, _, rfl, rfl, _, _, rfl, rfl, (by show (0 : Int) < 2 * 10 ^ 12 + 1; omega), _, _, rfl, rfl, ⟨by decide, by decide, by decide⟩, _, _, rfl, rfl, k _ ?_⟩
      obtain ⟨h1, h2⟩ := signed_bound (c := c / 3) h12
      exact bits_abs h1 h2 b12
    · refine rd_ret ⟨_, rfl, _, _, rfl, rfl, ⟨three, three9⟩, _, rfl, _, _, rfl, rfl, ⟨three9.mono (by decide), bt.mono (by decide)⟩, _, _, rfl, rfl, _, _, rfl, rfl, (by show (0 : Int) < 13; decide), _, _, rfl, rfl, k _ ?_⟩
      obtain ⟨h1, h2⟩ := mod3 (x := c / 3 + 3 * t) (m := 13) (by decide)
      exact sml (k := 4) (show ((c / 3 + 3 * t) % 13 - 6).natAbs < 16 by omega) (by decide)
def spIs : Sp := fun vs H Q _ => ∃ (p q : Addr) (zs : List Int), vs = [.ref p, .ref q] ∧ H p = some (.lst (zs.map V.int)) ∧ H q = some (.lst (zs.map V.int)) ∧ Q (.bl true) H
theorem ok__law_is {f : Addr} {fd : FuncData} (F : Fun K "_law_is" "_law_is" s__law_is f fd) (T : Txt K mg) : FnOk P w K mg base CX0 1 f fd ["_law_found", "_law_due"] spIs := by
  refine F.ok sc__law_is (fun vs H Q E h => ?_) (fun cdv A outer s H vs Q E hr h => ?_)
  · obtain ⟨p, q, zs, rfl, _⟩ := h
    rfl
  · obtain ⟨p, q, zs, rfl, hP, hQ, k⟩ := h
    have hu := hr.units
    refine ⟨_, (pss_cons (ps_if (pt_not (pt_val (pe_callB (call_isinstK (K := K) rfl) (by rfl) T.isinstance_ PyProof.Rows.boot_isinstance (pa_cons (pv 0) (pa_cons (pe_bltn (v := .ty "list") (by rfl) T.list_ PyProof.Rows.boot_list (by rfl)) pa_nil)))))
        (pss_one (ps_ret pe_bl))
        pss_nil)
      (pss_cons (ps_for PassesOwn.never rfl (pi_listK (K := K) rfl (pv 0)) (pg_name (i := 2) sc__law_is.nd rfl (Or.inl rfl))
        (pss_one (ps_if (PW.pt (pw_or (pt_not (pt_val (pe_callB (call_isinstK (K := K) rfl) (by rfl) T.isinstance_ PyProof.Rows.boot_isinstance (pa_cons (pv 2) (pa_cons (pe_bltn (v := .ty "int") (by rfl) T.int_ PyProof.Rows.boot_int (by rfl)) pa_nil))))) (pw_or1 (pt_val (pe_callB (call_isinstK (K := K) rfl) (by rfl) T.isinstance_ PyProof.Rows.boot_isinstance (pa_cons (pv 2) (pa_cons (pe_bltn (v := .ty "bool") (by rfl) T.bool_ PyProof.Rows.boot_bool (by rfl)) pa_nil)))))))
            (pss_one (ps_ret pe_bl))
            pss_nil)))
      (pss_one (ps_ret (pe_cmpR (op_eqLK (K := K) rfl hu) (pv 0) (pv 1) (nomark _)))))), ?_⟩
    refine rd_sr (rd_not (rd_B (rd_isI ⟨_, rfl, isI_ty (.lst hP) (k := true) (by rfl) ⟨_, rfl, rd_false ?_⟩⟩)))
    refine ⟨_, rfl, p, rfl, ⟨_, SqL.of hP⟩, for_list (K := K) (a := p) (xs := zs.map V.int) (fun i σ' H' => ∃ z : Option V, σ' = [some (.ref p), some (.ref q), z] ∧ H = H') ⟨none, rfl, rfl⟩ ?_ ?_ ?_⟩
    · rintro i σ' H' _ ⟨z, rfl, rfl⟩
      exact SqL.of hP
    · rintro i x σ' H' hi ⟨z, rfl, rfl⟩
      obtain ⟨y, _, rfl, _, _⟩ := get_int hi
      refine rd_if (rd_or (rd_not (rd_B (rd_isI ⟨_, rfl, isI_ty (.int y) (k := true) (by rfl) ⟨_, rfl, rd_false ?_⟩⟩))))
      refine rd_B (rd_isI ⟨_, rfl, isI_ty (.int y) (k := false) (by rfl) ⟨_, rfl, rd_false ?_⟩⟩)
      exact ⟨_, rfl, rfl⟩
    · rintro σ' H' ⟨z, rfl, rfl⟩
      dsimp only
      refine rd_ret ⟨_, rfl, _, rfl, p, q, zs, zs, rfl, rfl, SqL.of hP, SqL.of hQ, ?_⟩
      rw [decide_eq_true rfl]
      exact k
def spSha : Sp := fun vs H Q _ => ∃ a b : Int, vs = [.int a, .int b] ∧ 0 < b ∧ Q (.int (Nat.gcd a.natAbs b.natAbs : Nat)) H
theorem ok__law_shared {f : Addr} {fd : FuncData} (F : Fun K "_law_shared" "_law_shared" s__law_shared f fd) (T : Txt K mg) : FnOk P w K mg base CX0 1 f fd ["_law_a", "_law_b"] spSha := by
  refine F.ok sc__law_shared (fun vs H Q E h => ?_) (fun cdv A outer s H vs Q E hr h => ?_)
  · obtain ⟨a, b, rfl, _⟩ := h
    rfl
  · obtain ⟨a, b, rfl, hb, k⟩ := h
    refine ⟨_, (pss_cons (ps_while PassesOwn.never (pt_cmpR op_neI (pv 1) pe_int (nomark _))
        (pss_cons (ps_set (i := 2) sc__law_shared.nd rfl (Or.inl rfl) (pe_op op_modP (pv 0) (pv 1)))
          (pss_cons (ps_set (i := 0) sc__law_shared.nd rfl (Or.inl rfl) (pv 1))
          (pss_one (ps_set (i := 1) sc__law_shared.nd rfl (Or.inl rfl) (pv 2))))))
      (pss_one (ps_ret (pe_callB call_abs (by rfl) T.abs_ PyProof.Rows.boot_abs (pa_cons (pv 0) pa_nil))))), ?_⟩
    refine ⟨fun m σ' H' => ∃ (x y : Int) (z : Option V), σ' = [some (.int x), some (.int y), z] ∧ H = H' ∧ 0 ≤ y ∧ y.natAbs = m ∧ Nat.gcd x.natAbs y.natAbs = Nat.gcd a.natAbs b.natAbs, ⟨_, a, b, none, rfl, rfl, by omega, rfl, rfl⟩, ?_⟩
    rintro m σ' H' ⟨x, y, z, rfl, rfl, hy, rfl, hg⟩
    refine ⟨_, rfl, _, _, rfl, rfl, _, rfl, rd_ndec (fun hn => ?_) (fun h0 => ?_)⟩
    · have hn' : ¬ y = 0 := hn
      have hp : 0 < y := by omega
      refine ⟨fun σ'' H'' => ∃ m', m' < y.natAbs ∧ ∃ (x' y' : Int) (z : Option V), σ'' = [some (.int x'), some (.int y'), z] ∧ H = H'' ∧ 0 ≤ y' ∧ y'.natAbs = m' ∧ Nat.gcd x'.natAbs y'.natAbs = Nat.gcd a.natAbs b.natAbs, fun _ _ h => h, ?_⟩
      refine ⟨_, rfl, _, rfl, _, _, rfl, rfl, hp, ?_⟩
      refine ⟨_, rfl, ?_⟩
      refine ⟨_, rfl, ?_⟩
      obtain ⟨h1, h2⟩ := mod3 (x := x) hp
      exact ⟨(x % y).natAbs, by omega, y, x % y, _, rfl, rfl, h1, rfl, by rw [gcd_mod hp]; exact hg⟩
    · have h0' : y = 0 := h0
      subst h0'
      dsimp only
      refine rd_ret ⟨_, rfl, _, rfl, ?_⟩
      have e : (if x < 0 then -x else x) = ((Nat.gcd a.natAbs b.natAbs : Nat) : Int) := by
        rw [← hg]
        show _ = ((Nat.gcd x.natAbs 0 : Nat) : Int)
        rw [Nat.gcd_zero_right]; split <;> omega
      rw [e]
      exact k
def spFac : Sp := fun vs H Q _ => ∃ t b : Int, vs = [.int t, .int b] ∧ 0 < b ∧ Bits 9000 b ∧ mkL H Q (plainL [-t, b])
theorem ok__law_factor {f : Addr} {fd : FuncData} (F : Fun K "_law_factor" "_law_factor" s__law_factor f fd) (T : Txt K mg) {f__law_shared : Addr} {fd__law_shared : FuncData} (C__law_shared : Cal P w K mg base 1 "_law_shared" ["_law_a", "_law_b"] spSha f__law_shared fd__law_shared) : FnOk P w K mg base CX0 2 f fd ["_law_top", "_law_bottom"] spFac := by
  obtain ⟨G__law_shared, m__law_shared, k__law_shared, b__law_shared⟩ := C__law_shared
  refine F.ok sc__law_factor (fun vs H Q E h => ?_) (fun cdv A outer s H vs Q E hr h => ?_)
  · obtain ⟨t, b, rfl, _⟩ := h
    rfl
  · obtain ⟨t, b, rfl, hb, bb, k⟩ := h
    refine ⟨_, (pss_cons (ps_set (i := 2) sc__law_factor.nd rfl (Or.inl rfl) (pe_call G__law_shared (hr.mono (by decide)) rfl m__law_shared k__law_shared b__law_shared .nil pass0 (pa_cons (pv 0) (pa_cons (pv 1) pa_nil))))
      (pss_one (ps_ret (pe_lst (pa_cons (pe_un un_neg (pe_op op_fdivP (pv 0) (pv 2))) (pa_cons (pe_op op_fdivP (pv 1) (pv 2)) pa_nil)))))), ?_⟩
    refine rd_sa ⟨_, rfl, _, rfl, t, b, rfl, hb, ?_⟩
    have hg0 : 0 < Nat.gcd t.natAbs b.natAbs := Nat.gcd_pos_of_pos_right _ (by omega)
    have bg : Bits 9000 ((Nat.gcd t.natAbs b.natAbs : Nat) : Int) := bb.of_le (by rw [Int.natAbs_natCast]; exact Nat.le_of_dvd (by omega) (Nat.gcd_dvd_right _ _))
    rw [plain_pair hb] at k
    generalize Nat.gcd t.natAbs b.natAbs = g at hg0 bg k
    have hgi : (0 : Int) < (g : Nat) := by omega
    exact rd_ret ⟨_, rfl, _, rfl, _, _, rfl, rfl, ⟨hgi, bg⟩, _, rfl, _, rfl, _, rfl, _, _, rfl, rfl, ⟨hgi, bg⟩, by show 2 ≤ sizeLine; decide, fun p hp => k p _ (Same.upd_new hp) hp upd_same⟩
def prL (p : Int × Int) : List Int := [p.1, p.2]
def POk (p : Int × Int) : Prop := Bits 41 p.1 ∧ 1 ≤ p.2 ∧ p.2 ≤ 1000000
theorem POk.bits {p : Int × Int} (h : POk p) : Bits 20 p.2 := by obtain ⟨_, h1, h2⟩ := h; show p.2.natAbs < 1048576; omega
theorem rootsL_bits {s : Int} {b c : Nat} {ps : List (Int × Int)} (hs : Bits c s) (hp : ∀ p ∈ ps, Bits b p.1 ∧ Bits b p.2) : ∀ n, n ≤ ps.length → n ≤ 20 → AllB (c + (b + 30) * n) (rootsL s (ps.take n))
  | 0, _, _ => by rw [List.take_zero]; intro x hx; have : x = s := by simpa [rootsL] using hx
                  rw [this]; exact hs.mono (by omega)
  | n + 1, h, h' => by
    have ih := rootsL_bits hs hp n (by omega) (by omega)
    have e : ps.take (n + 1) = ps.take n ++ [ps[n]] := by rw [List.take_add_one, List.getElem?_eq_getElem (by omega)]; rfl
    obtain ⟨h1, h2⟩ := hp ps[n] (List.getElem_mem _)
    have hl := rootsL_len s (ps.take n)
    rw [List.length_take, Nat.min_eq_left (by omega)] at hl
    rw [e, rootsL_snoc]
    refine mulL_bits ih (j := b) (fun x hx => ?_) (by rw [hl, Nat.mul_add]; omega)
    simp only [List.mem_cons, List.not_mem_nil, or_false] at hx
    rcases hx with rfl | rfl
    · exact h1.neg
    · exact h2
theorem pair_bits {b : Nat} {p : Int × Int} (h1 : Bits b p.1) (h2 : Bits b p.2) (h0 : p.2 ≠ 0) : AllB b (plainL [-p.1, p.2]) ∧ (plainL [-p.1, p.2]).length = 2 := by
  refine ⟨AllB.of_cf fun n => ?_, by rw [RM.plain_len]; rfl⟩
  obtain ⟨g, hg, eg⟩ := plain_scale (l := [-p.1, p.2]) ((tr_snoc (r := [-p.1])).mpr h0)
  have hA : AllB b [-p.1, p.2] := fun x hx => by
    simp only [List.mem_cons, List.not_mem_nil, or_false] at hx
    rcases hx with rfl | rfl
    · exact h1.neg
    · exact h2
  have h7 := hA.cf n
  rw [eg n] at h7
  refine h7.of_le ?_
  rw [Int.natAbs_mul]
  exact Nat.le_mul_of_pos_left _ (Int.natAbs_pos.mpr hg)
theorem plR_ok {b : Nat} : ∀ (n : Nat) (ps : List (Int × Int)), ps.length = n → n ≤ 40 → (∀ p ∈ ps, Bits b p.1 ∧ Bits b p.2 ∧ p.2 ≠ 0) → AllB (2 + (b + 50) * n) (plR ps) ∧ (plR ps).length = n + 1
  | 0, ps, h, _, _ => by
    obtain rfl := List.length_eq_zero_iff.mp h
    refine ⟨fun x hx => ?_, rfl⟩
    have : x = 1 := by simpa [plR] using hx
    rw [this]; show (1 : Int).natAbs < 2 ^ 2; decide
  | n + 1, ps, h, hn, hp => by
    obtain ⟨r, p, rfl⟩ : ∃ r p, ps = r ++ [p] := ⟨ps.dropLast, ps.getLast (fun z => by rw [z] at h; simp at h), (List.dropLast_concat_getLast _).symm⟩
    rw [List.length_append] at h
    have h' : r.length = n := by simpa using h
    obtain ⟨i1, i2⟩ := plR_ok (b := b) n r h' (by omega) fun x hx => hp x (List.mem_append_left _ hx)
    obtain ⟨a1, a2, a3⟩ := hp p (by simp)
    obtain ⟨c1, c2⟩ := pair_bits a1 a2 a3
    rw [plR_snoc]
    refine ⟨mulL_bits i1 c1 (by rw [i2, Nat.mul_add]; omega), ?_⟩
    rw [len_mulL (fun z => by rw [z] at i2; simp at i2) (fun z => by rw [z] at c2; simp at c2), i2, c2]; rfl
def spWr : Sp := fun vs H Q _ => ∃ (a : Addr) (qs : List Addr) (ps : List (Int × Int)) (s : Int), vs = [.ref a, .int s] ∧ H a = some (.lst (qs.map V.ref)) ∧ TuH H qs (ps.map prL) ∧ (∀ p ∈ ps, POk p) ∧ ps.length ≤ 8 ∧ Bits 4 s ∧ mkL H Q (rootsL s ps)
theorem ok__law_with_roots {f : Addr} {fd : FuncData} (F : Fun K "_law_with_roots" "_law_with_roots" s__law_with_roots f fd) (T : Txt K mg) {f__law_product : Addr} {fd__law_product : FuncData} (C__law_product : Cal P w K mg base 1 "_law_product" ["_law_kp", "_law_kq"] spProd f__law_product fd__law_product) : FnOk P w K mg base CX0 2 f fd ["_law_pairs", "_law_scale"] spWr := by
  obtain ⟨G__law_product, m__law_product, k__law_product, b__law_product⟩ := C__law_product
  refine F.ok sc__law_with_roots (fun vs H Q E h => ?_) (fun cdv A outer s H vs Q E hr h => ?_)
  · obtain ⟨a, qs, ps, s, rfl, _⟩ := h
    rfl
  · obtain ⟨a, qs, ps, sc, rfl, hA, hT, hP, hl, bs, k⟩ := h
    refine ⟨_, (pss_cons (ps_set (i := 2) sc__law_with_roots.nd rfl (Or.inl rfl) (pe_lst (pa_cons (pv 1) pa_nil)))
      (pss_cons (ps_for PassesOwn.never rfl (pi_listK (K := K) rfl (pv 0)) (pg_name (i := 3) sc__law_with_roots.nd rfl (Or.inl rfl))
        (pss_one (ps_set (i := 2) sc__law_with_roots.nd rfl (Or.inl rfl) (pe_call G__law_product (hr.mono (by decide)) rfl m__law_product k__law_product b__law_product .nil pass0 (pa_cons (pv 2) (pa_cons (pe_lst (pa_cons (pe_un un_neg (pe_ix (ix_tupK (K := K) rfl) (pv 3) pe_int (fun _ _ => rfl))) (pa_cons (pe_ix (ix_tupK (K := K) rfl) (pv 3) pe_int (fun _ _ => rfl)) pa_nil))) pa_nil))))))
      (pss_one (ps_ret (pv 2))))), ?_⟩
    refine rd_sa ⟨_, rfl, by show 1 ≤ sizeLine; decide, fun p0 hp0 => ?_⟩
    have s1 : Same H (upd H p0 (.lst [V.int sc])) := Same.upd_new hp0
    have q1 : upd H p0 (.lst [V.int sc]) p0 = some (.lst (([sc] : List Int).map V.int)) := upd_same
    generalize upd H p0 (.lst [V.int sc]) = H1 at s1 q1 ⊢
    have hpl : (qs.map V.ref).length = ps.length := by rw [List.length_map, hT.1, List.length_map]
    refine ⟨_, rfl, a, rfl, ⟨_, SqL.of (s1 _ _ hA)⟩, for_list (K := K) (a := a) (xs := qs.map V.ref) (fun i σ' H' => ∃ (z : Option V) (p : Addr), σ' = [some (.ref a), some (.int sc), some (.ref p), z] ∧ Same H H' ∧ H p = none ∧ H' p = some (.lst ((rootsL sc (ps.take i)).map V.int))) ⟨none, p0, rfl, s1, hp0, q1⟩ ?_ ?_ ?_⟩
    · rintro i σ' H' _ ⟨z, p, rfl, sm, _⟩
      exact SqL.of (sm _ _ hA)
    · rintro i x σ' H' hi ⟨z, p, rfl, sm, hp, ep⟩
      obtain ⟨q, l, rfl, eq, el, hq, hlt⟩ := (hT.same sm).of_get hi
      rw [List.length_map] at hlt
      rw [List.getElem?_map, List.getElem?_eq_getElem hlt] at el
      obtain rfl := Option.some.inj el
      have hpk := hP ps[i] (List.getElem_mem hlt)
      have hb2 := hpk.bits
      have br := rootsL_bits (s := sc) (c := 4) (b := 41) bs (fun p hp => ⟨(hP p hp).1, (hP p hp).bits.mono (by decide)⟩) i (by omega) (by omega)
      have lr := rootsL_len sc (ps.take i)
      rw [List.length_take, Nat.min_eq_left (by omega)] at lr
      have et : ps.take (i + 1) = ps.take i ++ [ps[i]] := by rw [List.take_add_one, List.getElem?_eq_getElem hlt]; rfl
      refine ⟨_, rfl, _, rfl, q, _, _, _, rfl, rfl, SqT.of hq, rfl, _, rfl, _, rfl, q, _, _, _, rfl, rfl, SqT.of hq, rfl, by show 2 ≤ sizeLine; decide, fun p2 hp2 => ?_⟩
      have t2 : Same H' (upd H' p2 (.lst ([-ps[i].1, ps[i].2].map V.int))) := Same.upd_new hp2
      have b2 : AllB 41 [-ps[i].1, ps[i].2] := fun y hy => by
        simp only [List.mem_cons, List.not_mem_nil, or_false] at hy
        rcases hy with rfl | rfl
        · exact hpk.1.neg
        · exact hb2.mono (by decide)
      refine ⟨p, p2, rootsL sc (ps.take i), [-ps[i].1, ps[i].2], rfl, t2 _ _ ep, upd_same, by omega, by show 2 ≤ 1000000; decide, br.mono (by omega), b2.mono (by decide), rootsL_ne _ _, by simp, fun p3 H3 s3 hp3 e3 => ?_⟩
      have u3 := sm.trans (t2.trans s3)
      refine ⟨_, p3, rfl, u3, (sm.trans t2).free hp3, ?_⟩
      rw [e3, et, rootsL_snoc]
    · rintro σ' H' ⟨z, p, rfl, sm, hp, ep⟩
      rw [hpl, List.take_length] at ep
      exact ⟨_, rfl, k p H' sm hp ep⟩
def spRts (K : PySem.W.Frag) : Sp := fun vs H Q _ => ∃ (a : Addr) (ns : List Int) (at' m : Nat), vs = [.ref a, .int (at' : Nat), .int (m : Nat)] ∧ SqL K H a (ns.map V.int) ∧ at' ≤ 100 ∧ m ≤ 8 ∧ ∀ (p : Addr) (H' : Hp) (qs : List Addr) (ps : List (Int × Int)), Same H H' → H' p = some (.lst (qs.map V.ref)) → TuH H' qs (ps.map prL) → (∀ p ∈ ps, POk p) → ps.length = m → Q (.ref p) H'
theorem ok__law_roots {f : Addr} {fd : FuncData} (F : Fun K "_law_roots" "_law_roots" s__law_roots f fd) (T : Txt K mg) {f__law_number : Addr} {fd__law_number : FuncData} (C__law_number : Cal P w K mg base 1 "_law_number" ["_law_cell", "_law_at"] spNum f__law_number fd__law_number) {f__law_cell_at : Addr} {fd__law_cell_at : FuncData} (C__law_cell_at : Cal P w K mg base 1 "_law_cell_at" ["_law_script", "_law_k"] (spCell K) f__law_cell_at fd__law_cell_at) : FnOk P w K mg base CX0 2 f fd ["_law_script", "_law_at", "_law_many"] (spRts K) := by
  obtain ⟨G__law_number, m__law_number, k__law_number, b__law_number⟩ := C__law_number
  obtain ⟨G__law_cell_at, m__law_cell_at, k__law_cell_at, b__law_cell_at⟩ := C__law_cell_at
  refine F.ok sc__law_roots (fun vs H Q E h => ?_) (fun cdv A outer s H vs Q E hr h => ?_)
  · obtain ⟨a, ns, at', m, rfl, _⟩ := h
    rfl
  · obtain ⟨a, ns, at', m, rfl, hA, hat, hm, k⟩ := h
    have big := sizeLine_eq
    refine ⟨_, (pss_cons (ps_set (i := 3) sc__law_roots.nd rfl (Or.inl rfl) (pe_lst pa_nil))
      (pss_cons (ps_for PassesOwn.never rfl (pi_range1 rfl T.range_ (pa_cons (pv 2) pa_nil)) (pg_name (i := 4) sc__law_roots.nd rfl (Or.inl rfl))
        (pss_cons (ps_set (i := 5) sc__law_roots.nd rfl (Or.inl rfl) (pe_call G__law_number (hr.mono (by decide)) rfl m__law_number k__law_number b__law_number .nil pass0 (pa_cons (pe_call G__law_cell_at (hr.mono (by decide)) rfl m__law_cell_at k__law_cell_at b__law_cell_at .nil pass0 (pa_cons (pv 0) (pa_cons (pe_op op_add (pv 1) (pe_op op_mulB pe_int (pv 4))) pa_nil))) (pa_cons (pv 4) pa_nil))))
          (pss_cons (ps_set (i := 6) sc__law_roots.nd rfl (Or.inl rfl) (pe_op op_add pe_int (pe_op op_modP (pe_callB call_abs (by rfl) T.abs_ PyProof.Rows.boot_abs (pa_cons (pe_call G__law_number (hr.mono (by decide)) rfl m__law_number k__law_number b__law_number .nil pass0 (pa_cons (pe_call G__law_cell_at (hr.mono (by decide)) rfl m__law_cell_at k__law_cell_at b__law_cell_at .nil pass0 (pa_cons (pv 0) (pa_cons (pe_op op_add (pe_op op_add (pv 1) (pe_op op_mulB pe_int (pv 4))) pe_int) pa_nil))) (pa_cons pe_int pa_nil))) pa_nil)) (pe_op op_pow pe_int pe_int))))
          (pss_one (ps_if (PW.pt (pw_and (pt_cmpR op_gt (pv 4) pe_int (nomark _)) (pw_and1 (pt_cmpR op_eqI (pe_op op_modP (pe_call G__law_cell_at (hr.mono (by decide)) rfl m__law_cell_at k__law_cell_at b__law_cell_at .nil pass0 (pa_cons (pv 0) (pa_cons (pe_op op_add (pe_op op_add (pv 1) (pe_op op_mulB pe_int (pv 4))) pe_int) pa_nil))) pe_int) pe_int (nomark _)))))
            (pss_one (ps_expr (pe_bm PySem.F.plainAttrs_list PySem.F.slot_list_append PySem.F.type_list_append mt_append (pv 3) (pa_cons (pe_ix (ix_listK (K := K) rfl) (pv 3) pe_int (fun _ _ => rfl)) pa_nil))))
            (pss_one (ps_expr (pe_bm PySem.F.plainAttrs_list PySem.F.slot_list_append PySem.F.type_list_append mt_append (pv 3) (pa_cons (pe_tup (pa_cons (pv 5) (pa_cons (pv 6) pa_nil))) pa_nil)))))))))
      (pss_one (ps_ret (pv 3))))), ?_⟩
    refine rd_sa ⟨Nat.zero_le _, fun pm hpm => ?_⟩
    have s1 : Same H (upd H pm (.lst [])) := Same.upd_new hpm
    have q1 : upd H pm (.lst []) pm = some (.lst []) := upd_same
    generalize upd H pm (.lst []) = H1 at s1 q1 ⊢
    refine ⟨_, rfl, _, rfl, by omega, by omega, for_range (lo := 0) (n := m) (fun i σ' H' => ∃ (z4 z5 z6 : Option V) (qs : List Addr) (ps : List (Int × Int)), σ' = [some (.ref a), some (.int (at' : Nat)), some (.int (m : Nat)), some (.ref pm), z4, z5, z6] ∧ Same H H' ∧ H' pm = some (.lst (qs.map V.ref)) ∧ TuH H' qs (ps.map prL) ∧ (∀ p ∈ ps, POk p) ∧ ps.length = i) ⟨none, none, none, [], [], rfl, s1, q1, TuH.nil, (fun _ h => nomatch h), rfl⟩ ?_ ?_⟩
    · rintro i σ' H' hi ⟨z4, z5, z6, qs, ps, rfl, sm, em, hT, hP, hl⟩
      have bi : Bits 20 (0 + (i : Int)) := by show (0 + (i : Int)).natAbs < 1048576; omega
      have e1 : ((at' : Nat) : Int) + 2 * (0 + (i : Int)) = ((at' + 2 * i : Nat) : Int) := by omega
      have e2 : ((at' : Nat) : Int) + 2 * (0 + (i : Int)) + 1 = ((at' + 2 * i + 1 : Nat) : Int) := by omega
      have b2i : Bits 1000000 2 ∧ Bits 1000000 (0 + (i : Int)) := ⟨two9.mono (by decide), bi.mono (by decide)⟩
      refine rd_sa ⟨_, rfl, _, rfl, _, rfl, _, _, rfl, rfl, b2i, _, _, rfl, rfl, a, ns, at' + 2 * i, by rw [← e1]; rfl, sm.seq hA, _, rfl, _, _, rfl, bi, fun vt bt => ?_⟩
      have million : (0 : Int) < 10 ^ 6 := by decide
      refine rd_sa ⟨_, rfl, _, rfl, _, rfl, _, _, rfl, rfl, b2i, _, _, rfl, rfl, _, _, rfl, rfl, a, ns, at' + 2 * i + 1, by rw [← e2]; rfl, sm.seq hA, _, _, rfl, (by show (2 : Int).natAbs < 2 ^ 20; decide), fun vb bb => ⟨_, rfl, _, _, rfl, rfl, ⟨by decide, by decide, by decide⟩, _, _, rfl, rfl, million, _, _, rfl, rfl, ?_⟩⟩
      have hbok : 1 ≤ 1 + (if vb < 0 then -vb else vb) % 10 ^ 6 ∧ 1 + (if vb < 0 then -vb else vb) % 10 ^ 6 ≤ 1000000 := by
        generalize (if vb < 0 then -vb else vb) = y
        have h1 := mod3 (x := y) (m := 1000000) (by decide)
        have e : (10 : Int) ^ 6 = 1000000 := by decide
        rw [e]; omega
      dsimp only
      have e6 : (10 : Int) ^ (6 : Int).toNat = 10 ^ 6 := rfl
      rw [e6]
      generalize 1 + (if vb < 0 then -vb else vb) % 10 ^ 6 = bo at hbok ⊢
      have plain : ∀ H2 : Hp, Same H' H2 → ∀ p, H2 p = some (.tup ([vt, bo].map V.int)) → H2 pm = some (.lst (qs.map V.ref)) → True := fun _ _ _ _ _ => trivial
      -- a new pair
      have fresh : ∀ p, H' p = none → ∃ (z4 z5 z6 : Option V) (qs2 : List Addr) (ps2 : List (Int × Int)), [some (V.ref a), some (.int (at' : Nat)), some (.int (m : Nat)), some (.ref pm), some (.int (0 + (i : Int))), some (.int vt), some (.int bo)] = ([some (.ref a), some (.int (at' : Nat)), some (.int (m : Nat)), some (.ref pm), z4, z5, z6] : St) ∧ Same H (upd (upd H' p (.tup ([vt, bo].map V.int))) pm (.lst ((qs ++ [p]).map V.ref))) ∧ upd (upd H' p (.tup ([vt, bo].map V.int))) pm (.lst ((qs ++ [p]).map V.ref)) pm = some (.lst (qs2.map V.ref)) ∧ TuH (upd (upd H' p (.tup ([vt, bo].map V.int))) pm (.lst ((qs ++ [p]).map V.ref))) qs2 (ps2.map prL) ∧ (∀ p ∈ ps2, POk p) ∧ ps2.length = i + 1 := fun p hp => by
        have s3 : Same H' (upd H' p (.tup ([vt, bo].map V.int))) := Same.upd_new hp
        have em3 := s3 _ _ em
        refine ⟨_, _, _, qs ++ [p], ps ++ [(vt, bo)], rfl, mut_same (sm.trans s3) hpm, upd_same, ?_, ?_, by rw [List.length_append, hl]; rfl⟩
        · rw [show (ps ++ [(vt, bo)]).map prL = ps.map prL ++ [[vt, bo]] from by rw [List.map_append]; rfl]
          exact ((hT.same s3).snoc upd_same).upd_lst em3
        · intro x hx
          rcases List.mem_append.mp hx with h | h
          · exact hP x h
          · rw [List.mem_singleton.mp h]; exact ⟨bt, hbok⟩
      have lqs : qs.length = i := by rw [hT.1, List.length_map, hl]
      refine rd_if (rd_and ⟨_, rfl, _, _, rfl, rfl, _, rfl, rd_dec (fun hk => ?_) (fun _ => ?_)⟩)
      · have hi0 : 0 < i := by have : (0 : Int) + (i : Int) > 0 := hk; omega
        refine ⟨_, rfl, _, rfl, _, rfl, _, _, rfl, rfl, b2i, _, _, rfl, rfl, _, _, rfl, rfl, a, ns, at' + 2 * i + 1, by rw [← e2]; rfl, sm.seq hA, _, _, rfl, rfl, (by show (0 : Int) < 7; decide), _, _, rfl, rfl, _, rfl, rd_dec (fun _ => ?_) (fun _ => ?_)⟩
        · have hq0 : 0 < qs.length := by omega
          have hp0 : 0 < ps.length := by omega
          have h0 := hT.2 0 qs[0] (prL ps[0]) (List.getElem?_eq_getElem hq0) (by rw [List.getElem?_map, List.getElem?_eq_getElem hp0]; rfl)
          refine rd_drop ⟨_, rfl, .inl ⟨rfl, _, SqL.of em⟩, _, rfl, pm, _, _, _, rfl, rfl, SqL.of em, atI_nat (j := 0) (v := .ref qs[0]) (by rw [List.getElem?_map, List.getElem?_eq_getElem hq0]; rfl), pm, _, _, rfl, rfl, em, by rw [List.length_map]; omega, ?_⟩
          rw [map_ref_snoc]
          refine ⟨_, _, _, qs ++ [qs[0]], ps ++ [ps[0]], rfl, mut_same sm hpm, upd_same, ?_, ?_, by rw [List.length_append, hl]; rfl⟩
          · rw [show (ps ++ [ps[0]]).map prL = ps.map prL ++ [prL ps[0]] from by rw [List.map_append]; rfl]
            exact (hT.snoc h0).upd_lst em
          · intro x hx
            rcases List.mem_append.mp hx with h | h
            · exact hP x h
            · rw [List.mem_singleton.mp h]; exact hP _ (List.getElem_mem _)
        · refine rd_drop ⟨_, rfl, .inl ⟨rfl, _, SqL.of em⟩, _, rfl, _, rfl, by show 2 ≤ sizeLine; decide, fun p hp => ?_⟩
          refine ⟨pm, _, _, rfl, rfl, (Same.upd_new hp) _ _ em, by rw [List.length_map]; omega, ?_⟩
          rw [map_ref_snoc]
          exact fresh p hp
      · refine rd_false (rd_drop ⟨_, rfl, .inl ⟨rfl, _, SqL.of em⟩, _, rfl, _, rfl, by show 2 ≤ sizeLine; decide, fun p hp => ?_⟩)
        refine ⟨pm, _, _, rfl, rfl, (Same.upd_new hp) _ _ em, by rw [List.length_map]; omega, ?_⟩
        rw [map_ref_snoc]
        exact fresh p hp
    · rintro σ' H' ⟨z4, z5, z6, qs, ps, rfl, sm, em, hT, hP, hl⟩
      exact ⟨_, rfl, k pm H' qs ps sm em hT hP hl⟩
theorem pow_bits {b : Int} (hb : Bits 41 b) : ∀ i, Bits (1 + 41 * i) (b ^ i)
  | 0 => by rw [Int.pow_zero]; show (1 : Int).natAbs < 2 ^ 1; decide
  | i + 1 => by rw [Int.pow_succ]; exact ((pow_bits hb i).mul hb).mono (by omega)
def spPow : Sp := fun vs H Q _ => ∃ (b : Int) (n : Nat), vs = [.int b, .int (n : Nat)] ∧ Bits 41 b ∧ n ≤ 1000 ∧ Q (.int (b ^ n)) H
theorem ok__law_power {f : Addr} {fd : FuncData} (F : Fun K "_law_power" "_law_power" s__law_power f fd) (T : Txt K mg) : FnOk P w K mg base CX0 1 f fd ["_law_base", "_law_k"] spPow := by
  refine F.ok sc__law_power (fun vs H Q E h => ?_) (fun cdv A outer s H vs Q E hr h => ?_)
  · obtain ⟨b, n, rfl, _⟩ := h
    rfl
  · obtain ⟨b, n, rfl, bb, hn, k⟩ := h
    refine ⟨_, (pss_cons (ps_set (i := 2) sc__law_power.nd rfl (Or.inl rfl) pe_int)
      (pss_cons (ps_for PassesOwn.never rfl (pi_range1 rfl T.range_ (pa_cons (pv 1) pa_nil)) (pg_name (i := 3) sc__law_power.nd rfl (Or.inl rfl))
        (pss_one (ps_set (i := 2) sc__law_power.nd rfl (Or.inl rfl) (pe_op op_mulB (pv 2) (pv 0)))))
      (pss_one (ps_ret (pv 2))))), ?_⟩
    refine rd_sa ?_
    refine ⟨_, rfl, _, rfl, by omega, by omega, for_range (lo := 0) (n := n) (fun i σ' H' => ∃ z3 : Option V, σ' = [some (.int b), some (.int (n : Nat)), some (.int (b ^ i)), z3] ∧ H = H') ⟨none, ?_, rfl⟩ ?_ ?_⟩
    · rw [Int.pow_zero]; rfl
    · rintro i σ' H' hi ⟨z3, rfl, rfl⟩
      refine ⟨_, rfl, _, rfl, _, _, rfl, rfl, ⟨(pow_bits bb i).mono (by omega), bb.mono (by decide)⟩, ?_⟩
      refine ⟨some (.int (0 + (i : Int))), ?_, rfl⟩
      rw [Int.pow_succ]; rfl
    · rintro σ' H' ⟨z3, rfl, rfl⟩
      exact ⟨_, rfl, k⟩
theorem cross_snoc (g : Int × Int → Int × Int → Int × Int) (ps others : List (Int × Int)) (p : Int × Int) : cross g (ps ++ [p]) others = cross g ps others ++ others.map (g p) := by
  unfold cross
  rw [List.flatMap_append, List.flatMap_cons, List.flatMap_nil, List.append_nil]
theorem cross_all {g : Int × Int → Int × Int → Int × Int} {R : Int × Int → Prop} {ones others : List (Int × Int)} (h : ∀ p ∈ ones, ∀ q ∈ others, R (g p q)) : ∀ x ∈ cross g ones others, R x := fun x hx => by
  obtain ⟨p, hp, hx⟩ := List.mem_flatMap.mp hx
  obtain ⟨q, hq, rfl⟩ := List.mem_map.mp hx
  exact h p hp q hq
theorem p4 {x : Int} (hx : Bits 4 x) : ∀ i, Bits (1 + 4 * i) (x ^ i)
  | 0 => by rw [Int.pow_zero]; show (1 : Int).natAbs < 2 ^ 1; decide
  | i + 1 => by rw [Int.pow_succ]; exact ((p4 hx i).mul hx).mono (by omega)
theorem pos_pow {b : Int} (h : 0 < b) : ∀ k : Nat, 0 < b ^ k
  | 0 => by rw [Int.pow_zero]; decide
  | k + 1 => by rw [Int.pow_succ]; exact Int.mul_pos (pos_pow h k) h
/-- what a pair of two must be -/
def Q90 (p : Int × Int) : Prop := Bits 90 p.1 ∧ Bits 90 p.2 ∧ p.2 ≠ 0
theorem gS_ok {p q : Int × Int} (hp : POk p) (hq : POk q) : Q90 (gS p q) ∧ 0 < (gS p q).2 := by
  have h : 0 < p.2 * q.2 := Int.mul_pos (by have := hp.2.1; omega) (by have := hq.2.1; omega)
  refine ⟨⟨?_, (hp.bits.mul hq.bits).mono (by decide), Int.ne_of_gt h⟩, h⟩
  have b1 := (hp.1.mul hq.bits).mono (k := 61) (by decide)
  have b2 := (hq.1.mul hp.bits).mono (k := 61) (by decide)
  exact (b1.add b2).mono (by decide)
theorem gM_ok {p q : Int × Int} (hp : POk p) (hq : POk q) : Q90 (gM p q) ∧ 0 < (gM p q).2 := by
  have h : 0 < p.2 * q.2 := Int.mul_pos (by have := hp.2.1; omega) (by have := hq.2.1; omega)
  exact ⟨⟨(hp.1.mul hq.1).mono (by decide), (hp.bits.mul hq.bits).mono (by decide), Int.ne_of_gt h⟩, h⟩
theorem gP_ok {p : Int × Int} (hp : POk p) {k : Nat} (hk : k ≤ 8) : Bits 400 (gP k p).1 ∧ Bits 400 (gP k p).2 ∧ 0 < (gP k p).2 :=
  ⟨(pow_bits hp.1 k).mono (by omega), (pow_bits (hp.bits.mono (by decide)) k).mono (by omega), pos_pow (by have := hp.2.1; omega) k⟩
theorem ok_law {f : Addr} {fd : FuncData} (F : Fun K "law" "law" s_law f fd) (T : Txt K mg) {f__law_cell_at : Addr} {fd__law_cell_at : FuncData} (C__law_cell_at : Cal P w K mg base 1 "_law_cell_at" ["_law_script", "_law_k"] (spCell K) f__law_cell_at fd__law_cell_at) {f__law_roots : Addr} {fd__law_roots : FuncData} (C__law_roots : Cal P w K mg base 2 "_law_roots" ["_law_script", "_law_at", "_law_many"] (spRts K) f__law_roots fd__law_roots) {f__law_with_roots : Addr} {fd__law_with_roots : FuncData} (C__law_with_roots : Cal P w K mg base 2 "_law_with_roots" ["_law_pairs", "_law_scale"] spWr f__law_with_roots fd__law_with_roots) {f__law_product : Addr} {fd__law_product : FuncData} (C__law_product : Cal P w K mg base 1 "_law_product" ["_law_kp", "_law_kq"] spProd f__law_product fd__law_product) {f__law_factor : Addr} {fd__law_factor : FuncData} (C__law_factor : Cal P w K mg base 2 "_law_factor" ["_law_top", "_law_bottom"] spFac f__law_factor fd__law_factor) {f__law_power : Addr} {fd__law_power : FuncData} (C__law_power : Cal P w K mg base 1 "_law_power" ["_law_base", "_law_k"] spPow f__law_power fd__law_power) {f__law_is : Addr} {fd__law_is : FuncData} (C__law_is : Cal P w K mg base 1 "_law_is" ["_law_found", "_law_due"] spIs f__law_is fd__law_is) {f_sums : Addr} {fd_sums : FuncData} (C_sums : Cal P w K mg base 35 "sums" ["first", "second"] (spTwo opp) f_sums fd_sums) {f_products : Addr} {fd_products : FuncData} (C_products : Cal P w K mg base 35 "products" ["first", "second"] (spTwo fun x l => (weiU x l).reverse) f_products fd_products) {f_powers : Addr} {fd_powers : FuncData} (C_powers : Cal P w K mg base 35 "powers" ["row", "k"] spPws f_powers fd_powers) : FnOk P w K mg base CX0 36 f fd ["_law_script"] (spLaw K) := by
  obtain ⟨G__law_cell_at, m__law_cell_at, k__law_cell_at, b__law_cell_at⟩ := C__law_cell_at
  obtain ⟨G__law_roots, m__law_roots, k__law_roots, b__law_roots⟩ := C__law_roots
  obtain ⟨G__law_with_roots, m__law_with_roots, k__law_with_roots, b__law_with_roots⟩ := C__law_with_roots
  obtain ⟨G__law_product, m__law_product, k__law_product, b__law_product⟩ := C__law_product
  obtain ⟨G__law_factor, m__law_factor, k__law_factor, b__law_factor⟩ := C__law_factor
  obtain ⟨G__law_power, m__law_power, k__law_power, b__law_power⟩ := C__law_power
  obtain ⟨G__law_is, m__law_is, k__law_is, b__law_is⟩ := C__law_is
  obtain ⟨G_sums, m_sums, k_sums, b_sums⟩ := C_sums
  obtain ⟨G_products, m_products, k_products, b_products⟩ := C_products
  obtain ⟨G_powers, m_powers, k_powers, b_powers⟩ := C_powers
  refine F.ok sc_law (fun vs H Q E h => ?_) (fun cdv A outer s H vs Q E hr h => ?_)
  · obtain ⟨a, ns, rfl, _⟩ := h
    rfl
  · obtain ⟨a, ns, rfl, hS, hlen, k⟩ := h
    have big := sizeLine_eq
    have hu2 : (A.deeper (PyProof.Rows.envOfC (Str.ofString "law") (defScope s_law) s.heap.objs.size f cdv)).units + 66 < cLine := by have := hr.un; omega
    refine ⟨_, (pss_cons (ps_set (i := 1) sc_law.nd rfl (Or.inl rfl) (pe_call G__law_cell_at (hr.mono (by decide)) rfl m__law_cell_at k__law_cell_at b__law_cell_at .nil pass0 (pa_cons (pv 0) (pa_cons pe_int pa_nil))))
      (pss_cons (ps_set (i := 2) sc_law.nd rfl (Or.inl rfl) (pe_op op_add pe_int (pe_op op_modP (pv 1) pe_int)))
      (pss_cons (ps_set (i := 3) sc_law.nd rfl (Or.inl rfl) (pe_op op_add pe_int (pe_op op_modP (pe_op op_fdivP (pv 1) pe_int) pe_int)))
      (pss_cons (ps_if (pt_cmpR op_eqI (pe_op op_modP (pe_op op_fdivP (pv 1) pe_int) pe_int) pe_int (nomark _))
        (pss_cons (ps_set (i := 2) sc_law.nd rfl (Or.inl rfl) pe_int)
          (pss_one (ps_set (i := 3) sc_law.nd rfl (Or.inl rfl) (pe_op op_add pe_int (pe_op op_modP (pe_op op_fdivP (pv 1) pe_int) pe_int)))))
        pss_nil)
      (pss_cons (ps_set (i := 4) sc_law.nd rfl (Or.inl rfl) (pe_op op_add pe_int (pe_op op_modP (pe_call G__law_cell_at (hr.mono (by decide)) rfl m__law_cell_at k__law_cell_at b__law_cell_at .nil pass0 (pa_cons (pv 0) (pa_cons pe_int pa_nil))) pe_int)))
      (pss_cons (ps_set (i := 5) sc_law.nd rfl (Or.inl rfl) (pe_call G__law_roots (hr.mono (by decide)) rfl m__law_roots k__law_roots b__law_roots .nil pass0 (pa_cons (pv 0) (pa_cons pe_int (pa_cons (pv 2) pa_nil)))))
      (pss_cons (ps_set (i := 6) sc_law.nd rfl (Or.inl rfl) (pe_call G__law_roots (hr.mono (by decide)) rfl m__law_roots k__law_roots b__law_roots .nil pass0 (pa_cons (pv 0) (pa_cons (pe_op op_add pe_int (pe_op op_mulB pe_int (pv 2))) (pa_cons (pv 3) pa_nil)))))
      (pss_cons (ps_set (i := 7) sc_law.nd rfl (Or.inl rfl) (pe_call G__law_with_roots (hr.mono (by decide)) rfl m__law_with_roots k__law_with_roots b__law_with_roots .nil pass0 (pa_cons (pv 5) (pa_cons (pe_op op_add pe_int (pe_op op_modP (pe_call G__law_cell_at (hr.mono (by decide)) rfl m__law_cell_at k__law_cell_at b__law_cell_at .nil pass0 (pa_cons (pv 0) (pa_cons pe_int pa_nil))) pe_int)) pa_nil))))
      (pss_cons (ps_set (i := 8) sc_law.nd rfl (Or.inl rfl) (pe_call G__law_with_roots (hr.mono (by decide)) rfl m__law_with_roots k__law_with_roots b__law_with_roots .nil pass0 (pa_cons (pv 6) (pa_cons (pe_op op_sub (pe_un un_neg pe_int) (pe_op op_modP (pe_op op_fdivP (pe_call G__law_cell_at (hr.mono (by decide)) rfl m__law_cell_at k__law_cell_at b__law_cell_at .nil pass0 (pa_cons (pv 0) (pa_cons pe_int pa_nil))) pe_int) pe_int)) pa_nil))))
      (pss_cons (ps_set (i := 9) sc_law.nd rfl (Or.inl rfl) (pe_lst (pa_cons pe_int pa_nil)))
      (pss_cons (ps_set (i := 10) sc_law.nd rfl (Or.inl rfl) (pe_lst (pa_cons pe_int pa_nil)))
      (pss_cons (ps_for PassesOwn.never rfl (pi_listK (K := K) rfl (pv 5)) (pg_name (i := 11) sc_law.nd rfl (Or.inl rfl))
        (pss_one (ps_for PassesOwn.never rfl (pi_listK (K := K) rfl (pv 6)) (pg_name (i := 12) sc_law.nd rfl (Or.inl rfl))
            (pss_cons (ps_set (i := 13) sc_law.nd rfl (Or.inl rfl) (pe_op op_add (pe_op op_mulB (pe_ix (ix_tupK (K := K) rfl) (pv 11) pe_int (fun _ _ => rfl)) (pe_ix (ix_tupK (K := K) rfl) (pv 12) pe_int (fun _ _ => rfl))) (pe_op op_mulB (pe_ix (ix_tupK (K := K) rfl) (pv 12) pe_int (fun _ _ => rfl)) (pe_ix (ix_tupK (K := K) rfl) (pv 11) pe_int (fun _ _ => rfl)))))
              (pss_cons (ps_set (i := 9) sc_law.nd rfl (Or.inl rfl) (pe_call G__law_product (hr.mono (by decide)) rfl m__law_product k__law_product b__law_product .nil pass0 (pa_cons (pv 9) (pa_cons (pe_call G__law_factor (hr.mono (by decide)) rfl m__law_factor k__law_factor b__law_factor .nil pass0 (pa_cons (pv 13) (pa_cons (pe_op op_mulB (pe_ix (ix_tupK (K := K) rfl) (pv 11) pe_int (fun _ _ => rfl)) (pe_ix (ix_tupK (K := K) rfl) (pv 12) pe_int (fun _ _ => rfl))) pa_nil))) pa_nil))))
              (pss_one (ps_set (i := 10) sc_law.nd rfl (Or.inl rfl) (pe_call G__law_product (hr.mono (by decide)) rfl m__law_product k__law_product b__law_product .nil pass0 (pa_cons (pv 10) (pa_cons (pe_call G__law_factor (hr.mono (by decide)) rfl m__law_factor k__law_factor b__law_factor .nil pass0 (pa_cons (pe_op op_mulB (pe_ix (ix_tupK (K := K) rfl) (pv 11) pe_int (fun _ _ => rfl)) (pe_ix (ix_tupK (K := K) rfl) (pv 12) pe_int (fun _ _ => rfl))) (pa_cons (pe_op op_mulB (pe_ix (ix_tupK (K := K) rfl) (pv 11) pe_int (fun _ _ => rfl)) (pe_ix (ix_tupK (K := K) rfl) (pv 12) pe_int (fun _ _ => rfl))) pa_nil))) pa_nil))))))))))
      (pss_cons (ps_set (i := 14) sc_law.nd rfl (Or.inl rfl) (pe_lst (pa_cons pe_int pa_nil)))
      (pss_cons (ps_for PassesOwn.never rfl (pi_listK (K := K) rfl (pv 5)) (pg_name (i := 11) sc_law.nd rfl (Or.inl rfl))
        (pss_one (ps_set (i := 14) sc_law.nd rfl (Or.inl rfl) (pe_call G__law_product (hr.mono (by decide)) rfl m__law_product k__law_product b__law_product .nil pass0 (pa_cons (pv 14) (pa_cons (pe_call G__law_factor (hr.mono (by decide)) rfl m__law_factor k__law_factor b__law_factor .nil pass0 (pa_cons (pe_call G__law_power (hr.mono (by decide)) rfl m__law_power k__law_power b__law_power .nil pass0 (pa_cons (pe_ix (ix_tupK (K := K) rfl) (pv 11) pe_int (fun _ _ => rfl)) (pa_cons (pv 4) pa_nil))) (pa_cons (pe_call G__law_power (hr.mono (by decide)) rfl m__law_power k__law_power b__law_power .nil pass0 (pa_cons (pe_ix (ix_tupK (K := K) rfl) (pv 11) pe_int (fun _ _ => rfl)) (pa_cons (pv 4) pa_nil))) pa_nil))) pa_nil))))))
      (pss_cons (ps_set (i := 15) sc_law.nd rfl (Or.inl rfl) (pe_tup (pa_cons (pe_callTy (call_listK (K := K) rfl) (by rfl) T.list_ PyProof.Rows.boot_list (pa_cons (pv 7) pa_nil)) (pa_cons (pe_callTy (call_listK (K := K) rfl) (by rfl) T.list_ PyProof.Rows.boot_list (pa_cons (pv 8) pa_nil)) pa_nil))))
      (pss_cons (ps_if (PW.pt (pw_or (pt_not (pt_val (pe_call G__law_is (hr.mono (by decide)) rfl m__law_is k__law_is b__law_is .nil pass0 (pa_cons (pe_call G_sums (hr.mono (by decide)) rfl m_sums k_sums b_sums .nil pass0 (pa_cons (pv 7) (pa_cons (pv 8) pa_nil))) (pa_cons (pv 9) pa_nil))))) (pw_or1 (pt_not (pt_val (pe_call G__law_is (hr.mono (by decide)) rfl m__law_is k__law_is b__law_is .nil pass0 (pa_cons (pe_call G_products (hr.mono (by decide)) rfl m_products k_products b_products .nil pass0 (pa_cons (pv 7) (pa_cons (pv 8) pa_nil))) (pa_cons (pv 10) pa_nil))))))))
        (pss_one (ps_ret pe_bl))
        pss_nil)
      (pss_one (ps_ret (pe_and (pe_call G__law_is (hr.mono (by decide)) rfl m__law_is k__law_is b__law_is .nil pass0 (pa_cons (pe_call G_powers (hr.mono (by decide)) rfl m_powers k_powers b_powers .nil pass0 (pa_cons (pv 7) (pa_cons (pv 4) pa_nil))) (pa_cons (pv 14) pa_nil))) (pe_and (pe_call G__law_is (hr.mono (by decide)) rfl m__law_is k__law_is b__law_is .nil pass0 (pa_cons (pe_call G_sums (hr.mono (by decide)) rfl m_sums k_sums b_sums .nil pass0 (pa_cons (pv 7) (pa_cons (pv 8) pa_nil))) (pa_cons (pv 9) pa_nil))) (pe_one (pe_cmpR (op_eqTLK (K := K) rfl hu2) (pv 15) (pe_tup (pa_cons (pv 7) (pa_cons (pv 8) pa_nil))) (nomark _))))))))))))))))))))))), ?_⟩
    refine rd_sa ⟨_, rfl, a, ns, 0, rfl, hS, ?_⟩
    generalize ns.getD 0 0 = c
    have four : (0 : Int) < 4 := by decide
    have three : (0 : Int) < 3 := by decide
    have five : (0 : Int) < 5 := by decide
    have bw : ∀ z : Int, z.natAbs < 1024 → Bits 9000 z := fun z h => sml (k := 10) h (by decide)
    refine rd_sa ⟨_, rfl, _, _, rfl, rfl, four, _, _, rfl, rfl, ?_⟩
    refine rd_sa ⟨_, rfl, _, _, rfl, rfl, ⟨four, bw 4 (by decide)⟩, _, _, rfl, rfl, three, _, _, rfl, rfl, ?_⟩
    obtain ⟨m0, m1⟩ := mod3 (x := c) four
    obtain ⟨n0, n1⟩ := mod3 (x := c / 4) three
    obtain ⟨v0, v1⟩ := mod3 (x := c / 72) (m := 8) (by decide)
    refine rd_cutIf (fun σ' H' => ∃ m n : Nat, 1 ≤ m ∧ m ≤ 4 ∧ 1 ≤ n ∧ n ≤ 8 ∧ (m = 1 ∨ n ≤ 3) ∧ σ' = [some (.ref a), some (.int c), some (.int (m : Nat)), some (.int (n : Nat)), none, none, none, none, none, none, none, none, none, none, none, none] ∧ H = H') ?_ ?_
    case refine_2 =>
      intro rest
      refine ⟨_, rfl, _, _, rfl, rfl, ⟨by decide, bw 12 (by decide)⟩, _, _, rfl, rfl, (by show (0 : Int) < 6; decide), _, _, rfl, rfl, _, rfl, rd_dec (fun _ => ?_) (fun _ => ?_)⟩
      · refine rd_sa ?_
        refine rd_asg ⟨_, rfl, _, _, rfl, rfl, ⟨by decide, bw 72 (by decide)⟩, _, _, rfl, rfl, (by show (0 : Int) < 8; decide), _, _, rfl, rfl, rest _ _ ⟨1, (1 + c / 72 % 8).toNat, by omega, by omega, by omega, by omega, .inl rfl, ?_, rfl⟩⟩
        rw [Int.toNat_of_nonneg (by omega)]; rfl
      · refine rest _ _ ⟨(1 + c % 4).toNat, (1 + c / 4 % 3).toNat, by omega, by omega, by omega, by omega, .inr (by omega), ?_, rfl⟩
        rw [Int.toNat_of_nonneg (by omega), Int.toNat_of_nonneg (by omega)]; rfl
    clear m0 m1 n0 n1 v0 v1
    rintro σ' H' ⟨m, n, hm1, hm4, hn1, hn8, hmn, rfl, rfl⟩
    have hmn12 : m * n ≤ 12 := by
      rcases hmn with rfl | h
      · omega
      · exact Nat.le_trans (Nat.mul_le_mul hm4 h) (by decide)
    refine rd_sa ⟨_, rfl, a, ns, 1, rfl, hS, _, _, rfl, rfl, (by show (0 : Int) < 8; decide), _, _, rfl, rfl, ?_⟩
    obtain ⟨k0, k1⟩ := mod3 (x := ns.getD 1 0) (m := 8) (by decide)
    show tSeq _ _ _ _ _
    refine rd_gen (fun σ' H' => ∃ kk : Nat, 1 ≤ kk ∧ kk ≤ 8 ∧ σ' = [some (.ref a), some (.int c), some (.int (m : Nat)), some (.int (n : Nat)), some (.int (kk : Nat)), none, none, none, none, none, none, none, none, none, none, none] ∧ H = H') ⟨(1 + ns.getD 1 0 % 8).toNat, by omega, by omega, by rw [Int.toNat_of_nonneg (by omega)]; rfl, rfl⟩ ?_
    clear k0 k1
    rintro σ' H' ⟨kk, hk1, hk8, rfl, rfl⟩
    have bnat : ∀ z : Nat, z ≤ 100 → Bits 1000000 ((z : Nat) : Int) := fun z h => sml (k := 8) (show ((z : Nat) : Int).natAbs < 256 by omega) (by decide)
    refine rd_sa ⟨_, rfl, _, rfl, a, ns, 3, m, rfl, hS, by decide, by omega, fun po H1 qs ones s1 eo hTo hPo lo => ?_⟩
    have ea : (3 : Int) + 2 * ((m : Nat) : Int) = ((3 + 2 * m : Nat) : Int) := by omega
    refine rd_sa ⟨_, rfl, _, rfl, _, _, rfl, rfl, ⟨two9.mono (by decide), bnat m (by omega)⟩, _, _, rfl, rfl, _, rfl, a, ns, 3 + 2 * m, n, by rw [← ea]; rfl, s1.seq hS, by omega, by omega, fun pt H2 rs others s2 et hTt hPt lt => ?_⟩
    have t2 := s1.trans s2
    replace eo := s2 _ _ eo
    replace hTo := hTo.same s2
    -- the two polynomials
    obtain ⟨d0, d1⟩ := mod3 (x := ns.getD 2 0) five
    obtain ⟨f0, f1⟩ := mod3 (x := ns.getD 2 0 / 5) five
    have bs1 : Bits 4 (1 + ns.getD 2 0 % 5) := by show (1 + ns.getD 2 0 % 5).natAbs < 16; omega
    have bs2 : Bits 4 (-1 - ns.getD 2 0 / 5 % 5) := by show (-1 - ns.getD 2 0 / 5 % 5).natAbs < 16; omega
    have zs1 : 1 + ns.getD 2 0 % 5 ≠ 0 := by omega
    have zs2 : -1 - ns.getD 2 0 / 5 % 5 ≠ 0 := by omega
    refine rd_sa ⟨_, rfl, _, rfl, a, ns, 2, rfl, t2.seq hS, _, _, rfl, rfl, five, _, _, rfl, rfl, po, qs, ones, _, rfl, eo, hTo, hPo, by omega, bs1, fun pp H3 s3 hpp ep => ?_⟩
    refine rd_sa ⟨_, rfl, _, rfl, _, rfl, a, ns, 2, rfl, (t2.trans s3).seq hS, _, _, rfl, rfl, ⟨five, bw 5 (by decide)⟩, _, _, rfl, rfl, five, _, _, rfl, rfl, pt, rs, others, _, rfl, s3 _ _ et, hTt.same s3, hPt, by omega, bs2, fun pq H4 s4 hpq eq => ?_⟩
    generalize 1 + ns.getD 2 0 % 5 = w1 at ep bs1 zs1
    generalize -1 - ns.getD 2 0 / 5 % 5 = w2 at eq bs2 zs2
    clear d0 d1 f0 f1
    have u4 := s3.trans s4
    replace eo := u4 _ _ eo
    replace hTo := hTo.same u4
    replace et := u4 _ _ et
    replace hTt := hTt.same u4
    replace ep := s4 _ _ ep
    clear s1 s2 s3 s4 t2 u4
    refine rd_sa ⟨by show 1 ≤ sizeLine; decide, fun x1 hx1 => ?_⟩
    have s5 : Same H4 (upd H4 x1 (.lst [V.int 1])) := Same.upd_new hx1
    have g1 : upd H4 x1 (.lst [V.int 1]) x1 = some (.lst ((plR []).map V.int)) := upd_same
    generalize upd H4 x1 (.lst [V.int 1]) = H5 at s5 g1 ⊢
    refine rd_sa ⟨by show 1 ≤ sizeLine; decide, fun x2 hx2 => ?_⟩
    have s6 := s5.then_new (o := .lst [V.int 1]) hx2
    have g2 : upd H5 x2 (.lst [V.int 1]) x2 = some (.lst ((plR []).map V.int)) := upd_same
    replace g1 := (Same.upd_new (o := .lst [V.int 1]) hx2) _ _ g1
    generalize upd H5 x2 (.lst [V.int 1]) = H6 at s6 g1 g2 ⊢
    replace eo := s6 _ _ eo
    replace hTo := hTo.same s6
    replace et := s6 _ _ et
    replace hTt := hTt.same s6
    replace ep := s6 _ _ ep
    replace eq := s6 _ _ eq
    clear s5 s6 hx1 hx2
    show tSeq _ _ _ _ _
    refine rd_gen (fun σ' H' => σ' = [some (.ref a), some (.int c), some (.int (m : Nat)), some (.int (n : Nat)), some (.int (kk : Nat)), some (.ref po), some (.ref pt), some (.ref pp), some (.ref pq), some (.ref x1), some (.ref x2), none, none, none, none, none] ∧ H6 = H') ⟨rfl, rfl⟩ ?_
    rintro σ' H' ⟨rfl, rfl⟩
    have lqs : (qs.map V.ref).length = m := by rw [List.length_map, hTo.1, List.length_map, lo]
    have lrs : (rs.map V.ref).length = n := by rw [List.length_map, hTt.1, List.length_map, lt]
    have okS : ∀ (u v : List (Int × Int)), (∀ p ∈ u, POk p) → (∀ p ∈ v, POk p) → ∀ x ∈ cross gS u v, Q90 x := fun u v hu hv => cross_all fun p hp q hq => (gS_ok (hu p hp) (hv q hq)).1
    have okM : ∀ (u v : List (Int × Int)), (∀ p ∈ u, POk p) → (∀ p ∈ v, POk p) → ∀ x ∈ cross gM u v, Q90 x := fun u v hu hv => cross_all fun p hp q hq => (gM_ok (hu p hp) (hv q hq)).1
    refine ⟨_, rfl, po, rfl, ⟨_, SqL.of eo⟩, for_list (K := K) (a := po) (xs := qs.map V.ref) (fun i σ' H' => ∃ (z11 z12 z13 : Option V) (y1 y2 : Addr), σ' = [some (.ref a), some (.int c), some (.int (m : Nat)), some (.int (n : Nat)), some (.int (kk : Nat)), some (.ref po), some (.ref pt), some (.ref pp), some (.ref pq), some (.ref y1), some (.ref y2), z11, z12, z13, none, none] ∧ Same H6 H' ∧ H' y1 = some (.lst ((plR (cross gS (ones.take i) others)).map V.int)) ∧ H' y2 = some (.lst ((plR (cross gM (ones.take i) others)).map V.int))) ⟨none, none, none, x1, x2, rfl, (fun _ _ e => e), g1, g2⟩ ?_ ?_ ?_⟩
    · rintro i σ' H' _ ⟨z11, z12, z13, y1, y2, rfl, sm, _⟩
      exact SqL.of (sm _ _ eo)
    · rintro i x σ' H' hi ⟨z11, z12, z13, y1, y2, rfl, sm, h1, h2⟩
      obtain ⟨q, l, rfl, eqq, el, hq, hlt⟩ := (hTo.same sm).of_get hi
      rw [List.length_map] at hlt
      rw [List.getElem?_map, List.getElem?_eq_getElem hlt] at el
      obtain rfl := Option.some.inj el
      have hpk := hPo ones[i] (List.getElem_mem hlt)
      have ei : ones.take (i + 1) = ones.take i ++ [ones[i]] := by rw [List.take_add_one, List.getElem?_eq_getElem hlt]; rfl
      have hPi : ∀ p ∈ ones.take i, POk p := fun p hp => hPo p (List.mem_of_mem_take hp)
      have li : (ones.take i).length = i := by rw [List.length_take]; omega
      rw [ei]
      generalize ones[i] = one at hq hpk
      generalize ones.take i = pre at h1 h2 hPi li
      refine ⟨_, rfl, pt, rfl, ⟨_, SqL.of (sm _ _ et)⟩, for_list (K := K) (a := pt) (xs := rs.map V.ref) (fun j σ' H'' => ∃ (z12 z13 : Option V) (y1 y2 : Addr), σ' = [some (.ref a), some (.int c), some (.int (m : Nat)), some (.int (n : Nat)), some (.int (kk : Nat)), some (.ref po), some (.ref pt), some (.ref pp), some (.ref pq), some (.ref y1), some (.ref y2), some (.ref q), z12, z13, none, none] ∧ Same H' H'' ∧ H'' y1 = some (.lst ((plR (cross gS pre others ++ (others.take j).map (gS one))).map V.int)) ∧ H'' y2 = some (.lst ((plR (cross gM pre others ++ (others.take j).map (gM one))).map V.int))) ⟨z12, z13, y1, y2, rfl, (fun _ _ e => e), by rw [List.take_zero, List.map_nil, List.append_nil]; exact h1, by rw [List.take_zero, List.map_nil, List.append_nil]; exact h2⟩ ?_ ?_ ?_⟩
      · rintro j σ' H'' _ ⟨z12, z13, y1, y2, rfl, sm2, _⟩
        exact SqL.of ((sm.trans sm2) _ _ et)
      · rintro j x σ' H7 hj ⟨z12, z13, y1, y2, rfl, sm2, h1, h2⟩
        have smA := sm.trans sm2
        obtain ⟨r, l, rfl, eqr, elr, hr2, hltr⟩ := (hTt.same smA).of_get hj
        rw [List.length_map] at hltr
        rw [List.getElem?_map, List.getElem?_eq_getElem hltr] at elr
        obtain rfl := Option.some.inj elr
        have hpr := hPt others[j] (List.getElem_mem hltr)
        have ej : others.take (j + 1) = others.take j ++ [others[j]] := by rw [List.take_add_one, List.getElem?_eq_getElem hltr]; rfl
        have hPj : ∀ p ∈ others.take j, POk p := fun p hp => hPt p (List.mem_of_mem_take hp)
        have lj : (others.take j).length = j := by rw [List.length_take]; omega
        rw [ej]
        generalize others[j] = oth at hr2 hpr
        generalize others.take j = prj at h1 h2 hPj lj
        have hq7 := sm2 _ _ hq
        obtain ⟨⟨sa, sb, sc⟩, sd⟩ := gS_ok hpk hpr
        obtain ⟨⟨ma, mb, mc⟩, md⟩ := gM_ok hpk hpr
        have lS : (cross gS pre others ++ prj.map (gS one)).length = i * n + j := by rw [List.length_append, len_cross, List.length_map, li, lj, lt]
        have lM : (cross gM pre others ++ prj.map (gM one)).length = i * n + j := by rw [List.length_append, len_cross, List.length_map, li, lj, lt]
        have hij : i * n + j ≤ 40 := by
          have : i * n ≤ 3 * 8 := Nat.mul_le_mul (by omega) hn8
          omega
        have aS : ∀ x ∈ cross gS pre others ++ prj.map (gS one), Bits 90 x.1 ∧ Bits 90 x.2 ∧ x.2 ≠ 0 := fun x hx => by
          rcases List.mem_append.mp hx with h | h
          · exact okS pre others hPi hPt x h
          · obtain ⟨y, hy, rfl⟩ := List.mem_map.mp h
            exact (gS_ok hpk (hPj y hy)).1
        have aM : ∀ x ∈ cross gM pre others ++ prj.map (gM one), Bits 90 x.1 ∧ Bits 90 x.2 ∧ x.2 ≠ 0 := fun x hx => by
          rcases List.mem_append.mp hx with h | h
          · exact okM pre others hPi hPt x h
          · obtain ⟨y, hy, rfl⟩ := List.mem_map.mp h
            exact (gM_ok hpk (hPj y hy)).1
        obtain ⟨bS, nS⟩ := plR_ok (b := 90) _ _ lS hij aS
        obtain ⟨bM, nM⟩ := plR_ok (b := 90) _ _ lM hij aM
        obtain ⟨cS, dS⟩ := pair_bits sa sb sc
        obtain ⟨cM, dM⟩ := pair_bits ma mb mc
        have b140 : (90 + 50) * (i * n + j) ≤ 140 * 40 := Nat.mul_le_mul_left _ hij
        have eS : cross gS pre others ++ (prj ++ [oth]).map (gS one) = (cross gS pre others ++ prj.map (gS one)) ++ [gS one oth] := by rw [List.map_append, List.append_assoc]; rfl
        have eM : cross gM pre others ++ (prj ++ [oth]).map (gM one) = (cross gM pre others ++ prj.map (gM one)) ++ [gM one oth] := by rw [List.map_append, List.append_assoc]; rfl
        rw [eS, eM, plR_snoc, plR_snoc]
        have neS : plR (cross gS pre others ++ prj.map (gS one)) ≠ [] := fun z => by rw [z, List.length_nil] at nS; omega
        have neM : plR (cross gM pre others ++ prj.map (gM one)) ≠ [] := fun z => by rw [z, List.length_nil] at nM; omega
        generalize plR (cross gS pre others ++ prj.map (gS one)) = LS at h1 bS nS neS
        generalize plR (cross gM pre others ++ prj.map (gM one)) = LM at h2 bM nM neM
        have o1 := hpk.1
        have o2 := hpk.bits
        have q1' := hpr.1
        have q2' := hpr.bits
        show tSeq _ _ _ _ _
        refine rd_sa ⟨_, rfl, q, _, _, _, rfl, rfl, SqT.of hq7, rfl, _, rfl, r, _, _, _, rfl, rfl, SqT.of hr2, rfl, _, _, rfl, rfl, ⟨o1.mono (by decide), q2'.mono (by decide)⟩, _, rfl, r, _, _, _, rfl, rfl, SqT.of hr2, rfl, _, rfl, q, _, _, _, rfl, rfl, SqT.of hq7, rfl, _, _, rfl, rfl, ⟨q1'.mono (by decide), o2.mono (by decide)⟩, _, _, rfl, rfl, ?_⟩
        have mul2 : Bits 1000000 one.2 ∧ Bits 1000000 oth.2 := ⟨o2.mono (by decide), q2'.mono (by decide)⟩
        refine rd_sa ⟨_, rfl, _, rfl, _, rfl, q, _, _, _, rfl, rfl, SqT.of hq7, rfl, _, rfl, r, _, _, _, rfl, rfl, SqT.of hr2, rfl, _, _, rfl, rfl, mul2, (gS one oth).1, (gS one oth).2, rfl, sd, sb.mono (by decide), fun p8 H8 s8 hp8 e8 => ?_⟩
        refine ⟨y1, p8, LS, plainL [-(gS one oth).1, (gS one oth).2], rfl, s8 _ _ h1, e8, by omega, by omega, bS.mono (by omega), cS.mono (by decide), neS, (fun z => by rw [z] at dS; simp at dS), fun p9 H9 s9 hp9 e9 => ?_⟩
        have u9 := s8.trans s9
        have hq9 := u9 _ _ hq7
        have hr9 := u9 _ _ hr2
        refine rd_asg ⟨_, rfl, _, rfl, q, _, _, _, rfl, rfl, SqT.of hq9, rfl, _, rfl, r, _, _, _, rfl, rfl, SqT.of hr9, rfl, _, _, rfl, rfl, ⟨o1.mono (by decide), q1'.mono (by decide)⟩, _, rfl, q, _, _, _, rfl, rfl, SqT.of hq9, rfl, _, rfl, r, _, _, _, rfl, rfl, SqT.of hr9, rfl, _, _, rfl, rfl, mul2, (gM one oth).1, (gM one oth).2, rfl, md, mb.mono (by decide), fun pA HA sA hpA eA => ?_⟩
        refine ⟨y2, pA, LM, plainL [-(gM one oth).1, (gM one oth).2], rfl, sA _ _ (u9 _ _ h2), eA, by omega, by omega, bM.mono (by omega), cM.mono (by decide), neM, (fun z => by rw [z] at dM; simp at dM), fun pB HB sB hpB eB => ?_⟩
        exact ⟨some (.ref r), _, p9, pB, rfl, sm2.trans (u9.trans (sA.trans sB)), sB _ _ (sA _ _ e9), eB⟩
      · rintro σ' H7 ⟨z12', z13', y1, y2, rfl, sm2, h1, h2⟩
        rw [lrs, ← lt, List.take_length, ← cross_snoc] at h1 h2
        exact ⟨some (.ref q), z12', z13', y1, y2, rfl, sm.trans sm2, h1, h2⟩
    rintro σ' H7 ⟨z11, z12, z13, y1, y2, rfl, sm, h1, h2⟩
    rw [lqs, ← lo, List.take_length] at h1 h2
    replace eo := sm _ _ eo
    replace hTo := hTo.same sm
    replace ep := sm _ _ ep
    replace eq := sm _ _ eq
    clear sm g1 g2
    dsimp only
    refine rd_sa ⟨by show 1 ≤ sizeLine; decide, fun x3 hx3 => ?_⟩
    have s8 : Same H7 (upd H7 x3 (.lst [V.int 1])) := Same.upd_new hx3
    have g3 : upd H7 x3 (.lst [V.int 1]) x3 = some (.lst ((plR []).map V.int)) := upd_same
    generalize upd H7 x3 (.lst [V.int 1]) = H8 at s8 g3 ⊢
    replace eo := s8 _ _ eo
    replace hTo := hTo.same s8
    replace ep := s8 _ _ ep
    replace eq := s8 _ _ eq
    replace h1 := s8 _ _ h1
    replace h2 := s8 _ _ h2
    refine ⟨_, rfl, po, rfl, ⟨_, SqL.of eo⟩, for_list (K := K) (a := po) (xs := qs.map V.ref) (fun i σ' H' => ∃ (z11 : Option V) (y3 : Addr), σ' = [some (.ref a), some (.int c), some (.int (m : Nat)), some (.int (n : Nat)), some (.int (kk : Nat)), some (.ref po), some (.ref pt), some (.ref pp), some (.ref pq), some (.ref y1), some (.ref y2), z11, z12, z13, some (.ref y3), none] ∧ Same H8 H' ∧ H' y3 = some (.lst ((plR ((ones.take i).map (gP kk))).map V.int))) ⟨z11, x3, rfl, (fun _ _ e => e), g3⟩ ?_ ?_ ?_⟩
    · rintro i σ' H' _ ⟨z11, y3, rfl, sm, _⟩
      exact SqL.of (sm _ _ eo)
    · rintro i x σ' H' hi ⟨z11, y3, rfl, sm, h3⟩
      obtain ⟨q, l, rfl, eqq, el, hq, hlt⟩ := (hTo.same sm).of_get hi
      rw [List.length_map] at hlt
      rw [List.getElem?_map, List.getElem?_eq_getElem hlt] at el
      obtain rfl := Option.some.inj el
      have hpk := hPo ones[i] (List.getElem_mem hlt)
      have ei : ones.take (i + 1) = ones.take i ++ [ones[i]] := by rw [List.take_add_one, List.getElem?_eq_getElem hlt]; rfl
      have hPi : ∀ p ∈ ones.take i, POk p := fun p hp => hPo p (List.mem_of_mem_take hp)
      have li : (ones.take i).length = i := by rw [List.length_take]; omega
      rw [ei]
      generalize ones[i] = one at hq hpk
      generalize ones.take i = pre at h3 hPi li
      obtain ⟨pa, pb, pd⟩ := gP_ok hpk hk8
      obtain ⟨cP, dP⟩ := pair_bits pa pb (Int.ne_of_gt pd)
      obtain ⟨bP, nP⟩ := plR_ok (b := 400) i (pre.map (gP kk)) (by rw [List.length_map, li]) (by omega) (fun x hx => by
        obtain ⟨y, hy, rfl⟩ := List.mem_map.mp hx
        obtain ⟨e1, e2, e3⟩ := gP_ok (hPi y hy) hk8
        exact ⟨e1, e2, Int.ne_of_gt e3⟩)
      have eP : (pre ++ [one]).map (gP kk) = pre.map (gP kk) ++ [gP kk one] := by rw [List.map_append]; rfl
      rw [eP, plR_snoc]
      have neP : plR (pre.map (gP kk)) ≠ [] := fun z => by rw [z, List.length_nil] at nP; omega
      generalize plR (pre.map (gP kk)) = LP at h3 bP nP neP
      have o2 := hpk.bits
      refine ⟨_, rfl, _, rfl, q, _, _, _, rfl, rfl, SqT.of hq, rfl, _, rfl, one.1, kk, rfl, hpk.1, by omega, _, rfl, q, _, _, _, rfl, rfl, SqT.of hq, rfl, _, rfl, one.2, kk, rfl, o2.mono (by decide), by omega, (gP kk one).1, (gP kk one).2, rfl, pd, pb.mono (by decide), fun p8 H9 s9 hp8 e8 => ?_⟩
      refine ⟨y3, p8, LP, plainL [-(gP kk one).1, (gP kk one).2], rfl, s9 _ _ h3, e8, by omega, by omega, bP.mono (by omega), cP.mono (by decide), neP, (fun z => by rw [z] at dP; simp at dP), fun p9 HA sA hp9 e9 => ?_⟩
      exact ⟨some (.ref q), p9, rfl, sm.trans (s9.trans sA), e9⟩
    rintro σ' H9 ⟨z11', y3, rfl, sm, h3⟩
    rw [lqs, ← lo, List.take_length] at h3
    replace ep := sm _ _ ep
    replace eq := sm _ _ eq
    replace h1 := sm _ _ h1
    replace h2 := sm _ _ h2
    dsimp only
    -- kept
    refine rd_sa ⟨_, rfl, pp, _, rfl, .inl (SqL.of ep), fun k1 hk1' => ?_⟩
    have u1 := Same.upd_new (o := .lst ((rootsL w1 ones).map V.int)) hk1'
    have e1 : upd H9 k1 (.lst ((rootsL w1 ones).map V.int)) k1 = some (.lst ((rootsL w1 ones).map V.int)) := upd_same
    generalize upd H9 k1 (.lst ((rootsL w1 ones).map V.int)) = G1 at u1 e1 ⊢
    refine ⟨_, rfl, pq, _, rfl, .inl (SqL.of (u1 _ _ eq)), fun k2 hk2 => ⟨by show 2 ≤ sizeLine; decide, fun kt hkt => ?_⟩⟩
    have u2 := Same.upd_new (o := .lst ((rootsL w2 others).map V.int)) hk2
    have e2 : upd G1 k2 (.lst ((rootsL w2 others).map V.int)) k2 = some (.lst ((rootsL w2 others).map V.int)) := upd_same
    generalize upd G1 k2 (.lst ((rootsL w2 others).map V.int)) = G2 at u2 e2 hkt ⊢
    have u3 := Same.upd_new (o := .tup [V.ref k1, V.ref k2]) hkt
    have e3 : upd G2 kt (.tup [V.ref k1, V.ref k2]) kt = some (.tup ([k1, k2].map V.ref)) := upd_same
    generalize upd G2 kt (.tup [V.ref k1, V.ref k2]) = G3 at u3 e3 ⊢
    have U := u1.trans (u2.trans u3)
    replace ep := U _ _ ep
    replace eq := U _ _ eq
    replace h1 := U _ _ h1
    replace h2 := U _ _ h2
    replace h3 := U _ _ h3
    replace e1 := (u2.trans u3) _ _ e1
    replace e2 := u3 _ _ e2
    clear u1 u2 u3 U s8 sm
    show tSeq _ _ _ _ _
    refine rd_gen (fun σ' H' => σ' = [some (.ref a), some (.int c), some (.int (m : Nat)), some (.int (n : Nat)), some (.int (kk : Nat)), some (.ref po), some (.ref pt), some (.ref pp), some (.ref pq), some (.ref y1), some (.ref y2), z11', z12, z13, some (.ref y3), some (.ref kt)] ∧ G3 = H') ⟨rfl, rfl⟩ ?_
    rintro σ' H' ⟨rfl, rfl⟩
    -- what the three are
    have hz1 : ∀ p ∈ ones, p.2 ≠ 0 := fun p hp => by have := (hPo p hp).2.1; omega
    have hz2 : ∀ p ∈ others, p.2 ≠ 0 := fun p hp => by have := (hPt p hp).2.1; omega
    have lkp := rootsL_len w1 ones
    have lkq := rootsL_len w2 others
    have bkp : AllB 1000 (rootsL w1 ones) := by
      have := rootsL_bits (s := w1) (c := 4) (b := 41) bs1 (fun p hp => ⟨(hPo p hp).1, (hPo p hp).bits.mono (by decide)⟩) ones.length (Nat.le_refl _) (by omega)
      rw [List.take_length] at this
      exact this.mono (by omega)
    have bkq : AllB 1000 (rootsL w2 others) := by
      have := rootsL_bits (s := w2) (c := 4) (b := 41) bs2 (fun p hp => ⟨(hPt p hp).1, (hPt p hp).bits.mono (by decide)⟩) others.length (Nat.le_refl _) (by omega)
      rw [List.take_length] at this
      exact this.mono (by omega)
    have bC : Bits 66 (w1 ^ others.length * w2 ^ ones.length) := ((p4 bs1 others.length).mul (p4 bs2 ones.length)).mono (by omega)
    have zC : w1 ^ others.length * w2 ^ ones.length ≠ 0 := Int.mul_ne_zero (Int.pow_ne_zero zs1) (Int.pow_ne_zero zs2)
    have lmn : ones.length * others.length ≤ 12 := by rw [lo, lt]; exact hmn12
    have wfacts : ∀ g : Int × Int → Int × Int → Int × Int, (∀ x ∈ cross g ones others, Q90 x) → (rootsL (w1 ^ others.length * w2 ^ ones.length) (cross g ones others)).length = (ones.length + 1 - 1) * (others.length + 1 - 1) + 1 ∧ Tr (rootsL (w1 ^ others.length * w2 ^ ones.length) (cross g ones others)) ∧ AllB 9000 (rootsL (w1 ^ others.length * w2 ^ ones.length) (cross g ones others)) ∧ plainL (rootsL (w1 ^ others.length * w2 ^ ones.length) (cross g ones others)) = plR (cross g ones others) := fun g hg => by
      have hz : ∀ p ∈ cross g ones others, p.2 ≠ 0 := fun p hp => (hg p hp).2.2
      have hl := len_cross g others ones
      refine ⟨by rw [rootsL_len, hl]; rfl, tr_roots zC hz, ?_, plain_W zC hz⟩
      have := rootsL_bits (s := w1 ^ others.length * w2 ^ ones.length) (c := 66) (b := 90) bC (fun p hp => ⟨(hg p hp).1, (hg p hp).2.1⟩) (cross g ones others).length (Nat.le_refl _) (by rw [hl]; omega)
      rw [List.take_length, hl] at this
      have h2 : (90 + 30) * (ones.length * others.length) ≤ 120 * 12 := Nat.mul_le_mul_left _ lmn
      exact this.mono (by omega)
    obtain ⟨wS1, wS2, wS3, wS4⟩ := wfacts gS (okS ones others hPo hPt)
    obtain ⟨wM1, wM2, wM3, wM4⟩ := wfacts gM (okM ones others hPo hPt)
    have vS : ∀ x : Nat, resL (rootsL w1 ones) (opp (x : Nat) (rootsL w2 others)) = ev (x : Nat) (rootsL (w1 ^ others.length * w2 ^ ones.length) (cross gS ones others)) := fun x => sums_W zs2 hz1 hz2 _
    have vM : ∀ x : Nat, resL (rootsL w1 ones) (weiU (x : Nat) (rootsL w2 others)).reverse = ev (x : Nat) (rootsL (w1 ^ others.length * w2 ^ ones.length) (cross gM ones others)) := fun x => prods_W hz1 _
    have vP : ∀ x : Nat, resL (rootsL w1 ones) (pwG (x : Nat) kk) = ev (x : Nat) (rootsL (w1 ^ kk) (ones.map (gP kk))) := fun x => pows_W hz1 hk1 _
    have hzP : ∀ p ∈ ones.map (gP kk), p.2 ≠ 0 := fun p hp => by
      obtain ⟨y, hy, rfl⟩ := List.mem_map.mp hp
      exact Int.ne_of_gt (gP_ok (hPo y hy) hk8).2.2
    have zP : w1 ^ kk ≠ 0 := Int.pow_ne_zero zs1
    have wP1 : (rootsL (w1 ^ kk) (ones.map (gP kk))).length = ones.length + 1 := by rw [rootsL_len, List.length_map]
    have wP2 : Tr (rootsL (w1 ^ kk) (ones.map (gP kk))) := tr_roots zP hzP
    have wP3 : AllB 9000 (rootsL (w1 ^ kk) (ones.map (gP kk))) := by
      have := rootsL_bits (s := w1 ^ kk) (c := 66) (b := 400) ((p4 bs1 kk).mono (by omega)) (fun p hp => by
        obtain ⟨y, hy, rfl⟩ := List.mem_map.mp hp
        exact ⟨(gP_ok (hPo y hy) hk8).1, (gP_ok (hPo y hy) hk8).2.1⟩) (ones.map (gP kk)).length (Nat.le_refl _) (by rw [List.length_map]; omega)
      rw [List.take_length, List.length_map] at this
      exact this.mono (by omega)
    have wP4 : plainL (rootsL (w1 ^ kk) (ones.map (gP kk))) = plR (ones.map (gP kk)) := plain_W zP hzP
    have trq := tr_roots zs2 hz2
    have nep := rootsL_ne w1 ones
    have neq := rootsL_ne w2 others
    have l12 : (ones.length + 1 - 1) * (others.length + 1 - 1) ≤ 20 := by rw [Nat.add_sub_cancel, Nat.add_sub_cancel]; omega
    generalize rootsL (w1 ^ others.length * w2 ^ ones.length) (cross gS ones others) = WS at wS1 wS2 wS3 wS4 vS
    generalize rootsL (w1 ^ others.length * w2 ^ ones.length) (cross gM ones others) = WM at wM1 wM2 wM3 wM4 vM
    generalize rootsL (w1 ^ kk) (ones.map (gP kk)) = WP at wP1 wP2 wP3 wP4 vP
    rw [← wS4] at h1
    rw [← wM4] at h2
    rw [← wP4] at h3
    rw [← lkp, ← lkq] at wS1 wM1 l12
    rw [← lkp] at wP1
    have l9p : (rootsL w1 ones).length ≤ 9 := by omega
    have l9q : (rootsL w2 others).length ≤ 9 := by omega
    clear wfacts okS okM wS4 wM4 wP4 hzP zP zC bC hz1 hz2 lkp lkq lmn hmn12 hmn
    generalize rootsL w1 ones = kp at *
    generalize rootsL w2 others = kq at *
    refine rd_sr (rd_or (rd_not ⟨_, rfl, _, rfl, pp, pq, kp, kq, WS, rfl, ep, eq, trq, nep, neq, l9p, l9q, l12, bkp, bkq, wS1, wS2, wS3, vS, fun a1 A1 sA1 ha1 ea1 => ⟨_, rfl, a1, y1, _, rfl, ea1, sA1 _ _ h1, _, rfl, rd_false ?_⟩⟩))
    refine rd_not ⟨_, rfl, _, rfl, pp, pq, kp, kq, WM, rfl, sA1 _ _ ep, sA1 _ _ eq, trq, nep, neq, l9p, l9q, l12, bkp, bkq, wM1, wM2, wM3, vM, fun a2 A2 sA2 ha2 ea2 => ⟨_, rfl, a2, y2, _, rfl, ea2, sA2 _ _ (sA1 _ _ h2), _, rfl, rd_false ?_⟩⟩
    have U2 := sA1.trans sA2
    refine rd_ret (rd_andV ⟨_, rfl, _, rfl, pp, kp, WP, kk, rfl, U2 _ _ ep, nep, l9p, hk1, hk8, bkp, wP1, wP2, wP3, vP, fun a3 A3 sA3 ha3 ea3 => ⟨_, rfl, a3, y3, _, rfl, ea3, sA3 _ _ (U2 _ _ h3), _, rfl, rd_true ?_⟩⟩)
    have U3 := U2.trans sA3
    refine rd_andV ⟨_, rfl, _, rfl, pp, pq, kp, kq, WS, rfl, U3 _ _ ep, U3 _ _ eq, trq, nep, neq, l9p, l9q, l12, bkp, bkq, wS1, wS2, wS3, vS, fun a4 A4 sA4 ha4 ea4 => ⟨_, rfl, a4, y1, _, rfl, ea4, sA4 _ _ (U3 _ _ h1), _, rfl, rd_true ?_⟩⟩
    have U4 := U3.trans sA4
    refine ⟨_, rfl, _, rfl, _, rfl, by show 2 ≤ sizeLine; decide, fun t2 ht2 => ?_⟩
    have u9 := Same.upd_new (o := .tup [V.ref pp, V.ref pq]) ht2
    have g9 : upd A4 t2 (.tup [V.ref pp, V.ref pq]) t2 = some (.tup ([pp, pq].map V.ref)) := upd_same
    generalize upd A4 t2 (.tup [V.ref pp, V.ref pq]) = A5 at u9 g9 ⊢
    have U5 := U4.trans u9
    have r1 : Rws K A5 [k1, k2] [kp, kq] := RwH.rws ((RwH.nil.snoc (U5 _ _ e1)).snoc (U5 _ _ e2))
    have r2 : Rws K A5 [pp, pq] [kp, kq] := RwH.rws ((RwH.nil.snoc (U5 _ _ ep)).snoc (U5 _ _ eq))
    refine ⟨kt, t2, [k1, k2], [pp, pq], [kp, kq], [kp, kq], rfl, rfl, SqT.of (U5 _ _ e3), SqT.of g9, r1, r2, rfl, ?_⟩
    rw [decide_eq_true rfl]
    exact k _
end
theorem all_mk {l : PySem.W.OpenLaw} {w : World} {K : PySem.W.Frag} {h : Heap} {mg : Str → Option Value} {fa f1 f2 f3 f4 f5 f6 f7 f8 f9 f10 f11 f12 f13 f14 f15 f16 f17 f18 f19 f20 f21 f22 f23 f24 f25 f26 f27 f28 f29 f30 : Addr} (X : K.In h) (G : h.Ns mainGlobals mg) (hfa : mg "law" = some (.ref fa))
    {od1 an1 od2 an2 od3 an3 od4 an4 od5 an5 od6 an6 od7 an7 od8 an8 od9 an9 od10 an10 od11 an11 od12 an12 od13 an13 od14 an14 od15 an15 od16 an16 od17 an17 od18 an18 od19 an19 od20 an20 od21 an21 od22 an22 od23 an23 od24 an24 od25 an25 od26 an26 od27 an27 od28 an28 od29 an29 od30 an30 : Option Addr} {sl1 sl2 sl3 sl4 sl5 sl6 sl7 sl8 sl9 sl10 sl11 sl12 sl13 sl14 sl15 sl16 sl17 sl18 sl19 sl20 sl21 sl22 sl23 sl24 sl25 sl26 sl27 sl28 sl29 sl30 : Array (Option Value)} {oc1 kV1 dc1 pm1 cd1 ct1 oc2 kV2 dc2 pm2 cd2 ct2 oc3 kV3 dc3 pm3 cd3 ct3 oc4 kV4 dc4 pm4 cd4 ct4 oc5 kV5 dc5 pm5 cd5 ct5 oc6 kV6 dc6 pm6 cd6 ct6 oc7 kV7 dc7 pm7 cd7 ct7 oc8 kV8 dc8 pm8 cd8 ct8 oc9 kV9 dc9 pm9 cd9 ct9 oc10 kV10 dc10 pm10 cd10 ct10 oc11 kV11 dc11 pm11 cd11 ct11 oc12 kV12 dc12 pm12 cd12 ct12 oc13 kV13 dc13 pm13 cd13 ct13 oc14 kV14 dc14 pm14 cd14 ct14 oc15 kV15 dc15 pm15 cd15 ct15 oc16 kV16 dc16 pm16 cd16 ct16 oc17 kV17 dc17 pm17 cd17 ct17 oc18 kV18 dc18 pm18 cd18 ct18 oc19 kV19 dc19 pm19 cd19 ct19 oc20 kV20 dc20 pm20 cd20 ct20 oc21 kV21 dc21 pm21 cd21 ct21 oc22 kV22 dc22 pm22 cd22 ct22 oc23 kV23 dc23 pm23 cd23 ct23 oc24 kV24 dc24 pm24 cd24 ct24 oc25 kV25 dc25 pm25 cd25 ct25 oc26 kV26 dc26 pm26 cd26 ct26 oc27 kV27 dc27 pm27 cd27 ct27 oc28 kV28 dc28 pm28 cd28 ct28 oc29 kV29 dc29 pm29 cd29 ct29 oc30 kV30 dc30 pm30 cd30 ct30 : Value}
    (a1 : PySem.W.nsIn K mainGlobals "first_not_nought" = some (some (.ref f1)))
    (l1 : K.lookup f1 = some ⟨oc1, od1, .func (PySem.W.fnOf "first_not_nought" "first_not_nought" (defArgs s_first_not_nought) (defBody s_first_not_nought) (defScope s_first_not_nought) .none kV1 dc1 pm1 an1 cd1 ct1), sl1⟩) (c1 : PySem.W.codeIn K cd1 "first_not_nought" = true) (k1 : PySem.W.keepIn K (.ref f1) = true)
    (a2 : PySem.W.nsIn K mainGlobals "cleared" = some (some (.ref f2)))
    (l2 : K.lookup f2 = some ⟨oc2, od2, .func (PySem.W.fnOf "cleared" "cleared" (defArgs s_cleared) (defBody s_cleared) (defScope s_cleared) .none kV2 dc2 pm2 an2 cd2 ct2), sl2⟩) (c2 : PySem.W.codeIn K cd2 "cleared" = true) (k2 : PySem.W.keepIn K (.ref f2) = true)
    (a3 : PySem.W.nsIn K mainGlobals "determinant" = some (some (.ref f3)))
    (l3 : K.lookup f3 = some ⟨oc3, od3, .func (PySem.W.fnOf "determinant" "determinant" (defArgs s_determinant) (defBody s_determinant) (defScope s_determinant) .none kV3 dc3 pm3 an3 cd3 ct3), sl3⟩) (c3 : PySem.W.codeIn K cd3 "determinant" = true) (k3 : PySem.W.keepIn K (.ref f3) = true)
    (a4 : PySem.W.nsIn K mainGlobals "shared_by_two" = some (some (.ref f4)))
    (l4 : K.lookup f4 = some ⟨oc4, od4, .func (PySem.W.fnOf "shared_by_two" "shared_by_two" (defArgs s_shared_by_two) (defBody s_shared_by_two) (defScope s_shared_by_two) .none kV4 dc4 pm4 an4 cd4 ct4), sl4⟩) (c4 : PySem.W.codeIn K cd4 "shared_by_two" = true) (k4 : PySem.W.keepIn K (.ref f4) = true)
    (a5 : PySem.W.nsIn K mainGlobals "shared" = some (some (.ref f5)))
    (l5 : K.lookup f5 = some ⟨oc5, od5, .func (PySem.W.fnOf "shared" "shared" (defArgs s_shared) (defBody s_shared) (defScope s_shared) .none kV5 dc5 pm5 an5 cd5 ct5), sl5⟩) (c5 : PySem.W.codeIn K cd5 "shared" = true) (k5 : PySem.W.keepIn K (.ref f5) = true)
    (a6 : PySem.W.nsIn K mainGlobals "shrunk" = some (some (.ref f6)))
    (l6 : K.lookup f6 = some ⟨oc6, od6, .func (PySem.W.fnOf "shrunk" "shrunk" (defArgs s_shrunk) (defBody s_shrunk) (defScope s_shrunk) .none kV6 dc6 pm6 an6 cd6 ct6), sl6⟩) (c6 : PySem.W.codeIn K cd6 "shrunk" = true) (k6 : PySem.W.keepIn K (.ref f6) = true)
    (a7 : PySem.W.nsIn K mainGlobals "plain" = some (some (.ref f7)))
    (l7 : K.lookup f7 = some ⟨oc7, od7, .func (PySem.W.fnOf "plain" "plain" (defArgs s_plain) (defBody s_plain) (defScope s_plain) .none kV7 dc7 pm7 an7 cd7 ct7), sl7⟩) (c7 : PySem.W.codeIn K cd7 "plain" = true) (k7 : PySem.W.keepIn K (.ref f7) = true)
    (a8 : PySem.W.nsIn K mainGlobals "poly" = some (some (.ref f8)))
    (l8 : K.lookup f8 = some ⟨oc8, od8, .func (PySem.W.fnOf "poly" "poly" (defArgs s_poly) (defBody s_poly) (defScope s_poly) .none kV8 dc8 pm8 an8 cd8 ct8), sl8⟩) (c8 : PySem.W.codeIn K cd8 "poly" = true) (k8 : PySem.W.keepIn K (.ref f8) = true)
    (a9 : PySem.W.nsIn K mainGlobals "degree" = some (some (.ref f9)))
    (l9 : K.lookup f9 = some ⟨oc9, od9, .func (PySem.W.fnOf "degree" "degree" (defArgs s_degree) (defBody s_degree) (defScope s_degree) .none kV9 dc9 pm9 an9 cd9 ct9), sl9⟩) (c9 : PySem.W.codeIn K cd9 "degree" = true) (k9 : PySem.W.keepIn K (.ref f9) = true)
    (a10 : PySem.W.nsIn K mainGlobals "coefficient" = some (some (.ref f10)))
    (l10 : K.lookup f10 = some ⟨oc10, od10, .func (PySem.W.fnOf "coefficient" "coefficient" (defArgs s_coefficient) (defBody s_coefficient) (defScope s_coefficient) .none kV10 dc10 pm10 an10 cd10 ct10), sl10⟩) (c10 : PySem.W.codeIn K cd10 "coefficient" = true) (k10 : PySem.W.keepIn K (.ref f10) = true)
    (a11 : PySem.W.nsIn K mainGlobals "added" = some (some (.ref f11)))
    (l11 : K.lookup f11 = some ⟨oc11, od11, .func (PySem.W.fnOf "added" "added" (defArgs s_added) (defBody s_added) (defScope s_added) .none kV11 dc11 pm11 an11 cd11 ct11), sl11⟩) (c11 : PySem.W.codeIn K cd11 "added" = true) (k11 : PySem.W.keepIn K (.ref f11) = true)
    (a12 : PySem.W.nsIn K mainGlobals "multiplied" = some (some (.ref f12)))
    (l12 : K.lookup f12 = some ⟨oc12, od12, .func (PySem.W.fnOf "multiplied" "multiplied" (defArgs s_multiplied) (defBody s_multiplied) (defScope s_multiplied) .none kV12 dc12 pm12 an12 cd12 ct12), sl12⟩) (c12 : PySem.W.codeIn K cd12 "multiplied" = true) (k12 : PySem.W.keepIn K (.ref f12) = true)
    (a13 : PySem.W.nsIn K mainGlobals "slid" = some (some (.ref f13)))
    (l13 : K.lookup f13 = some ⟨oc13, od13, .func (PySem.W.fnOf "slid" "slid" (defArgs s_slid) (defBody s_slid) (defScope s_slid) .none kV13 dc13 pm13 an13 cd13 ct13), sl13⟩) (c13 : PySem.W.codeIn K cd13 "slid" = true) (k13 : PySem.W.keepIn K (.ref f13) = true)
    (a14 : PySem.W.nsIn K mainGlobals "table" = some (some (.ref f14)))
    (l14 : K.lookup f14 = some ⟨oc14, od14, .func (PySem.W.fnOf "table" "table" (defArgs s_table) (defBody s_table) (defScope s_table) .none kV14 dc14 pm14 an14 cd14 ct14), sl14⟩) (c14 : PySem.W.codeIn K cd14 "table" = true) (k14 : PySem.W.keepIn K (.ref f14) = true)
    (a15 : PySem.W.nsIn K mainGlobals "opposed" = some (some (.ref f15)))
    (l15 : K.lookup f15 = some ⟨oc15, od15, .func (PySem.W.fnOf "opposed" "opposed" (defArgs s_opposed) (defBody s_opposed) (defScope s_opposed) .none kV15 dc15 pm15 an15 cd15 ct15), sl15⟩) (c15 : PySem.W.codeIn K cd15 "opposed" = true) (k15 : PySem.W.keepIn K (.ref f15) = true)
    (a16 : PySem.W.nsIn K mainGlobals "weighted" = some (some (.ref f16)))
    (l16 : K.lookup f16 = some ⟨oc16, od16, .func (PySem.W.fnOf "weighted" "weighted" (defArgs s_weighted) (defBody s_weighted) (defScope s_weighted) .none kV16 dc16 pm16 an16 cd16 ct16), sl16⟩) (c16 : PySem.W.codeIn K cd16 "weighted" = true) (k16 : PySem.W.keepIn K (.ref f16) = true)
    (a17 : PySem.W.nsIn K mainGlobals "through" = some (some (.ref f17)))
    (l17 : K.lookup f17 = some ⟨oc17, od17, .func (PySem.W.fnOf "through" "through" (defArgs s_through) (defBody s_through) (defScope s_through) .none kV17 dc17 pm17 an17 cd17 ct17), sl17⟩) (c17 : PySem.W.codeIn K cd17 "through" = true) (k17 : PySem.W.keepIn K (.ref f17) = true)
    (a18 : PySem.W.nsIn K mainGlobals "sums" = some (some (.ref f18)))
    (l18 : K.lookup f18 = some ⟨oc18, od18, .func (PySem.W.fnOf "sums" "sums" (defArgs s_sums) (defBody s_sums) (defScope s_sums) .none kV18 dc18 pm18 an18 cd18 ct18), sl18⟩) (c18 : PySem.W.codeIn K cd18 "sums" = true) (k18 : PySem.W.keepIn K (.ref f18) = true)
    (a19 : PySem.W.nsIn K mainGlobals "products" = some (some (.ref f19)))
    (l19 : K.lookup f19 = some ⟨oc19, od19, .func (PySem.W.fnOf "products" "products" (defArgs s_products) (defBody s_products) (defScope s_products) .none kV19 dc19 pm19 an19 cd19 ct19), sl19⟩) (c19 : PySem.W.codeIn K cd19 "products" = true) (k19 : PySem.W.keepIn K (.ref f19) = true)
    (a20 : PySem.W.nsIn K mainGlobals "powers" = some (some (.ref f20)))
    (l20 : K.lookup f20 = some ⟨oc20, od20, .func (PySem.W.fnOf "powers" "powers" (defArgs s_powers) (defBody s_powers) (defScope s_powers) .none kV20 dc20 pm20 an20 cd20 ct20), sl20⟩) (c20 : PySem.W.codeIn K cd20 "powers" = true) (k20 : PySem.W.keepIn K (.ref f20) = true)
    (a21 : PySem.W.nsIn K mainGlobals "_law_cell_at" = some (some (.ref f21)))
    (l21 : K.lookup f21 = some ⟨oc21, od21, .func (PySem.W.fnOf "_law_cell_at" "_law_cell_at" (defArgs s__law_cell_at) (defBody s__law_cell_at) (defScope s__law_cell_at) .none kV21 dc21 pm21 an21 cd21 ct21), sl21⟩) (c21 : PySem.W.codeIn K cd21 "_law_cell_at" = true) (k21 : PySem.W.keepIn K (.ref f21) = true)
    (a22 : PySem.W.nsIn K mainGlobals "_law_is" = some (some (.ref f22)))
    (l22 : K.lookup f22 = some ⟨oc22, od22, .func (PySem.W.fnOf "_law_is" "_law_is" (defArgs s__law_is) (defBody s__law_is) (defScope s__law_is) .none kV22 dc22 pm22 an22 cd22 ct22), sl22⟩) (c22 : PySem.W.codeIn K cd22 "_law_is" = true) (k22 : PySem.W.keepIn K (.ref f22) = true)
    (a23 : PySem.W.nsIn K mainGlobals "_law_number" = some (some (.ref f23)))
    (l23 : K.lookup f23 = some ⟨oc23, od23, .func (PySem.W.fnOf "_law_number" "_law_number" (defArgs s__law_number) (defBody s__law_number) (defScope s__law_number) .none kV23 dc23 pm23 an23 cd23 ct23), sl23⟩) (c23 : PySem.W.codeIn K cd23 "_law_number" = true) (k23 : PySem.W.keepIn K (.ref f23) = true)
    (a24 : PySem.W.nsIn K mainGlobals "_law_product" = some (some (.ref f24)))
    (l24 : K.lookup f24 = some ⟨oc24, od24, .func (PySem.W.fnOf "_law_product" "_law_product" (defArgs s__law_product) (defBody s__law_product) (defScope s__law_product) .none kV24 dc24 pm24 an24 cd24 ct24), sl24⟩) (c24 : PySem.W.codeIn K cd24 "_law_product" = true) (k24 : PySem.W.keepIn K (.ref f24) = true)
    (a25 : PySem.W.nsIn K mainGlobals "_law_shared" = some (some (.ref f25)))
    (l25 : K.lookup f25 = some ⟨oc25, od25, .func (PySem.W.fnOf "_law_shared" "_law_shared" (defArgs s__law_shared) (defBody s__law_shared) (defScope s__law_shared) .none kV25 dc25 pm25 an25 cd25 ct25), sl25⟩) (c25 : PySem.W.codeIn K cd25 "_law_shared" = true) (k25 : PySem.W.keepIn K (.ref f25) = true)
    (a26 : PySem.W.nsIn K mainGlobals "_law_factor" = some (some (.ref f26)))
    (l26 : K.lookup f26 = some ⟨oc26, od26, .func (PySem.W.fnOf "_law_factor" "_law_factor" (defArgs s__law_factor) (defBody s__law_factor) (defScope s__law_factor) .none kV26 dc26 pm26 an26 cd26 ct26), sl26⟩) (c26 : PySem.W.codeIn K cd26 "_law_factor" = true) (k26 : PySem.W.keepIn K (.ref f26) = true)
    (a27 : PySem.W.nsIn K mainGlobals "_law_with_roots" = some (some (.ref f27)))
    (l27 : K.lookup f27 = some ⟨oc27, od27, .func (PySem.W.fnOf "_law_with_roots" "_law_with_roots" (defArgs s__law_with_roots) (defBody s__law_with_roots) (defScope s__law_with_roots) .none kV27 dc27 pm27 an27 cd27 ct27), sl27⟩) (c27 : PySem.W.codeIn K cd27 "_law_with_roots" = true) (k27 : PySem.W.keepIn K (.ref f27) = true)
    (a28 : PySem.W.nsIn K mainGlobals "_law_roots" = some (some (.ref f28)))
    (l28 : K.lookup f28 = some ⟨oc28, od28, .func (PySem.W.fnOf "_law_roots" "_law_roots" (defArgs s__law_roots) (defBody s__law_roots) (defScope s__law_roots) .none kV28 dc28 pm28 an28 cd28 ct28), sl28⟩) (c28 : PySem.W.codeIn K cd28 "_law_roots" = true) (k28 : PySem.W.keepIn K (.ref f28) = true)
    (a29 : PySem.W.nsIn K mainGlobals "_law_power" = some (some (.ref f29)))
    (l29 : K.lookup f29 = some ⟨oc29, od29, .func (PySem.W.fnOf "_law_power" "_law_power" (defArgs s__law_power) (defBody s__law_power) (defScope s__law_power) .none kV29 dc29 pm29 an29 cd29 ct29), sl29⟩) (c29 : PySem.W.codeIn K cd29 "_law_power" = true) (k29 : PySem.W.keepIn K (.ref f29) = true)
    (a30 : PySem.W.nsIn K mainGlobals "law" = some (some (.ref f30)))
    (l30 : K.lookup f30 = some ⟨oc30, od30, .func (PySem.W.fnOf "law" "law" (defArgs s_law) (defBody s_law) (defScope s_law) .none kV30 dc30 pm30 an30 cd30 ct30), sl30⟩) (c30 : PySem.W.codeIn K cd30 "law" = true) (k30 : PySem.W.keepIn K (.ref f30) = true)
    (z0 : PySem.W.nsIn K mainGlobals "list" = some none)
    (z1 : PySem.W.nsIn K mainGlobals "len" = some none)
    (z2 : PySem.W.nsIn K mainGlobals "range" = some none)
    (z3 : PySem.W.nsIn K mainGlobals "abs" = some none)
    (z4 : PySem.W.nsIn K mainGlobals "max" = some none)
    (z5 : PySem.W.nsIn K mainGlobals "enumerate" = some none)
    (z6 : PySem.W.nsIn K mainGlobals "reversed" = some none)
    (z7 : PySem.W.nsIn K mainGlobals "isinstance" = some none)
    (z8 : PySem.W.nsIn K mainGlobals "bool" = some none)
    (z9 : PySem.W.nsIn K mainGlobals "int" = some none)
    (hTr : l.prog.given.tree = none)
    : ∃ fd : FuncData, (∀ (s : Shared) (v : Value), BindsTo s fd ⟨[v], []⟩ [("_law_script", v)]) ∧ ∀ base : Heap, K.In base → base.Ns mainGlobals mg → base.NoSeer → FnOk l.prog w K mg base CX0 36 fa fd ["_law_script"] (spLaw K) := by
  have e := hfa.symm.trans (PySem.W.mg_of X G a30)
  cases e
  have T : Txt K mg := ⟨PySem.W.mg_none_of X G z0, PySem.W.mg_none_of X G z1, PySem.W.mg_none_of X G z2, PySem.W.mg_none_of X G z3, PySem.W.mg_none_of X G z4, PySem.W.mg_none_of X G z5, PySem.W.mg_none_of X G z6, PySem.W.mg_none_of X G z7, PySem.W.mg_none_of X G z8, PySem.W.mg_none_of X G z9⟩
  have F1 := fun_mk (st := s_first_not_nought) l1 c1 k1
  have b1 := F1.binds (ps := ["rows"]) fun _ _ _ _ _ _ us hl => match us, hl with | [_], _ => rfl
  have F2 := fun_mk (st := s_cleared) l2 c2 k2
  have b2 := F2.binds (ps := ["row", "head", "before"]) fun _ _ _ _ _ _ us hl => match us, hl with | [_, _, _], _ => rfl
  have F3 := fun_mk (st := s_determinant) l3 c3 k3
  have b3 := F3.binds (ps := ["rows"]) fun _ _ _ _ _ _ us hl => match us, hl with | [_], _ => rfl
  have F4 := fun_mk (st := s_shared_by_two) l4 c4 k4
  have b4 := F4.binds (ps := ["one", "other"]) fun _ _ _ _ _ _ us hl => match us, hl with | [_, _], _ => rfl
  have F5 := fun_mk (st := s_shared) l5 c5 k5
  have b5 := F5.binds (ps := ["row"]) fun _ _ _ _ _ _ us hl => match us, hl with | [_], _ => rfl
  have F6 := fun_mk (st := s_shrunk) l6 c6 k6
  have b6 := F6.binds (ps := ["row"]) fun _ _ _ _ _ _ us hl => match us, hl with | [_], _ => rfl
  have F7 := fun_mk (st := s_plain) l7 c7 k7
  have b7 := F7.binds (ps := ["row"]) fun _ _ _ _ _ _ us hl => match us, hl with | [_], _ => rfl
  have F8 := fun_mk (st := s_poly) l8 c8 k8
  have b8 := F8.binds (ps := ["row"]) fun _ _ _ _ _ _ us hl => match us, hl with | [_], _ => rfl
  have F9 := fun_mk (st := s_degree) l9 c9 k9
  have b9 := F9.binds (ps := ["row"]) fun _ _ _ _ _ _ us hl => match us, hl with | [_], _ => rfl
  have F10 := fun_mk (st := s_coefficient) l10 c10 k10
  have b10 := F10.binds (ps := ["row", "place"]) fun _ _ _ _ _ _ us hl => match us, hl with | [_, _], _ => rfl
  have F11 := fun_mk (st := s_added) l11 c11 k11
  have b11 := F11.binds (ps := ["first", "second"]) fun _ _ _ _ _ _ us hl => match us, hl with | [_, _], _ => rfl
  have F12 := fun_mk (st := s_multiplied) l12 c12 k12
  have b12 := F12.binds (ps := ["first", "second"]) fun _ _ _ _ _ _ us hl => match us, hl with | [_, _], _ => rfl
  have F13 := fun_mk (st := s_slid) l13 c13 k13
  have b13 := F13.binds (ps := ["row", "many"]) fun _ _ _ _ _ _ us hl => match us, hl with | [_, _], _ => rfl
  have F14 := fun_mk (st := s_table) l14 c14 k14
  have b14 := F14.binds (ps := ["first", "second"]) fun _ _ _ _ _ _ us hl => match us, hl with | [_, _], _ => rfl
  have F15 := fun_mk (st := s_opposed) l15 c15 k15
  have b15 := F15.binds (ps := ["row", "x"]) fun _ _ _ _ _ _ us hl => match us, hl with | [_, _], _ => rfl
  have F16 := fun_mk (st := s_weighted) l16 c16 k16
  have b16 := F16.binds (ps := ["row", "x"]) fun _ _ _ _ _ _ us hl => match us, hl with | [_, _], _ => rfl
  have F17 := fun_mk (st := s_through) l17 c17 k17
  have b17 := F17.binds (ps := ["values"]) fun _ _ _ _ _ _ us hl => match us, hl with | [_], _ => rfl
  have F18 := fun_mk (st := s_sums) l18 c18 k18
  have b18 := F18.binds (ps := ["first", "second"]) fun _ _ _ _ _ _ us hl => match us, hl with | [_, _], _ => rfl
  have F19 := fun_mk (st := s_products) l19 c19 k19
  have b19 := F19.binds (ps := ["first", "second"]) fun _ _ _ _ _ _ us hl => match us, hl with | [_, _], _ => rfl
  have F20 := fun_mk (st := s_powers) l20 c20 k20
  have b20 := F20.binds (ps := ["row", "k"]) fun _ _ _ _ _ _ us hl => match us, hl with | [_, _], _ => rfl
  have F21 := fun_mk (st := s__law_cell_at) l21 c21 k21
  have b21 := F21.binds (ps := ["_law_script", "_law_k"]) fun _ _ _ _ _ _ us hl => match us, hl with | [_, _], _ => rfl
  have F22 := fun_mk (st := s__law_is) l22 c22 k22
  have b22 := F22.binds (ps := ["_law_found", "_law_due"]) fun _ _ _ _ _ _ us hl => match us, hl with | [_, _], _ => rfl
  have F23 := fun_mk (st := s__law_number) l23 c23 k23
  have b23 := F23.binds (ps := ["_law_cell", "_law_at"]) fun _ _ _ _ _ _ us hl => match us, hl with | [_, _], _ => rfl
  have F24 := fun_mk (st := s__law_product) l24 c24 k24
  have b24 := F24.binds (ps := ["_law_kp", "_law_kq"]) fun _ _ _ _ _ _ us hl => match us, hl with | [_, _], _ => rfl
  have F25 := fun_mk (st := s__law_shared) l25 c25 k25
  have b25 := F25.binds (ps := ["_law_a", "_law_b"]) fun _ _ _ _ _ _ us hl => match us, hl with | [_, _], _ => rfl
  have F26 := fun_mk (st := s__law_factor) l26 c26 k26
  have b26 := F26.binds (ps := ["_law_top", "_law_bottom"]) fun _ _ _ _ _ _ us hl => match us, hl with | [_, _], _ => rfl
  have F27 := fun_mk (st := s__law_with_roots) l27 c27 k27
  have b27 := F27.binds (ps := ["_law_pairs", "_law_scale"]) fun _ _ _ _ _ _ us hl => match us, hl with | [_, _], _ => rfl
  have F28 := fun_mk (st := s__law_roots) l28 c28 k28
  have b28 := F28.binds (ps := ["_law_script", "_law_at", "_law_many"]) fun _ _ _ _ _ _ us hl => match us, hl with | [_, _, _], _ => rfl
  have F29 := fun_mk (st := s__law_power) l29 c29 k29
  have b29 := F29.binds (ps := ["_law_base", "_law_k"]) fun _ _ _ _ _ _ us hl => match us, hl with | [_, _], _ => rfl
  have F30 := fun_mk (st := s_law) l30 c30 k30
  have b30 := F30.binds (ps := ["_law_script"]) fun _ _ _ _ _ _ us hl => match us, hl with | [_], _ => rfl
  refine ⟨PySem.W.fnOf "law" "law" (defArgs s_law) (defBody s_law) (defScope s_law) .none kV30 dc30 pm30 an30 cd30 ct30, fun s v => .of_eq rfl, fun base KB GB hNS => ?_⟩
  have C1 : Cal l.prog w K mg base 1 "first_not_nought" ["rows"] spFnn _ _ := ⟨ok_first_not_nought F1 T  , PySem.W.mg_of X G a1, k1, b1⟩
  have C2 : Cal l.prog w K mg base 33 "cleared" ["row", "head", "before"] spClr _ _ := ⟨ok_cleared F2 T  hNS hTr , PySem.W.mg_of X G a2, k2, b2⟩
  have C3 : Cal l.prog w K mg base 34 "determinant" ["rows"] spDet _ _ := ⟨ok_determinant F3 T  C1 C2, PySem.W.mg_of X G a3, k3, b3⟩
  have C4 : Cal l.prog w K mg base 1 "shared_by_two" ["one", "other"] sp2 _ _ := ⟨ok_shared_by_two F4 T  , PySem.W.mg_of X G a4, k4, b4⟩
  have C5 : Cal l.prog w K mg base 2 "shared" ["row"] (spShared K) _ _ := ⟨ok_shared F5 T  C4, PySem.W.mg_of X G a5, k5, b5⟩
  have C6 : Cal l.prog w K mg base 3 "shrunk" ["row"] spShr _ _ := ⟨ok_shrunk F6 T  C5, PySem.W.mg_of X G a6, k6, b6⟩
  have C7 : Cal l.prog w K mg base 4 "plain" ["row"] spPlain _ _ := ⟨ok_plain F7 T  C6, PySem.W.mg_of X G a7, k7, b7⟩
  have C8 : Cal l.prog w K mg base 1 "poly" ["row"] (spTrim K) _ _ := ⟨ok_poly F8 T  , PySem.W.mg_of X G a8, k8, b8⟩
  have C9 : Cal l.prog w K mg base 1 "degree" ["row"] spDeg _ _ := ⟨ok_degree F9 T  , PySem.W.mg_of X G a9, k9, b9⟩
  have C10 : Cal l.prog w K mg base 1 "coefficient" ["row", "place"] (spCell K) _ _ := ⟨ok_coefficient F10 T  , PySem.W.mg_of X G a10, k10, b10⟩
  have C11 : Cal l.prog w K mg base 2 "added" ["first", "second"] (sp2L K addL) _ _ := ⟨ok_added F11 T  C8 C10, PySem.W.mg_of X G a11, k11, b11⟩
  have C12 : Cal l.prog w K mg base 1 "multiplied" ["first", "second"] spMul _ _ := ⟨ok_multiplied F12 T  , PySem.W.mg_of X G a12, k12, b12⟩
  have C13 : Cal l.prog w K mg base 1 "slid" ["row", "many"] spSlid _ _ := ⟨ok_slid F13 T  , PySem.W.mg_of X G a13, k13, b13⟩
  have C14 : Cal l.prog w K mg base 2 "table" ["first", "second"] spTab _ _ := ⟨ok_table F14 T  C13 C9, PySem.W.mg_of X G a14, k14, b14⟩
  have C15 : Cal l.prog w K mg base 3 "opposed" ["row", "x"] spOpp _ _ := ⟨ok_opposed F15 T  C11 C12 C8, PySem.W.mg_of X G a15, k15, b15⟩
  have C16 : Cal l.prog w K mg base 1 "weighted" ["row", "x"] spWei _ _ := ⟨ok_weighted F16 T  , PySem.W.mg_of X G a16, k16, b16⟩
  have C17 : Cal l.prog w K mg base 3 "through" ["values"] spThr _ _ := ⟨ok_through F17 T  C11 C12 C8, PySem.W.mg_of X G a17, k17, b17⟩
  have C18 : Cal l.prog w K mg base 35 "sums" ["first", "second"] (spTwo opp) _ _ := ⟨ok_sums F18 T  C9 C7 C17 C3 C14 C15, PySem.W.mg_of X G a18, k18, b18⟩
  have C19 : Cal l.prog w K mg base 35 "products" ["first", "second"] (spTwo fun x l => (weiU x l).reverse) _ _ := ⟨ok_products F19 T  C9 C7 C17 C3 C14 C16, PySem.W.mg_of X G a19, k19, b19⟩
  have C20 : Cal l.prog w K mg base 35 "powers" ["row", "k"] spPws _ _ := ⟨ok_powers F20 T  C9 C7 C17 C3 C14, PySem.W.mg_of X G a20, k20, b20⟩
  have C21 : Cal l.prog w K mg base 1 "_law_cell_at" ["_law_script", "_law_k"] (spCell K) _ _ := ⟨ok__law_cell_at F21 T  , PySem.W.mg_of X G a21, k21, b21⟩
  have C22 : Cal l.prog w K mg base 1 "_law_is" ["_law_found", "_law_due"] spIs _ _ := ⟨ok__law_is F22 T  , PySem.W.mg_of X G a22, k22, b22⟩
  have C23 : Cal l.prog w K mg base 1 "_law_number" ["_law_cell", "_law_at"] spNum _ _ := ⟨ok__law_number F23 T  , PySem.W.mg_of X G a23, k23, b23⟩
  have C24 : Cal l.prog w K mg base 1 "_law_product" ["_law_kp", "_law_kq"] spProd _ _ := ⟨ok__law_product F24 T  , PySem.W.mg_of X G a24, k24, b24⟩
  have C25 : Cal l.prog w K mg base 1 "_law_shared" ["_law_a", "_law_b"] spSha _ _ := ⟨ok__law_shared F25 T  , PySem.W.mg_of X G a25, k25, b25⟩
  have C26 : Cal l.prog w K mg base 2 "_law_factor" ["_law_top", "_law_bottom"] spFac _ _ := ⟨ok__law_factor F26 T  C25, PySem.W.mg_of X G a26, k26, b26⟩
  have C27 : Cal l.prog w K mg base 2 "_law_with_roots" ["_law_pairs", "_law_scale"] spWr _ _ := ⟨ok__law_with_roots F27 T  C24, PySem.W.mg_of X G a27, k27, b27⟩
  have C28 : Cal l.prog w K mg base 2 "_law_roots" ["_law_script", "_law_at", "_law_many"] (spRts K) _ _ := ⟨ok__law_roots F28 T  C23 C21, PySem.W.mg_of X G a28, k28, b28⟩
  have C29 : Cal l.prog w K mg base 1 "_law_power" ["_law_base", "_law_k"] spPow _ _ := ⟨ok__law_power F29 T  , PySem.W.mg_of X G a29, k29, b29⟩
  exact ok_law F30 T  C21 C28 C27 C24 C26 C29 C22 C18 C19 C20
theorem walk {l : PySem.W.OpenLaw} {q : Program} {loose : List Str} {XP : (Str → Option Value) → Heap → Prop} {YP : World → Heap → Prop} {d : DefRec} {K : Params → PySem.W.Frag} (hi : PyProof.Rows.importsNone q = true) (hn : l.most = some 63) (hdf : d.params.defaults = [])
    (hY : ∀ (w : World) (h : Heap), YP w h → (K w.params).In h)
    (F : ∀ (w : World) (mg : Str → Option Value) (fa : Addr) (h : Heap), (K w.params).In h → h.Ns mainGlobals mg → mg d.name = some (.ref fa) →
      ∃ fd : FuncData, (∀ (s : Shared) (u : Value), BindsTo s fd ⟨[u], []⟩ [("_law_script", u)]) ∧ ∀ base : Heap, (K w.params).In base → base.Ns mainGlobals mg → base.NoSeer → FnOk l.prog w (K w.params) mg base CX0 36 fa fd ["_law_script"] (spLaw (K w.params))) :
    PySem.W.WalkO q loose XP YP l.row.toRowW d [] (fun f vs => PySem.call f vs) :=
  L2.walk_ofS (n := 63) (k := 36) (x := "_law_script") (CX := fun _ => CX0) (sp := fun w => spLaw (K w.params)) hi hn (by decide) hdf ⟨rfl, by decide, by decide⟩ hY F (fun _ _ a ns hl _ hS => ⟨a, ns, rfl, hS, hl, fun _ => rfl⟩) fun _ _ _ _ _ z => z
end R37
open PySem PySem.W PyProof.Rows
set_option maxRecDepth 100000 in
set_option maxHeartbeats 0 in
theorem PySem.Challenge.cw_rootspan_k37_roots_known_holds : PySem.Challenge.rw_rootspan_k37_roots_known.Holds := by
  w_on; o_law; k_head; (case hw => w_witness2)
  k_fill
  refine R37.walk (l := PySem.Challenge.rw_rootspan_k37_roots_known) (by decide +kernel) rfl rfl (fun w h Y => PySem.W.kIn_of Y) ?F
  case F =>
    intro w mg fa h KX G hmg
    refine' R37.all_mk KX G hmg ?a1 ?l1 ?c1 ?k1 ?a2 ?l2 ?c2 ?k2 ?a3 ?l3 ?c3 ?k3 ?a4 ?l4 ?c4 ?k4 ?a5 ?l5 ?c5 ?k5 ?a6 ?l6 ?c6 ?k6 ?a7 ?l7 ?c7 ?k7 ?a8 ?l8 ?c8 ?k8 ?a9 ?l9 ?c9 ?k9 ?a10 ?l10 ?c10 ?k10 ?a11 ?l11 ?c11 ?k11 ?a12 ?l12 ?c12 ?k12 ?a13 ?l13 ?c13 ?k13 ?a14 ?l14 ?c14 ?k14 ?a15 ?l15 ?c15 ?k15 ?a16 ?l16 ?c16 ?k16 ?a17 ?l17 ?c17 ?k17 ?a18 ?l18 ?c18 ?k18 ?a19 ?l19 ?c19 ?k19 ?a20 ?l20 ?c20 ?k20 ?a21 ?l21 ?c21 ?k21 ?a22 ?l22 ?c22 ?k22 ?a23 ?l23 ?c23 ?k23 ?a24 ?l24 ?c24 ?k24 ?a25 ?l25 ?c25 ?k25 ?a26 ?l26 ?c26 ?k26 ?a27 ?l27 ?c27 ?k27 ?a28 ?l28 ?c28 ?k28 ?a29 ?l29 ?c29 ?k29 ?a30 ?l30 ?c30 ?k30 ?z0 ?z1 ?z2 ?z3 ?z4 ?z5 ?z6 ?z7 ?z8 ?z9 rfl
    (case a1 => k_is)
    (case l1 => k_is)
    (case c1 => k_is)
    (case k1 => k_is)
    (case a2 => k_is)
    (case l2 => k_is)
    (case c2 => k_is)
    (case k2 => k_is)
    (case a3 => k_is)
    (case l3 => k_is)
    (case c3 => k_is)
    (case k3 => k_is)
    (case a4 => k_is)
    (case l4 => k_is)
    (case c4 => k_is)
    (case k4 => k_is)
    (case a5 => k_is)
    (case l5 => k_is)
    (case c5 => k_is)
    (case k5 => k_is)
    (case a6 => k_is)
    (case l6 => k_is)
    (case c6 => k_is)
    (case k6 => k_is)
    (case a7 => k_is)
    (case l7 => k_is)
    (case c7 => k_is)
    (case k7 => k_is)
    (case a8 => k_is)
    (case l8 => k_is)
    (case c8 => k_is)
    (case k8 => k_is)
    (case a9 => k_is)
    (case l9 => k_is)
    (case c9 => k_is)
    (case k9 => k_is)
    (case a10 => k_is)
    (case l10 => k_is)
    (case c10 => k_is)
    (case k10 => k_is)
    (case a11 => k_is)
    (case l11 => k_is)
    (case c11 => k_is)
    (case k11 => k_is)
    (case a12 => k_is)
    (case l12 => k_is)
    (case c12 => k_is)
    (case k12 => k_is)
    (case a13 => k_is)
    (case l13 => k_is)
    (case c13 => k_is)
    (case k13 => k_is)
    (case a14 => k_is)
    (case l14 => k_is)
    (case c14 => k_is)
    (case k14 => k_is)
    (case a15 => k_is)
    (case l15 => k_is)
    (case c15 => k_is)
    (case k15 => k_is)
    (case a16 => k_is)
    (case l16 => k_is)
    (case c16 => k_is)
    (case k16 => k_is)
    (case a17 => k_is)
    (case l17 => k_is)
    (case c17 => k_is)
    (case k17 => k_is)
    (case a18 => k_is)
    (case l18 => k_is)
    (case c18 => k_is)
    (case k18 => k_is)
    (case a19 => k_is)
    (case l19 => k_is)
    (case c19 => k_is)
    (case k19 => k_is)
    (case a20 => k_is)
    (case l20 => k_is)
    (case c20 => k_is)
    (case k20 => k_is)
    (case a21 => k_is)
    (case l21 => k_is)
    (case c21 => k_is)
    (case k21 => k_is)
    (case a22 => k_is)
    (case l22 => k_is)
    (case c22 => k_is)
    (case k22 => k_is)
    (case a23 => k_is)
    (case l23 => k_is)
    (case c23 => k_is)
    (case k23 => k_is)
    (case a24 => k_is)
    (case l24 => k_is)
    (case c24 => k_is)
    (case k24 => k_is)
    (case a25 => k_is)
    (case l25 => k_is)
    (case c25 => k_is)
    (case k25 => k_is)
    (case a26 => k_is)
    (case l26 => k_is)
    (case c26 => k_is)
    (case k26 => k_is)
    (case a27 => k_is)
    (case l27 => k_is)
    (case c27 => k_is)
    (case k27 => k_is)
    (case a28 => k_is)
    (case l28 => k_is)
    (case c28 => k_is)
    (case k28 => k_is)
    (case a29 => k_is)
    (case l29 => k_is)
    (case c29 => k_is)
    (case k29 => k_is)
    (case a30 => k_is)
    (case l30 => k_is)
    (case c30 => k_is)
    (case k30 => k_is)
    (case z0 => k_is)
    (case z1 => k_is)
    (case z2 => k_is)
    (case z3 => k_is)
    (case z4 => k_is)
    (case z5 => k_is)
    (case z6 => k_is)
    (case z7 => k_is)
    (case z8 => k_is)
    (case z9 => k_is)
