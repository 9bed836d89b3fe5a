import PyProof.Rows.All
import Wide.All
import OpenK.AllK
import Wide.FinOn
import Lean
import PyProof.EqAt
import PyProof.EqKinds
import PyProof.TupleCall
import PySem.Challenge.RW_rootspan_k27_narrowed
set_option Elab.async false
set_option linter.all false
set_option maxRecDepth 100000
def PySem.W.Fast.tw16775914733827620716 : Unit := ()
def PySem.W.Fast.tw8432520093164398764 : Unit := ()
def PySem.W.Fast.tw11433145643696711586 : Unit := ()
def PySem.W.Fast.tw7644729758006797649 : Unit := ()
def PySem.W.Fast.tw13710085666220788968 : Unit := ()
def PySem.W.Fast.tw16641141110808076865 : Unit := ()
def PySem.W.Fast.tw4366016712655551990 : Unit := ()
def PySem.W.Fast.tw17000980350091472538 : Unit := ()
def PySem.W.Fast.tw7335477006995209083 : Unit := ()
def PySem.W.Fast.tw11340589487323719827 : Unit := ()
def PySem.W.Fast.tw11797515091453140030 : Unit := ()
def PySem.W.Fast.tw11965217292828402375 : Unit := ()
def PySem.W.Fast.tw3382289758249429438 : Unit := ()
def PySem.W.Fast.tw12064274088650440441 : Unit := ()
def PySem.W.Fast.tw11872318850729477958 : Unit := ()
def PySem.W.Fast.tw1307098550379018465 : Unit := ()
def PySem.W.Fast.tw15708605854987054526 : Unit := ()
def PySem.W.Fast.tw15070328544924539309 : Unit := ()
def PySem.W.Fast.tw6047148051009900878 : Unit := ()
def PySem.W.Fast.tw6304916134679369063 : Unit := ()
def PySem.W.Fast.tw16890636911513691906 : Unit := ()
def PySem.W.Fast.tw7334407475511310815 : Unit := ()
def PySem.W.Fast.tw11236523596752703332 : Unit := ()
def PySem.W.Fast.tw15240140464728406966 : Unit := ()
def PySem.W.Fast.tw15439867489223545779 : Unit := ()
def PySem.W.Fast.tw9355840777083929665 : Unit := ()
def PySem.W.Fast.tw11341794557985225658 : Unit := ()
def PySem.W.Fast.tw6237794087989108001 : Unit := ()
def PySem.W.Fast.tw4408907624091710 : Unit := ()
def PySem.W.Fast.tw443393697415813256 : Unit := ()
def PySem.W.Fast.tw11047971474303714805 : Unit := ()
def PySem.W.Fast.tw5627537073263895654 : Unit := ()
def PySem.W.Fast.tw13314782066014088546 : Unit := ()
def PySem.W.Fast.tw18239056352946013283 : Unit := ()
/-! THE HAND LAYER, for ints, bools, texts, own classes, LISTS and tuples (index, slices, in, append, pop ..), calls, loops. Paste it whole ahead of your own text; what your proof does not reach may be deleted. -/
namespace L2
open PySem PySem.Spec PyProof.Rows

/-- a key: an int or a str -/
abbrev Key := Sum Int Str
def keyIs : Key → Value → Bool
  | .inl k, v => Value.isInt k v
  | .inr x, v => Value.isStrOf x v
def keyH (w : World) : Key → Int
  | .inl k => hashInt k
  | .inr x => hashStr w x
theorem keyIs_shape : ∀ {k : Key} {v : Value}, keyIs k v = true → (∃ i t, k = Sum.inl i ∧ v = Value.int i t) ∨ (∃ x t, k = Sum.inr x ∧ v = Value.str x t)
  | .inl i, v, h => by
    obtain ⟨t, e⟩ := Value.isInt_shape (k := i) (v := v) h
    exact .inl ⟨i, t, rfl, e⟩
  | .inr x, v, h => by
    obtain ⟨t, e⟩ := Value.isStrOf_shape (x := x) (v := v) h
    exact .inr ⟨x, t, rfl, e⟩
theorem key_ll (a b : Int) : decide ((Sum.inl a : Key) = Sum.inl b) = (a == b) := by
  by_cases e : a = b
  · subst e; simp
  · have h : ¬ (Sum.inl a : Key) = Sum.inl b := fun q => e (Sum.inl.inj q)
    rw [decide_eq_false h]
    exact (beq_eq_false_iff_ne.mpr e).symm
theorem key_rr (a b : Str) : decide ((Sum.inr a : Key) = Sum.inr b) = decide (a = b) := by
  by_cases e : a = b
  · subst e; simp
  · have h : ¬ (Sum.inr a : Key) = Sum.inr b := fun q => e (Sum.inr.inj q)
    rw [decide_eq_false h, decide_eq_false e]
theorem key_lr (a : Int) (b : Str) : decide ((Sum.inl a : Key) = Sum.inr b) = false := decide_eq_false (fun q => nomatch q)
theorem key_rl (a : Str) (b : Int) : decide ((Sum.inr a : Key) = Sum.inl b) = false := decide_eq_false (fun q => nomatch q)

def mixKind (prog : Program) (w : World) : PySem.KeyKind prog w Key where
  is := keyIs
  hash := keyH w
  inj := fun v a b ha hb => by
    rcases keyIs_shape ha with ⟨i, t, rfl, rfl⟩ | ⟨x, t, rfl, rfl⟩
    · rcases keyIs_shape hb with ⟨j, u, rfl, e⟩ | ⟨y, u, rfl, e⟩
      · injection e with e1 _; rw [e1]
      · exact nomatch e
    · rcases keyIs_shape hb with ⟨j, u, rfl, e⟩ | ⟨y, u, rfl, e⟩
      · exact nomatch e
      · injection e with e1 _; rw [e1]
  byValue := fun k v h => by
    rcases keyIs_shape h with ⟨i, t, rfl, rfl⟩ | ⟨x, t, rfl, rfl⟩ <;> rfl
  pyHash := fun hv h => by
    rcases keyIs_shape hv with ⟨i, t, rfl, rfl⟩ | ⟨x, t, rfl, rfl⟩
    · exact wpAny_pyHash_int h
    · exact wpAny_pyHash_str h
  eqBool := fun hu hv h => by
    rcases keyIs_shape hu with ⟨i, t, rfl, rfl⟩ | ⟨x, t, rfl, rfl⟩
    · rcases keyIs_shape hv with ⟨j, u, rfl, rfl⟩ | ⟨y, u, rfl, rfl⟩
      · rw [key_ll] at h; exact wpAny_eqBool_int h
      · rw [key_lr] at h; exact SeqAt.EqAt.int_str i t y u _ _ _ _ h
    · rcases keyIs_shape hv with ⟨j, u, rfl, rfl⟩ | ⟨y, u, rfl, rfl⟩
      · rw [key_rl] at h; exact SeqAt.EqAt.str_int x t j u _ _ _ _ h
      · rw [key_rr] at h; exact wpAny_eqBool_str h
  «strs» := fun k x t v h => by
    rcases keyIs_shape h with ⟨i, u, rfl, e⟩ | ⟨y, u, rfl, e⟩
    · exact nomatch e
    · injection e with e1 _
      subst e1
      cases v <;> rfl

end L2

namespace L2
open PySem PySem.Spec PyProof.Rows

/-- a value, without the heap -/
inductive V where
  | non | bl (b : Bool) | int (i : Int) | str (x : Str) | byt (b : Array UInt8) | flt (b : UInt64) | ref (a : Addr) | ty (n : String)
  deriving DecidableEq

def RelV : V → Value → Prop
  | .non, u => u = Value.none
  | .bl b, u => u = Value.bool b
  | .int i, u => ∃ t, u = Value.int i t
  | .str x, u => ∃ t, u = Value.str x t
  | .byt b, u => ∃ t, u = Value.bytes b t
  | .flt b, u => ∃ t, u = Value.float b t
  | .ref a, u => u = Value.ref a
  | .ty n, u => u = Value.type n

abbrev Vals : List V → List Value → Prop := Paired RelV
theorem Vals.length {xs : List V} {us : List Value} (r : Vals xs us) : xs.length = us.length := Paired.length r
theorem Vals.get : ∀ {xs : List V} {us : List Value} {i : Nat} {x : V}, Vals xs us → xs[i]? = some x → ∃ u, us[i]? = some u ∧ RelV x u
  | _, _, _, _, .nil, e => by simp at e
  | _, _, 0, _, .cons r _, e => by simp at e; subst e; exact ⟨_, rfl, r⟩
  | _, _, i + 1, x, .cons _ t, e => by
    obtain ⟨u, h1, h2⟩ := Vals.get (i := i) (x := x) t (by simpa using e)
    exact ⟨u, by simpa using h1, h2⟩
theorem Vals.set {x : V} {u : Value} (r : RelV x u) : ∀ {xs : List V} {us : List Value} (i : Nat), Vals xs us → Vals (xs.set i x) (us.set i u)
  | _, _, _, .nil => .nil
  | _, _, 0, .cons _ t => .cons r t
  | _, _, i + 1, .cons q t => .cons q (Vals.set r i t)
theorem Vals.append : ∀ {xs ys : List V} {us ws : List Value}, Vals xs us → Vals ys ws → Vals (xs ++ ys) (us ++ ws)
  | _, _, _, _, .nil, s => s
  | _, _, _, _, .cons r t, s => .cons r (Vals.append t s)
theorem Vals.take : ∀ {xs : List V} {us : List Value} (n : Nat), Vals xs us → Vals (xs.take n) (us.take n)
  | _, _, 0, _ => .nil
  | _, _, _ + 1, .nil => .nil
  | _, _, n + 1, .cons r t => .cons r (Vals.take n t)
theorem Vals.drop : ∀ {xs : List V} {us : List Value} (n : Nat), Vals xs us → Vals (xs.drop n) (us.drop n)
  | _, _, 0, r => r
  | _, _, _ + 1, .nil => .nil
  | _, _, n + 1, .cons _ t => Vals.drop n t
theorem Vals.none_of : ∀ {xs : List V} {us : List Value} {i : Nat}, Vals xs us → xs[i]? = none → us[i]? = none := fun {xs us i} r e => by
  have h1 := r.length
  have h2 : xs.length ≤ i := List.getElem?_eq_none_iff.mp e
  exact List.getElem?_eq_none_iff.mpr (by omega)

def RelO : Option V → Option Value → Prop
  | some v, some u => RelV v u
  | none, none => True
  | _, _ => False
def KV {κ : Type} : List (κ × V) → List (κ × Value) → Prop := Paired fun (p : κ × V) (q : κ × Value) => p.1 = q.1 ∧ RelV p.2 q.2

/-- a key of a dict (00_mix): an int or a text -/
def kV : Key → V
  | .inl i => .int i
  | .inr x => .str x

/-- what stands at a tracked address -/
inductive HO where
  /-- a list -/
  | lst (xs : List V)
  /-- a tuple (never changes) -/
  | tup (xs : List V)
  /-- a dict whose keys are ints and texts; one whose keys are tuples of ints and texts (the empty one is both) -/
  | dK (kvs : List (Key × V)) | dT (kvs : List (List Key × V))
  /-- a set of ints: its members, its size -/
  | set (S : Int → Bool) (n : Nat)
  /-- an instance of the class at C, its dict at dx, its attributes -/
  | ins (C dx : Addr) (fs : List (Str × V))
  /-- the dict of the instance at x -/
  | own (x : Addr)
  /-- the dict of an exception -/
  | xd (fs : List (Str × V))
  /-- a bound method, f of x -/
  | met (f x : Addr)
  /-- a range object lo, lo + 1, .. below hi -/
  | rng (lo hi : Int)
  /-- a thing that is known to the object (the script; a dict while a loop walks it): read, never written while it is so -/
  | frz (o : Obj) (u : HO)
  /-- a code object's table -/
  | tbl (ps : Array Value)
  /-- any other thing, by what is true of its one object (a def of one's own: SetO a S n := HO.ext fun h => ..) -/
  | ext (φ : Heap → Prop)

abbrev Hp := Addr → Option HO
def upd (H : Hp) (a : Addr) (o : HO) : Hp := fun b => if b = a then some o else H b
theorem upd_same {H : Hp} {a : Addr} {o : HO} : upd H a o a = some o := by unfold upd; rw [if_pos rfl]
theorem upd_ne {H : Hp} {a b : Addr} {o : HO} (h : b ≠ a) : upd H a o b = H b := by unfold upd; rw [if_neg h]
theorem upd_upd {H : Hp} {a : Addr} {o u : HO} : upd (upd H a o) a u = upd H a u := by
  funext b; unfold upd; split <;> rfl
theorem ne_of_none {H : Hp} {a b : Addr} {o : HO} (h : H a = some o) (h' : H b = none) : a ≠ b := by
  intro e; subst e; rw [h] at h'; cases h'

section
variable (P : Program) (w : World)
def ObjOk (H : Hp) (h : Heap) (a : Addr) : HO → Prop
  | .lst xs => xs.length ≤ sizeLine ∧ ∃ (its : List Value) (n : Nat), Vals xs its ∧ h.get? a = some { cls := .type "list", data := .seq its.toArray n }
  | .tup xs => xs.length ≤ sizeLine ∧ ∃ its : List Value, Vals xs its ∧ IsTup h a its.toArray
  | .dK kvs => kvs.length ≤ sizeLine ∧ (a == sysModules) = false ∧ ∃ vs, KV kvs vs ∧ h.DictOf (mixKind P w) a vs
  | .dT kvs => kvs.length ≤ sizeLine ∧ (a == sysModules) = false ∧ ∃ xs : List (List Key × Addr × Value),
      Paired (fun (p : List Key × V) (q : List Key × Addr × Value) => p.1 = q.1 ∧ H q.2.1 = some (.tup (p.1.map kV)) ∧ RelV p.2 q.2.2) kvs xs ∧
      ∃ o es ep, h.get? a = some o ∧ o.ExactDict ∧ o.data = .dict es ep ∧ es.toList = xs.map (entryOfKey (tupleKind (mixKind P w))) ∧ (xs.map (·.1)).Nodup
  | .set S n => h.SetOf (intKind P w) a S n
  | .ins C dx fs => H dx = some (.own a) ∧ fs.length ≤ 1000 ∧ dx ≠ a ∧ h.get? a = some (PySem.W.instObj C dx) ∧
      ∃ mA, h.Ns1 dx mA ∧ (∀ f, RelO (fs.lookup f) (mA f)) ∧ PySem.Within mA (fs.map (·.1))
  | .own _ => ∃ o, h.get? a = some o
  | .xd fs => ∃ mA, h.Ns1 a mA ∧ ∀ f, RelO (fs.lookup f) (mA f)
  | .rng lo hi => ∃ t u v, h.get? a = some { cls := .type "range", data := .fields #[.int lo t, .int hi u, .int 1 v] }
  | .frz o u => h.get? a = some o ∧ ObjOk H h a u
  | .tbl ps => h.get? a = some { cls := .none, data := .fields ps }
  | .met f x => h.get? a = some (PySem.W.methodObj (.ref f) (.ref x))
  | .ext φ => φ h ∧ (∃ o, h.get? a = some o) ∧ ∀ h1 h2 : Heap, φ h1 → (∀ o, h1.get? a = some o → h2.get? a = some o) → φ h2
/-- the abstract heap is held -/
def HOk (H : Hp) (h : Heap) : Prop := ∀ a o, H a = some o → ObjOk P w H h a o
end

section
variable {P : Program} {w : World} {H H' : Hp} {h h' : Heap} {a : Addr} {o : HO}
theorem ObjOk.lt (x : ObjOk P w H h a o) : a < h.objs.size := by
  cases o with
  | lst xs => obtain ⟨_, _, _, _, e⟩ := x; exact Heap.lt_size e
  | tup xs => obtain ⟨_, _, _, p⟩ := x; exact p.lt
  | dK kvs => obtain ⟨_, _, _, _, o, _, _, e, _⟩ := x; exact Heap.lt_size e
  | dT kvs => obtain ⟨_, _, _, _, o, _, _, e, _⟩ := x; exact Heap.lt_size e
  | set S n => obtain ⟨o, _, _, _, e, _⟩ := x; exact Heap.lt_size e
  | ins C dx fs => obtain ⟨_, _, _, e, _⟩ := x; exact Heap.lt_size e
  | own y => obtain ⟨_, e⟩ := x; exact Heap.lt_size e
  | xd fs => obtain ⟨_, ⟨_, _, _, e, _⟩, _⟩ := x; exact Heap.lt_size e
  | rng lo hi => obtain ⟨_, _, _, e⟩ := x; exact Heap.lt_size e
  | frz ob u => obtain ⟨e, _⟩ := x; exact Heap.lt_size e
  | tbl ps => exact Heap.lt_size (show h.get? a = some _ from x)
  | met f y => exact Heap.lt_size (show h.get? a = some _ from x)
  | ext φ => obtain ⟨_, ⟨_, e⟩, _⟩ := x; exact Heap.lt_size e
theorem Paired.mapP {α β : Type} {F G : α → β → Prop} : ∀ {l₁ : List α} {l₂ : List β}, Paired F l₁ l₂ → (∀ a b, F a b → G a b) → Paired G l₁ l₂
  | _, _, .nil, _ => .nil
  | _, _, .cons r t, f => .cons (f _ _ r) (Paired.mapP t f)
/-- what an object's description leans on: its own object, its own dict, the tuples -/
theorem ObjOk.stay (x : ObjOk P w H h a o) (k : ∀ b u, (b = a ∨ H b = some (.own a)) → h.get? b = some u → h'.get? b = some u)
    (ho : ∀ b, H b = some (.own a) → H' b = some (.own a)) (ht : ∀ b xs, H b = some (.tup xs) → H' b = some (.tup xs)) : ObjOk P w H' h' a o := by
  induction o with
  | lst xs => obtain ⟨z, its, n, r, e⟩ := x; exact ⟨z, its, n, r, k _ _ (.inl rfl) e⟩
  | tup xs => obtain ⟨z, its, r, ob, e, c⟩ := x; exact ⟨z, its, r, ob, k _ _ (.inl rfl) e, c⟩
  | dK kvs => obtain ⟨z, y, vs, r, ob, es, ep, e, c⟩ := x; exact ⟨z, y, vs, r, ob, es, ep, k _ _ (.inl rfl) e, c⟩
  | dT kvs =>
    obtain ⟨z, y, xs, r, ob, es, ep, e, c⟩ := x
    exact ⟨z, y, xs, Paired.mapP r fun p q z => ⟨z.1, ht _ _ z.2.1, z.2.2⟩, ob, es, ep, k _ _ (.inl rfl) e, c⟩
  | set S n => obtain ⟨ob, es, ep, t, e, c⟩ := x; exact ⟨ob, es, ep, t, k _ _ (.inl rfl) e, c⟩
  | ins C dx fs =>
    obtain ⟨d, z, ne, e, mA, ⟨od, es, ep, e2, c⟩, r⟩ := x
    exact ⟨ho _ d, z, ne, k _ _ (.inl rfl) e, mA, ⟨od, es, ep, k _ _ (.inr d) e2, c⟩, r⟩
  | own y => obtain ⟨ob, e⟩ := x; exact ⟨ob, k _ _ (.inl rfl) e⟩
  | xd fs => obtain ⟨mA, ⟨od, es, ep, e, c⟩, r⟩ := x; exact ⟨mA, ⟨od, es, ep, k _ _ (.inl rfl) e, c⟩, r⟩
  | rng lo hi => obtain ⟨t, u, v, e⟩ := x; exact ⟨t, u, v, k _ _ (.inl rfl) e⟩
  | frz ob u ih => obtain ⟨e, q⟩ := x; exact ⟨k _ _ (.inl rfl) e, ih q⟩
  | tbl ps =>
    have e : h.get? a = some { cls := .none, data := .fields ps } := x
    show h'.get? a = some { cls := .none, data := .fields ps }
    exact k a _ (.inl rfl) e
  | met f y =>
    have e : h.get? a = some (PySem.W.methodObj (.ref f) (.ref y)) := x
    show h'.get? a = some (PySem.W.methodObj (.ref f) (.ref y))
    exact k a _ (.inl rfl) e
  | ext φ => obtain ⟨p, ⟨o, e⟩, st⟩ := x; exact ⟨st _ _ p fun o q => k _ _ (.inl rfl) q, ⟨o, k _ _ (.inl rfl) e⟩, st⟩
theorem HOk.lt (x : HOk P w H h) (e : H a = some o) : a < h.objs.size := (x a o e).lt
theorem HOk.fresh (x : HOk P w H h) (e : h.objs.size ≤ a) : H a = none := by
  cases q : H a with
  | none => rfl
  | some u => exact absurd (Nat.lt_of_lt_of_le (x.lt q) e) (Nat.lt_irrefl _)
/-- every object of the heap is kept -/
theorem HOk.kept (x : HOk P w H h) (k : ∀ b u, h.get? b = some u → h'.get? b = some u) : HOk P w H h' := fun a o e =>
  (x a o e).stay (fun b u _ q => k b u q) (fun _ q => q) fun _ _ q => q
/-- a new object is laid and tracked -/
theorem HOk.laid (x : HOk P w H h) (k : ∀ b u, h.get? b = some u → h'.get? b = some u) (hp : h.objs.size ≤ a) (new : ObjOk P w (upd H a o) h' a o) : HOk P w (upd H a o) h' := fun b u e => by
  have hn := x.fresh hp
  by_cases hb : b = a
  · subst hb; rw [upd_same] at e; cases e; exact new
  · rw [upd_ne hb] at e
    exact (x b u e).stay (fun c v _ q => k c v q) (fun c q => by rw [upd_ne (ne_of_none q hn)]; exact q) fun c xs q => by rw [upd_ne (ne_of_none q hn)]; exact q
end

/-- what may be read as u: it is u, or a known u -/
def Rd (H : Hp) (a : Addr) (u : HO) : Prop := H a = some u ∨ ∃ o, H a = some (.frz o u)
theorem Rd.of {H : Hp} {a : Addr} {u : HO} (h : H a = some u) : Rd H a u := .inl h
theorem Rd.ok {P : Program} {w : World} {H : Hp} {h : Heap} {a : Addr} {u : HO} (r : Rd H a u) (x : HOk P w H h) : ObjOk P w H h a u := by
  rcases r with r | ⟨o, r⟩
  · exact x a u r
  · obtain ⟨_, q⟩ := x a _ r
    exact q
/-- what may be written -/
def Mut : Option HO → Prop
  | some (.lst _) => True
  | some (.dK _) => True
  | some (.dT _) => True
  | some (.set _ _) => True
  | some (.ins _ _ _) => True
  | some (.ext _) => True
  | _ => False
section
variable {P : Program} {w : World} {H : Hp} {h h' : Heap} {x e : Addr} {o' : HO}
/-- the object at e is changed: x itself, or the dict of the instance x -/
theorem HOk.write (ok : HOk P w H h) (mu : Mut (H x)) (he : e = x ∨ H e = some (.own x)) (k : ∀ b u, b ≠ e → h.get? b = some u → h'.get? b = some u) (heo : ∃ u, h'.get? e = some u)
    (new : ObjOk P w (upd H x o') h' x o') : HOk P w (upd H x o') h' := fun b u q => by
  have nown : ∀ c y, H c = some (.own y) → c ≠ x := fun c y r z => by subst z; rw [r] at mu; exact mu
  have ntup : ∀ c xs, H c = some (.tup xs) → c ≠ x := fun c xs r z => by subst z; rw [r] at mu; exact mu
  by_cases hb : b = x
  · subst hb; rw [upd_same] at q; cases q; exact new
  · rw [upd_ne hb] at q
    by_cases hbe : b = e
    · have q' : H b = some (.own x) := by
        rcases he with z | z
        · exact absurd (hbe.trans z) hb
        · rw [hbe]; exact z
      rw [q] at q'; cases q'
      obtain ⟨v, hv⟩ := heo
      exact ⟨v, by rw [hbe]; exact hv⟩
    · refine (ok b u q).stay (fun c v hc r => k c v ?_ r) (fun c r => by rw [upd_ne (nown c b r)]; exact r) fun c xs r => by rw [upd_ne (ntup c xs r)]; exact r
      rcases hc with rfl | hc
      · exact hbe
      · rintro rfl
        rcases he with z | z
        · exact nown c b hc z
        · rw [hc] at z; cases z; exact hb rfl
end

/-! ### kept unless tracked; of the frames at fs (the callers') the slots may change (an exception that passes writes there); of the records at ex (iterators) nothing is said -/
structure Un (fs ex : List Addr) (H H' : Hp) (h h' : Heap) : Prop where
  keep : ∀ b o, h.get? b = some o → H b = none → b ∉ fs → b ∉ ex → h'.get? b = some o
  slot : ∀ b o, h.get? b = some o → H b = none → b ∈ fs → b ∉ ex → ∃ sl, h'.get? b = some { o with slots := sl }
  free : ∀ b o, h.get? b = some o → H b = none → b ∉ ex → H' b = none
  there : ∀ b o, h.get? b = some o → b ∉ ex → ∃ o', h'.get? b = some o'
  tups : ∀ b xs, H b = some (.tup xs) → H' b = some (.tup xs)
  frzs : ∀ b o u, H b = some (.frz o u) → H' b = some (.frz o u)
  tbls : ∀ b ps, H b = some (.tbl ps) → ∃ more, H' b = some (.tbl (ps ++ more))
section
variable {fs fs' ex ex' : List Addr} {H H1 H2 : Hp} {h h1 h2 h' : Heap} {a x e : Addr} {o : HO}
theorem Un.any (u : Un fs ex H H1 h h1) {b : Addr} {ob : Obj} (q : h.get? b = some ob) (n : H b = none) (hx : b ∉ ex) : ∃ sl, h1.get? b = some { ob with slots := sl } := by
  by_cases hb : b ∈ fs
  · exact u.slot b ob q n hb hx
  · exact ⟨ob.slots, u.keep b ob q n hb hx⟩
theorem Un.trans (a : Un fs ex H H1 h h1) (b : Un fs ex H1 H2 h1 h2) : Un fs ex H H2 h h2 where
  keep := fun c ob q n hc hx => b.keep c ob (a.keep c ob q n hc hx) (a.free c ob q n hx) hc hx
  slot := fun c ob q n hc hx => by
    obtain ⟨sl, e1⟩ := a.slot c ob q n hc hx
    obtain ⟨sl', e2⟩ := b.slot c _ e1 (a.free c ob q n hx) hc hx
    exact ⟨sl', e2⟩
  free := fun c ob q n hx => by
    obtain ⟨o', e1⟩ := a.there c ob q hx
    exact b.free c o' e1 (a.free c ob q n hx) hx
  there := fun c ob q hx => by
    obtain ⟨o', e1⟩ := a.there c ob q hx
    exact b.there c o' e1 hx
  tups := fun c xs q => b.tups c xs (a.tups c xs q)
  frzs := fun c ob xs q => b.frzs c ob xs (a.frzs c ob xs q)
  tbls := fun c ps q => by
    obtain ⟨m1, e1⟩ := a.tbls c ps q
    obtain ⟨m2, e2⟩ := b.tbls c _ e1
    exact ⟨m1 ++ m2, by rw [e2, Array.append_assoc]⟩
theorem Un.kept (k : ∀ b u, h.get? b = some u → h'.get? b = some u) : Un fs ex H H h h' :=
  ⟨fun b ob q _ _ _ => k b ob q, fun b ob q _ _ _ => ⟨ob.slots, k b ob q⟩, fun _ _ _ n _ => n, fun b ob q _ => ⟨ob, k b ob q⟩, fun _ _ q => q, fun _ _ _ q => q, fun _ ps q => ⟨#[], by rw [q]; simp⟩⟩
theorem Un.refl : Un fs ex H H h h := Un.kept fun _ _ q => q
theorem Un.laid (k : ∀ b u, h.get? b = some u → h'.get? b = some u) (hp : h.objs.size ≤ a) (hn : H a = none) : Un fs ex H (upd H a o) h h' where
  keep := fun b u q _ _ _ => k b u q
  slot := fun b u q _ _ _ => ⟨u.slots, k b u q⟩
  free := fun b u q n _ => by rw [upd_ne (Nat.ne_of_lt (Nat.lt_of_lt_of_le (Heap.lt_size q) hp))]; exact n
  there := fun b u q _ => ⟨u, k b u q⟩
  tups := fun b xs q => by rw [upd_ne (ne_of_none q hn)]; exact q
  frzs := fun b u xs q => by rw [upd_ne (ne_of_none q hn)]; exact q
  tbls := fun b ps q => ⟨#[], by rw [upd_ne (ne_of_none q hn), q]; simp⟩
theorem Un.write (mu : Mut (H x)) (he : e = x ∨ H e = some (.own x)) (k : ∀ b u, b ≠ e → h.get? b = some u → h'.get? b = some u) (heo : ∃ u, h'.get? e = some u) : Un fs ex H (upd H x o) h h' := by
  have hx : ∀ b, H b = none → b ≠ x := fun b n z => by subst z; rw [n] at mu; exact mu
  have hb : ∀ b, H b = none → b ≠ e := fun b n z => by
    subst z
    rcases he with r | r
    · exact hx b n r
    · rw [n] at r; cases r
  have hm : ∀ b u, H b = some u → ¬ Mut (some u) → b ≠ x := fun b u q nm z => by subst z; rw [q] at mu; exact nm mu
  refine ⟨fun b u q n _ _ => k b u (hb b n) q, fun b u q n _ _ => ⟨u.slots, k b u (hb b n) q⟩, fun b u q n _ => by rw [upd_ne (hx b n)]; exact n, fun b u q _ => ?_,
    fun b xs q => by rw [upd_ne (hm b _ q fun z => z)]; exact q, fun b u xs q => by rw [upd_ne (hm b _ q fun z => z)]; exact q, fun b ps q => ⟨#[], by rw [upd_ne (hm b _ q fun z => z), q]; simp⟩⟩
  by_cases hbe : b = e
  · subst hbe; exact heo
  · exact ⟨u, k b u hbe q⟩
theorem Un.mono (u : Un fs ex H H1 h h1) (hs : ∀ b ∈ fs, b ∈ fs') (hx : ∀ b ∈ ex, b ∈ ex') : Un fs' ex' H H1 h h1 :=
  ⟨fun b ob q n hb he => u.keep b ob q n (fun z => hb (hs b z)) fun z => he (hx b z), fun _ _ q n _ he => u.any q n fun z => he (hx _ z), fun b ob q n he => u.free b ob q n fun z => he (hx b z), fun b ob q he => u.there b ob q fun z => he (hx b z), u.tups, u.frzs, u.tbls⟩
end

/-! ### the heap without what is tracked -/
def trk (h : Heap) (H : Hp) : List Addr := (List.range h.objs.size).filter fun a => (H a).isSome
def hidT (h : Heap) (H : Hp) : Heap := PySem.W.hideAll h (trk h H)
theorem hidT_size (h : Heap) (H : Hp) : (hidT h H).objs.size = h.objs.size := PySem.W.hideAll_size _ _
theorem hidT_get {h : Heap} {H : Hp} {b : Addr} {o : Obj} (e : h.get? b = some o) (n : H b = none) : (hidT h H).get? b = some o :=
  PySem.W.hideAll_get _ e fun hm => by
    have q : (H b).isSome = true := (List.mem_filter.mp hm).2
    rw [n] at q; simp at q
theorem of_hidT {h : Heap} {H : Hp} {b : Addr} {o : Obj} (e : (hidT h H).get? b = some o) : h.get? b = some o ∧ H b = none := by
  have e' : h.get? b = some o := PySem.W.of_hideAll (trk h H) e
  refine ⟨e', ?_⟩
  cases q : H b with
  | none => rfl
  | some x =>
    have hm : b ∈ trk h H := List.mem_filter.mpr ⟨List.mem_range.mpr (Heap.lt_size e'), by simp [q]⟩
    have z : (hidT h H).get? b = none := PySem.W.hideAll_none (trk h H) hm
    rw [z] at e; cases e

/-! ### OpenK's ledger, filled with every new object but one -/
def allNews (g h : Heap) (L : Addr) : List (Addr × Obj) := (List.range h.objs.size).filterMap fun a => if a = L ∨ (g.get? a).isSome = true then none else (h.get? a).map fun o => (a, o)
def rest (g h : Heap) (L d : Addr) : List (Addr × Obj) := (allNews g h L).filter fun p => decide (p.1 ≠ d)
end L2

namespace L2
open PySem PySem.Spec PyProof.Rows

/-- the module's facts, over the base: the heap at the law's entry without what is tracked there -/
structure Mod (K : PySem.W.Frag) (mg : Str → Option Value) (base : Heap) : Prop where
  kin : K.In base
  glob : base.Ns mainGlobals mg
  blt : ∃ mb, base.Ns builtinsNs mb ∧ ∀ x : Str, x ≠ "__name__" → mb x = bootBuiltins x
  nolimit : base.NoLimit

/-- the context: a def's body (or a comprehension's block) running. base: fixed through the whole law; s₀, H₀: the entry; outer: the frames whose slots others may change (a def's callers); stack: all frames that run;
   ex: iterators that were made ahead of the entry and are walked here (a comprehension's); fn: the names whose cells were made at the entry (a def: all; a comprehension's block: its own); calm: not within an except suite; pn: pins that every state bears; xe: what is wanted of an exception that leaves the code -/
structure Cx where
  prog : Program
  w : World
  K : PySem.W.Frag
  mg : Str → Option Value
  base : Heap
  A : Around
  N : List Str
  s₀ : Shared
  H₀ : Hp
  env : Env
  outer : List Env
  stack : List Env
  ex : List Addr
  fn : Str → Bool
  calm : Bool
  pn : List (Addr × Obj)
  xe : Value → Shared → Prop
/-- the callers' frames -/
def frs (l : List Env) : List Addr := l.filterMap (·.frame)
abbrev Cx.fs (X : Cx) : List Addr := frs X.outer

def Vis (sc : Scope) (x : Str) : Prop := sc.names.lookup x = some .local ∨ sc.names.lookup x = some .cell ∨ sc.names.lookup x = some .free
def Loc (sc : Scope) (x : Str) : Prop := sc.names.lookup x = some .local ∨ sc.names.lookup x = some .cell
def Look (env : Env) (h : Heap) (m : Str → Option Value) (x : Str) (u : Value) : Prop :=
  (env.kindOf x = some .local ∧ m x = some u) ∨ ((env.kindOf x = some .cell ∨ env.kindOf x = some .free) ∧ ∃ c, env.cells.lookup x = some c ∧ h.IsCell c (some u))

structure Cx.Ok (X : Cx) : Prop where
  mod : Mod X.K X.mg X.base
  kind : X.env.scope.kind = .function
  glob : X.env.globals = mainGlobals
  blt : X.env.builtins = builtinsNs
  above : X.s₀.heap.objs.size ≤ X.env.locals
  inj : ∀ x y c, X.env.cells.lookup x = some c → X.env.cells.lookup y = some c → x = y
  has : ∀ x, (X.env.kindOf x = some .cell ∨ X.env.kindOf x = some .free) → ∃ c, X.env.cells.lookup x = some c
  cab : ∀ x c, X.fn x = true → X.env.cells.lookup x = some c → X.s₀.heap.objs.size ≤ c
  hd : X.calm = true → X.A.handled = none
  frames : X.A.frames = some X.stack
  stk : X.stack = X.outer ∨ (X.stack = X.env :: X.outer ∧ X.env.frame = some X.env.locals)
  exf : ∀ b ∈ X.ex, b ≠ X.env.locals ∧ ∀ x c, X.env.cells.lookup x = some c → c ≠ b
  bs : ∀ b o, X.base.get? b = some o → X.s₀.heap.get? b = some o ∧ X.H₀ b = none
  bsz : X.base.objs.size ≤ X.s₀.heap.objs.size
  noex : ∀ b o, X.base.get? b = some o → b ∉ X.ex
  exfs : ∀ b ∈ X.ex, b ∉ X.fs
  funs : X.s₀.heap.FunFrames X.base X.outer
  frf : ∀ b ∈ X.fs, X.H₀ b = none

structure Inv (X : Cx) (pins : List (Addr × Obj)) (σ : List (Option V)) (H : Hp) (s : Shared) : Prop where
  ok : X.Ok
  os : s.os = X.s₀.os
  bare : AllBare s.gens
  base : Un X.fs X.ex X.H₀ H X.s₀.heap s.heap
  loc : ∃ m, s.heap.Ns X.env.locals m ∧ ∀ (i : Nat) (x : Str) (v : V), X.N[i]? = some x → σ[i]? = some (some v) → Vis X.env.scope x → ∃ u, RelV v u ∧ Look X.env s.heap m x u
  cell : ∀ x c, X.env.cells.lookup x = some c → ∃ v, s.heap.IsCell c v
  free : H X.env.locals = none
  freeC : ∀ x c, X.env.cells.lookup x = some c → H c = none
  pin : ∀ p ∈ X.pn ++ pins, s.heap.get? p.1 = some p.2 ∧ H p.1 = none ∧ p.1 ≠ X.env.locals ∧ p.1 ∉ X.fs ∧ ∀ v, p.2.data ≠ .cell v
  hok : HOk X.prog X.w H s.heap
  len : σ.length = X.N.length

section
variable {X : Cx} {pins : List (Addr × Obj)} {σ : List (Option V)} {H H' : Hp} {s : Shared} {h' : Heap}

theorem Cx.Ok.nofr (ok : X.Ok) {b : Addr} {o : Obj} (e : X.base.get? b = some o) : b ∉ X.fs := fun hb => by
  have := (ok.funs.mem hb).1
  rw [e] at this; cases this
theorem Inv.bs (I : Inv X pins σ H s) : ∀ b o, X.base.get? b = some o → s.heap.get? b = some o ∧ H b = none := fun b o e =>
  ⟨I.base.keep b o (I.ok.bs b o e).1 (I.ok.bs b o e).2 (I.ok.nofr e) (I.ok.noex b o e), I.base.free b o (I.ok.bs b o e).1 (I.ok.bs b o e).2 (I.ok.noex b o e)⟩
theorem Inv.bk (I : Inv X pins σ H s) : ∀ b o, X.base.get? b = some o → s.heap.get? b = some o := fun b o e => (I.bs b o e).1
theorem Inv.mod (I : Inv X pins σ H s) : Mod X.K X.mg X.base := I.ok.mod
theorem Inv.kIn (I : Inv X pins σ H s) : X.K.In s.heap := I.ok.mod.kin.keeps I.bk
theorem Inv.nolimit (I : Inv X pins σ H s) : s.heap.NoLimit := I.ok.mod.nolimit.keeps I.bk
/-- the frame over the base: for OpenK's rules (K.In X.base is I.mod.kin) -/
theorem Inv.fr (I : Inv X pins σ H s) : ∃ m, Fr X.base X.env.locals s.heap m :=
  let ⟨m, hn, _⟩ := I.loc
  ⟨m, hn, I.bk, Nat.le_trans I.ok.bsz I.ok.above⟩
theorem Inv.lt (I : Inv X pins σ H s) : X.env.locals < s.heap.objs.size := let ⟨_, hn, _⟩ := I.loc; hn.lt
theorem Inv.sz (I : Inv X pins σ H s) : X.s₀.heap.objs.size ≤ s.heap.objs.size := Nat.le_trans I.ok.above (Nat.le_of_lt I.lt)
theorem Inv.nofs (I : Inv X pins σ H s) {a : Addr} (h : s.heap.objs.size ≤ a) : a ∉ X.fs := fun hb => by
  obtain ⟨_, o, ho, _⟩ := I.ok.funs.mem hb
  exact absurd (Nat.lt_of_lt_of_le (Heap.lt_size ho) (Nat.le_trans I.sz h)) (Nat.lt_irrefl _)
theorem Inv.cne (I : Inv X pins σ H s) : ∀ x c, X.env.cells.lookup x = some c → c ≠ X.env.locals := fun x c e z => by
  obtain ⟨v, o, ho, hd⟩ := I.cell x c e
  obtain ⟨m, ⟨o', es, ep, ho', hd', _⟩, _⟩ := I.loc
  rw [z, ho'] at ho; cases ho; rw [hd'] at hd; cases hd
theorem Inv.funs (I : Inv X pins σ H s) : s.heap.FunFrames X.base X.outer := by
  have all : ∀ (l : List Env), (∀ b ∈ frs l, b ∈ X.fs) → X.s₀.heap.FunFrames X.base l → s.heap.FunFrames X.base l := by
    intro l
    induction l with
    | nil => intro _ _; trivial
    | cons env r ih =>
      intro hs hl
      obtain ⟨hk, ⟨L, o, hf, hn, ho, hd⟩, hr⟩ := hl
      have hL : L ∈ X.fs := hs L (by unfold frs; rw [List.filterMap_cons, hf]; exact List.mem_cons_self)
      obtain ⟨sl, e⟩ := I.base.slot L o ho (I.ok.frf L hL) hL fun z => I.ok.exfs L z hL
      exact ⟨hk, ⟨L, _, hf, hn, e, hd⟩, ih (fun b hb => hs b (by unfold frs; rw [List.filterMap_cons, hf]; exact List.mem_cons_of_mem _ hb)) hr⟩
  exact all X.outer (fun _ hb => hb) I.ok.funs

/-- the frames that run, for a call -/
theorem Inv.stack (I : Inv X pins σ H s) : s.heap.FunFrames X.base X.stack := by
  rcases I.ok.stk with e | ⟨e, hf⟩
  · rw [e]; exact I.funs
  · rw [e]
    obtain ⟨m, hn, _⟩ := I.loc
    refine .cons (by rw [I.ok.kind]; decide) hf hn ?_ I.funs
    exact Heap.get?_none_of_le (Nat.le_trans I.ok.bsz I.ok.above)
theorem Inv.stkSub (I : Inv X pins σ H s) : ∀ b ∈ frs X.stack, b ∈ X.env.locals :: X.fs := fun b hb => by
  rcases I.ok.stk with e | ⟨e, hf⟩
  · rw [e] at hb; exact List.mem_cons_of_mem _ hb
  · rw [e] at hb
    unfold frs at hb
    rw [List.filterMap_cons, hf] at hb
    exact hb
theorem Inv.stkFree (I : Inv X pins σ H s) : ∀ b ∈ frs X.stack, H b = none := fun b hb => by
  rcases List.mem_cons.mp (I.stkSub b hb) with e | hb
  · rw [e]; exact I.free
  · obtain ⟨_, o, ho, _⟩ := I.ok.funs.mem hb
    exact I.base.free b o ho (I.ok.frf b hb) fun z => I.ok.exfs b z hb

/-- THE STEP: the untracked objects but the frame and the records at ch are kept (the callers' frames up to slots), the frame's map is kept, the new abstract heap is held -/
theorem Inv.step {g' : Array GenState} {t' : Nat} {d' : Drawn} {ch : List Addr} (I : Inv X pins σ H s)
    (hch : ∀ b ∈ ch, (b ∈ X.ex ∨ X.s₀.heap.objs.size ≤ b) ∧ b ≠ X.env.locals ∧ (∀ x c, X.env.cells.lookup x = some c → c ≠ b) ∧ ∀ p ∈ X.pn ++ pins, p.1 ≠ b)
    (keep : ∀ b o, b ≠ X.env.locals → b ∉ X.fs → b ∉ ch → s.heap.get? b = some o → H b = none → h'.get? b = some o)
    (slot : ∀ b o, b ≠ X.env.locals → b ∈ X.fs → b ∉ ch → s.heap.get? b = some o → H b = none → ∃ sl, h'.get? b = some { o with slots := sl }) (free : ∀ b o, b ∉ ch → s.heap.get? b = some o → H b = none → H' b = none)
    (there : ∀ b o, b ∉ ch → s.heap.get? b = some o → ∃ o', h'.get? b = some o')
    (tups : ∀ b xs, H b = some (.tup xs) → H' b = some (.tup xs)) (frzs : ∀ b o u, H b = some (.frz o u) → H' b = some (.frz o u)) (tbls : ∀ b ps, H b = some (.tbl ps) → ∃ more, H' b = some (.tbl (ps ++ more)))
    (ns : ∀ m, s.heap.Ns X.env.locals m → h'.Ns X.env.locals m) (hok : HOk X.prog X.w H' h') (hg : AllBare g') :
    Inv X pins σ H' { s with heap := h', gens := g', drawn := d', toks := t' } := by
  have neL : ∀ b o, X.s₀.heap.get? b = some o → b ≠ X.env.locals := fun b o e => Nat.ne_of_lt (Nat.lt_of_lt_of_le (Heap.lt_size e) I.ok.above)
  have neC : ∀ b o, X.s₀.heap.get? b = some o → b ∉ X.ex → b ∉ ch := fun b o e hx hb => by
    rcases (hch b hb).1 with z | z
    · exact hx z
    · exact absurd (Nat.lt_of_lt_of_le (Heap.lt_size e) z) (Nat.lt_irrefl _)
  have cellK : ∀ x c, X.env.cells.lookup x = some c → ∀ v, s.heap.IsCell c v → h'.IsCell c v := fun x c e v ⟨o, ho, hd⟩ => by
    have nch : c ∉ ch := fun z => (hch c z).2.2.1 x c e rfl
    by_cases hc : c ∈ X.fs
    · obtain ⟨sl, q⟩ := slot c o (I.cne x c e) hc nch ho (I.freeC x c e)
      exact ⟨_, q, hd⟩
    · exact ⟨o, keep c o (I.cne x c e) hc nch ho (I.freeC x c e), hd⟩
  refine ⟨I.ok, I.os, hg, ⟨fun b o e n hb hx => ?_, fun b o e n hb hx => ?_, fun b o e n hx => ?_, fun b o e hx => ?_, fun b xs e => tups b xs (I.base.tups b xs e), fun b o xs e => frzs b o xs (I.base.frzs b o xs e), fun b ps e => ?_⟩, ?_, fun x c e => ?_, ?_, fun x c e => ?_, fun p hp => ?_, hok, I.len⟩
  · exact keep b o (neL b o e) hb (neC b o e hx) (I.base.keep b o e n hb hx) (I.base.free b o e n hx)
  · obtain ⟨sl, e1⟩ := I.base.slot b o e n hb hx
    obtain ⟨sl', e2⟩ := slot b _ (neL b o e) hb (neC b o e hx) e1 (I.base.free b o e n hx)
    exact ⟨sl', e2⟩
  · obtain ⟨o', e1⟩ := I.base.there b o e hx
    exact free b o' (neC b o e hx) e1 (I.base.free b o e n hx)
  · obtain ⟨o', e1⟩ := I.base.there b o e hx
    exact there b o' (neC b o e hx) e1
  · obtain ⟨m1, e1⟩ := I.base.tbls b ps e
    obtain ⟨m2, e2⟩ := tbls b _ e1
    exact ⟨m1 ++ m2, by rw [e2, Array.append_assoc]⟩
  · obtain ⟨m, hn, hl⟩ := I.loc
    refine ⟨m, ns m hn, fun i x v e1 e2 e3 => ?_⟩
    obtain ⟨u, r, l⟩ := hl i x v e1 e2 e3
    refine ⟨u, r, ?_⟩
    rcases l with l | ⟨k, c, e, z⟩
    · exact .inl l
    · exact .inr ⟨k, c, e, cellK x c e _ z⟩
  · obtain ⟨v, z⟩ := I.cell x c e
    exact ⟨v, cellK x c e v z⟩
  · obtain ⟨m, ⟨o, _, _, ho, _⟩, _⟩ := I.loc
    exact free _ o (fun z => (hch _ z).2.1 rfl) ho I.free
  · obtain ⟨v, o, ho, hd⟩ := I.cell x c e
    exact free c o (fun z => (hch c z).2.2.1 x c e rfl) ho (I.freeC x c e)
  · obtain ⟨e, n, ne, nf, d⟩ := I.pin p hp
    have nch : p.1 ∉ ch := fun z => (hch p.1 z).2.2.2 p hp rfl
    exact ⟨keep p.1 p.2 ne nf nch e n, free p.1 p.2 nch e n, ne, nf, d⟩
/-- .. where the frame's own object is kept too -/
theorem Inv.un {t' : Nat} (I : Inv X pins σ H s) (u : Un X.fs [] H H' s.heap h') (hok : HOk X.prog X.w H' h') : Inv X pins σ H' { s with heap := h', toks := t' } := by
  obtain ⟨m, ⟨o, es, ep, ho, r⟩, _⟩ := id I.loc
  obtain ⟨sl, hL⟩ := u.any ho I.free (by simp)
  exact I.step (g' := s.gens) (d' := s.drawn) (ch := []) (fun _ z => nomatch z) (fun b o _ hb _ e n => u.keep b o e n hb (by simp)) (fun b o _ hb _ e n => u.slot b o e n hb (by simp)) (fun b o _ e n => u.free b o e n (by simp)) (fun b o _ e => u.there b o e (by simp)) u.tups u.frzs u.tbls (fun m' hm => by
    obtain ⟨o', es', ep', ho', r'⟩ := hm
    rw [ho] at ho'; cases ho'
    exact ⟨_, es', ep', hL, r'⟩) hok I.bare
/-- behind a call (or a comprehension's block): the slots of this frame may have changed too, the records at ch may have turned -/
theorem Inv.call {g' : Array GenState} {t' : Nat} {d' : Drawn} {ch : List Addr} (I : Inv X pins σ H s) (u : Un (frs X.stack) ch H H' s.heap h') (hok : HOk X.prog X.w H' h') (hg : AllBare g')
    (hch : ∀ b ∈ ch, (b ∈ X.ex ∨ X.s₀.heap.objs.size ≤ b) ∧ b ≠ X.env.locals ∧ (∀ x c, X.env.cells.lookup x = some c → c ≠ b) ∧ ∀ p ∈ X.pn ++ pins, p.1 ≠ b) :
    Inv X pins σ H' { s with heap := h', gens := g', drawn := d', toks := t' } := by
  obtain ⟨m, ⟨o, es, ep, ho, r⟩, _⟩ := id I.loc
  obtain ⟨sl, hL⟩ := u.any ho I.free fun z => (hch _ z).2.1 rfl
  exact I.step (ch := ch) hch (fun b o hL hb hc e n => u.keep b o e n (fun z => (List.mem_cons.mp (I.stkSub b z)).elim hL hb) hc) (fun b o _ _ hc e n => u.any e n hc) (fun b o hc e n => u.free b o e n hc) (fun b o hc e => u.there b o e hc) u.tups u.frzs u.tbls (fun m' hm => by
    obtain ⟨o', es', ep', ho', r'⟩ := hm
    rw [ho] at ho'; cases ho'
    exact ⟨_, es', ep', hL, r'⟩) hok hg
/-- an untracked record of ours (an iterator) has turned -/
theorem Inv.turned {t' : Nat} {it : Addr} (I : Inv X pins σ H s) (k : ∀ b o, b ≠ it → s.heap.get? b = some o → h'.get? b = some o) (hn : H it = none) (hL : it ≠ X.env.locals)
    (h1 : it ∈ X.ex ∨ X.s₀.heap.objs.size ≤ it) (h2 : ∀ x c, X.env.cells.lookup x = some c → c ≠ it) (h3 : ∀ p ∈ X.pn ++ pins, p.1 ≠ it) : Inv X pins σ H { s with heap := h', toks := t' } := by
  have nit : ∀ b u, H b = some u → b ≠ it := fun b u e z => by rw [z, hn] at e; cases e
  refine I.step (g' := s.gens) (d' := s.drawn) (ch := [it]) (fun b hb => ?_) (fun b o _ _ hc e _ => k b o (fun z => hc (by simp [z])) e) (fun b o _ _ hc e _ => ⟨o.slots, k b o (fun z => hc (by simp [z])) e⟩) (fun _ _ _ _ n => n)
    (fun b o hc e => ⟨o, k b o (fun z => hc (by simp [z])) e⟩) (fun _ _ e => e) (fun _ _ _ e => e) (fun b ps e => ⟨#[], by rw [e]; simp⟩) (fun m hm => ?_) (fun b u e => ?_) I.bare
  · have e : b = it := by simpa using hb
    subst e
    exact ⟨h1, hL, h2, h3⟩
  · obtain ⟨o, es, ep, ho, r⟩ := hm
    exact ⟨o, es, ep, k _ o (Ne.symm hL) ho, r⟩
  · refine (I.hok b u e).stay (fun c v hc q => k c v ?_ q) (fun _ q => q) fun _ _ q => q
    rcases hc with z | z
    · rw [z]; exact nit b u e
    · exact nit c _ z
theorem Inv.tok (I : Inv X pins σ H s) (t : Nat) : Inv X pins σ H { s with toks := t } := I.un (h' := s.heap) (t' := t) Un.refl I.hok
/-- all objects kept -/
theorem Inv.kept {t' : Nat} (I : Inv X pins σ H s) (k : ∀ b u, s.heap.get? b = some u → h'.get? b = some u) : Inv X pins σ H { s with heap := h', toks := t' } := I.un (Un.kept k) (I.hok.kept k)
/-- a new object laid and tracked -/
theorem Inv.laid {a : Addr} {o : HO} {t' : Nat} (I : Inv X pins σ H s) (k : ∀ b u, s.heap.get? b = some u → h'.get? b = some u) (hp : s.heap.objs.size ≤ a) (new : ObjOk X.prog X.w (upd H a o) h' a o) :
    Inv X pins σ (upd H a o) { s with heap := h', toks := t' } := I.un (Un.laid k hp (I.hok.fresh hp)) (I.hok.laid k hp new)
/-- an object written -/
theorem Inv.write {x e : Addr} {o : HO} {t' : Nat} (I : Inv X pins σ H s) (mu : Mut (H x)) (he : e = x ∨ H e = some (.own x)) (k : ∀ b u, b ≠ e → s.heap.get? b = some u → h'.get? b = some u) (heo : ∃ u, h'.get? e = some u)
    (new : ObjOk X.prog X.w (upd H x o) h' x o) : Inv X pins σ (upd H x o) { s with heap := h', toks := t' } := I.un (Un.write mu he k heo) (I.hok.write mu he k heo new)
theorem Inv.pins_of {pins' : List (Addr × Obj)} (I : Inv X pins σ H s) (h : ∀ p ∈ pins', s.heap.get? p.1 = some p.2 ∧ H p.1 = none ∧ p.1 ≠ X.env.locals ∧ p.1 ∉ X.fs ∧ ∀ v, p.2.data ≠ .cell v) : Inv X pins' σ H s :=
  ⟨I.ok, I.os, I.bare, I.base, I.loc, I.cell, I.free, I.freeC, fun p hp => (List.mem_append.mp hp).elim (fun z => I.pin p (List.mem_append_left _ z)) (h p), I.hok, I.len⟩

theorem nodup_ix {N : List Str} (hN : N.Nodup) {i j : Nat} {x : Str} (a : N[i]? = some x) (b : N[j]? = some x) : i = j := by
  obtain ⟨h1, e1⟩ := List.getElem?_eq_some_iff.mp a
  obtain ⟨h2, e2⟩ := List.getElem?_eq_some_iff.mp b
  exact (List.getElem_inj hN).mp (e1.trans e2.symm)

/-- a name is stored; what changed -/
theorem store_ok2 {M : Model} {A : Around} {E : Value → Shared → Prop} {i : Nat} {x : Str} {v : V} {u : Value} {Q : Unit → Shared → Prop} (I : Inv X pins σ H s) (hN : X.N.Nodup) (hi : X.N[i]? = some x) (hx : Loc X.env.scope x) (r : RelV v u)
    (h : ∀ s', Inv X pins (σ.set i (some v)) H s' → (∃ a, Heap.SameBut a s.heap s'.heap ∧ (a = X.env.locals ∨ X.env.cells.lookup x = some a)) → Q () s') (hf : X.fn x = true ∨ X.env.scope.names.lookup x = some .local := by first | exact .inl rfl | exact .inr rfl | assumption) : wpAny M A (storeName X.env x u) Q E s := by
  obtain ⟨m, hn, hl⟩ := id I.loc
  have hcls : (X.env.scope.kind == .class || (X.env.scope.kind == .module && X.env.locals != X.env.globals)) = false := by rw [I.ok.kind]; rfl
  have hiσ : i < σ.length := by rw [I.len]; exact (List.getElem?_eq_some_iff.mp hi).1
  have cne := I.cne
  have tracked : ∀ {a : Addr} {h' : Heap}, (∃ o, s.heap.get? a = some o ∧ H a = none) → Heap.SameBut a s.heap h' → HOk X.prog X.w H h' := fun {a h'} ha hs b ob e => by
    obtain ⟨_, _, hfree⟩ := ha
    refine (I.hok b ob e).stay (fun c w' hc q => (hs.2 c ?_).trans q) (fun _ q => q) fun _ _ q => q
    rintro rfl
    rcases hc with rfl | hc
    · rw [hfree] at e; cases e
    · rw [hfree] at hc; cases hc
  rcases hx with hk | hk
  · refine wpAny_storeName_local hk hn (fun h' hn' hs => ?_) hcls
    obtain ⟨oL, _, _, hoL, _⟩ := id hn
    refine h _ ⟨I.ok, I.os, I.bare, ⟨fun b o e n hb hx => ?_, fun b o e n hb hx => ?_, I.base.free, fun b o e hx => ?_, I.base.tups, I.base.frzs, I.base.tbls⟩, ⟨_, hn', fun j y v' e1 e2 e3 => ?_⟩, fun y c e => ?_, I.free, I.freeC, fun p hp => ?_, tracked ⟨oL, hoL, I.free⟩ hs, by simpa using I.len⟩ ⟨_, hs, .inl rfl⟩
    · exact (hs.2 b (Nat.ne_of_lt (Nat.lt_of_lt_of_le (Heap.lt_size e) I.ok.above))).trans (I.base.keep b o e n hb hx)
    · obtain ⟨sl, e1⟩ := I.base.slot b o e n hb hx
      exact ⟨sl, (hs.2 b (Nat.ne_of_lt (Nat.lt_of_lt_of_le (Heap.lt_size e) I.ok.above))).trans e1⟩
    · obtain ⟨o', e1⟩ := I.base.there b o e hx
      exact ⟨o', (hs.2 b (Nat.ne_of_lt (Nat.lt_of_lt_of_le (Heap.lt_size e) I.ok.above))).trans e1⟩
    · by_cases hj : j = i
      · subst hj
        rw [hi] at e1; cases e1
        rw [List.getElem?_set_self hiσ] at e2
        cases e2
        exact ⟨u, r, .inl ⟨hk, by simp⟩⟩
      · rw [List.getElem?_set_ne (Ne.symm hj)] at e2
        obtain ⟨u', r', q⟩ := hl j y v' e1 e2 e3
        refine ⟨u', r', ?_⟩
        rcases q with ⟨k, e⟩ | ⟨k, c, e, z⟩
        · refine .inl ⟨k, ?_⟩
          have : y ≠ x := fun e => hj (nodup_ix hN e1 (e ▸ hi))
          simp [this, e]
        · exact .inr ⟨k, c, e, z.sameBut hs (cne y c e)⟩
    · obtain ⟨w', z⟩ := I.cell y c e
      exact ⟨w', z.sameBut hs (cne y c e)⟩
    · obtain ⟨e, n, ne, nf, d⟩ := I.pin p hp
      exact ⟨(hs.2 p.1 ne).trans e, n, ne, nf, d⟩
  · have hfn : X.fn x = true := by
      rcases hf with z | z
      · exact z
      · rw [z] at hk; cases hk
    obtain ⟨c, hc⟩ := I.ok.has x (.inl hk)
    obtain ⟨w', z⟩ := I.cell x c hc
    refine wpAny_storeName_cell I.ok.kind hk hc z (fun h' hc' hs => ?_)
    obtain ⟨oc, hoc, hocd⟩ := id z
    refine h { s with heap := h' } ⟨I.ok, I.os, I.bare, ⟨fun b o e n hb hx => ?_, fun b o e n hb hx => ?_, I.base.free, fun b o e hx => ?_, I.base.tups, I.base.frzs, I.base.tbls⟩, ⟨m, hn.sameBut hs (Ne.symm (cne x c hc)), fun j y v' e1 e2 e3 => ?_⟩, fun y c' e => ?_, I.free, I.freeC, fun p hp => ?_, tracked ⟨oc, hoc, I.freeC x c hc⟩ hs, by simpa using I.len⟩ ⟨c, hs, .inr hc⟩
    · exact (hs.2 b (Nat.ne_of_lt (Nat.lt_of_lt_of_le (Heap.lt_size e) (I.ok.cab x c hfn hc)))).trans (I.base.keep b o e n hb hx)
    · obtain ⟨sl, e1⟩ := I.base.slot b o e n hb hx
      exact ⟨sl, (hs.2 b (Nat.ne_of_lt (Nat.lt_of_lt_of_le (Heap.lt_size e) (I.ok.cab x c hfn hc)))).trans e1⟩
    · obtain ⟨o', e1⟩ := I.base.there b o e hx
      exact ⟨o', (hs.2 b (Nat.ne_of_lt (Nat.lt_of_lt_of_le (Heap.lt_size e) (I.ok.cab x c hfn hc)))).trans e1⟩
    · by_cases hj : j = i
      · subst hj
        rw [hi] at e1; cases e1
        rw [List.getElem?_set_self hiσ] at e2
        cases e2
        exact ⟨u, r, .inr ⟨.inl hk, c, hc, hc'⟩⟩
      · rw [List.getElem?_set_ne (Ne.symm hj)] at e2
        obtain ⟨u', r', q⟩ := hl j y v' e1 e2 e3
        refine ⟨u', r', ?_⟩
        rcases q with q | ⟨k, c', e, z'⟩
        · exact .inl q
        · refine .inr ⟨k, c', e, z'.sameBut hs ?_⟩
          rintro rfl
          exact hj (nodup_ix hN e1 (I.ok.inj _ _ _ e hc ▸ hi))
    · by_cases hcc : c' = c
      · subst hcc; exact ⟨_, hc'⟩
      · obtain ⟨w2, z2⟩ := I.cell y c' e
        exact ⟨w2, z2.sameBut hs hcc⟩
    · obtain ⟨e, n, ne, nf, d⟩ := I.pin p hp
      refine ⟨(hs.2 p.1 ?_).trans e, n, ne, nf, d⟩
      intro q
      rw [q, hoc] at e
      have q' : oc = p.2 := Option.some.inj e
      exact d w' (by rw [← q']; exact hocd)
theorem store_ok {M : Model} {A : Around} {E : Value → Shared → Prop} {i : Nat} {x : Str} {v : V} {u : Value} {Q : Unit → Shared → Prop} (I : Inv X pins σ H s) (hN : X.N.Nodup) (hi : X.N[i]? = some x) (hx : Loc X.env.scope x) (r : RelV v u)
    (h : ∀ s', Inv X pins (σ.set i (some v)) H s' → Q () s') (hf : X.fn x = true ∨ X.env.scope.names.lookup x = some .local := by first | exact .inl rfl | exact .inr rfl | assumption) : wpAny M A (storeName X.env x u) Q E s :=
  store_ok2 I hN hi hx r (fun s' I' _ => h s' I') hf
/-- behind a call or a block, the state as it is -/
theorem Inv.call' {s' : Shared} {ch : List Addr} (I : Inv X pins σ H s) (ho : s'.os = s.os) (u : Un (frs X.stack) ch H H' s.heap s'.heap) (hok : HOk X.prog X.w H' s'.heap) (hg : AllBare s'.gens)
    (hch : ∀ b ∈ ch, (b ∈ X.ex ∨ X.s₀.heap.objs.size ≤ b) ∧ b ≠ X.env.locals ∧ (∀ x c, X.env.cells.lookup x = some c → c ≠ b) ∧ ∀ p ∈ X.pn ++ pins, p.1 ≠ b) : Inv X pins σ H' s' := by
  obtain ⟨h', g', d', t', o'⟩ := s'
  have e : o' = s.os := ho
  subst e
  exact I.call (g' := g') (t' := t') (d' := d') u hok hg hch
end

/-! ### the judgements -/
/-- an exception: its class, its own dict's address (where it has one), the abstract heap behind it -/
abbrev XK := Value → Option Addr → Hp → Prop
abbrev St := List (Option V)
abbrev VK := V → Hp → Prop
/-- an expression's reading; a test's; an argument list's -/
abbrev TE := St → Hp → VK → Prop
abbrev TT := St → Hp → (Bool → Hp → Prop) → Prop
abbrev TA := St → Hp → (List V → Hp → Prop) → Prop
/-- what is wanted behind a statement -/
structure Ends where
  nx : St → Hp → Prop
  rt : VK
  bk : St → Hp → Prop := fun _ _ => False
  ct : St → Hp → Prop := fun _ _ => False
abbrev TS := Ends → St → Hp → Prop

def EP (X : Cx) (pins : List (Addr × Obj)) (σ : St) (Q : VK) (u : Value) (s' : Shared) : Prop := ∃ v H', Inv X pins σ H' s' ∧ RelV v u ∧ Q v H'
def TP (X : Cx) (pins : List (Addr × Obj)) (σ : St) (Q : Bool → Hp → Prop) (b : Bool) (s' : Shared) : Prop := ∃ H', Inv X pins σ H' s' ∧ Q b H'
def AP (X : Cx) (pins : List (Addr × Obj)) (σ : St) (Q : List V → Hp → Prop) (us : List Value) (s' : Shared) : Prop := ∃ vs H', Inv X pins σ H' s' ∧ Vals vs us ∧ Q vs H'
def SP (X : Cx) (pins : List (Addr × Obj)) (D : Ends) (f : Flow) (s' : Shared) : Prop :=
  match f with
  | .next => ∃ σ' H', Inv X pins σ' H' s' ∧ D.nx σ' H'
  | .brk => ∃ σ' H', Inv X pins σ' H' s' ∧ D.bk σ' H'
  | .cont => ∃ σ' H', Inv X pins σ' H' s' ∧ D.ct σ' H'
  | .ret u => ∃ v σ' H', Inv X pins σ' H' s' ∧ RelV v u ∧ D.rt v H'

def PE (X : Cx) (e : Expr) (t : TE) : Prop :=
  ∀ (pins : List (Addr × Obj)) (s : Shared) (σ : St) (H : Hp) (Q : VK), Inv X pins σ H s → t σ H Q → wpAny (model X.prog X.w) X.A (eval e X.env) (EP X pins σ Q) X.xe s
def PT (X : Cx) (e : Expr) (t : TT) : Prop :=
  ∀ (pins : List (Addr × Obj)) (s : Shared) (σ : St) (H : Hp) (Q : Bool → Hp → Prop), Inv X pins σ H s → t σ H Q → wpAny (model X.prog X.w) X.A (isTrue e X.env (eval e X.env)) (TP X pins σ Q) X.xe s
/-- a test whatever its 'whole' is (and, or) -/
def PW (X : Cx) (e : Expr) (t : TT) : Prop :=
  ∀ (whole : Sem Value) (pins : List (Addr × Obj)) (s : Shared) (σ : St) (H : Hp) (Q : Bool → Hp → Prop), Inv X pins σ H s → t σ H Q → wpAny (model X.prog X.w) X.A (isTrue e X.env whole) (TP X pins σ Q) X.xe s
theorem PW.pt {X : Cx} {e : Expr} {t : TT} (h : PW X e t) : PT X e t := h _
/-- an argument list (no star), from the left -/
def PA (X : Cx) (es : List Expr) (t : TA) : Prop :=
  ∀ (pos : Pos) (pins : List (Addr × Obj)) (s : Shared) (σ : St) (H : Hp) (Q : List V → Hp → Prop), Inv X pins σ H s → t σ H Q → wpAny (model X.prog X.w) X.A (spliced (backTo pos (starEach es X.env))) (AP X pins σ Q) X.xe s
def PS (X : Cx) (st : Stmt) (t : TS) : Prop :=
  ∀ (pins : List (Addr × Obj)) (s : Shared) (σ : St) (H : Hp) (D : Ends), Inv X pins σ H s → t D σ H → wpAny (model X.prog X.w) X.A (exec st X.env) (SP X pins D) X.xe s
def PSs (X : Cx) (st : List Stmt) (t : TS) : Prop :=
  ∀ (pins : List (Addr × Obj)) (s : Shared) (σ : St) (H : Hp) (D : Ends), Inv X pins σ H s → t D σ H → wpAny (model X.prog X.w) X.A (execs st X.env) (SP X pins D) X.xe s
/-- weaken the end -/
theorem thn {α : Type} {t : Sem α} {Q Q' : α → Shared → Prop} {M : Model} {A : Around} {E : Value → Shared → Prop} {s : Shared} (h : wpAny M A t Q E s) (hQ : ∀ a s, Q a s → Q' a s) : wpAny M A t Q' E s := wpAny_mono h hQ fun _ _ x => x
end L2

namespace L2
open PySem PySem.Spec PyProof.Rows
section
variable {X : Cx}

/-! ### names and constants -/
def tVar (i : Nat) : TE := fun σ H Q => ∃ v, σ[i]? = some (some v) ∧ Q v H
def tC (v : V) : TE := fun _ H Q => Q v H
theorem pe_var {i : Nat} {x : Str} {pos : Pos} (hN : X.N[i]? = some x) (hv : Vis X.env.scope x) (hd : (x == ("__debug__" : Str)) = false := by decide) (hcd : (x == ("__classdict__" : Str)) = false := by decide) : PE X (.Name x pos) (tVar i) := by
  intro pins s σ H Q I h
  obtain ⟨v, e, h⟩ := h
  obtain ⟨m, hn, hl⟩ := I.loc
  obtain ⟨u, r, l⟩ := hl i x v hN e hv
  have fin : EP X pins σ Q u s := ⟨v, H, I, r, h⟩
  rcases l with ⟨hk, hm⟩ | ⟨hk, c, hc, hcell⟩
  · exact wpAny_Name (wpAny_loadName_local I.ok.kind hk hn hm fin) hd
  · rcases hk with hk | hk
    · exact wpAny_Name (wpAny_loadName_cell I.ok.kind hk hc hcell fin) hd
    · exact wpAny_Name (wpAny_loadName_free I.ok.kind hk hc hcell fin hcd) hd
theorem pe_int {i j pos} : PE X (.Constant (.int i) j pos) (tC (.int i)) := fun _ _ _ H _ I h => wpAny_Constant_int ⟨.int i, H, I.tok _, ⟨_, rfl⟩, h⟩
theorem pe_bl {b j pos} : PE X (.Constant (.bool b) j pos) (tC (.bl b)) := fun _ _ _ H _ I h => Constant_bool ⟨.bl b, H, I, rfl, h⟩
/-- a global name of the def -/
def Gl (X : Cx) (x : Str) : Prop := X.env.kindOf x = some .globalImplicit
theorem ld_glob {E : Value → Shared → Prop} {pins : List (Addr × Obj)} {s : Shared} {σ : St} {H : Hp} {x : Str} {u : Value} {pos : Pos} {Q : Value → Shared → Prop} (I : Inv X pins σ H s) (hg : Gl X x) (hm : X.mg x = some u) (h : Q u s)
    (hd : (x == ("__debug__" : Str)) = false := by decide) : wpAny (model X.prog X.w) X.A (eval (.Name x pos) X.env) Q E s :=
  Calls.Name_function_global I.ok.kind hg (Calls.loadGlobal_global (by rw [I.ok.glob]; exact I.mod.glob.keeps I.bk) hm h) hd
theorem ld_blt {E : Value → Shared → Prop} {pins : List (Addr × Obj)} {s : Shared} {σ : St} {H : Hp} {x : Str} {u : Value} {pos : Pos} {Q : Value → Shared → Prop} (I : Inv X pins σ H s) (hg : Gl X x) (hm : X.mg x = none) (hv : bootBuiltins x = some u) (h : Q u s)
    (hn : x ≠ "__name__" := by decide) (hd : (x == ("__debug__" : Str)) = false := by decide) : wpAny (model X.prog X.w) X.A (eval (.Name x pos) X.env) Q E s := by
  obtain ⟨mb, h1, h2⟩ := I.mod.blt
  exact Calls.Name_function_global I.ok.kind hg (Calls.loadGlobal_builtin (by rw [I.ok.glob]; exact I.mod.glob.keeps I.bk) hm (by rw [I.ok.blt]; exact h1.keeps I.bk) ((h2 x hn).trans hv) h) hd
/-- a module's constant, a class, a function, as a value -/
theorem pe_glob {x : Str} {v : V} {u : Value} {pos : Pos} (hg : Gl X x) (hm : X.mg x = some u) (r : RelV v u) (hd : (x == ("__debug__" : Str)) = false := by decide) : PE X (.Name x pos) (tC v) :=
  fun _ _ _ H _ I h => ld_glob I hg hm ⟨v, H, I, r, h⟩ hd
theorem pe_bltn {x : Str} {v : V} {u : Value} {pos : Pos} (hg : Gl X x) (hm : X.mg x = none) (hv : bootBuiltins x = some u) (r : RelV v u) (hn : x ≠ "__name__" := by decide) (hd : (x == ("__debug__" : Str)) = false := by decide) : PE X (.Name x pos) (tC v) :=
  fun _ _ _ H _ I h => ld_blt I hg hm hv ⟨v, H, I, r, h⟩ hn hd

/-! ### arithmetic -/
variable {a b : Expr} {ta tb : TE} {pos : Pos}
/-! ### comparisons -/
/-- a comparison as a value, as a test -/
def tB (t : TE) : TT := fun σ H Q => t σ H fun x H1 => ∃ c, x = .bl c ∧ Q c H1
/-- an expression whose value is a bool, as a test -/
theorem pt_val {e : Expr} {t : TE} (h : PE X e t) (he : ∀ whole, isTrue e X.env whole = (do let v ← whole; standAt e.pos; holding [v] (truthy v)) := by intro _; rfl) : PT X e (tB t) := by
  intro pins s σ H Q I hw
  refine isTrue_plain (thn (h pins s σ H _ I hw) fun v s1 ⟨x, H1, I1, r1, q1⟩ => ?_) (he _)
  obtain ⟨d, rfl, q⟩ := q1
  cases r1
  exact wpAny_truthy_bool ⟨H1, I1, q⟩

/-! ### and, or, not -/
variable {tA tB' : TT} {rest : List Expr}
def tAnd (t u : TT) : TT := fun σ H Q => t σ H fun c H1 => if c = true then u σ H1 Q else Q false H1
def tOr (t u : TT) : TT := fun σ H Q => t σ H fun c H1 => if c = true then Q true H1 else u σ H1 Q
def tNot (t : TT) : TT := fun σ H Q => t σ H fun c H1 => Q (!c) H1
theorem pw_and1 (ha : PT X a tA) : PW X (.BoolOp .And [a] pos) tA := by
  intro wh pins s σ H Q I h
  refine isTrue_and (thn (ha pins s σ H Q I h) fun c s1 e => ?_)
  cases c with
  | true => exact isTrue_and_nil e
  | false => exact e
theorem pw_or1 (ha : PT X a tA) : PW X (.BoolOp .Or [a] pos) tA := by
  intro wh pins s σ H Q I h
  refine isTrue_or (thn (ha pins s σ H Q I h) fun c s1 e => ?_)
  cases c with
  | false => exact isTrue_or_nil e
  | true => exact e
theorem pw_and (ha : PT X a tA) (hb : PW X (.BoolOp .And (b :: rest) pos) tB') : PW X (.BoolOp .And (a :: b :: rest) pos) (tAnd tA tB') := by
  intro wh pins s σ H Q I h
  refine isTrue_and (thn (ha pins s σ H _ I h) fun c s1 ⟨H1, I1, q1⟩ => ?_)
  cases c with
  | true => exact hb wh pins s1 σ H1 Q I1 q1
  | false => exact ⟨H1, I1, q1⟩
theorem pw_or (ha : PT X a tA) (hb : PW X (.BoolOp .Or (b :: rest) pos) tB') : PW X (.BoolOp .Or (a :: b :: rest) pos) (tOr tA tB') := by
  intro wh pins s σ H Q I h
  refine isTrue_or (thn (ha pins s σ H _ I h) fun c s1 ⟨H1, I1, q1⟩ => ?_)
  cases c with
  | true => exact ⟨H1, I1, q1⟩
  | false => exact hb wh pins s1 σ H1 Q I1 q1
theorem pt_not (ha : PT X a tA) : PT X (.UnaryOp .Not a pos) (tNot tA) := by
  intro pins s σ H Q I h
  exact isTrue_not (ha pins s σ H (fun c H1 => Q (!c) H1) I h)
/-- .. as values (bools) -/
def tAndV (ta tb : TE) : TE := fun σ H Q => ta σ H fun x H1 => ∃ c, x = .bl c ∧ if c = true then tb σ H1 Q else Q (.bl false) H1
def tNotV (ta : TE) : TE := fun σ H Q => ta σ H fun x H1 => ∃ c, x = .bl c ∧ Q (.bl (!c)) H1
theorem pe_one {op} {t : TE} (h : PE X a t) : PE X (.BoolOp op [a] pos) t := fun pins s σ H Q I hw => BoolOp_one (h pins s σ H Q I hw)
theorem pe_and (ha : PE X a ta) (hb : PE X (.BoolOp .And (b :: rest) pos) tb) : PE X (.BoolOp .And (a :: b :: rest) pos) (tAndV ta tb) := by
  intro pins s σ H Q I h
  refine BoolOp_and (thn (ha pins s σ H _ I h) fun v s1 ⟨x, H1, I1, r1, q1⟩ => ?_)
  obtain ⟨c, rfl, q1⟩ := q1
  cases r1
  refine wpAny_truthy_bool ?_
  cases c with
  | true => exact hb pins s1 σ H1 Q I1 q1
  | false => exact ⟨.bl false, H1, I1, rfl, q1⟩
theorem pe_not (ha : PE X a ta) : PE X (.UnaryOp .Not a pos) (tNotV ta) := by
  intro pins s σ H Q I h
  refine UnaryOp_ (thn (ha pins s σ H _ I h) fun v s1 ⟨x, H1, I1, r1, q1⟩ => ?_)
  obtain ⟨c, rfl, q1⟩ := q1
  cases r1
  exact not_of (wpAny_truthy_bool ⟨.bl (!c), H1, I1, rfl, q1⟩)
end
end L2

namespace L2
open PySem PySem.Spec PyProof.Rows

/-! ### a list, a tuple that is read: tracked, frozen, or an object of the module -/
def SqL (K : PySem.W.Frag) (H : Hp) (a : Addr) (xs : List V) : Prop :=
  Rd H a (.lst xs) ∨
    ∃ (o : Obj) (its : Array Value) (n : Nat), K.lookup a = some o ∧ o.cls = .type "list" ∧ o.dict = none ∧ o.data = .seq its n ∧ its.size ≤ sizeLine ∧ Vals xs its.toList
def SqT (K : PySem.W.Frag) (H : Hp) (a : Addr) (xs : List V) : Prop :=
  Rd H a (.tup xs) ∨
    ∃ (o : Obj) (its : Array Value) (n : Nat), K.lookup a = some o ∧ o.cls = .type "tuple" ∧ o.data = .seq its n ∧ its.size ≤ sizeLine ∧ Vals xs its.toList
def absV : Value → Option V
  | .none => some .non
  | .bool b => some (.bl b)
  | .int i _ => some (.int i)
  | .str x _ => some (.str x)
  | .bytes b _ => some (.byt b)
  | .float b _ => some (.flt b)
  | .ref a => some (.ref a)
  | .type n => some (.ty n)
  | _ => none
theorem RelV.abs {x : V} {u : Value} (r : RelV x u) : absV u = some x := by
  cases x with
  | non => cases r; rfl
  | bl _ => cases r; rfl
  | int _ => obtain ⟨t, rfl⟩ := r; rfl
  | str _ => obtain ⟨t, rfl⟩ := r; rfl
  | byt _ => obtain ⟨t, rfl⟩ := r; rfl
  | flt _ => obtain ⟨t, rfl⟩ := r; rfl
  | ref _ => cases r; rfl
  | ty _ => cases r; rfl
theorem RelV.inj {x y : V} {u : Value} (r : RelV x u) (q : RelV y u) : x = y := Option.some.inj (r.abs.symm.trans q.abs)
theorem Vals.inj : ∀ {xs ys : List V} {us : List Value}, Vals xs us → Vals ys us → xs = ys
  | _, _, _, .nil, .nil => rfl
  | _, _, _, .cons r t, .cons r' t' => by rw [r.inj r', Vals.inj t t']
section
variable {X : Cx} {pins : List (Addr × Obj)} {σ : St} {H : Hp} {s : Shared} {a : Addr} {xs ys : List V}
theorem SqL.of {K : PySem.W.Frag} (h : H a = some (.lst xs)) : SqL K H a xs := .inl (.inl h)
theorem SqT.of {K : PySem.W.Frag} (h : H a = some (.tup xs)) : SqT K H a xs := .inl (.inl h)
theorem Inv.list (I : Inv X pins σ H s) (h : SqL X.K H a xs) : ∃ its : List Value, Vals xs its ∧ PlainL s.heap a its.toArray ∧ xs.length ≤ sizeLine := by
  rcases h with h | ⟨o, its, n, hk, hc, hd, hs, hz, r⟩
  · obtain ⟨z, its, n, r, e⟩ := h.ok I.hok
    exact ⟨its, r, ⟨_, n, e, rfl, rfl, rfl⟩, z⟩
  · refine ⟨its.toList, r, ⟨o, n, I.kIn a o hk, hc, hd, by simpa using hs⟩, ?_⟩
    have e := r.length
    simp only [Array.length_toList] at e
    omega
theorem Inv.tuple (I : Inv X pins σ H s) (h : SqT X.K H a xs) : ∃ its : List Value, Vals xs its ∧ IsTup s.heap a its.toArray ∧ xs.length ≤ sizeLine := by
  rcases h with h | ⟨o, its, n, hk, hc, hs, hz, r⟩
  · obtain ⟨z, its, r, p⟩ := h.ok I.hok
    exact ⟨its, r, p, z⟩
  · refine ⟨its.toList, r, ⟨o, I.kIn a o hk, hc, n, by simpa using hs⟩, ?_⟩
    have e := r.length
    simp only [Array.length_toList] at e
    omega
theorem Inv.list_inj (I : Inv X pins σ H s) (h : SqL X.K H a xs) (h' : SqL X.K H a ys) : xs = ys := by
  obtain ⟨its, r, ⟨o, n, e, _, _, d⟩, _⟩ := I.list h
  obtain ⟨its', r', ⟨o', n', e', _, _, d'⟩, _⟩ := I.list h'
  rw [e] at e'; cases e'
  rw [d] at d'
  injection d' with d1 _
  have : its = its' := by simpa using congrArg Array.toList d1
  subst this
  exact r.inj r'
end

/-! ### another wish about exceptions -/
abbrev Cx.wish (X : Cx) (E : Value → Shared → Prop) : Cx := { X with xe := E }
/-- no exception leaves -/
abbrev Cx.nox (X : Cx) : Cx := X.wish fun _ _ => False
theorem Cx.Ok.wish {X : Cx} (ok : X.Ok) (E : Value → Shared → Prop) : (X.wish E).Ok :=
  ⟨ok.mod, ok.kind, ok.glob, ok.blt, ok.above, ok.inj, ok.has, ok.cab, ok.hd, ok.frames, ok.stk, ok.exf, ok.bs, ok.bsz, ok.noex, ok.exfs, ok.funs, ok.frf⟩
theorem Cx.Ok.unwish {X : Cx} {E : Value → Shared → Prop} (ok : (X.wish E).Ok) : X.Ok :=
  ⟨ok.mod, ok.kind, ok.glob, ok.blt, ok.above, ok.inj, ok.has, ok.cab, ok.hd, ok.frames, ok.stk, ok.exf, ok.bs, ok.bsz, ok.noex, ok.exfs, ok.funs, ok.frf⟩
section
variable {X : Cx} {pins : List (Addr × Obj)} {σ : St} {H : Hp} {s : Shared} {E : Value → Shared → Prop}
theorem Inv.wish (I : Inv X pins σ H s) (E : Value → Shared → Prop) : Inv (X.wish E) pins σ H s := ⟨I.ok.wish E, I.os, I.bare, I.base, I.loc, I.cell, I.free, I.freeC, I.pin, I.hok, I.len⟩
theorem Inv.unwish (I : Inv (X.wish E) pins σ H s) : Inv X pins σ H s := ⟨I.ok.unwish, I.os, I.bare, I.base, I.loc, I.cell, I.free, I.freeC, I.pin, I.hok, I.len⟩
theorem SP.unwish {D : Ends} {f : Flow} {s' : Shared} (h : SP (X.wish E) pins D f s') : SP X pins D f s' := by
  cases f with
  | next => obtain ⟨σ', H', I, q⟩ := h; exact ⟨σ', H', I.unwish, q⟩
  | brk => obtain ⟨σ', H', I, q⟩ := h; exact ⟨σ', H', I.unwish, q⟩
  | cont => obtain ⟨σ', H', I, q⟩ := h; exact ⟨σ', H', I.unwish, q⟩
  | ret u => obtain ⟨v, σ', H', I, r, q⟩ := h; exact ⟨v, σ', H', I.unwish, r, q⟩
theorem PE.nox {e : Expr} {t : TE} (h : PE X.nox e t) : PE X e t := fun pins s σ H Q I hw =>
  wpAny_mono (h pins s σ H Q (I.wish _) hw) (fun _ _ ⟨v, H', I', r, q⟩ => ⟨v, H', I'.unwish, r, q⟩) fun _ _ z => False.elim z
theorem PT.nox {e : Expr} {t : TT} (h : PT X.nox e t) : PT X e t := fun pins s σ H Q I hw =>
  wpAny_mono (h pins s σ H Q (I.wish _) hw) (fun _ _ ⟨H', I', q⟩ => ⟨H', I'.unwish, q⟩) fun _ _ z => False.elim z
theorem PSs.nox {st : List Stmt} {t : TS} (h : PSs X.nox st t) : PSs X st t := fun pins s σ H D I hw =>
  wpAny_mono (h pins s σ H D (I.wish _) hw) (fun _ _ q => q.unwish) fun _ _ z => False.elim z
end

/-! ### blocks and small statements -/
section
variable {X : Cx} {st : Stmt} {rest : List Stmt} {t u : TS} {e : Expr} {te : TE} {pos : Pos}
def tNext : TS := fun D σ H => D.nx σ H
def tSeq (t u : TS) : TS := fun D σ H => t { D with nx := u D } σ H
theorem pss_nil : PSs X [] tNext := fun _ _ σ H _ I h => wpAny_execs_nil ⟨σ, H, I, h⟩
theorem pss_cons (h1 : PS X st t) (h2 : PSs X rest u) : PSs X (st :: rest) (tSeq t u) := by
  intro pins s σ H D I h
  refine wpAny_execs_cons (thn (h1 pins s σ H { D with nx := u D } I h) fun f s1 q => ?_)
  cases f with
  | next =>
    obtain ⟨σ', H', I', q⟩ := q
    exact h2 pins s1 σ' H' D I' q
  | ret v => exact q
  | brk => exact q
  | cont => exact q
theorem pss_one (h1 : PS X st t) : PSs X [st] t := by
  intro pins s σ H D I h
  refine wpAny_execs_cons (thn (h1 pins s σ H D I h) fun f s1 q => ?_)
  cases f with
  | next => exact wpAny_execs_nil q
  | ret v => exact q
  | brk => exact q
  | cont => exact q
/-- in a def's body nothing is shown -/
theorem Inv.quiet {pins : List (Addr × Obj)} {σ : St} {H : Hp} {s : Shared} (I : Inv X pins σ H s) : interactive X.env = false := by simp [interactive, I.ok.kind]
/-- an expression whose value is dropped -/
def tDrop (te : TE) : TS := fun D σ H => te σ H fun _ H1 => D.nx σ H1
theorem ps_expr (he : PE X e te) (hs : swapsWith e none pos.line X.env = pure false := by rfl) : PS X (.Expr e pos) (tDrop te) := by
  intro pins s σ H D I h
  exact wpAny_Expr_any (thn (he pins s σ H _ I h) fun v s1 ⟨x, H1, I1, r1, q1⟩ => ⟨σ, H1, I1, q1⟩) I.quiet hs
def tRet (te : TE) : TS := fun D σ H => te σ H D.rt
theorem ps_ret (he : PE X e te) : PS X (.Return (some e) pos) (tRet te) := by
  intro pins s σ H D I h
  exact wpAny_Return_some (thn (he pins s σ H _ I h) fun v s1 ⟨x, H1, I1, r1, q1⟩ => ⟨x, σ, H1, I1, r1, q1⟩)
def tIfS (c : TT) (t u : TS) : TS := fun D σ H => c σ H fun b H1 => if b = true then t D σ H1 else u D σ H1
theorem ps_if {c : Expr} {a b : List Stmt} {tc : TT} (hc : PT X c tc) (ha : PSs X a t) (hb : PSs X b u) : PS X (.If c a b pos) (tIfS tc t u) := by
  intro pins s σ H D I h
  refine wpAny_If (thn (hc pins s σ H _ I h) fun d s1 ⟨H1, I1, q1⟩ => ?_)
  cases d with
  | true => exact ha pins s1 σ H1 D I1 q1
  | false => exact hb pins s1 σ H1 D I1 q1
/-- code that the proof never comes to -/
def tNever : TS := fun _ _ _ => False
theorem ps_never : PS X st tNever := fun _ _ _ _ _ _ h => h.elim
end

/-! ### targets -/
abbrev TG := V → St → Hp → (St → Hp → Prop) → Prop
abbrev TGs := List V → St → Hp → (St → Hp → Prop) → Prop
def PG (X : Cx) (target : Expr) (t : TG) : Prop :=
  ∀ (pins : List (Addr × Obj)) (s : Shared) (σ : St) (H : Hp) (v : V) (u : Value) (Q : St → Hp → Prop), Inv X pins σ H s → RelV v u → t v σ H Q →
    wpAny (model X.prog X.w) X.A (assign target X.env u) (fun _ s' => ∃ σ' H', Inv X pins σ' H' s' ∧ Q σ' H') X.xe s
/-- several targets, one after another -/
def PGs (X : Cx) (ts : List Expr) (t : TGs) : Prop :=
  ∀ (pins : List (Addr × Obj)) (s : Shared) (σ : St) (H : Hp) (vs : List V) (us : List Value) (Q : St → Hp → Prop), Inv X pins σ H s → Vals vs us → t vs σ H Q →
    wpAny (model X.prog X.w) X.A (assignInOrder ((assignEach ts X.env).map (·.2)) us) (fun _ s' => ∃ σ' H', Inv X pins σ' H' s' ∧ Q σ' H') X.xe s
/-- o[i] = v, by values -/
abbrev TSet := V → V → V → Hp → (Hp → Prop) → Prop
def PSet (X : Cx) (t : TSet) : Prop :=
  ∀ (pins : List (Addr × Obj)) (s : Shared) (σ : St) (H : Hp) (o i v : V) (ov iv u : Value) (Q : Hp → Prop), Inv X pins σ H s → RelV o ov → RelV i iv → RelV v u → t o i v H Q →
    wpAny (model X.prog X.w) X.A (setItem ov iv u) (fun _ s' => ∃ H', Inv X pins σ H' s' ∧ Q H') X.xe s
section
variable {X : Cx} {pos : Pos}
def gName (i : Nat) : TG := fun v σ H Q => Q (σ.set i (some v)) H
theorem pg_name {i : Nat} {x : Str} (hN : X.N.Nodup) (hi : X.N[i]? = some x) (hx : Loc X.env.scope x) (hf : X.fn x = true ∨ X.env.scope.names.lookup x = some .local := by first | exact .inl rfl | exact .inr rfl | assumption) : PG X (.Name x pos) (gName i) := by
  intro pins s σ H v u Q I r h
  exact wpAny_assign_Name (store_ok I hN hi hx r (fun s' I' => ⟨_, H, I', h⟩) hf)
def gNil : TGs := fun vs σ H Q => vs = [] ∧ Q σ H
def gCons (t : TG) (u : TGs) : TGs := fun vs σ H Q => ∃ v r, vs = v :: r ∧ t v σ H fun σ' H' => u r σ' H' Q
theorem pgs_nil : PGs X [] gNil := by
  intro pins s σ H vs us Q I r h
  obtain ⟨e, h⟩ := h
  subst e
  cases r
  exact assignInOrder_nil ⟨σ, H, I, h⟩
theorem pgs_cons {e : Expr} {es : List Expr} {t : TG} {u : TGs} (h1 : PG X e t) (h2 : PGs X es u)
    (hs : (assignEach (e :: es) X.env).map (·.2) = assign e X.env :: (assignEach es X.env).map (·.2) := by rfl) : PGs X (e :: es) (gCons t u) := by
  intro pins s σ H vs us Q I r h
  obtain ⟨v, vr, e1, h⟩ := h
  subst e1
  cases r with
  | cons r rr =>
    rw [hs]
    refine assignInOrder_cons (thn (h1 pins s σ H _ _ _ I r h) fun _ s1 ⟨σ1, H1, I1, q1⟩ => ?_)
    exact h2 pins s1 σ1 H1 _ _ Q I1 rr q1
/-- (a, b, ..) = a tuple of that length -/
def gTup (K : PySem.W.Frag) (n : Nat) (t : TGs) : TG := fun v σ H Q => ∃ a xs, v = .ref a ∧ SqT K H a xs ∧ xs.length = n ∧ t xs σ H Q
theorem pg_tup {es : List Expr} {k : Nat} {t : TGs} {n : Nat} (hc : X.calm = true) (h : PGs X es t)
    (hn : (assignEach es X.env).length = n := by rfl) (hst : (assignEach es X.env).findIdx? (·.1) = none := by rfl) : PG X (.Tuple es k pos) (gTup X.K n t) := by
  intro pins s σ H v u Q I r hw
  obtain ⟨a, xs, e1, hq, hl, hw⟩ := hw
  subst e1
  cases r
  obtain ⟨its, rv, ht, hz⟩ := I.tuple hq
  refine assign_Tuple_tuple (I.ok.hd hc) ht (by simp [hn, ← hl, rv.length]) hst fun h' hx => ?_
  have I1 : Inv X pins σ H { s with heap := h' } := I.kept (t' := s.toks) fun b o e => hx b o (Nat.ne_of_lt (Heap.lt_size e)) e
  exact h pins _ σ H xs _ Q I1 (by simpa using rv) hw
/-- o[i] = .. -/
def gSub (to ti : TE) (t : TSet) : TG := fun v σ H Q => to σ H fun o H1 => ti σ H1 fun i H2 => t o i v H2 fun H3 => Q σ H3
theorem pg_sub {o i : Expr} {to ti : TE} {t : TSet} (ho : PE X o to) (hi : PE X i ti) (hs : PSet X t)
    (ha : ∀ v, assign (.Subscript o i pos) X.env v = (do
      let ov ← holding [v] (eval o X.env)
      let iv ← holding [v, ov] (eval i X.env)
      standAt pos
      holding [v, ov, iv] (setItem ov iv v)
      release [v, ov, iv] []) := by intro _; rfl) : PG X (.Subscript o i pos) (gSub to ti t) := by
  intro pins s σ H v u Q I r h
  rw [ha]
  refine wpAny_bind (wpAny_holding (thn (ho pins s σ H _ I h) fun ov s1 ⟨x, H1, I1, r1, q1⟩ => ?_))
  refine wpAny_bind (wpAny_holding (thn (hi pins s1 σ H1 _ I1 q1) fun iv s2 ⟨y, H2, I2, r2, q2⟩ => ?_))
  refine wpAny_bind (wpAny_standAt (wpAny_bind (wpAny_holding (thn (hs pins s2 σ H2 x y v ov iv u _ I2 r1 r2 r q2) fun _ s3 ⟨H3, I3, q3⟩ => ?_))))
  exact wpAny_release ⟨σ, H3, I3, q3⟩
/-- target = value -/
def tAsg (te : TE) (g : TG) : TS := fun D σ H => te σ H fun x H1 => g x σ H1 D.nx
theorem ps_asg {tg e : Expr} {te : TE} {g : TG} (he : PE X e te) (hg : PG X tg g) (hs : swapsWithSole [tg] e pos.line X.env = pure false := by rfl) (hw : swappedStores [tg] e X.env = pure none := by rfl)
    (h1 : (assignEach [tg] X.env).map (·.2) = [assign tg X.env] := by rfl) : PS X (.Assign [tg] e pos) (tAsg te g) := by
  intro pins s σ H D I h
  refine wpAny_Assign_stores (thn (he pins s σ H _ I h) fun v s1 ⟨x, H1, I1, r1, q1⟩ => ?_) hs hw
  rw [h1]
  exact thn (hg pins s1 σ H1 x v _ I1 r1 q1) fun _ s2 q => q
/-- name = value -/
theorem ps_set {i : Nat} {x : Str} {e : Expr} {te : TE} {pos' : Pos} (hN : X.N.Nodup) (hi : X.N[i]? = some x) (hx : Loc X.env.scope x) (he : PE X e te) (hs : swapsWith e (some (.Name x pos')) pos.line X.env = pure false := by rfl) (hf : X.fn x = true ∨ X.env.scope.names.lookup x = some .local := by first | exact .inl rfl | exact .inr rfl | assumption) :
    PS X (.Assign [.Name x pos'] e pos) (tAsg te (gName i)) := by
  intro pins s σ H D I h
  refine wpAny_Assign_Name (thn (he pins s σ H _ I h) fun v s1 ⟨y, H1, I1, r1, q1⟩ => ?_) hs
  exact store_ok I1 hN hi hx r1 (fun s2 I2 => ⟨_, H1, I2, q1⟩) hf
end

/-! ### while -/
section
variable {X : Cx} {pos : Pos}
/-- the invariant W with its measure -/
def tWhile (c : TT) (tb : TS) : TS := fun D σ H => ∃ W : Nat → St → Hp → Prop, (∃ m, W m σ H) ∧ ∀ m σ H, W m σ H →
  c σ H fun b H1 => if b = true then ∃ N : St → Hp → Prop, (∀ σ' H', N σ' H' → ∃ m', m' < m ∧ W m' σ' H') ∧ tb { D with nx := N, ct := N, bk := D.nx } σ H1 else D.nx σ H1
theorem ps_while {c : Expr} {body : List Stmt} {tc : TT} {tb : TS} (hp : PassesOwn (model X.prog X.w) X.A X.env X.xe) (hc : PT X c tc) (hb : PSs X body tb) : PS X (.While c body [] pos) (tWhile tc tb) := by
  intro pins s σ H D I h
  obtain ⟨W, ⟨m0, w0⟩, turn⟩ := h
  refine wpAny_While (codeAny_whileLoop (fun n s' => ∃ σ' H', Inv X pins σ' H' s' ∧ W n σ' H') ?_ m0 ⟨σ, H, I, w0⟩)
  rintro n s1 ⟨σ1, H1, I1, w1⟩
  refine wpAny_passesOwn hp (thn (hc pins s1 σ1 H1 _ I1 (turn n σ1 H1 w1)) fun b s2 ⟨H2, I2, q2⟩ => ?_)
  cases b with
  | true =>
    obtain ⟨N, hN, q2⟩ := q2
    rw [if_pos rfl]
    refine wpAny_passesOwn hp (thn (hb pins s2 σ1 H2 _ I2 q2) fun f s3 q3 => ?_)
    cases f with
    | next =>
      obtain ⟨σ3, H3, I3, n3⟩ := q3
      obtain ⟨m', hm, w3⟩ := hN σ3 H3 n3
      exact ⟨m', hm, σ3, H3, I3, w3⟩
    | cont =>
      obtain ⟨σ3, H3, I3, n3⟩ := q3
      obtain ⟨m', hm, w3⟩ := hN σ3 H3 n3
      exact ⟨m', hm, σ3, H3, I3, w3⟩
    | brk => exact q3
    | ret v => exact q3
  | false =>
    rw [if_neg Bool.false_ne_true]
    exact wpAny_execs_nil ⟨σ1, H2, I2, q2⟩
end

/-! ### what a loop or a comprehension walks -/
/-- at turn i: it yields x (the heap may grow), or it stops -/
structure It where
  go : Nat → Hp → Prop
  yld : Nat → Hp → V → Hp → Prop
  stop : Nat → Hp → Prop
/-- the iterator's own objects may turn: they are not the frame's, not pinned, younger than the entry (or a comprehension's own) -/
def FpOk (X : Cx) (pins : List (Addr × Obj)) (H : Hp) (b : Addr) : Prop :=
  H b = none ∧ b ≠ X.env.locals ∧ b ∉ X.fs ∧ (b ∈ X.ex ∨ X.s₀.heap.objs.size ≤ b) ∧ (∀ x c, X.env.cells.lookup x = some c → c ≠ b) ∧ ∀ p ∈ X.pn ++ pins, p.1 ≠ b
theorem Inv.fpOk {X : Cx} {pins : List (Addr × Obj)} {σ : St} {H H' : Hp} {s : Shared} {b : Addr} (I : Inv X pins σ H s) (hb : s.heap.objs.size ≤ b) (hn : H' b = none) : FpOk X pins H' b := by
  refine ⟨hn, Nat.ne_of_gt (Nat.lt_of_lt_of_le I.lt hb), I.nofs hb, .inr (Nat.le_trans I.sz hb), fun x c e z => ?_, fun p hp z => ?_⟩
  · obtain ⟨v, q⟩ := I.cell x c e
    exact absurd (Nat.lt_of_lt_of_le q.lt (by rw [z]; exact hb)) (Nat.lt_irrefl _)
  · exact absurd (Nat.lt_of_lt_of_le (Heap.lt_size (I.pin p hp).1) (by rw [z]; exact hb)) (Nat.lt_irrefl _)
structure Turn (P : Program) (w : World) (K : PySem.W.Frag) (tg : Expr) (J : It) (fp : List Addr) (it : Addr) (tn : Nat → Heap → Prop) : Prop where
  mem : it ∈ fp
  obj : ∀ i h, tn i h → ∀ b ∈ fp, ∃ o, h.get? b = some o ∧ ∀ v, o.data ≠ .cell v
  keep : ∀ i h h', tn i h → (∀ b ∈ fp, ∀ o, h.get? b = some o → h'.get? b = some o) → tn i h'
  item : ∀ (X : Cx), X.prog = P → X.w = w → X.K = K → X.calm = true → ∀ (i : Nat) (pins : List (Addr × Obj)) (s : Shared) (σ : St) (H : Hp) (E : Value → Shared → Prop), Inv X pins σ H s → (∀ b ∈ fp, FpOk X pins H b) → tn i s.heap → J.go i H →
    wpAny (model P w) X.A (pyNext (.ref it)) (fun r s1 => ∃ u, r = some u ∧
      wpAny (model P w) X.A (letOwnedTupleGo tg (.ref it) u) (fun _ s2 => ∃ x H', Inv X pins σ H' s2 ∧ RelV x u ∧ J.yld i H x H' ∧ tn (i + 1) s2.heap ∧ ∀ b ∈ fp, H' b = none) E s1) E s
  done : ∀ (X : Cx), X.prog = P → X.w = w → X.K = K → X.calm = true → ∀ (i : Nat) (pins : List (Addr × Obj)) (s : Shared) (σ : St) (H : Hp) (E : Value → Shared → Prop), Inv X pins σ H s → (∀ b ∈ fp, FpOk X pins H b) → tn i s.heap → J.stop i H →
    wpAny (model P w) X.A (pyNext (.ref it)) (fun r s1 => r = none ∧ Inv X pins σ H s1) E s
  self : ∀ (A : Around) (i : Nat) (s : Shared) (Q : Value → Shared → Prop) (E : Value → Shared → Prop), tn i s.heap → Q (.ref it) s → wpAny (model P w) A (pyIter (.ref it)) Q E s
abbrev TI := St → Hp → (It → Hp → Prop) → Prop
/-- an iterator has come -/
def PIE (X : Cx) (pins : List (Addr × Obj)) (σ : St) (tg : Expr) (R : It → Hp → Prop) (itv : Value) (s2 : Shared) : Prop :=
  ∃ (it : Addr) (fp : List Addr) (tn : Nat → Heap → Prop) (J : It) (H' : Hp), itv = .ref it ∧ Inv X pins σ H' s2 ∧ Turn X.prog X.w X.K tg J fp it tn ∧ tn 0 s2.heap ∧ (∀ b ∈ fp, FpOk X pins H' b) ∧ R J H'
def PI (X : Cx) (tg iter : Expr) (wi : TI) : Prop :=
  ∀ (pins : List (Addr × Obj)) (s : Shared) (σ : St) (H : Hp) (R : It → Hp → Prop), Inv X pins σ H s → wi σ H R →
    wpAny (model X.prog X.w) X.A (eval iter X.env) (fun v s1 => wpAny (model X.prog X.w) X.A (pyIter v) (PIE X pins σ tg R) X.xe s1) X.xe s

/-- the step ahead of the store is nothing for an iterator that keeps no tuple -/
theorem go_of {M : Model} {A : Around} {E : Value → Shared → Prop} {s : Shared} {tg : Expr} {it : Addr} {u : Value} {o : Obj} {n : String} {vs : Array Value} {Q : Unit → Shared → Prop} (ho : s.heap.get? it = some o) (hc : o.cls = .type n) (hd : o.data = .fields vs)
    (hn : ["enumerate", "zip", "dict_itemiterator", "dict_reverseitemiterator", "odict_iterator", "itertools.zip_longest", "itertools.pairwise"].contains n = false) (hQ : Q () s) : wpAny M A (letOwnedTupleGo tg (.ref it) u) Q E s := by
  unfold letOwnedTupleGo
  cases tg <;> first
    | exact wpAny_pure hQ
    | (cases u <;> first
        | exact wpAny_pure hQ
        | (refine wpAny_bind (wpAny_load ho ?_)
           rw [hc, hd]
           show wpAny M A (if (["enumerate", "zip", "dict_itemiterator", "dict_reverseitemiterator", "odict_iterator", "itertools.zip_longest", "itertools.pairwise"].contains n && vs[0]? == some (rawInt _)) = true then _ else _) Q E s
           rw [if_neg (by intro h; rw [hn, Bool.false_and] at h; cases h)]
           exact wpAny_pure hQ))

/-- the list at a, as it stands at each turn (a loop may append to it) -/
def Itl (K : PySem.W.Frag) (a : Addr) : It :=
  ⟨fun i H => ∃ xs x, SqL K H a xs ∧ xs[i]? = some x, fun i H x H' => H' = H ∧ ∀ xs, SqL K H a xs → xs[i]? = some x, fun i H => ∃ xs, SqL K H a xs ∧ xs.length ≤ i⟩
/-- lo, lo + 1, .. (n of them) -/
def Itr (lo : Int) (n : Nat) : It := ⟨fun i _ => i < n, fun i H x H' => H' = H ∧ x = .int (lo + i), fun i _ => n ≤ i⟩
theorem turn_list {P : Program} {w : World} {K : PySem.W.Frag} {tg : Expr} (a it : Addr) : Turn P w K tg (Itl K a) [it] it (fun i h => h.IsListIter it a i) where
  mem := by simp
  obj := fun i h st b hb => by
    have e : b = it := by simpa using hb
    subst e
    obtain ⟨o, e, c, d⟩ := st
    exact ⟨o, e, fun v z => by rw [d] at z; cases z⟩
  keep := fun i h h' st k => st.at fun o e => k it (by simp) o e
  item := by
    intro X hP hw hK hc i pins s σ H E I hf st hg
    subst hP hw hK
    obtain ⟨xs, x, hq, hx⟩ := hg
    obtain ⟨its, rv, p, hz⟩ := I.list hq
    obtain ⟨u, hu, ru⟩ := rv.get hx
    obtain ⟨f0, f1, f2, f3, f4, f5⟩ := hf it (by simp)
    refine wpAny_pyNext_list_item st p.isList (x := u) (by simpa using hu) fun h' st' sb => ?_
    have I1 : Inv X pins σ H { s with heap := h' } := I.turned (t' := s.toks) (fun b o hb e => (sb.2 b hb).trans e) f0 f1 f3 f4 f5
    obtain ⟨o, e, c, d⟩ := id st'
    exact ⟨u, rfl, go_of (s := { s with heap := h' }) e c d (by decide) ⟨x, H, I1, ru, ⟨rfl, fun ys hy => by rw [I.list_inj hy hq]; exact hx⟩, st', fun b hb => (hf b hb).1⟩⟩
  done := by
    intro X hP hw hK hc i pins s σ H E I hf st hg
    subst hP hw hK
    obtain ⟨xs, hq, hx⟩ := hg
    obtain ⟨its, rv, p, hz⟩ := I.list hq
    obtain ⟨f0, f1, f2, f3, f4, f5⟩ := hf it (by simp)
    have hl := rv.length
    exact wpAny_pyNext_list_end (I.ok.hd hc) st p.isList (by simp; omega) fun h' eb => ⟨rfl, I.turned (t' := s.toks) (fun b o hb e => eb b o hb e) f0 f1 f3 f4 f5⟩
  self := fun _ _ _ _ _ st h => wpAny_pyIter_listiter st h
theorem turn_range {P : Program} {w : World} {K : PySem.W.Frag} {tg : Expr} (it : Addr) (lo : Int) (n : Nat) : Turn P w K tg (Itr lo n) [it] it (fun i h => IsRangeIter h it (lo + (i : Nat) * 1) ((n : Int) - (i : Nat)) 1) where
  mem := by simp
  obj := fun i h st b hb => by
    have e : b = it := by simpa using hb
    subst e
    exact ⟨_, st, fun v z => by
      have z' : Data.fields _ = Data.cell v := z
      cases z'⟩
  keep := fun i h h' st k => k it (by simp) _ st
  item := by
    intro X hP hw hK hc i pins s σ H E I hf st hg
    subst hP hw hK
    obtain ⟨f0, f1, f2, f3, f4, f5⟩ := hf it (by simp)
    have W := Walks.range (prog := X.prog) (w := X.w) (I.ok.hd hc) it lo 1 n
    refine W.item i s _ _ hg st fun v h' tk hv st' kk => ?_
    obtain ⟨t, rfl⟩ := hv
    have I1 : Inv X pins σ H { s with heap := h', toks := tk } := I.turned (fun b o hb e => kk b o (by simpa using hb) e) f0 f1 f3 f4 f5
    refine ⟨_, rfl, go_of (s := { s with heap := h', toks := tk }) (n := "range_iterator") st' rfl rfl (by decide) ⟨.int (lo + i), H, I1, ⟨t, ?_⟩, ⟨rfl, rfl⟩, st', fun b hb => (hf b hb).1⟩⟩
    rw [Int.mul_one]
  done := by
    intro X hP hw hK hc i pins s σ H E I hf st hg
    subst hP hw hK
    obtain ⟨f0, f1, f2, f3, f4, f5⟩ := hf it (by simp)
    exact wpAny_pyNext_range_end (I.ok.hd hc) st (by have : n ≤ i := hg; omega) fun h' eb => ⟨rfl, I.turned (t' := s.toks) (fun b o hb e => eb b o hb e) f0 f1 f3 f4 f5⟩
  self := fun _ _ _ _ _ st h => wpAny_pyIter_rangeiter st h
end L2

namespace L2
open PySem PySem.Spec PyProof.Rows
section
variable {X : Cx} {tg : Expr}
def iList (K : PySem.W.Frag) (tl : TE) : TI := fun σ H R => tl σ H fun x H1 => ∃ a, x = .ref a ∧ (∃ xs, SqL K H1 a xs) ∧ R (Itl K a) H1
theorem pi_list {l : Expr} {tl : TE} (hl : PE X l tl) : PI X tg l (iList X.K tl) := by
  intro pins s σ H R I h
  refine thn (hl pins s σ H _ I h) fun v s1 ⟨x, H1, I1, r1, q1⟩ => ?_
  obtain ⟨a, e, ⟨xs, hq⟩, q⟩ := q1
  subst e
  cases r1
  obtain ⟨its, rv, p, hz⟩ := I1.list hq
  refine wpAny_pyIter_list p.isList ?_
  refine ⟨s1.heap.objs.size, [s1.heap.objs.size], _, _, H1, rfl, I1.kept (t' := s1.toks) fun b o e => Heap.get?_push_of_some _ e, turn_list a _, ⟨_, Heap.get?_push_size _ rfl, rfl, rfl⟩, fun b hb => ?_, q⟩
  have e : b = s1.heap.objs.size := by simpa using hb
  subst e
  exact I1.fpOk (Nat.le_refl _) (I1.hok.fresh (Nat.le_refl _))
/-- a range object just made, walked -/
theorem range_it {pins : List (Addr × Obj)} {σ : St} {H : Hp} {s : Shared} {R : It → Hp → Prop} {E : Value → Shared → Prop} {lo hi : Int} {t u v : Tok} {tk : Nat} (I : Inv X pins σ H s) (h1 : -(2 ^ 62) ≤ lo) (h2 : lo < 2 ^ 62) (h3 : -(2 ^ 62) ≤ hi) (h4 : hi < 2 ^ 62)
    (q : R (Itr lo (hi - lo).toNat) H) : wpAny (model X.prog X.w) X.A (pyIter (.ref s.heap.objs.size)) (PIE X pins σ tg R) E { s with heap := s.heap.push { cls := .type "range", data := .fields #[.int lo t, .int hi u, .int 1 v] }, toks := tk } := by
  refine wpAny_pyIter_range (IsRange.new ..) (small_one h1 h2 h3 h4) ?_
  have I1 : Inv X pins σ H { s with heap := s.heap.push { cls := .type "range", data := .fields #[.int lo t, .int hi u, .int 1 v] }, toks := tk } := I.kept fun b o e => Heap.get?_push_of_some _ e
  refine ⟨(s.heap.push { cls := .type "range", data := .fields #[.int lo t, .int hi u, .int 1 v] }).objs.size, [(s.heap.push { cls := .type "range", data := .fields #[.int lo t, .int hi u, .int 1 v] }).objs.size], _, _, H, rfl,
    I1.kept (t' := tk) fun b o e => Heap.get?_push_of_some _ e, turn_range _ lo (hi - lo).toNat, ?_, fun b hb => ?_, q⟩
  · have e1 : lo + ((0 : Nat) : Int) * 1 = lo := by simp
    have e2 : (((hi - lo).toNat : Nat) : Int) - ((0 : Nat) : Int) = Builtin.Range.rangeSize lo hi 1 := by rw [rangeSize_one]; split <;> omega
    show IsRangeIter _ _ (lo + ((0 : Nat) : Int) * 1) ((((hi - lo).toNat : Nat) : Int) - ((0 : Nat) : Int)) 1
    rw [e1, e2]
    exact Heap.get?_push_size _ rfl
  · have e : b = (s.heap.push { cls := .type "range", data := .fields #[.int lo t, .int hi u, .int 1 v] }).objs.size := by simpa using hb
    subst e
    exact I1.fpOk (Nat.le_refl _) (I1.hok.fresh (Nat.le_refl _))
def iRng1 (ta : TA) : TI := fun σ H R => ta σ H fun vs H1 => ∃ j : Int, vs = [.int j] ∧ -(2 ^ 62) ≤ j ∧ j < 2 ^ 62 ∧ R (Itr 0 j.toNat) H1
theorem pi_range1 {a : Expr} {ta : TA} {p pos : Pos} (hg : Gl X "range") (hm : X.mg "range" = none) (ha : PA X [a] ta) (hs : starEach [a] X.env = [(false, eval a X.env)] := by rfl) : PI X tg (.Call (.Name "range" p) [a] [] pos) (iRng1 ta) := by
  intro pins s σ H R I h
  refine Call_ (ld_blt I hg hm boot_range (PyProof.Rows.callWith_type1 (thn (ha pos pins s σ H _ I h) fun us s1 ⟨vs, H1, I1, r1, q1⟩ => ?_) hs rfl))
  obtain ⟨j, e, q1, q2, q⟩ := q1
  subst e
  cases r1 with
  | cons r rr =>
    cases rr
    obtain ⟨t, rfl⟩ := r
    exact call_range_1 (range_it I1 (by omega) (by omega) q1 q2 (by simpa using q))
/-! ### for -/
/-- W: the invariant by the turn and a measure; N: what the body is to reach -/
def tFor (wi : TI) (g : TG) (tb : TS) : TS := fun D σ H => wi σ H fun J H1 => ∃ W : Nat → Nat → St → Hp → Prop, (∃ m, W 0 m σ H1) ∧ ∀ i m σ H, W i m σ H →
  (J.stop i H ∧ D.nx σ H) ∨ (J.go i H ∧ ∃ N : St → Hp → Prop, (∀ σ' H', N σ' H' → ∃ m', m' < m ∧ W (i + 1) m' σ' H') ∧ ∀ x H', J.yld i H x H' → g x σ H' fun σ2 H2 => tb { D with nx := N, ct := N, bk := D.nx } σ2 H2)
/-- the records at fp as they stand -/
def pinsAt (fp : List Addr) (h : Heap) : List (Addr × Obj) := fp.filterMap fun b => (h.get? b).map fun o => (b, o)
theorem mem_pinsAt {fp : List Addr} {h : Heap} {b : Addr} {o : Obj} (hb : b ∈ fp) (e : h.get? b = some o) : (b, o) ∈ pinsAt fp h := List.mem_filterMap.mpr ⟨b, hb, by rw [e]; rfl⟩
theorem of_pinsAt {fp : List Addr} {h : Heap} {p : Addr × Obj} (hp : p ∈ pinsAt fp h) : p.1 ∈ fp ∧ h.get? p.1 = some p.2 := by
  obtain ⟨b, hb, e⟩ := List.mem_filterMap.mp hp
  cases q : h.get? b with
  | none => rw [q] at e; cases e
  | some o =>
    rw [q] at e
    have e' : (b, o) = p := Option.some.inj e
    subst e'
    exact ⟨hb, q⟩
theorem Inv.pinned {pins : List (Addr × Obj)} {σ : St} {H : Hp} {s : Shared} {fp : List Addr} (I : Inv X pins σ H s) (hf : ∀ b ∈ fp, FpOk X pins H b) (ho : ∀ b ∈ fp, ∃ o, s.heap.get? b = some o ∧ ∀ v, o.data ≠ .cell v) : Inv X (pins ++ pinsAt fp s.heap) σ H s :=
  I.pins_of fun p hp => (List.mem_append.mp hp).elim (fun z => I.pin p (List.mem_append_right _ z)) fun z => by
    obtain ⟨hb, e⟩ := of_pinsAt z
    obtain ⟨f0, f1, f2, _⟩ := hf p.1 hb
    obtain ⟨o, e', d⟩ := ho p.1 hb
    rw [e] at e'; cases e'
    exact ⟨e, f0, f1, f2, d⟩
theorem Inv.unpinned {pins pl : List (Addr × Obj)} {σ : St} {H : Hp} {s : Shared} (I : Inv X (pins ++ pl) σ H s) : Inv X pins σ H s := I.pins_of fun p hp => I.pin p (List.mem_append_right _ (List.mem_append_left _ hp))
theorem ps_for {iter : Expr} {body : List Stmt} {wi : TI} {g : TG} {tb : TS} {pos : Pos} (hp : PassesOwn (model X.prog X.w) X.A X.env X.xe) (hc : X.calm = true) (hi : PI X tg iter wi) (hg : PG X tg g) (hb : PSs X body tb)
    (hs : ∀ x, foldedSetIterable iter X.env x = pure x := by intro _; rfl) : PS X (.For tg iter body [] pos) (tFor wi g tb) := by
  intro pins s σ H D I h
  refine wpAny_For (thn (hi pins s σ H _ I h) fun v s1 h1 => thn h1 fun itv s2 h2 => ?_) hs
  obtain ⟨it, fp, tn, J, H2, e, I2, T, st2, f2, W, ⟨m0, w0⟩, turn⟩ := h2
  subst e
  -- what stays true of the iterator's objects through the loop
  have stat : ∀ {H' : Hp}, (∀ b ∈ fp, H' b = none) → ∀ b ∈ fp, FpOk X pins H' b := fun hn b hb => ⟨hn b hb, (f2 b hb).2⟩
  refine codeAny_forLoop_any (fun n s' => ∃ i σ' H', Inv X pins σ' H' s' ∧ tn i s'.heap ∧ (∀ b ∈ fp, H' b = none) ∧ W i n σ' H') ?_ m0 ⟨0, σ, H2, I2, st2, fun b hb => (f2 b hb).1, w0⟩
  rintro n s3 ⟨i, σ3, H3, I3, st3, fr3, w3⟩
  rcases turn i n σ3 H3 w3 with ⟨stop, qn⟩ | ⟨go, N, hN, step⟩
  · refine wpAny_passesOwn hp (thn (T.done X rfl rfl rfl hc i pins s3 σ3 H3 X.xe I3 (stat fr3) st3 stop) fun r s4 ⟨hr, I4⟩ => ?_)
    subst hr
    exact wpAny_execs_nil ⟨σ3, H3, I4, qn⟩
  · refine wpAny_passesOwn hp (thn (T.item X rfl rfl rfl hc i pins s3 σ3 H3 X.xe I3 (stat fr3) st3 go) fun r s4 ⟨u, hr, h4⟩ => ?_)
    subst hr
    refine wpAny_passesOwn hp (thn h4 fun _ s5 ⟨x, H5, I5, r5, y5, st5, fr5⟩ => ?_)
    have I5' := I5.pinned (stat fr5) (T.obj _ _ st5)
    refine wpAny_passesOwn hp (thn (hg _ s5 σ3 H5 x u _ I5' r5 (step x H5 y5)) fun _ s6 ⟨σ6, H6, I6, q6⟩ => ?_)
    refine wpAny_passesOwn hp (thn (hb _ s6 σ6 H6 _ I6 q6) fun f s7 q7 => ?_)
    have again : ∀ {σ7 : St} {H7 : Hp}, Inv X (pins ++ pinsAt fp s5.heap) σ7 H7 s7 → N σ7 H7 → ∃ m, m < n ∧ ∃ i σ' H', Inv X pins σ' H' s7 ∧ tn i s7.heap ∧ (∀ b ∈ fp, H' b = none) ∧ W i m σ' H' := fun {σ7 H7} I7 n7 => by
      obtain ⟨m', hm, w7⟩ := hN σ7 H7 n7
      refine ⟨m', hm, i + 1, σ7, H7, I7.unpinned, T.keep _ _ _ st5 fun b hb o e => (I7.pin (b, o) (List.mem_append_right _ (List.mem_append_right _ (mem_pinsAt hb e)))).1, fun b hb => ?_, w7⟩
      obtain ⟨o, e, d⟩ := T.obj _ _ st5 b hb
      exact (I7.pin (b, o) (List.mem_append_right _ (List.mem_append_right _ (mem_pinsAt hb e)))).2.1
    cases f with
    | next => obtain ⟨σ7, H7, I7, n7⟩ := q7; exact again I7 n7
    | cont => obtain ⟨σ7, H7, I7, n7⟩ := q7; exact again I7 n7
    | brk => obtain ⟨σ7, H7, I7, q7⟩ := q7; exact ⟨σ7, H7, I7.unpinned, q7⟩
    | ret v => obtain ⟨x7, σ7, H7, I7, r7, q7⟩ := q7; exact ⟨x7, σ7, H7, I7.unpinned, r7, q7⟩
end

/-! ### the forms one uses -/
/-- over a list that the body leaves as it is -/
theorem for_list {K : PySem.W.Frag} {a : Addr} {xs : List V} {g : TG} {tb : TS} {D : Ends} {σ : St} {H : Hp} (Pv : Nat → St → Hp → Prop) (h0 : Pv 0 σ H) (hl : ∀ i σ H, i ≤ xs.length → Pv i σ H → SqL K H a xs)
    (hs : ∀ i x σ H, xs[i]? = some x → Pv i σ H → g x σ H fun σ2 H2 => tb { D with nx := Pv (i + 1), ct := Pv (i + 1), bk := D.nx } σ2 H2) (hd : ∀ σ H, Pv xs.length σ H → D.nx σ H) :
    ∃ W : Nat → Nat → St → Hp → Prop, (∃ m, W 0 m σ H) ∧ ∀ i m σ H, W i m σ H →
      ((Itl K a).stop i H ∧ D.nx σ H) ∨ ((Itl K a).go i H ∧ ∃ N : St → Hp → Prop, (∀ σ' H', N σ' H' → ∃ m', m' < m ∧ W (i + 1) m' σ' H') ∧ ∀ x H', (Itl K a).yld i H x H' → g x σ H' fun σ2 H2 => tb { D with nx := N, ct := N, bk := D.nx } σ2 H2) := by
  refine ⟨fun i m σ H => m = xs.length - i ∧ i ≤ xs.length ∧ Pv i σ H, ⟨xs.length, by simp, Nat.zero_le _, h0⟩, ?_⟩
  rintro i m σ H ⟨rfl, hi, p⟩
  have q := hl i σ H hi p
  by_cases hlt : i < xs.length
  · refine .inr ⟨⟨xs, xs[i], q, by simp [hlt]⟩, Pv (i + 1), fun σ' H' p' => ⟨xs.length - (i + 1), by omega, rfl, hlt, p'⟩, fun x H' y => ?_⟩
    obtain ⟨e, y⟩ := y
    subst e
    exact hs i x σ _ (y xs q) p
  · have e : i = xs.length := by omega
    subst e
    exact .inl ⟨⟨xs, q, Nat.le_refl _⟩, hd σ H p⟩
theorem for_range {lo : Int} {n : Nat} {g : TG} {tb : TS} {D : Ends} {σ : St} {H : Hp} (Pv : Nat → St → Hp → Prop) (h0 : Pv 0 σ H)
    (hs : ∀ i σ H, i < n → Pv i σ H → g (.int (lo + i)) σ H fun σ2 H2 => tb { D with nx := Pv (i + 1), ct := Pv (i + 1), bk := D.nx } σ2 H2) (hd : ∀ σ H, Pv n σ H → D.nx σ H) :
    ∃ W : Nat → Nat → St → Hp → Prop, (∃ m, W 0 m σ H) ∧ ∀ i m σ H, W i m σ H →
      ((Itr lo n).stop i H ∧ D.nx σ H) ∨ ((Itr lo n).go i H ∧ ∃ N : St → Hp → Prop, (∀ σ' H', N σ' H' → ∃ m', m' < m ∧ W (i + 1) m' σ' H') ∧ ∀ x H', (Itr lo n).yld i H x H' → g x σ H' fun σ2 H2 => tb { D with nx := N, ct := N, bk := D.nx } σ2 H2) := by
  refine ⟨fun i m σ H => m = n - i ∧ i ≤ n ∧ Pv i σ H, ⟨n, by simp, Nat.zero_le _, h0⟩, ?_⟩
  rintro i m σ H ⟨rfl, hi, p⟩
  by_cases hlt : i < n
  · refine .inr ⟨hlt, Pv (i + 1), fun σ' H' p' => ⟨n - (i + 1), by omega, rfl, hlt, p'⟩, fun x H' y => ?_⟩
    obtain ⟨e, y⟩ := y
    subst e y
    exact hs i σ _ hlt p
  · have e : i = n := by omega
    subst e
    exact .inl ⟨Nat.le_refl _, hd σ H p⟩
end L2

namespace L2
open PySem PySem.Spec PyProof.Rows

abbrev R2 := V → V → Hp → VK → Prop
/-- a two-place operation on values: f is binaryOp op, inplaceOp op or compareOp op -/
def OpR (X : Cx) (f : Value → Value → Sem Value) (r : R2) : Prop :=
  ∀ (pins : List (Addr × Obj)) (s : Shared) (σ : St) (H : Hp) (x y : V) (v u : Value) (Q : VK), Inv X pins σ H s → RelV x v → RelV y u → r x y H Q →
    wpAny (model X.prog X.w) X.A (f v u) (EP X pins σ Q) X.xe s
/-- a one-place operation -/
def UnR (X : Cx) (f : Value → Sem Value) (r : V → Hp → VK → Prop) : Prop :=
  ∀ (pins : List (Addr × Obj)) (s : Shared) (σ : St) (H : Hp) (x : V) (v : Value) (Q : VK), Inv X pins σ H s → RelV x v → r x H Q →
    wpAny (model X.prog X.w) X.A (f v) (EP X pins σ Q) X.xe s
/-- a call of a value that is known (a builtin, a type) with values -/
def CallR (X : Cx) (f : Value) (r : List V → Hp → VK → Prop) : Prop :=
  ∀ (pins : List (Addr × Obj)) (s : Shared) (σ : St) (H : Hp) (xs : List V) (us : List Value) (Q : VK), Inv X pins σ H s → Vals xs us → r xs H Q →
    wpAny (model X.prog X.w) X.A (call f us) (EP X pins σ Q) X.xe s
def tOp (r : R2) (ta tb : TE) : TE := fun σ H Q => ta σ H fun x H1 => tb σ H1 fun y H2 => r x y H2 Q
def tUn (r : V → Hp → VK → Prop) (ta : TE) : TE := fun σ H Q => ta σ H fun x H1 => r x H1 Q
/-- ints in, under C, and a value out -/
def rI (C : Int → Int → Prop) (g : Int → Int → V) : R2 := fun x y H Q => ∃ i j, x = .int i ∧ y = .int j ∧ C i j ∧ Q (g i j) H
def rI0 (g : Int → Int → V) : R2 := fun x y H Q => ∃ i j, x = .int i ∧ y = .int j ∧ Q (g i j) H
def rU (g : Int → V) : V → Hp → VK → Prop := fun x H Q => ∃ i, x = .int i ∧ Q (g i) H

section
variable {X : Cx} {a b c : Expr} {ta tb tc : TE} {pos : Pos}

theorem binT (ha : PE X a ta) (hb : PE X b tb) {pins : List (Addr × Obj)} {s : Shared} {σ : St} {H : Hp} {R : V → V → Hp → Prop} (I : Inv X pins σ H s)
    (h : ta σ H fun x H1 => tb σ H1 fun y H2 => R x y H2) {Q : Value → Shared → Prop} {f : Value → Value → Sem Value}
    (hf : ∀ v u s2 x y H2, Inv X pins σ H2 s2 → RelV x v → RelV y u → R x y H2 → wpAny (model X.prog X.w) X.A (f v u) Q X.xe s2) :
    wpAny (model X.prog X.w) X.A (eval a X.env) (fun v s₁ => wpAny (model X.prog X.w) X.A (eval b X.env) (fun u s₂ => wpAny (model X.prog X.w) X.A (f v u) Q X.xe s₂) X.xe s₁) X.xe s := by
  refine thn (ha pins s σ H _ I h) fun v s1 ⟨x, H1, I1, r1, q1⟩ => ?_
  refine thn (hb pins s1 σ H1 _ I1 q1) fun u s2 ⟨y, H2, I2, r2, q2⟩ => ?_
  exact hf v u s2 x y H2 I2 r1 r2 q2

theorem pe_op {op : Operator} {r : R2} (ho : OpR X (binaryOp op) r) (ha : PE X a ta) (hb : PE X b tb) : PE X (.BinOp a op b pos) (tOp r ta tb) := by
  intro pins s σ H Q I h
  exact wpAny_BinOp (binT ha hb I h fun v u s2 x y H2 I2 rx ry q => ho pins s2 σ H2 x y v u Q I2 rx ry q)
theorem pe_un {op : UnaryOp} {r : V → Hp → VK → Prop} (ho : UnR X (unaryOp op) r) (ha : PE X a ta) : PE X (.UnaryOp op a pos) (tUn r ta) := by
  intro pins s σ H Q I h
  exact UnaryOp_ (thn (ha pins s σ H _ I h) fun v s1 ⟨x, H1, I1, r1, q1⟩ => ho pins s1 σ H1 x v Q I1 r1 q1)
/-! ### ints -/
theorem opI {f : Value → Value → Sem Value} {C : Int → Int → Prop} {g : Int → Int → Int}
    (rule : ∀ (i j : Int) (t u : Tok) (s : Shared) (Q : Value → Shared → Prop) (E : Value → Shared → Prop), C i j → Q (.int (g i j) s.toks) { s with toks := s.toks + 1 } → wpAny (model X.prog X.w) X.A (f (.int i t) (.int j u)) Q E s) :
    OpR X f (rI C fun i j => .int (g i j)) := by
  intro pins s σ H x y v u Q I rx ry h
  obtain ⟨i, j, rfl, rfl, hc, q⟩ := h
  obtain ⟨t, rfl⟩ := rx
  obtain ⟨t', rfl⟩ := ry
  exact rule i j t t' s _ _ hc ⟨.int (g i j), H, I.tok _, ⟨_, rfl⟩, q⟩
theorem opI0 {f : Value → Value → Sem Value} {g : Int → Int → Int}
    (rule : ∀ (i j : Int) (t u : Tok) (s : Shared) (Q : Value → Shared → Prop) (E : Value → Shared → Prop), Q (.int (g i j) s.toks) { s with toks := s.toks + 1 } → wpAny (model X.prog X.w) X.A (f (.int i t) (.int j u)) Q E s) :
    OpR X f (rI0 fun i j => .int (g i j)) := by
  intro pins s σ H x y v u Q I rx ry h
  obtain ⟨i, j, rfl, rfl, q⟩ := h
  obtain ⟨t, rfl⟩ := rx
  obtain ⟨t', rfl⟩ := ry
  exact rule i j t t' s _ _ ⟨.int (g i j), H, I.tok _, ⟨_, rfl⟩, q⟩
theorem opB0 {f : Value → Value → Sem Value} {g : Int → Int → Bool}
    (rule : ∀ (i j : Int) (t u : Tok) (s : Shared) (Q : Value → Shared → Prop) (E : Value → Shared → Prop), Q (.bool (g i j)) s → wpAny (model X.prog X.w) X.A (f (.int i t) (.int j u)) Q E s) :
    OpR X f (rI0 fun i j => .bl (g i j)) := by
  intro pins s σ H x y v u Q I rx ry h
  obtain ⟨i, j, rfl, rfl, q⟩ := h
  obtain ⟨t, rfl⟩ := rx
  obtain ⟨t', rfl⟩ := ry
  exact rule i j t t' s _ _ ⟨.bl (g i j), H, I, rfl, q⟩

def CPow (i j : Int) : Prop := 0 ≤ j ∧ j ≤ 1000000 ∧ i.natAbs < 2 ^ 64
def CMul (i j : Int) : Prop := (-(2 ^ 64) < i ∧ i < 2 ^ 64) ∨ (-(2 ^ 64) < j ∧ j < 2 ^ 64)
theorem CMul.ok {i j : Int} (h : CMul i j) : IntMulOk i j := by
  rcases h with ⟨h1, h2⟩ | ⟨h1, h2⟩
  · exact .of_left (intBits_le_64 h1 h2)
  · exact .of_right (intBits_le_64 h1 h2)
theorem op_add : OpR X (binaryOp .Add) (rI0 fun i j => .int (i + j)) := opI0 fun _ _ _ _ _ _ _ q => add_int q
theorem op_sub : OpR X (binaryOp .Sub) (rI0 fun i j => .int (i - j)) := opI0 fun _ _ _ _ _ _ _ q => sub_int q
theorem op_mul : OpR X (binaryOp .Mult) (rI CMul fun i j => .int (i * j)) := opI fun _ _ _ _ _ _ _ hc q => mul_int q hc.ok
/-- % by a positive divisor of any size -/
theorem op_mod : OpR X (binaryOp .Mod) (rI (fun _ j => 0 < j) fun i j => .int (i % j)) := opI fun i j _ _ _ _ _ hc q => by
  have h1 : (0 : Int) < j := hc
  exact mod_int' (by omega) (by rw [Int.fmod_eq_emod_of_nonneg i (by omega)]; exact q)
theorem op_pow : OpR X (binaryOp .Pow) (rI CPow fun i j => .int (i ^ j.toNat)) := opI fun _ _ _ _ _ _ _ hc q => pow_int_small hc.1 hc.2.1 hc.2.2 q
theorem unI {f : Value → Sem Value} {g : Int → Int}
    (rule : ∀ (i : Int) (t : Tok) (s : Shared) (Q : Value → Shared → Prop) (E : Value → Shared → Prop), Q (.int (g i) s.toks) { s with toks := s.toks + 1 } → wpAny (model X.prog X.w) X.A (f (.int i t)) Q E s) :
    UnR X f (rU fun i => .int (g i)) := by
  intro pins s σ H x v Q I rx h
  obtain ⟨i, rfl, q⟩ := h
  obtain ⟨t, rfl⟩ := rx
  exact rule i t s _ _ ⟨.int (g i), H, I.tok _, ⟨_, rfl⟩, q⟩
theorem un_neg : UnR X (unaryOp .USub) (rU fun i => .int (-i)) := unI fun _ _ _ _ _ q => neg_int q
/-! ### bools among ints: n += (a < b) -/
end

/-! ### comparisons -/
section
variable {X : Cx} {a b c : Expr} {ta tb tc : TE} {pos : Pos}
theorem op_lt : OpR X (compareOp .Lt) (rI0 fun i j => .bl (decide (i < j))) := opB0 fun _ _ _ _ _ _ _ q => lt_int q
theorem op_le : OpR X (compareOp .LtE) (rI0 fun i j => .bl (decide (i ≤ j))) := opB0 fun _ _ _ _ _ _ _ q => le_int q
theorem op_gt : OpR X (compareOp .Gt) (rI0 fun i j => .bl (decide (j < i))) := opB0 fun _ _ _ _ _ _ _ q => gt_int q
theorem op_ge : OpR X (compareOp .GtE) (rI0 fun i j => .bl (decide (j ≤ i))) := opB0 fun _ _ _ _ _ _ _ q => ge_int q
/-- two rules for one operation: by cases -/
theorem OpR.or {f : Value → Value → Sem Value} {r r' : R2} (h : OpR X f r) (h' : OpR X f r') : OpR X f (fun x y H Q => r x y H Q ∨ r' x y H Q) := by
  intro pins s σ H x y v u Q I rx ry q
  rcases q with q | q
  · exact h pins s σ H x y v u Q I rx ry q
  · exact h' pins s σ H x y v u Q I rx ry q

theorem nomark (b : Expr) {op : CmpOp} (h : op ≠ .In := by decide) (h2 : op ≠ .NotIn := by decide) : behindInMarks op b = false := by
  have e1 : (op == CmpOp.In) = false := by cases op <;> first | rfl | exact absurd rfl h
  have e2 : (op == CmpOp.NotIn) = false := by cases op <;> first | rfl | exact absurd rfl h2
  cases b <;> simp [behindInMarks, e1, e2]
/-- a comparison as a value; hm: nomark b, or (for in, not in) by with_unfolding_all rfl -/
theorem pe_cmpR {op : CmpOp} {r : R2} (ho : OpR X (compareOp op) r) (ha : PE X a ta) (hb : PE X b tb) (hm : behindInMarks op b = false) : PE X (.Compare a [op] [b] pos) (tOp r ta tb) := by
  intro pins s σ H Q I h
  exact wpAny_Compare1 (binT ha hb I h fun v u s2 x y H2 I2 rx ry q => ho pins s2 σ H2 x y v u Q I2 rx ry q) hm
/-- a reading of a value as a test -/
def tTest (t : TE) : TT := fun σ H Q => t σ H fun x H' => ∃ k, x = .bl k ∧ Q k H'
theorem pt_cmpR {op : CmpOp} {r : R2} (ho : OpR X (compareOp op) r) (ha : PE X a ta) (hb : PE X b tb) (hm : behindInMarks op b = false) : PT X (.Compare a [op] [b] pos) (tTest (tOp r ta tb)) := by
  intro pins s σ H Q I h
  refine wpAny_isTrue_Compare1 (thn (ha pins s σ H _ I h) fun v s1 ⟨x, H1, I1, r1, q1⟩ => thn (hb pins s1 σ H1 _ I1 q1) fun u s2 ⟨y, H2, I2, r2, q2⟩ =>
    thn (ho pins s2 σ H2 x y v u _ I2 r1 r2 q2) fun c s3 ⟨z, H3, I3, r3, k, e, q3⟩ => ?_) hm
  subst e
  cases r3
  exact wpAny_truthy_bool ⟨H3, I3, q3⟩
/-! ### truth -/
theorem line63 : (sizeLine : Nat) < 2 ^ 63 := by rw [sizeLine_eq]; decide
/-! ### strs and bytes -/
/-! ### scalar builtins, by CallR -/
theorem vals1 {x : V} {us : List Value} (r : Vals [x] us) : ∃ u, us = [u] ∧ RelV x u := by
  cases r with
  | cons r1 r2 => cases r2; exact ⟨_, rfl, r1⟩
theorem vals2 {x y : V} {us : List Value} (r : Vals [x, y] us) : ∃ u w', us = [u, w'] ∧ RelV x u ∧ RelV y w' := by
  cases r with
  | cons r1 r2 =>
    cases r2 with
    | cons r3 r4 => cases r4; exact ⟨_, _, rfl, r1, r3⟩
theorem call_abs : CallR X (.builtin "abs") (fun xs H Q => ∃ i, xs = [.int i] ∧ Q (.int (if i < 0 then -i else i)) H) := by
  intro pins s σ H xs us Q I r h
  obtain ⟨i, rfl, q⟩ := h
  obtain ⟨u, rfl, t, rfl⟩ := vals1 r
  exact call_abs_int fun u tk => ⟨.int (if i < 0 then -i else i), H, I.tok _, ⟨_, rfl⟩, q⟩
theorem call_max2 (hc : X.calm = true) : CallR X (.builtin "max") (fun xs H Q => ∃ i j, xs = [.int i, .int j] ∧ Q (.int (if j > i then j else i)) H) := by
  intro pins s σ H xs us Q I r h
  obtain ⟨i, j, rfl, q⟩ := h
  obtain ⟨u, w', rfl, ⟨t, rfl⟩, ⟨t', rfl⟩⟩ := vals2 r
  refine max_two_ints (I.ok.hd hc) fun h' tk k => ⟨_, H, I.kept k, ?_, q⟩
  by_cases hj : j > i
  · rw [if_pos hj, if_pos hj]; exact ⟨_, rfl⟩
  · rw [if_neg hj, if_neg hj]; exact ⟨_, rfl⟩
theorem call_int1 : CallR X (.type "int") (fun xs H Q => (∃ i, xs = [.int i] ∧ Q (.int i) H) ∨ ∃ k, xs = [.bl k] ∧ Q (.int (if k then 1 else 0)) H) := by
  intro pins s σ H xs us Q I r h
  rcases h with ⟨i, rfl, q⟩ | ⟨k, rfl, q⟩
  · obtain ⟨u, rfl, t, rfl⟩ := vals1 r
    exact call_int_int ⟨.int i, H, I, ⟨_, rfl⟩, q⟩
  · obtain ⟨u, rfl, r1⟩ := vals1 r
    cases r1
    exact call_int_bool ⟨.int (if k then 1 else 0), H, I.tok _, ⟨_, rfl⟩, q⟩
end
end L2

namespace L2
open PySem PySem.Spec PyProof.Rows

/-! ### an instance, its attributes a map -/
structure ObjM (h : Heap) (x dx C : Addr) (mA : Str → Option Value) : Prop where
  obj : h.get? x = some (PySem.W.instObj C dx)
  ns : h.Ns1 dx mA
  ne : dx ≠ x

theorem lookIn_ns {h : Heap} {dx : Addr} {mA : Str → Option Value} (n : h.Ns1 dx mA) : ∃ od, h.get? dx = some od ∧ ∀ name, PySem.W.lookIn name od = some (mA name) := by
  obtain ⟨o, es, ep, ho, hd, hk, _, hm⟩ := n
  refine ⟨o, ho, fun name => ?_⟩
  have e := hm name
  unfold nsFind findBy at e
  rw [← Array.find?_toList] at e
  unfold PySem.W.lookIn
  rw [hd]
  dsimp only
  split
  · rename_i y q
    rw [q] at e
    exact congrArg some e
  · rename_i q
    rw [q] at e
    have a : es.toList.any (·.refKey) = false := by
      rw [List.any_eq_false]
      intro y hy
      obtain ⟨z, t, hkey⟩ := hk y (Array.mem_toList_iff.mp hy)
      simp [DictEntry.refKey, hkey]
    have a' : ¬ es.toList.any (·.refKey) = true := by rw [a]; exact Bool.false_ne_true
    rw [if_neg a']
    exact congrArg some e

theorem ObjM.look {h : Heap} {x dx C : Addr} {mA : Str → Option Value} (I : ObjM h x dx C mA) : ∃ od, PySem.W.InstAt h x (PySem.W.instObj C dx) C (some od) ∧ ∀ name, PySem.W.lookIn name od = some (mA name) :=
  let ⟨od, ho, hl⟩ := lookIn_ns I.ns
  ⟨od, ⟨I.obj, rfl, rfl, ho⟩, hl⟩

section
variable {prog : Program} {w : World} {A : Around} {E : Value → Shared → Prop} {s : Shared} {K : PySem.W.Frag} {x dx C f : Addr} {mA : Str → Option Value} {name : Str} {v : Value}

theorem get_map {expr : Bool} {Q : Value → Shared → Prop} (X : K.In s.heap) (I : ObjM s.heap x dx C mA) (hg : PySem.W.plainGet K C name = true) (hh : PySem.W.hasDictIn K C = true)
    (ha : PySem.W.findIn K (.ref C) name = some none) (hv : mA name = some v) (hv' : PySem.W.handedIn v = true) (h : Q v { s with toks := s.toks + 1 }) :
    wpAny (model prog w) A (getAttr (.ref x) name expr) Q E s := by
  obtain ⟨od, J, hl⟩ := I.look
  exact PySem.W.get_value X J (PySem.W.plainGet_of hg).1 (PySem.W.findObj_own hh ha rfl (by rw [hl, hv])) hv' h

theorem get_meth {pl : Sem Bool} {Q : Value × List Value → Shared → Prop} (X : K.In s.heap) (I : ObjM s.heap x dx C mA) (hg : PySem.W.plainGet K C name = true)
    (hf : PySem.W.findIn K (.ref C) name = some (some (.ref f))) (ht : PySem.W.isFn K (.ref f) = true) (hv : mA name = none) (h : Q (.ref f, [.ref x]) s) :
    wpAny (model prog w) A (getMethod (.ref x) name pl) Q E s := by
  obtain ⟨od, J, hl⟩ := I.look
  exact PySem.W.method_fn X J (PySem.W.plainGet_of hg).1 (PySem.W.plainGet_of hg).2 hf (beq_iff_eq.mp ht) (by show (PySem.W.lookIn name od).map (·.isSome) = some false; rw [hl, hv]; rfl) h

theorem set_map {ns : List Str} {Q : Unit → Shared → Prop} (X : K.In s.heap) (I : ObjM s.heap x dx C mA)
    (hs : PySem.W.findIn K (.ref C) "__setattr__" = some (some (.builtin "object.__setattr__"))) (hp : PySem.W.plainOver K C = true) (ht : PySem.W.takerIn K C name = some none) (hh : PySem.W.hasDictIn K C = true)
    (hw : PySem.Within mA ns) (hsz : ns.length ≤ sizeLine)
    (h : ∀ h', ObjM h' x dx C (fun y => if y = name then some v else mA y) → Heap.SameBut dx s.heap h' → Q () { s with heap := h', toks := s.toks + 2 }) :
    wpAny (model prog w) A (setAttr (.ref x) name v) Q E s := by
  obtain ⟨od, J, hl⟩ := I.look
  refine PySem.W.set_plain X J hs (PySem.W.osa_open (s := { s with toks := s.toks + 1 }) (r := none) X J hp ht fun b => ?_)
  obtain ⟨cd, hc, hd'⟩ := PySem.W.any_some hh
  have hx : s.heap.get? x = some ⟨.ref C, some dx, .plain, #[]⟩ := I.obj
  refine wpAny_bind (wpAny_pure (wpAny_bind (wpAny_bind (wpAny_loadPart hx (wpAny_bind (PySem.W.Looks.here (s := { s with toks := s.toks + 1 }) (PySem.W.looks_clsIn X hc) ?_))))))
  rw [hd']
  refine wpAny_pure (a := some dx) (wpAny_bind (wpAny_pure (wpAny_bind ?_)))
  refine wpAny_nsSet1 (s := { s with toks := s.toks + 1 }) I.ns fun h' hn2 hs2 => ?_
  obtain ⟨oD, esD, epD, hoD, hdD, hcD⟩ := hn2.count (PySem.Within.cons name v hw)
  refine wpAny_bind (wpAny_lookBehind hoD (by rw [hdD]; exact pastItsLine_dict (Nat.le_trans hcD (by rw [List.length_cons]; omega))) ?_)
  exact wpAny_pure (h _ ⟨(hs2.2 _ (Ne.symm I.ne)).trans I.obj, hn2, I.ne⟩ hs2)

/-- C(..): the dict at the heap's end, the instance behind it; then its __init__ -/
theorem make_map {R : Result → Shared → Prop} {vs : List Value} {kw : List (Str × Value)} (X : K.In s.heap) (hm : PySem.W.makesIn K C = true)
    (hi : PySem.W.findIn K (.ref C) "__init__" = some (some (.ref f))) (hf : PySem.W.typeIn K (.ref f) = some (.type "function"))
    (h : codeAny (model prog w) (A.under (.builtin "type.__call__" ⟨.ref C :: vs, kw⟩)) (.call (.ref f) ⟨.ref (s.heap.objs.size + 1) :: vs, kw⟩) (PySem.W.InitBack (s.heap.objs.size + 1) R)
      { s with heap := (s.heap.push PySem.W.emptyDict).push (PySem.W.instObj C s.heap.objs.size) }) :
    codeAny (model prog w) A (.call (.ref C) ⟨vs, kw⟩) R s := by
  obtain ⟨hh, g, d, t, os⟩ := s
  exact PySem.W.make_core (PySem.W.makes_of X hm) (PySem.W.looks_findIn X hi) (fun self => PySem.W.bind_fn X self hf) (.inl rfl) h
end

/-! ### the attributes as a list of pairs -/
def putF (f : Str) (v : V) : List (Str × V) → List (Str × V)
  | [] => [(f, v)]
  | (g, x) :: r => if g = f then (g, v) :: r else (g, x) :: putF f v r
theorem lookup_putF (f g : Str) (v : V) : ∀ fs : List (Str × V), (putF f v fs).lookup g = if g = f then some v else fs.lookup g
  | [] => by
    show List.lookup g [(f, v)] = _
    by_cases h : g = f
    · have hb : (g == f) = true := beq_iff_eq.mpr h
      simp only [List.lookup, hb, if_pos h]
    · have hb : (g == f) = false := beq_eq_false_iff_ne.mpr h
      simp only [List.lookup, hb, if_neg h]
  | (k, x) :: r => by
    have ih := lookup_putF f g v r
    rw [show putF f v ((k, x) :: r) = (if k = f then (k, v) :: r else (k, x) :: putF f v r) from rfl]
    by_cases hk : k = f
    · rw [if_pos hk]
      by_cases h : g = k
      · have hb : (g == k) = true := beq_iff_eq.mpr h
        simp only [List.lookup, hb, if_pos (h.trans hk)]
      · have hb : (g == k) = false := beq_eq_false_iff_ne.mpr h
        simp only [List.lookup, hb, if_neg (fun e : g = f => h (e.trans hk.symm))]
    · rw [if_neg hk]
      by_cases h : g = k
      · have hb : (g == k) = true := beq_iff_eq.mpr h
        simp only [List.lookup, hb, if_neg (fun e : g = f => hk (h.symm.trans e))]
      · have hb : (g == k) = false := beq_eq_false_iff_ne.mpr h
        simp only [List.lookup, hb]
        exact ih
theorem keys_putF (f : Str) (v : V) : ∀ fs : List (Str × V), f ∈ (putF f v fs).map (·.1) ∧ ∀ g, g ∈ fs.map (·.1) → g ∈ (putF f v fs).map (·.1)
  | [] => ⟨by simp [putF], fun g h => by simp at h⟩
  | (k, x) :: r => by
    obtain ⟨i1, i2⟩ := keys_putF f v r
    rw [show putF f v ((k, x) :: r) = (if k = f then (k, v) :: r else (k, x) :: putF f v r) from rfl]
    by_cases hk : k = f
    · rw [if_pos hk]
      subst hk
      exact ⟨by simp, fun g h => by simpa using h⟩
    · rw [if_neg hk]
      refine ⟨?_, fun g h => ?_⟩
      · rw [List.map_cons]
        exact List.mem_cons_of_mem _ i1
      · rw [List.map_cons] at h ⊢
        rcases List.mem_cons.mp h with e | e
        · exact List.mem_cons.mpr (.inl e)
        · exact List.mem_cons_of_mem _ (i2 g e)
theorem length_putF (f : Str) (v : V) : ∀ fs : List (Str × V), (putF f v fs).length ≤ fs.length + 1
  | [] => by simp [putF]
  | (k, x) :: r => by
    have ih := length_putF f v r
    rw [show putF f v ((k, x) :: r) = (if k = f then (k, v) :: r else (k, x) :: putF f v r) from rfl]
    by_cases hk : k = f
    · rw [if_pos hk, List.length_cons, List.length_cons]; omega
    · rw [if_neg hk, List.length_cons, List.length_cons]; omega

theorem RelO.some_of {v : V} {o : Option Value} (r : RelO (some v) o) : ∃ u, o = some u ∧ RelV v u := by
  cases o with
  | none => exact (show False from r).elim
  | some u => exact ⟨u, rfl, r⟩
theorem RelO.none_of {o : Option Value} (r : RelO none o) : o = none := by
  cases o with
  | none => rfl
  | some u => exact (show False from r).elim
theorem handed_of {v : V} {u : Value} (r : RelV v u) : PySem.W.handedIn u = true := by
  cases v with
  | non => cases (show u = Value.none from r); rfl
  | bl b => cases (show u = Value.bool b from r); rfl
  | int i => obtain ⟨t, e⟩ := (show ∃ t, u = Value.int i t from r); cases e; rfl
  | str x => obtain ⟨t, e⟩ := (show ∃ t, u = Value.str x t from r); cases e; rfl
  | byt b => obtain ⟨t, e⟩ := (show ∃ t, u = Value.bytes b t from r); cases e; rfl
  | flt b => obtain ⟨t, e⟩ := (show ∃ t, u = Value.float b t from r); cases e; rfl
  | ref a => cases (show u = Value.ref a from r); rfl
  | ty n => cases (show u = Value.type n from r); rfl

section
variable {P : Program} {w : World} {H H' : Hp} {h h' : Heap} {a C dx : Addr} {fs fs' : List (Str × V)}
theorem ins_get (hok : HOk P w H h) (e : H a = some (.ins C dx fs)) : ∃ mA, ObjM h a dx C mA ∧ (∀ f, RelO (fs.lookup f) (mA f)) ∧ PySem.Within mA (fs.map (·.1)) ∧ fs.length ≤ 1000 ∧ H dx = some (.own a) := by
  obtain ⟨d, z, ne, ob, mA, n, r, q⟩ := (show ObjOk P w H h a (.ins C dx fs) from hok a _ e)
  exact ⟨mA, ⟨ob, n, ne⟩, r, q, z, d⟩
end

/-! ### what of the text a class must have -/
structure Cls (K : PySem.W.Frag) (C : Addr) : Prop where
  pg : PySem.W.plainGet K C Str.empty = true
  hd : PySem.W.hasDictIn K C = true
  po : PySem.W.plainOver K C = true
  sa : PySem.W.findIn K (.ref C) "__setattr__" = some (some (.builtin "object.__setattr__"))
theorem Cls.get {K : PySem.W.Frag} {C : Addr} (c : Cls K C) (f : Str) : PySem.W.plainGet K C f = true := c.pg
/-- no class of it has the name -/
def NoAttr (K : PySem.W.Frag) (C : Addr) (f : Str) : Prop := PySem.W.findIn K (.ref C) f = some none
theorem NoAttr.taker {K : PySem.W.Frag} {C : Addr} {f : Str} (n : NoAttr K C f) : PySem.W.takerIn K C f = some none := by
  unfold PySem.W.takerIn
  rw [show PySem.W.findIn K (.ref C) f = some none from n]
  rfl
/-- a method: a plain def of the class or of one above it -/
structure Meth (K : PySem.W.Frag) (C : Addr) (m : Str) (f : Addr) : Prop where
  at_ : PySem.W.findIn K (.ref C) m = some (some (.ref f))
  fn : PySem.W.isFn K (.ref f) = true
  kp : PySem.W.keepIn K (.ref f) = true

section
variable {X : Cx} {pins : List (Addr × Obj)} {σ : St} {H : Hp} {s : Shared} {a C dx : Addr} {fs : List (Str × V)} {f : Str} {v : V} {A : Around} {E : Value → Shared → Prop}

theorem getattr_ok {b : Bool} {Q : Value → Shared → Prop} (I : Inv X pins σ H s) (e : H a = some (.ins C dx fs)) (c : Cls X.K C) (n : NoAttr X.K C f) (l : fs.lookup f = some v)
    (h : ∀ u s', Inv X pins σ H s' → RelV v u → Q u s') : wpAny (model X.prog X.w) A (getAttr (.ref a) f b) Q E s := by
  obtain ⟨mA, O, r, _, _, _⟩ := ins_get I.hok e
  obtain ⟨u, hu, ru⟩ := RelO.some_of (v := v) (o := mA f) (by rw [← l]; exact r f)
  exact get_map I.kIn O (c.get f) c.hd n hu (handed_of ru) (h u _ (I.tok _) ru)

theorem getmeth_ok {m : Str} {g : Addr} {pl : Sem Bool} {Q : Value × List Value → Shared → Prop} (I : Inv X pins σ H s) (e : H a = some (.ins C dx fs)) (c : Cls X.K C) (k : Meth X.K C m g) (l : fs.lookup m = none)
    (h : Q (.ref g, [.ref a]) s) : wpAny (model X.prog X.w) A (getMethod (.ref a) m pl) Q E s := by
  obtain ⟨mA, O, r, _, _, _⟩ := ins_get I.hok e
  have hn : mA m = none := RelO.none_of (by rw [← l]; exact r m)
  exact get_meth I.kIn O (c.get m) k.at_ k.fn hn h

theorem setattr_ok {y : V} {u : Value} {Q : Unit → Shared → Prop} (I : Inv X pins σ H s) (e : H a = some (.ins C dx fs)) (c : Cls X.K C) (n : NoAttr X.K C f) (hl : fs.length < 1000) (ry : RelV y u)
    (h : ∀ s', Inv X pins σ (upd H a (.ins C dx (putF f y fs))) s' → Q () s') : wpAny (model X.prog X.w) A (setAttr (.ref a) f u) Q E s := by
  obtain ⟨mA, O, r, wi, _, ho⟩ := ins_get I.hok e
  have hz : (fs.map (·.1)).length ≤ sizeLine := by rw [List.length_map, sizeLine_eq]; omega
  refine set_map I.kIn O c.sa c.po n.taker c.hd wi hz fun h' O' sb => h _ ?_
  have hd : ∃ o, h'.get? dx = some o := let ⟨o, _, _, e', _⟩ := O'.ns; ⟨o, e'⟩
  refine I.write (x := a) (e := dx) (by rw [e]; exact True.intro) (.inr ho) (fun b q hb z => (sb.2 b hb).trans z) hd ?_
  refine ⟨by rw [upd_ne O.ne]; exact ho, ?_, O.ne, O'.obj, _, O'.ns, fun g => ?_, fun g hg => ?_⟩
  · have := length_putF f y fs; omega
  · show RelO ((putF f y fs).lookup g) (if g = f then some u else mA g)
    rw [lookup_putF]
    by_cases q : g = f
    · rw [if_pos q, if_pos q]; exact ry
    · rw [if_neg q, if_neg q]; exact r g
  · by_cases q : g = f
    · rw [q]; exact (keys_putF f y fs).1
    · refine (keys_putF f y fs).2 g (wi g fun z => hg ?_)
      show (if g = f then some u else mA g) = none
      rw [if_neg q]; exact z

/-- a new instance, tracked, without attributes -/
theorem Inv.made (I : Inv X pins σ H s) : Inv X pins σ (upd (upd H s.heap.objs.size (.own (s.heap.objs.size + 1))) (s.heap.objs.size + 1) (.ins C s.heap.objs.size []))
    { s with heap := (s.heap.push PySem.W.emptyDict).push (PySem.W.instObj C s.heap.objs.size) } := by
  have e1 : (s.heap.push PySem.W.emptyDict).get? s.heap.objs.size = some PySem.W.emptyDict := Heap.get?_push_size s.heap rfl
  have e2 : ((s.heap.push PySem.W.emptyDict).push (PySem.W.instObj C s.heap.objs.size)).get? (s.heap.objs.size + 1) = some (PySem.W.instObj C s.heap.objs.size) := by
    have := Heap.get?_push_size (s.heap.push PySem.W.emptyDict) (o := PySem.W.instObj C s.heap.objs.size) rfl
    rwa [Heap.size_push] at this
  have e3 : (s.heap.push PySem.W.emptyDict).Ns s.heap.objs.size (fun _ => none) := ⟨PySem.W.emptyDict, #[], _, e1, rfl, (fun e he => absurd he (by simp)), fun _ => rfl⟩
  have I1 := I.laid (a := s.heap.objs.size) (o := .own (s.heap.objs.size + 1)) (h' := s.heap.push PySem.W.emptyDict) (t' := s.toks) (fun b u q => Heap.get?_push_of_some _ q) (Nat.le_refl _) ⟨_, e1⟩
  refine I1.laid (a := s.heap.objs.size + 1) (o := .ins C s.heap.objs.size []) (t' := s.toks) (fun b u q => Heap.get?_push_of_some _ q) (Nat.le_of_eq (Heap.size_push _ _)) ?_
  have ne : s.heap.objs.size ≠ s.heap.objs.size + 1 := Nat.ne_of_lt (Nat.lt_succ_self _)
  refine ⟨by rw [upd_ne ne, upd_same], Nat.zero_le _, ne, e2, fun _ => none, (Heap.Ns1.of_empty e3).at fun o q => Heap.get?_push_of_some _ q, fun _ => True.intro, fun y hy => absurd rfl hy⟩

/-- e.f where nothing but the object is asked: through attributeBase (super) and the last hold -/
theorem attr_of {prog : Program} {w : World} {env : Env} {e : Expr} {f : Str} {pos : Pos} {s : Shared} {Q : Value → Shared → Prop} (hb : attributeBase e f env (eval e env) = eval e env)
    (h : wpAny (model prog w) A (eval e env) (fun o s₁ => wpAny (model prog w) A (getAttr o f true) Q E s₁) E s) : wpAny (model prog w) A (eval (.Attribute e f pos) env) Q E s :=
  Attribute_any_ h (by rw [arm_eval_Attribute, hb])
end

/-! ### readings and rules -/
/-- e.f, an attribute of the instance -/
def tFld (K : PySem.W.Frag) (ta : TE) (f : Str) : TE := fun σ H Q => ta σ H fun x H1 => ∃ a C dx fs v, x = .ref a ∧ H1 a = some (.ins C dx fs) ∧ Cls K C ∧ NoAttr K C f ∧ fs.lookup f = some v ∧ Q v H1
/-- e.f = value -/
def sFld (K : PySem.W.Frag) (ta tv : TE) (f : Str) : TS := fun D σ H => tv σ H fun y H1 => ta σ H1 fun x H2 => ∃ a C dx fs, x = .ref a ∧ H2 a = some (.ins C dx fs) ∧ Cls K C ∧ NoAttr K C f ∧ fs.length < 1000 ∧
  D.nx σ (upd H2 a (.ins C dx (putF f y fs)))
section
variable {X : Cx} {o e value : Expr} {f : Str} {pos pos' tpos : Pos} {ta tv : TE}
theorem pe_fld (he : PE X e ta) (hb : attributeBase e f X.env (eval e X.env) = eval e X.env) : PE X (.Attribute e f pos) (tFld X.K ta f) := by
  intro pins s σ H Q I h
  refine attr_of hb (thn (he pins s σ H _ I h) fun u s1 ⟨x, H1, I1, rx, a, C, dx, fs, v, ex, ea, c, n, l, q⟩ => ?_)
  subst ex
  obtain rfl : u = Value.ref a := rx
  exact getattr_ok I1 ea c n l fun u' s2 I2 ru => ⟨v, H1, I2, ru, q⟩
theorem ps_fld (ha : PE X o ta) (hv : PE X value tv) (hs : swapsWith value (some (.Attribute o f pos')) pos.line X.env = pure false) : PS X (.Assign [.Attribute o f pos'] value pos) (sFld X.K ta tv f) := by
  intro pins s σ H D I h
  refine plainObj_wpAny_Assign_Attribute (thn (hv pins s σ H _ I h) fun u s1 ⟨y, H1, I1, ry, q⟩ => thn (ha pins s1 σ H1 _ I1 q) fun ov s2 ⟨x, H2, I2, rx, a, C, dx, fs, ex, ea, c, n, l, q2⟩ => ?_) hs
  subst ex
  obtain rfl : ov = Value.ref a := rx
  exact setattr_ok I2 ea c n l ry fun s3 I3 => ⟨σ, _, I3, q2⟩
end

/-! ### isinstance -/
section
variable {X : Cx} {pins : List (Addr × Obj)} {σ : St} {H : Hp} {s : Shared} {A : Around} {E : Value → Shared → Prop} {Q : Value → Shared → Prop} {c : Value} {b : Bool}
/-- the type of a value, as the fragment's deciders take it; for an instance its class -/
inductive TyOf (K : PySem.W.Frag) (H : Hp) : V → Value → Prop where
  | non : TyOf K H .non (.type "NoneType")
  | bl (x : Bool) : TyOf K H (.bl x) (.type "bool")
  | int (i : Int) : TyOf K H (.int i) (.type "int")
  | str (x : Str) : TyOf K H (.str x) (.type "str")
  | flt (x : UInt64) : TyOf K H (.flt x) (.type "float")
  | lst {a : Addr} {xs : List V} (e : H a = some (.lst xs)) : TyOf K H (.ref a) (.type "list")
  | frz {a : Addr} {o : Obj} {xs : List V} (e : H a = some (.frz o (.lst xs))) : TyOf K H (.ref a) (.type "list")
  | tup {a : Addr} {xs : List V} (e : H a = some (.tup xs)) : TyOf K H (.ref a) (.type "tuple")
  | dK {a : Addr} {kvs : List (Key × V)} (e : H a = some (.dK kvs)) : TyOf K H (.ref a) (.type "dict")
  | dT {a : Addr} {kvs : List (List Key × V)} (e : H a = some (.dT kvs)) : TyOf K H (.ref a) (.type "dict")
  | ins {a C dx : Addr} {fs : List (Str × V)} (e : H a = some (.ins C dx fs)) (cl : Cls K C) (ha : PySem.W.findIn K (.ref C) "__class__" = some (some (.builtin "object.__class__")))
      (hn : PySem.W.specialIn K (.builtin "object.__class__") "__get__" = some (some (.builtin "getset_descriptor.__get__"))) (htk : PySem.W.takesIn K (.builtin "object.__class__") = some true)
      (hm : PySem.W.mroIn K C (.type "object") = some true) : TyOf K H (.ref a) (.ref C)
/-- isinstance(x, c) for one class c, a built-in or an own one: kitOne's answer -/
theorem isinst_ok {x : V} {u t : Value} (I : Inv X pins σ H s) (rx : RelV x u) (ty : TyOf X.K H x t) (e : PySem.W.kitOne X.K t c = some b) (h : ∀ tk, Q (.bool b) { s with toks := tk }) :
    wpAny (model X.prog X.w) A (call (.builtin "isinstance") [u, c]) Q E s := by
  cases ty with
  | non => cases (show u = Value.none from rx); exact PySem.W.kia_one PySem.W.kitx_none I.kIn True.intro e (fun z => nomatch z) h
  | bl y => cases (show u = Value.bool y from rx); exact PySem.W.kia_one PySem.W.kitx_bool I.kIn True.intro e (fun z => nomatch z) h
  | int i => obtain ⟨t, q⟩ := (show ∃ t, u = Value.int i t from rx); cases q; exact PySem.W.kia_one PySem.W.kitx_int I.kIn True.intro e (fun z => nomatch z) h
  | str y => obtain ⟨t, q⟩ := (show ∃ t, u = Value.str y t from rx); cases q; exact PySem.W.kia_one PySem.W.kitx_str I.kIn True.intro e (fun z => nomatch z) h
  | flt y => obtain ⟨t, q⟩ := (show ∃ t, u = Value.float y t from rx); cases q; exact PySem.W.kia_one PySem.W.kitx_float I.kIn True.intro e (fun z => nomatch z) h
  | @lst a xs ea =>
    cases (show u = Value.ref a from rx)
    obtain ⟨_, _, n, _, h1⟩ := (show ObjOk X.prog X.w H s.heap a (.lst xs) from I.hok a _ ea)
    exact PySem.W.kia_one PySem.W.kitx_list I.kIn ⟨_, h1, rfl⟩ e (fun z => nomatch z) h
  | @frz a ob xs ea =>
    cases (show u = Value.ref a from rx)
    obtain ⟨_, _, _, n, _, h1⟩ := (show ObjOk X.prog X.w H s.heap a (.frz ob (.lst xs)) from I.hok a _ ea)
    exact PySem.W.kia_one PySem.W.kitx_list I.kIn ⟨_, h1, rfl⟩ e (fun z => nomatch z) h
  | @tup a xs ea =>
    cases (show u = Value.ref a from rx)
    obtain ⟨_, _, _, p⟩ := (show ObjOk X.prog X.w H s.heap a (.tup xs) from I.hok a _ ea)
    obtain ⟨o, h1, h2, _⟩ := p
    exact PySem.W.kia_one PySem.W.kitx_tuple I.kIn ⟨o, h1, h2⟩ e (fun z => nomatch z) h
  | @dK a kvs ea =>
    cases (show u = Value.ref a from rx)
    obtain ⟨_, _, vs, _, p⟩ := (show ObjOk X.prog X.w H s.heap a (.dK kvs) from I.hok a _ ea)
    obtain ⟨o, es, ep, h1, h2, _⟩ := p
    exact PySem.W.kia_one PySem.W.kitx_dict I.kIn ⟨o, h1, h2.1⟩ e (fun z => nomatch z) h
  | @dT a kvs ea =>
    cases (show u = Value.ref a from rx)
    obtain ⟨_, _, xs, _, o, es, ep, h1, h2, _⟩ := (show ObjOk X.prog X.w H s.heap a (.dT kvs) from I.hok a _ ea)
    exact PySem.W.kia_one PySem.W.kitx_dict I.kIn ⟨o, h1, h2.1⟩ e (fun z => nomatch z) h
  | @ins a C dx fs ea cl ha hn htk hm =>
    cases (show u = Value.ref a from rx)
    obtain ⟨mA, O, _⟩ := ins_get I.hok ea
    obtain ⟨od, J, _⟩ := O.look
    exact PySem.W.kia_one (PySem.W.kitx_own (cl.get _) cl.hd ha hn htk hm) I.kIn J e (fun z => nomatch z) h
end
end L2

namespace L2
open PySem PySem.Spec PyProof.Rows

/-! ### room -/
structure Room (k : Nat) (A : Around) : Prop where
  hd : A.handled = none
  dp : A.depth + 3 * k + 5 < recursionLimit
  un : A.units + 16 * k + 200 < cLine
theorem Room.mono {j k : Nat} {A : Around} (r : Room k A) (h : j ≤ k) : Room j A := ⟨r.hd, by have := r.dp; omega, by have := r.un; omega⟩
theorem Room.deeper {k : Nat} {A : Around} (r : Room (k + 1) A) (env : Env) : Room k (A.deeper env) :=
  ⟨r.hd, by have := r.dp; show A.depth + 1 + 3 * k + 5 < _; omega, by have := r.un; show A.units + 3 + 16 * k + 200 < _; omega⟩
theorem make_depth {A : Around} {C : Addr} {us : List Value} {kw : List (Str × Value)} : (A.under (.builtin "type.__call__" ⟨.ref C :: us, kw⟩)).depth = A.depth + 1 := by
  first | rfl | simp [Around.under, Code.weight, Code.isCreation, Code.isGuard, Code.isCaller, Code.frames, Code.isFrame, guardIds]
theorem make_units {A : Around} {C : Addr} {us : List Value} {kw : List (Str × Value)} : (A.under (.builtin "type.__call__" ⟨.ref C :: us, kw⟩)).units = A.units + 1 := by
  first | rfl | simp [Around.under, Code.cUnits, Code.frames, Code.isFrame]
theorem Room.make {k : Nat} {A : Around} (r : Room (k + 1) A) (C : Addr) (us : List Value) (kw : List (Str × Value)) : Room k (A.under (.builtin "type.__call__" ⟨.ref C :: us, kw⟩)) :=
  ⟨r.hd, by have := r.dp; rw [make_depth]; omega, by have := r.un; rw [make_units]; omega⟩
theorem Room.depth {k : Nat} {A : Around} (r : Room k A) : A.depth < recursionLimit := by have := r.dp; omega
theorem Room.units {k : Nat} {A : Around} (r : Room k A) : A.units + 64 < cLine := by have := r.un; omega
/-! ### argument lists and displays -/
def tNil : TA := fun _ H Q => Q [] H
def tCons (ta : TE) (tr : TA) : TA := fun σ H Q => ta σ H fun x H1 => tr σ H1 fun xs H2 => Q (x :: xs) H2
section
variable {X : Cx} {e : Expr} {es : List Expr} {te : TE} {t : TA} {pos : Pos}
theorem pa_nil : PA X [] tNil := fun _ _ _ _ H Q I h => Calls.spliced_nil ⟨[], H, I, .nil, h⟩
theorem pa_cons (ha : PE X e te) (hr : PA X es t) (hs : starEach (e :: es) X.env = (false, eval e X.env) :: starEach es X.env := by rfl) : PA X (e :: es) (tCons te t) := by
  intro pos pins s σ H Q I h
  rw [hs]
  show wpAny _ _ (spliced ((false, eval e X.env) :: backTo pos (starEach es X.env))) _ _ s
  refine Calls.spliced_cons (thn (ha pins s σ H _ I h) fun u s1 ⟨x, H1, I1, r1, q1⟩ => ?_)
  exact thn (hr pos pins s1 σ H1 _ I1 q1) fun us s2 ⟨xs, H2, I2, r2, q2⟩ => ⟨x :: xs, H2, I2, .cons r1 r2, q2⟩

/-- a tuple, a list of written items -/
def tTup (t : TA) : TE := fun σ H Q => t σ H fun xs H1 => xs.length ≤ sizeLine ∧ ∀ p, H1 p = none → Q (.ref p) (upd H1 p (.tup xs))
def tLst (t : TA) : TE := fun σ H Q => t σ H fun xs H1 => xs.length ≤ sizeLine ∧ ∀ p, H1 p = none → Q (.ref p) (upd H1 p (.lst xs))
theorem pe_tup {x1} (h : PA X es t) : PE X (.Tuple es x1 pos) (tTup t) := by
  intro pins s σ H Q I hq
  refine wpAny_Tuple_spliced (thn (h pos pins s σ H _ I hq) fun us s1 ⟨xs, H1, I1, r, z, q⟩ => ⟨by rw [← r.length]; exact z, ?_⟩)
  have hf : H1 s1.heap.objs.size = none := I1.hok.fresh (Nat.le_refl _)
  refine ⟨.ref s1.heap.objs.size, upd H1 s1.heap.objs.size (.tup xs), I1.laid (t' := s1.toks) (fun b u e => Heap.get?_push_of_some _ e) (Nat.le_refl _) ?_, rfl, q _ hf⟩
  exact ⟨z, us, r, ⟨_, Heap.get?_push_size _ rfl, rfl, _, rfl⟩⟩
theorem pe_lst (h : PA X es t) : PE X (.List es pos) (tLst t) := by
  intro pins s σ H Q I hq
  refine wpAny_List_spliced (thn (h pos pins s σ H _ I hq) fun us s1 ⟨xs, H1, I1, r, z, q⟩ => ⟨by rw [← r.length]; exact z, ?_⟩)
  have hf : H1 s1.heap.objs.size = none := I1.hok.fresh (Nat.le_refl _)
  refine ⟨.ref s1.heap.objs.size, upd H1 s1.heap.objs.size (.lst xs), I1.laid (t' := s1.toks) (fun b u e => Heap.get?_push_of_some _ e) (Nat.le_refl _) ?_, rfl, q _ hf⟩
  exact ⟨z, us, 0, r, Heap.get?_push_size _ rfl⟩
end

/-! ### what a def promises -/
/-- a def's promise: the bound arguments in the parameters' order, the heap, the wanted end, the wanted exception -/
abbrev Sp := List V → Hp → VK → XK → Prop
/-- how an exception lies behind a call (file 08 gives it): the callers' frames, abstract heap and state ahead of the call, the wish, the exception, the state -/
abbrev CXT := List Env → Hp → Shared → XK → Value → Shared → Prop

/-- the state at a call -/
structure Env0 (P : Program) (w : World) (K : PySem.W.Frag) (mg : Str → Option Value) (base : Heap) (A : Around) (outer : List Env) (s : Shared) (H : Hp) : Prop where
  frames : A.frames = some outer
  mod : Mod K mg base
  bs : ∀ b o, base.get? b = some o → s.heap.get? b = some o ∧ H b = none
  bsz : base.objs.size ≤ s.heap.objs.size
  funs : s.heap.FunFrames base outer
  frf : ∀ b ∈ frs outer, H b = none
  hok : HOk P w H s.heap
  bare : AllBare s.gens
/-- a call's end -/
def CE (outer : List Env) (P : Program) (w : World) (H : Hp) (s : Shared) (Q : VK) (u : Value) (s' : Shared) : Prop :=
  ∃ v H', s'.os = s.os ∧ AllBare s'.gens ∧ Un (frs outer) [] H H' s.heap s'.heap ∧ HOk P w H' s'.heap ∧ RelV v u ∧ Q v H'
def CR (CX : CXT) (outer : List Env) (P : Program) (w : World) (H : Hp) (s : Shared) (Q : VK) (E : XK) (r : Result) (s' : Shared) : Prop :=
  match r with
  | .ok (.ret u) => CE outer P w H s Q u s'
  | .ok _ => False
  | .error e => CX outer H s E e s'
structure FnOk (P : Program) (w : World) (K : PySem.W.Frag) (mg : Str → Option Value) (base : Heap) (CX : CXT) (k : Nat) (f : Addr) (fd : FuncData) (ps : List Str) (sp : Sp) : Prop where
  len : ∀ vs H Q E, sp vs H Q E → vs.length = ps.length
  run : ∀ (A : Around) (outer : List Env) (s : Shared) (H : Hp) (args : Args) (us : List Value) (vs : List V) (Q : VK) (E : XK), Room k A → Env0 P w K mg base A outer s H → BindsTo s fd args (ps.zip us) → Vals vs us → sp vs H Q E →
    codeAny (model P w) A (.call (.ref f) args) (CR CX outer P w H s Q E) s
theorem FnOk.mono {P : Program} {w : World} {K : PySem.W.Frag} {mg : Str → Option Value} {base : Heap} {CX : CXT} {j k : Nat} {f : Addr} {fd : FuncData} {ps : List Str} {sp : Sp} (F : FnOk P w K mg base CX j f fd ps sp) (h : j ≤ k) :
    FnOk P w K mg base CX k f fd ps sp := ⟨F.len, fun A outer s H args us vs Q E hr => F.run A outer s H args us vs Q E (hr.mono h)⟩
theorem Env0.make {P : Program} {w : World} {K : PySem.W.Frag} {mg : Str → Option Value} {base : Heap} {A : Around} {outer : List Env} {s : Shared} {H : Hp} (e : Env0 P w K mg base A outer s H) (C : Addr) (us : List Value) (kw : List (Str × Value)) :
    Env0 P w K mg base (A.under (.builtin "type.__call__" ⟨.ref C :: us, kw⟩)) outer s H := ⟨by first | exact e.frames | (simpa [Around.under, Code.envs, Code.isFrame, pushEnvs] using e.frames), e.mod, e.bs, e.bsz, e.funs, e.frf, e.hok, e.bare⟩
section
variable {X : Cx} {pins : List (Addr × Obj)} {σ : St} {H : Hp} {s s' : Shared}
/-- from a body: what a callee wants -/
theorem Inv.env0 (I : Inv X pins σ H s) : Env0 X.prog X.w X.K X.mg X.base X.A X.stack s H :=
  ⟨I.ok.frames, I.ok.mod, I.bs, Nat.le_trans I.ok.bsz I.sz, I.stack, I.stkFree, I.hok, I.bare⟩
/-- behind a call -/
theorem Inv.after {Q : VK} {u : Value} (I : Inv X pins σ H s) (h : CE X.stack X.prog X.w H s Q u s') : EP X pins σ Q u s' := by
  obtain ⟨v, H', os, bare, un, hok, r, q⟩ := h
  obtain ⟨hh, g, d, t, os'⟩ := s'
  obtain rfl : os' = s.os := os
  exact ⟨v, H', I.call (h' := hh) (g' := g) (d' := d) (t' := t) (ch := []) un hok bare (fun b z => absurd z (by simp)), r, q⟩
end

/-! ### calls -/
/-- f(..): the written arguments, then the defaults dvs; E: what is wanted of an exception -/
def tCall (sp : Sp) (dvs : List V) (E : XK) (t : TA) : TE := fun σ H Q => t σ H fun vs H1 => sp (vs ++ dvs) H1 Q E
/-- o.m(..) of an instance of the class at C -/
def tMeth (C : Addr) (m : Str) (sp : Sp) (dvs : List V) (E : XK) (ta : TE) (t : TA) : TE := fun σ H Q => ta σ H fun x H1 => ∃ a dx fs, x = .ref a ∧ H1 a = some (.ins C dx fs) ∧ fs.lookup m = none ∧
  t σ H1 fun vs H2 => sp (x :: (vs ++ dvs)) H2 Q E
/-- C(..): a new instance and its dict, then __init__ -/
def tMake (C : Addr) (sp : Sp) (dvs : List V) (E : XK) (t : TA) : TE := fun σ H Q => t σ H fun vs H1 => ∀ x dx, H1 x = none → H1 dx = none → dx ≠ x →
  sp (.ref x :: (vs ++ dvs)) (upd (upd H1 dx (.own x)) x (.ins C dx [])) (fun v H2 => v = .non ∧ Q (.ref x) H2) E

/-- how the parameters are bound: us the positional arguments, kw the keywords' values by name, ds the defaults that fill up -/
def Binds (K : PySem.W.Frag) (fd : FuncData) (ps : List Str) (ds : List Value) : Prop :=
  ∀ (s : Shared) (us : List Value), K.In s.heap → (us ++ ds).length = ps.length → BindsTo s fd ⟨us, []⟩ (ps.zip (us ++ ds))
/-- every parameter is given -/
theorem Binds.all {K : PySem.W.Frag} {fd : FuncData} {ps : List Str} (h : ∀ us : List Value, us.length = ps.length → bindArgs fd ⟨us, []⟩ = pure (ps.zip us)) : Binds K fd ps [] := fun s us _ hl => by
  rw [List.append_nil] at hl ⊢
  exact .of_eq (h us hl)

/-- an exception of a callee reaches what this body wants of exceptions -/
def Passes (CX : CXT) (X : Cx) (E : XK) : Prop := ∀ (pins : List (Addr × Obj)) (σ : St) (H : Hp) (s : Shared) (e : Value) (s' : Shared), Inv X pins σ H s → CX X.stack H s E e s' → X.xe e s'

section
variable {X : Cx} {CX : CXT} {k : Nat} {f C : Addr} {fd : FuncData} {ps : List Str} {sp : Sp} {dvs : List V} {ds : List Value} {E : XK} {x m : Str} {p pos apos : Pos} {e o : Expr} {es : List Expr} {ta : TE} {t : TA}

/-- the callee runs -/
theorem run_fn {pins : List (Addr × Obj)} {σ : St} {H : Hp} {s : Shared} {Q : VK} {us : List Value} {vs : List V} (F : FnOk X.prog X.w X.K X.mg X.base CX k f fd ps sp) (hr : Room k X.A) (hb : Binds X.K fd ps ds) (hd : Vals dvs ds) (hx : Passes CX X E)
    (I : Inv X pins σ H s) (r : Vals vs us) (h : sp (vs ++ dvs) H Q E) : wpAny (model X.prog X.w) X.A (call (.ref f) us) (EP X pins σ Q) X.xe s := by
  have r2 : Vals (vs ++ dvs) (us ++ ds) := r.append hd
  have hl : (us ++ ds).length = ps.length := by rw [← r2.length]; exact F.len _ _ _ _ h
  refine wpAny_call (codeAny_mono (F.run X.A X.stack s H ⟨us, []⟩ (us ++ ds) (vs ++ dvs) Q E hr I.env0 (hb s us I.kIn hl) r2 h) fun r s' hq => ?_)
  cases r with
  | error e => exact hx pins σ H s e s' I hq
  | ok fl =>
    cases fl with
    | ret u => exact I.after hq
    | next => exact False.elim hq
    | brk => exact False.elim hq
    | cont => exact False.elim hq

theorem pe_call (F : FnOk X.prog X.w X.K X.mg X.base CX k f fd ps sp) (hr : Room k X.A) (hg : Gl X x) (hm : X.mg x = some (.ref f)) (hk : PySem.W.keepIn X.K (.ref f) = true) (hb : Binds X.K fd ps ds) (hd : Vals dvs ds) (hx : Passes CX X E)
    (ha : PA X (e :: es) t) (hdb : (x == ("__debug__" : Str)) = false := by decide) (he : starEach (e :: es) X.env = (false, eval e X.env) :: starEach es X.env := by rfl) (hpl : (backTo pos (starEach es X.env)).any (·.1) = false := by rfl) :
    PE X (.Call (.Name x p) (e :: es) [] pos) (tCall sp dvs E t) := by
  intro pins s σ H Q I h
  refine wpAny_Call_Name_kw (ld_glob I hg hm ?_ hdb)
  refine PySem.W.callWith_K (h₀ := X.base) I.ok.mod.kin hk (thn (ha pos pins s σ H _ I h) fun us s1 ⟨vs, H1, I1, r, q⟩ => ⟨I1.kIn, ?_⟩) he hpl
  exact run_fn F hr hb hd hx I1 r q
/-- o.m(e, ..) -/
theorem pe_meth {pl : Sem Bool} (he : PE X o ta) (c : Cls X.K C) (hm : Meth X.K C m f) (F : FnOk X.prog X.w X.K X.mg X.base CX k f fd ps sp) (hr : Room k X.A) (hb : Binds X.K fd ps ds) (hd : Vals dvs ds) (hx : Passes CX X E) (ha : PA X (e :: es) t)
    (hst : starEach (e :: es) X.env = (false, eval e X.env) :: starEach es X.env := by rfl) (hpl : (backTo pos (starEach es X.env)).any (·.1) = false := by rfl)
    (ht : eval (.Call (.Attribute o m apos) (e :: es) [] pos) X.env = (do
      let ov ← eval o X.env
      standAt apos.atName
      let (f, first) ← holding [ov] (getMethod ov m pl)
      callWith pos f first (backTo pos (starEach (e :: es) X.env)) (backToKw pos (keywordEach [] X.env))) := by rfl) :
    PE X (.Call (.Attribute o m apos) (e :: es) [] pos) (tMeth C m sp dvs E ta t) := by
  intro pins s σ H Q I h
  refine PySem.W.methodCall_KW (pl := pl) (thn (he pins s σ H _ I h) fun u s1 ⟨x, H1, I1, rx, a, dx, fs, ex, ea, l, q⟩ => ?_) ht
  subst ex
  obtain rfl : u = Value.ref a := rx
  refine getmeth_ok I1 ea c hm l ?_
  refine PySem.W.callWith_K (first := [.ref a]) (h₀ := X.base) I.ok.mod.kin hm.kp (thn (ha pos pins s1 σ H1 _ I1 q) fun us s2 ⟨vs, H2, I2, r, q2⟩ => ⟨I2.kIn, ?_⟩) hst hpl
  exact run_fn (us := .ref a :: us) (vs := .ref a :: vs) F hr hb hd hx I2 (.cons rfl r) q2
/-- what a class must have to be made -/
structure Mk (K : PySem.W.Frag) (C f : Addr) : Prop where
  makes : PySem.W.makesIn K C = true
  init : PySem.W.findIn K (.ref C) "__init__" = some (some (.ref f))
  fn : PySem.W.isFn K (.ref f) = true
  kp : PySem.W.keepIn K (.ref C) = true

theorem run_make {pins : List (Addr × Obj)} {σ : St} {H : Hp} {s : Shared} {Q : VK} {us : List Value} {vs : List V} (M : Mk X.K C f) (F : FnOk X.prog X.w X.K X.mg X.base CX k f fd ps sp) (hr : Room (k + 1) X.A) (hb : Binds X.K fd ps ds) (hd : Vals dvs ds)
    (hx : Passes CX X E) (I : Inv X pins σ H s) (r : Vals vs us)
    (h : ∀ x dx, H x = none → H dx = none → dx ≠ x → sp (.ref x :: (vs ++ dvs)) (upd (upd H dx (.own x)) x (.ins C dx [])) (fun v H2 => v = .non ∧ Q (.ref x) H2) E) :
    wpAny (model X.prog X.w) X.A (call (.ref C) us) (EP X pins σ Q) X.xe s := by
  have hq := h (s.heap.objs.size + 1) s.heap.objs.size (I.hok.fresh (Nat.le_succ _)) (I.hok.fresh (Nat.le_refl _)) (Nat.ne_of_lt (Nat.lt_succ_self _))
  have I2 := Inv.made (C := C) I
  have r2 : Vals (V.ref (s.heap.objs.size + 1) :: (vs ++ dvs)) (Value.ref (s.heap.objs.size + 1) :: (us ++ ds)) := .cons rfl (r.append hd)
  have hl : (Value.ref (s.heap.objs.size + 1) :: us ++ ds).length = ps.length := by
    have e := r2.length
    rw [F.len _ _ _ _ hq] at e
    exact e.symm
  refine wpAny_call (make_map (f := f) I.kIn M.makes M.init (beq_iff_eq.mp M.fn) (codeAny_mono (F.run _ X.stack _ _ ⟨Value.ref (s.heap.objs.size + 1) :: us, []⟩ (Value.ref (s.heap.objs.size + 1) :: (us ++ ds)) _ _ E (hr.make C us [])
    (I2.env0.make C us []) (hb _ (Value.ref (s.heap.objs.size + 1) :: us) I2.kIn hl) r2 hq) fun r s' hq' => ?_))
  cases r with
  | error e => exact hx pins σ _ _ e s' I2 hq'
  | ok fl =>
    cases fl with
    | ret u =>
      obtain ⟨v, H', I3, rv, ev, q3⟩ := I2.after hq'
      subst ev
      exact ⟨rv, ⟨V.ref (s.heap.objs.size + 1), H', I3, rfl, q3⟩⟩
    | next => exact False.elim hq'
    | brk => exact False.elim hq'
    | cont => exact False.elim hq'
theorem pe_make (M : Mk X.K C f) (F : FnOk X.prog X.w X.K X.mg X.base CX k f fd ps sp) (hr : Room (k + 1) X.A) (hg : Gl X x) (hm : X.mg x = some (.ref C)) (hb : Binds X.K fd ps ds) (hd : Vals dvs ds) (hx : Passes CX X E)
    (ha : PA X (e :: es) t) (hdb : (x == ("__debug__" : Str)) = false := by decide) (he : starEach (e :: es) X.env = (false, eval e X.env) :: starEach es X.env := by rfl) (hpl : (backTo pos (starEach es X.env)).any (·.1) = false := by rfl) :
    PE X (.Call (.Name x p) (e :: es) [] pos) (tMake C sp dvs E t) := by
  intro pins s σ H Q I h
  refine wpAny_Call_Name_kw (ld_glob I hg hm ?_ hdb)
  refine PySem.W.callWith_K (h₀ := X.base) I.ok.mod.kin M.kp (thn (ha pos pins s σ H _ I h) fun us s1 ⟨vs, H1, I1, r, q⟩ => ⟨I1.kIn, ?_⟩) he hpl
  exact run_make M F hr hb hd hx I1 r q
end

/-! ### keywords -/
section
variable {X : Cx} {CX : CXT} {k : Nat} {f C : Addr} {fd : FuncData} {ps ks : List Str} {sp : Sp} {E : XK} {x m : Str} {p pos apos kpos : Pos} {e o : Expr} {es : List Expr} {kws : List Keyword} {te ta : TE} {t tk : TA} {nm : Option Str}
variable {g : List Value → List Value → List Value} {gV : List V → List V → List V}
end

/-! ### a def's body keeps its promise -/
/-- names: the parameters first -/
structure FnScope (N P : List Str) (sc : Scope) : Prop where
  kind : sc.kind = .function
  co : sc.isCoroutine = false
  gen : sc.isGenerator = false
  nd : N.Nodup
  pre : N.take P.length = P
  par : ∀ x ∈ P, sc.names.lookup x = some .local ∨ sc.names.lookup x = some .cell
  nofree : ∀ y ∈ sc.names, y.2 ≠ .free

theorem bindL_out {kindOf : Str → Option NameKind} {x : Str} : ∀ {binds : List (Str × Value)} {m : Str → Option Value}, (∀ v, (x, v) ∉ binds) → bindL kindOf binds m x = m x
  | [], _, _ => rfl
  | (n, v) :: r, m, h => by
    unfold bindL
    rw [bindL_out fun w hw => h w (List.mem_cons_of_mem _ hw)]
    split
    · have : x ≠ n := by rintro rfl; exact h v List.mem_cons_self
      simp [this]
    · rfl
theorem bindC_out {kindOf : Str → Option NameKind} {x : Str} : ∀ {binds : List (Str × Value)} {m : Str → Option Value}, (∀ v, (x, v) ∉ binds) → bindC kindOf binds m x = m x
  | [], _, _ => rfl
  | (n, v) :: r, m, h => by
    unfold bindC
    rw [bindC_out fun w hw => h w (List.mem_cons_of_mem _ hw)]
    split
    · rfl
    · have : x ≠ n := by rintro rfl; exact h v List.mem_cons_self
      simp [this]
theorem bindL_get {kindOf : Str → Option NameKind} {x : Str} {v : Value} : ∀ {P : List Str} {vs : List Value} {i : Nat} {m : Str → Option Value}, P.Nodup → P[i]? = some x → vs[i]? = some v → kindOf x = some .local →
    bindL kindOf (P.zip vs) m x = some v
  | [], _, _, _, _, h, _, _ => by simp at h
  | _ :: _, [], _, _, _, _, h, _ => by simp at h
  | p :: P, w :: vs, 0, m, nd, h1, h2, hk => by
    simp at h1 h2; subst h1; subst h2
    show bindL kindOf ((p, w) :: P.zip vs) m p = _
    unfold bindL
    rw [bindL_out fun v hv => (List.nodup_cons.mp nd).1 (List.of_mem_zip hv).1, if_pos hk]
    simp
  | p :: P, w :: vs, i + 1, m, nd, h1, h2, hk => by
    show bindL kindOf ((p, w) :: P.zip vs) m x = _
    unfold bindL
    exact bindL_get (i := i) (List.nodup_cons.mp nd).2 (by simpa using h1) (by simpa using h2) hk
theorem bindC_get {kindOf : Str → Option NameKind} {x : Str} {v : Value} : ∀ {P : List Str} {vs : List Value} {i : Nat} {m : Str → Option Value}, P.Nodup → P[i]? = some x → vs[i]? = some v → kindOf x ≠ some .local →
    bindC kindOf (P.zip vs) m x = some v
  | [], _, _, _, _, h, _, _ => by simp at h
  | _ :: _, [], _, _, _, _, h, _ => by simp at h
  | p :: P, w :: vs, 0, m, nd, h1, h2, hk => by
    simp at h1 h2; subst h1; subst h2
    show bindC kindOf ((p, w) :: P.zip vs) m p = _
    unfold bindC
    rw [bindC_out fun v hv => (List.nodup_cons.mp nd).1 (List.of_mem_zip hv).1, if_neg hk]
    simp
  | p :: P, w :: vs, i + 1, m, nd, h1, h2, hk => by
    show bindC kindOf ((p, w) :: P.zip vs) m x = _
    unfold bindC
    exact bindC_get (i := i) (List.nodup_cons.mp nd).2 (by simpa using h1) (by simpa using h2) hk

/-- the names' values at the entry -/
def start (N : List Str) (vs : List V) : St := vs.map some ++ List.replicate (N.length - vs.length) none

/-- the context of a def's body, at its entry; an exception leaves the frame, then lies as CX says -/
def cxOf (CX : CXT) (P : Program) (w : World) (K : PySem.W.Frag) (mg : Str → Option Value) (base : Heap) (N : List Str) (qual : Str) (scope : Scope) (f : Addr) (cd : Value) (A : Around) (outer : List Env) (s : Shared) (H : Hp) (E : XK) : Cx where
  prog := P
  w := w
  K := K
  mg := mg
  base := base
  A := A.deeper (envOfC qual scope s.heap.objs.size f cd)
  N := N
  s₀ := s
  H₀ := H
  env := envOfC qual scope s.heap.objs.size f cd
  outer := outer
  stack := envOfC qual scope s.heap.objs.size f cd :: outer
  ex := []
  calm := true
  fn := fun _ => true
  pn := []
  xe := fun e s' => wpAny (model P w) (A.deeper (envOfC qual scope s.heap.objs.size f cd)) (leaving (envOfC qual scope s.heap.objs.size f cd) e) (fun _ s'' => CX outer H s E e s'') (fun e' s'' => CX outer H s E e' s'') s'

theorem cell_has {sc : Scope} {n : Nat} {x : Str} (h : sc.names.lookup x = some .cell) : ∃ c, (cellsFrom n sc.names []).lookup x = some c := by
  have q := PySem.W.cellsFrom_some sc.names n [] (.inl h)
  exact Option.isSome_iff_exists.mp q

theorem inv_start {CX : CXT} {P : Program} {w : World} {K : PySem.W.Frag} {mg : Str → Option Value} {base : Heap} {N ps : List Str} {qual : Str} {scope : Scope} {f : Addr} {cd : Value} {A : Around} {outer : List Env} {s s1 : Shared} {H : Hp} {E : XK} {us : List Value} {vs : List V}
    (S : FnScope N ps scope) (hd : A.handled = none) (e0 : Env0 P w K mg base A outer s H) (hl : vs.length = ps.length) (r : Vals vs us)
    (x : InCallC s s.heap.objs.size (bindL (envOfC qual scope s.heap.objs.size f cd).kindOf (ps.zip us) fun _ => none) (cellsFrom (s.heap.objs.size + 1) scope.names []) (bindC (envOfC qual scope s.heap.objs.size f cd).kindOf (ps.zip us) fun _ => none) s1) :
    Inv (cxOf CX P w K mg base N qual scope f cd A outer s H E) [] (start N vs) H s1 := by
  have hpl : ps.length ≤ N.length := by have := congrArg List.length S.pre; rw [List.length_take] at this; omega
  obtain ⟨h1, tk, rfl, hk⟩ := x.done
  have noA : ∀ b : Addr, b ∉ (cxOf CX P w K mg base N qual scope f cd A outer s H E).ex := fun b z => absurd (show b ∈ ([] : List Addr) from z) (by simp)
  refine ⟨⟨e0.mod, S.kind, rfl, rfl, Nat.le_refl _, fun y z c h1 h2 => ?_, fun y hy => ?_, fun y c _ h => ?_, fun _ => hd, Around.frames_deeper e0.frames, .inr ⟨rfl, rfl⟩, fun b z => absurd z (noA b), e0.bs, e0.bsz, fun b _ _ => noA b, fun b z => absurd z (noA b), e0.funs, e0.frf⟩,
    rfl, e0.bare, Un.kept hk, ⟨_, x.toInCall.ns, fun i y v h1 h2 h3 => ?_⟩, fun y c h => ⟨_, x.cell y c h⟩, e0.hok.fresh (Nat.le_refl _), fun y c h => ?_, fun p hp => absurd (show p ∈ ([] : List (Addr × Obj)) from hp) (by simp), e0.hok.kept hk, ?_⟩
  · exact name_of_addr x.apart (PySem.mem_of_lookup h1) (PySem.mem_of_lookup h2)
  · have hy : scope.names.lookup y = some .cell ∨ scope.names.lookup y = some .free := hy
    rcases hy with hy | hy
    · exact cell_has hy
    · exact absurd rfl (S.nofree _ (PySem.mem_of_lookup hy))
  · exact Nat.le_of_lt (x.above y c (PySem.mem_of_lookup h))
  · have hi : i < vs.length := by
      unfold start at h2
      by_cases hi : i < vs.length
      · exact hi
      · rw [List.getElem?_append_right (by simpa using hi)] at h2
        rw [List.getElem?_replicate] at h2
        split at h2 <;> cases h2
    have ha : vs[i]? = some v := by
      unfold start at h2
      rw [List.getElem?_append_left (by simpa using hi), List.getElem?_map] at h2
      cases e : vs[i]? with
      | none => rw [e] at h2; cases h2
      | some a => rw [e] at h2; cases h2; rfl
    obtain ⟨u, hu, rv⟩ := r.get ha
    have hp : ps[i]? = some y := by
      rw [← S.pre, List.getElem?_take_of_lt (by omega)]; exact h1
    have ndP : ps.Nodup := by rw [← S.pre]; exact S.nd.sublist (List.take_sublist _ _)
    refine ⟨u, rv, ?_⟩
    rcases S.par y (List.mem_of_getElem? hp) with k | k
    · exact .inl ⟨k, bindL_get ndP hp hu k⟩
    · obtain ⟨c, e⟩ := cell_has (n := s.heap.objs.size + 1) k
      refine .inr ⟨.inl k, c, e, ?_⟩
      have q := x.cell y c e
      rw [bindC_get ndP hp hu (by show scope.names.lookup y ≠ _; rw [k]; decide)] at q
      exact q
  · exact e0.hok.fresh (Nat.le_of_lt (x.above y c (PySem.mem_of_lookup h)))
  · unfold start
    show _ = N.length
    rw [List.length_append, List.length_map, List.length_replicate]
    omega

/-- THE RULE: a def (or a method) of the text, by its body. The body's reading t is chosen for each entry; it is run at the parameters' values -/
theorem fn_of {CX : CXT} {P : Program} {w : World} {K : PySem.W.Frag} {mg : Str → Option Value} {base : Heap} {k : Nat} {f : Addr} {name qual : Str} {params : Arguments} {body : List Stmt} {scope : Scope} {dV kV doc pm cdv ct oc : Value} {an od : Option Addr}
    {osl : Array (Option Value)} {N ps : List Str} {sp : Sp} (lk : K.lookup f = some ⟨oc, od, .func (PySem.W.fnOf name qual params body scope dV kV doc pm an cdv ct), osl⟩) (hcd : PySem.W.codeIn K cdv qual = true) (S : FnScope N ps scope)
    (len : ∀ vs H Q E, sp vs H Q E → vs.length = ps.length)
    (hbody : ∀ (A : Around) (outer : List Env) (s : Shared) (H : Hp) (vs : List V) (Q : VK) (E : XK), Room k (A.deeper (envOfC qual scope s.heap.objs.size f cdv)) → sp vs H Q E →
      ∃ t, PSs (cxOf CX P w K mg base N qual scope f cdv A outer s H E) body t ∧ t { nx := fun _ H' => Q .non H', rt := Q } (start N vs) H) :
    FnOk P w K mg base CX (k + 1) f (PySem.W.fnOf name qual params body scope dV kV doc pm an cdv ct) ps sp := by
  refine ⟨len, fun A outer s H args us vs Q E hr e0 hb r hsp => ?_⟩
  have hl := len _ _ _ _ hsp
  have KX : K.In s.heap := e0.mod.kin.keeps fun b o e => (e0.bs b o e).1
  have lim : s.heap.NoLimit := e0.mod.nolimit.keeps fun b o e => (e0.bs b o e).1
  have hkind : ∀ y ∈ ps.zip us, scope.names.lookup y.1 = some .local ∨ (scope.names.lookup y.1 = some .cell ∧ ((cellsFrom (s.heap.objs.size + 1) scope.names []).lookup y.1).isSome = true) := fun ⟨n, v⟩ hy => by
    rcases S.par n (List.of_mem_zip hy).1 with q | q
    · exact .inl q
    · exact .inr ⟨q, PySem.W.cellsFrom_some _ _ _ (.inl q)⟩
  refine codeAny_call_function hr.depth (KX _ _ lk) rfl S.co S.gen rfl (PySem.W.codeRec_of KX hcd) (hb _ _ _ _ ?_)
  refine wpAny_newFunctionEnv_cells S.kind hkind fun env he s1 x => ?_
  subst he
  refine ⟨lim.keeps x.toInCall.keep, codeAny_func ?_⟩
  obtain ⟨t, ht, hq⟩ := hbody A outer s H vs Q E (hr.deeper _) hsp
  have I : Inv (cxOf CX P w K mg base N qual scope f cdv A outer s H E) [] (start N vs) H s1 := inv_start S hr.hd e0 hl r x
  refine wpAny_mono (ht [] s1 (start N vs) H _ I hq) (fun fl s' hs => ?_) fun e s' hs => hs
  have fin : ∀ {σ' : St} {H' : Hp} {v : V} {u : Value}, Inv (cxOf CX P w K mg base N qual scope f cdv A outer s H E) [] σ' H' s' → RelV v u → Q v H' → CE outer P w H s Q u s' :=
    fun {σ' H' v u} J rv q => ⟨v, H', J.os, J.bare, J.base, J.hok, rv, q⟩
  cases fl with
  | ret u =>
    obtain ⟨v, σ', H', J, rv, q⟩ := hs
    exact fin J rv q
  | next =>
    obtain ⟨σ', H', J, q⟩ := hs
    exact fin (v := V.non) (u := Value.none) J rfl q
  | brk =>
    obtain ⟨_, _, _, q⟩ := hs
    exact False.elim q
  | cont =>
    obtain ⟨_, _, _, q⟩ := hs
    exact False.elim q
end L2

namespace L2
open PySem PySem.Spec PyProof.Rows
section
variable {X : Cx} {x : Str} {p pos : Pos} {e : Expr} {es : List Expr} {t : TA} {id T : String} {r : List V → Hp → VK → Prop}

def tCB (r : List V → Hp → VK → Prop) (t : TA) : TE := fun σ H Q => t σ H fun vs H1 => r vs H1 Q
/-- f(e, ..), f a built-in function -/
theorem pe_callB (hc : CallR X (.builtin id) r) (hg : Gl X x) (hm : X.mg x = none) (hv : bootBuiltins x = some (.builtin id)) (ha : PA X (e :: es) t) (hn : x ≠ "__name__" := by decide) (hdb : (x == ("__debug__" : Str)) = false := by decide)
    (he : starEach (e :: es) X.env = (false, eval e X.env) :: starEach es X.env := by rfl) (hpl : (backTo pos (starEach es X.env)).any (·.1) = false := by rfl) : PE X (.Call (.Name x p) (e :: es) [] pos) (tCB r t) := by
  intro pins s σ H Q I h
  refine wpAny_Call_Name_kw (ld_blt I hg hm hv ?_ hn hdb)
  exact PyProof.Rows.callWith_builtin1 (thn (ha pos pins s σ H _ I h) fun us s1 ⟨vs, H1, I1, r1, q1⟩ => hc pins s1 σ H1 vs us Q I1 r1 q1) he hpl
/-- T(e, ..), T a built-in type -/
theorem pe_callTy (hc : CallR X (.type T) r) (hg : Gl X x) (hm : X.mg x = none) (hv : bootBuiltins x = some (.type T)) (ha : PA X (e :: es) t) (hn : x ≠ "__name__" := by decide) (hdb : (x == ("__debug__" : Str)) = false := by decide)
    (he : starEach (e :: es) X.env = (false, eval e X.env) :: starEach es X.env := by rfl) (hpl : (backTo pos (starEach es X.env)).any (·.1) = false := by rfl) : PE X (.Call (.Name x p) (e :: es) [] pos) (tCB r t) := by
  intro pins s σ H Q I h
  refine wpAny_Call_Name_kw (ld_blt I hg hm hv ?_ hn hdb)
  exact PyProof.Rows.callWith_type1 (thn (ha pos pins s σ H _ I h) fun us s1 ⟨vs, H1, I1, r1, q1⟩ => hc pins s1 σ H1 vs us Q I1 r1 q1) he hpl
end
end L2

namespace HT
open PySem PyProof.Rows

section
open PySem.SeqAt
open PySem.AutoSeq1 (wpAny_loadPart')
open PySem.MeetsSeq PySem.MeetsSeq2 PySem.MeetsSeq3

end

section
variable {prog : Program} {w : World} {A : Around} {E : Value → Shared → Prop} {s : Shared}

/-! ### t[a:b], not the whole -/
/-- a slice's bound as a place among n (d where it is left out) -/
def sIx (n d : Nat) : Option Int → Nat
  | none => d
  | some v => if v < 0 then (v + (n : Int)).toNat else min v.toNat n
theorem sIx_none (n d : Nat) : sIx n d none = d := rfl
theorem sIx_nat (n d k : Nat) : sIx n d (some (k : Int)) = min k n := by
  show (if (k : Int) < 0 then ((k : Int) + (n : Int)).toNat else min (k : Int).toNat n) = min k n
  rw [if_neg (by omega), Int.toNat_natCast]
end
end HT

namespace L2
open PySem PySem.Spec PyProof.Rows

/-! ### the parts of a slice -/
abbrev TO := St → Hp → (Option Int → Hp → Prop) → Prop
/-- a slice's part (left out, or an int) -/
def PO (X : Cx) (e : Option Expr) (t : TO) : Prop :=
  ∀ (pins : List (Addr × Obj)) (s : Shared) (σ : St) (H : Hp) (Q : Option Int → Hp → Prop), Inv X pins σ H s → t σ H Q →
    wpAny (model X.prog X.w) X.A (evalPart e X.env) (fun u s' => ∃ o H', Inv X pins σ H' s' ∧ IsPart u o ∧ Q o H') X.xe s
def tNoPart : TO := fun _ H Q => Q none H
def tPart (t : TE) : TO := fun σ H Q => t σ H fun x H1 => ∃ i, x = .int i ∧ Q (some i) H1

theorem intsAre_of {ns : List Int} : ∀ {us : List Value}, Vals (ns.map V.int) us → IntsAre us ns := by
  induction ns with
  | nil => intro us r; rw [List.map_nil] at r; cases r; exact .nil
  | cons n ns ih =>
    intro us r
    rw [List.map_cons] at r
    cases r with
    | cons r1 r2 =>
      obtain ⟨t, e⟩ := r1
      subst e
      exact .cons n t (ih r2)

section
variable {X : Cx} {e : Expr} {te : TE} {lo hi : Option Expr} {tl th : TO} {pos p2 : Pos}

theorem po_none : PO X none tNoPart := by
  intro pins s σ H Q I h
  rw [evalPart_none]
  exact wpAny_pure ⟨none, H, I, .none, h⟩
theorem po_some (h : PE X e te) : PO X (some e) (tPart te) := by
  intro pins s σ H Q I hw
  rw [evalPart_some]
  refine thn (h pins s σ H _ I hw) fun u s1 ⟨x, H1, I1, r1, q1⟩ => ?_
  obtain ⟨i, rfl, q⟩ := q1
  obtain ⟨t, rfl⟩ := r1
  exact ⟨some i, H1, I1, .int i t, q⟩

/-- what a slice of a value is, by values: the slice object stands at sl -/
def SlR (X : Cx) (r : V → Option Int → Option Int → Hp → VK → Prop) : Prop :=
  ∀ (pins : List (Addr × Obj)) (s : Shared) (σ : St) (H : Hp) (x : V) (v vl vu : Value) (lo hi : Option Int) (sl : Addr) (Q : VK), Inv X pins σ H s → RelV x v → s.heap.IsSliceOf sl vl vu .none → IsPart vl lo → IsPart vu hi → r x lo hi H Q →
    ∃ T id, typeLookup (.type T) "__getitem__" = pure (some (.builtin id)) ∧ s.TypeIs v T ∧ wpAny (model X.prog X.w) X.A (getItem v (.ref sl)) (EP X pins σ Q) X.xe s
theorem SlR.or {r r' : V → Option Int → Option Int → Hp → VK → Prop} (h : SlR X r) (h' : SlR X r') : SlR X (fun x lo hi H Q => r x lo hi H Q ∨ r' x lo hi H Q) := by
  intro pins s σ H x v vl vu lo hi sl Q I rx hs pl pu q
  rcases q with q | q
  · exact h pins s σ H x v vl vu lo hi sl Q I rx hs pl pu q
  · exact h' pins s σ H x v vl vu lo hi sl Q I rx hs pl pu q
def tSl (r : V → Option Int → Option Int → Hp → VK → Prop) (te : TE) (tl th : TO) : TE := fun σ H Q => te σ H fun x H1 => tl σ H1 fun l H2 => th σ H2 fun u H3 => r x l u H3 Q
/-- a[lo:hi], any a -/
theorem pe_slice {r : V → Option Int → Option Int → Hp → VK → Prop} (hr : SlR X r) (he : PE X e te) (hl : PO X lo tl) (hu : PO X hi th) : PE X (.Subscript e (.Slice lo hi none p2) pos) (tSl r te tl th) := by
  intro pins s σ H Q I h
  refine Subscript_ (thn (he pins s σ H _ I h) fun v s1 ⟨x, H1, I1, r1, q1⟩ => ?_)
  refine wpAny_Slice (thn (hl pins s1 σ H1 _ I1 q1) fun vl s2 ⟨l, H2, I2, pl, q2⟩ => thn (hu pins s2 σ H2 _ I2 q2) fun vu s3 ⟨u, H3, I3, pu, q3⟩ => ?_)
  rw [evalPart_none]
  refine wpAny_pure ?_
  have I4 : Inv X pins σ H3 { s3 with heap := s3.heap.push { cls := .type "slice", data := .fields #[vl, vu, .none] } } := I3.kept (t' := s3.toks) fun b ob q => Heap.get?_push_of_some _ q
  obtain ⟨T, id, hT, ht, hg⟩ := hr pins { s3 with heap := s3.heap.push { cls := .type "slice", data := .fields #[vl, vu, .none] } } σ H3 x v vl vu l u s3.heap.objs.size Q I4 r1 (Heap.IsSliceOf.new ..) pl pu q3
  show wpAny (model X.prog X.w) X.A (subscriptTail e (.Slice lo hi none p2) v (.ref s3.heap.objs.size)) (EP X pins σ Q) X.xe { s3 with heap := s3.heap.push { cls := .type "slice", data := .fields #[vl, vu, .none] } }
  exact tail_any (ops := [.ref s3.heap.objs.size, v]) ht hT hg (by with_unfolding_all rfl)

/-- the items of xs[lo:hi] -/
def cutV (xs : List V) (lo hi : Option Int) : List V := (xs.drop (HT.sIx xs.length 0 lo)).take (HT.sIx xs.length xs.length hi - HT.sIx xs.length 0 lo)
theorem cutV_length (xs : List V) (lo hi : Option Int) : (cutV xs lo hi).length ≤ xs.length := by
  unfold cutV
  rw [List.length_take, List.length_drop]
  omega
/-! ### t < u, t + u -/
end
end L2

namespace L2
open PySem PySem.Spec PyProof.Rows

/-! ### places -/
/-- the place that an index of any sign means -/
def ixN (n : Nat) (i : Int) : Option Nat := if 0 ≤ i then (if i < n then some i.toNat else none) else if -(n : Int) ≤ i then some (i + n).toNat else none
def atI {α : Type} (xs : List α) (i : Int) : Option α := (ixN xs.length i).bind fun j => xs[j]?
theorem ixN_seq {n : Nat} {i : Int} {j : Nat} (h : ixN n i = some j) : seqIndex? i n = some j ∧ j < n ∧ -(n : Int) ≤ i ∧ i < n := by
  unfold ixN at h
  by_cases h0 : 0 ≤ i
  · rw [if_pos h0] at h
    by_cases h1 : i < n
    · rw [if_pos h1] at h
      have e : i.toNat = j := Option.some.inj h
      exact ⟨by rw [seqIndex_of h0 h1, e], by omega, by omega, h1⟩
    · rw [if_neg h1] at h; cases h
  · rw [if_neg h0] at h
    by_cases h1 : -(n : Int) ≤ i
    · rw [if_pos h1] at h
      have e : (i + n).toNat = j := Option.some.inj h
      exact ⟨by rw [seqIndex_neg (by omega) h1, e], by omega, h1, by omega⟩
    · rw [if_neg h1] at h; cases h
theorem atI_get {α : Type} {xs : List α} {i : Int} {v : α} (h : atI xs i = some v) : ∃ j, seqIndex? i xs.length = some j ∧ xs[j]? = some v ∧ j < xs.length ∧ -(xs.length : Int) ≤ i ∧ i < xs.length := by
  unfold atI at h
  cases e : ixN xs.length i with
  | none => rw [e] at h; cases h
  | some j =>
    rw [e] at h
    obtain ⟨h1, h2, h3, h4⟩ := ixN_seq e
    exact ⟨j, h1, h, h2, h3, h4⟩
theorem atI_nat {α : Type} {xs : List α} {j : Nat} {v : α} (h : xs[j]? = some v) : atI xs (j : Int) = some v := by
  have hj : j < xs.length := (List.getElem?_eq_some_iff.mp h).1
  have e : ixN xs.length (j : Int) = some j := by
    unfold ixN
    rw [if_pos (by omega), if_pos (by omega)]; simp
  unfold atI; rw [e]; exact h
theorem atI_last {α : Type} (xs : List α) (v : α) : atI (xs ++ [v]) (-1) = some v := by
  have hl : (xs ++ [v]).length = xs.length + 1 := by simp
  have e : ixN (xs ++ [v]).length (-1) = some xs.length := by
    unfold ixN
    rw [hl, if_neg (by decide), if_pos (by omega)]
    congr 1
    omega
  unfold atI
  rw [e]
  show (xs ++ [v])[xs.length]? = some v
  simp

/-! ### what may be subscripted -/
/-- what stands as an index of a plain subscript -/
def PlainIx (b : Expr) : Prop := ∀ o i, subscripted b false o i = operate [o, i] (getItem o i)
/-- a subscript by values -/
def IxR (X : Cx) (r : R2) : Prop :=
  ∀ (value slice : Expr) (pins : List (Addr × Obj)) (s : Shared) (σ : St) (H : Hp) (x y : V) (v u : Value) (Q : VK), Inv X pins σ H s → RelV x v → RelV y u → r x y H Q →
    subscripted slice false v u = operate [v, u] (getItem v u) → wpAny (model X.prog X.w) X.A (subscriptTail value slice v u) (EP X pins σ Q) X.xe s
/-- a call of a builtin's method by values: the receiver, the arguments -/
def MtR (X : Cx) (id : String) (r : V → List V → Hp → VK → Prop) : Prop :=
  ∀ (pins : List (Addr × Obj)) (s : Shared) (σ : St) (H : Hp) (x : V) (xs : List V) (v : Value) (us : List Value) (Q : VK), Inv X pins σ H s → RelV x v → Vals xs us → r x xs H Q →
    wpAny (model X.prog X.w) X.A (call (.builtin id) (v :: us)) (EP X pins σ Q) X.xe s
section
variable {X : Cx} {a b : Expr} {ta tb : TE} {pos : Pos}
theorem IxR.or {r r' : R2} (h : IxR X r) (h' : IxR X r') : IxR X (fun x y H Q => r x y H Q ∨ r' x y H Q) := by
  intro value slice pins s σ H x y v u Q I rx ry q hs
  rcases q with q | q
  · exact h value slice pins s σ H x y v u Q I rx ry q hs
  · exact h' value slice pins s σ H x y v u Q I rx ry q hs
theorem MtR.or {id : String} {r r' : V → List V → Hp → VK → Prop} (h : MtR X id r) (h' : MtR X id r') : MtR X id (fun x xs H Q => r x xs H Q ∨ r' x xs H Q) := by
  intro pins s σ H x xs v us Q I rx rs q
  rcases q with q | q
  · exact h pins s σ H x xs v us Q I rx rs q
  · exact h' pins s σ H x xs v us Q I rx rs q
/-- a[b] -/
theorem pe_ix {r : R2} (hr : IxR X r) (ha : PE X a ta) (hb : PE X b tb) (hs : PlainIx b) : PE X (.Subscript a b pos) (tOp r ta tb) := by
  intro pins s σ H Q I h
  exact Subscript_ (binT ha hb I h fun v u s2 x y H2 I2 rx ry q => hr a b pins s2 σ H2 x y v u Q I2 rx ry q (hs _ _))

def rIxL (K : PySem.W.Frag) : R2 := fun x y H Q => ∃ p xs i v, x = .ref p ∧ y = .int i ∧ SqL K H p xs ∧ atI xs i = some v ∧ Q v H
def rIxT (K : PySem.W.Frag) : R2 := fun x y H Q => ∃ p xs i v, x = .ref p ∧ y = .int i ∧ SqT K H p xs ∧ atI xs i = some v ∧ Q v H
theorem ix_list : IxR X (rIxL X.K) := by
  intro value slice pins s σ H x y v u Q I rx ry h hs
  obtain ⟨p, xs, i, z, rfl, rfl, hq, he, q⟩ := h
  cases rx
  obtain ⟨t, rfl⟩ := ry
  obtain ⟨its, r, pl, hz⟩ := I.list hq
  obtain ⟨j, h1, h2, h3, h4, h5⟩ := atI_get he
  obtain ⟨w, ew, rw'⟩ := r.get h2
  have hl := r.length
  have hn := line63
  have fin : EP X pins σ Q w s := ⟨z, H, I, rw', q⟩
  by_cases h0 : 0 ≤ i
  · have hj : i.toNat = j := by
      rw [seqIndex_of h0 h5] at h1
      exact Option.some.inj h1
    exact item_listR pl.isList h0 (by omega) (by rw [hj]; simpa using ew) fin hs
  · have hj : (i + (its.toArray.size : Int)).toNat = j := by
      rw [seqIndex_neg (by omega) h4] at h1
      rw [List.size_toArray, ← hl]
      exact Option.some.inj h1
    exact subscriptTail_builtinR (x := w) pl.isList.typeIs slot_list_getitem.lookup
      (wpAny_getItem_list_neg (Q := fun r s' => r = w ∧ EP X pins σ Q r s') pl.isList (by omega) (by rw [List.size_toArray] <;> omega) (by omega) (by rw [hj]; simpa using ew) ⟨rfl, fin⟩) hs
theorem ix_tup : IxR X (rIxT X.K) := by
  intro value slice pins s σ H x y v u Q I rx ry h hs
  obtain ⟨p, xs, i, z, rfl, rfl, hq, he, q⟩ := h
  cases rx
  obtain ⟨t, rfl⟩ := ry
  obtain ⟨its, r, pl, hz⟩ := I.tuple hq
  obtain ⟨j, h1, h2, h3, h4, h5⟩ := atI_get he
  obtain ⟨w, ew, rw'⟩ := r.get h2
  have hl := r.length
  have hn := line63
  have fin : EP X pins σ Q w s := ⟨z, H, I, rw', q⟩
  exact subscriptTail_builtinR (x := w) pl.typeIs slot_tuple_getitem.lookup
    (getItem_tuple (j := j) (Q := fun r s' => r = w ∧ EP X pins σ Q r s') pl (by omega) (by omega) (by rw [List.size_toArray, ← hl]; exact h1) (by simpa using ew) ⟨rfl, fin⟩) hs
/-! ### xs[i] = v, any sign -/
/-- the list's object behind a store -/
theorem mapSeq_set (its : List Value) (n j : Nat) (u : Value) : Obj.mapSeq (·.setIfInBounds j u) { cls := .type "list", data := .seq its.toArray n } = { cls := .type "list", data := .seq (its.set j u).toArray n } := by
  simp [Obj.mapSeq]
theorem Inv.lst {pins : List (Addr × Obj)} {σ : St} {H : Hp} {s : Shared} {p : Addr} {xs : List V} (I : Inv X pins σ H s) (h : H p = some (.lst xs)) :
    ∃ (its : List Value) (n : Nat), Vals xs its ∧ s.heap.get? p = some { cls := .type "list", data := .seq its.toArray n } ∧ xs.length ≤ sizeLine := by
  obtain ⟨z, its, n, r, e⟩ := I.hok p _ h
  exact ⟨its, n, r, e, z⟩
/-- the list at p is written by an update of its object -/
theorem Inv.lstUpd {pins : List (Addr × Obj)} {σ : St} {H : Hp} {s : Shared} {p : Addr} {xs ys : List V} {its its' : List Value} {n n' : Nat} {f : Obj → Obj} (I : Inv X pins σ H s) (h : H p = some (.lst xs))
    (ho : s.heap.get? p = some { cls := .type "list", data := .seq its.toArray n }) (hf : f { cls := .type "list", data := .seq its.toArray n } = { cls := .type "list", data := .seq its'.toArray n' }) (r : Vals ys its') (hz : ys.length ≤ sizeLine) (t : Nat) :
    Inv X pins σ (upd H p (.lst ys)) { s with heap := s.heap.update p f, toks := t } := by
  have e : (s.heap.update p f).get? p = some { cls := .type "list", data := .seq its'.toArray n' } := by
    rw [Heap.get?_update_self f ho (by rw [hf] <;> rfl), hf]
  refine I.write (x := p) (e := p) (by rw [h]; trivial) (.inl rfl) (fun b u hb q => (Heap.get?_update_other _ _ (Ne.symm hb)).trans q) ⟨_, e⟩ ?_
  exact ⟨hz, its', n', r, e⟩
def rSetL : V → V → V → Hp → (Hp → Prop) → Prop := fun o i v H Q => ∃ p xs k j, o = .ref p ∧ i = .int k ∧ H p = some (.lst xs) ∧ ixN xs.length k = some j ∧ Q (upd H p (.lst (xs.set j v)))
theorem set_list : PSet X rSetL := by
  intro pins s σ H o i v ov iv u Q I ro ri rv h
  obtain ⟨p, xs, k, j, rfl, rfl, hp, hj, q⟩ := h
  cases ro
  obtain ⟨t, rfl⟩ := ri
  obtain ⟨its, n, r, ho, hz⟩ := I.lst hp
  obtain ⟨h1, h2, h3, h4⟩ := ixN_seq hj
  have hl := r.length
  have hn := line63
  have I' : Inv X pins σ (upd H p (.lst (xs.set j v))) { s with heap := s.heap.update p (Obj.mapSeq (·.setIfInBounds j u)) } :=
    I.lstUpd hp ho (mapSeq_set its n j u) (r.set rv j) (by rw [List.length_set]; exact hz) s.toks
  by_cases h0 : 0 ≤ k
  · have hk : k.toNat = j := by
      rw [seqIndex_of h0 h4] at h1
      exact Option.some.inj h1
    exact PySem.W.ki_setAt ho h0 (by omega) (by rw [List.size_toArray, ← hl]; exact h4) (by rw [hk]; exact ⟨_, I', q⟩)
  · have hk : (k + (its.toArray.size : Int)).toNat = j := by
      rw [seqIndex_neg (by omega) h3] at h1
      rw [List.size_toArray, ← hl]
      exact Option.some.inj h1
    exact PySem.W.ki_setBack ho (by omega) (by rw [List.size_toArray, ← hl]; exact h3) (by omega) (by rw [hk]; exact ⟨_, I', q⟩)

/-! ### slices -/
theorem slice_bounds (lo hi : Option Int) (n : Nat) : (sliceBounds lo hi none n).1 = ((HT.sIx n 0 lo : Nat) : Int) ∧ (sliceBounds lo hi none n).2.1 = ((HT.sIx n n hi : Nat) : Int) ∧ (sliceBounds lo hi none n).2.2 = 1 := by
  refine ⟨?_, ?_, rfl⟩
  · cases lo with
    | none => simp [sliceBounds, HT.sIx]
    | some i =>
      simp only [sliceBounds, HT.sIx, Option.getD_none, show (1 : Int) > 0 by decide, if_true]
      by_cases h : i < 0
      · simp only [h, if_true] <;> omega
      · simp only [h, if_false] <;> omega
  · cases hi with
    | none => simp [sliceBounds, HT.sIx]
    | some i =>
      simp only [sliceBounds, HT.sIx, Option.getD_none, show (1 : Int) > 0 by decide, if_true]
      by_cases h : i < 0
      · simp only [h, if_true] <;> omega
      · simp only [h, if_false] <;> omega
theorem slicePick_cut (its : List Value) (lo hi : Option Int) : slicePick its.toArray lo hi none = ((its.drop (HT.sIx its.length 0 lo)).take (HT.sIx its.length its.length hi - HT.sIx its.length 0 lo)).toArray := by
  obtain ⟨h1, h2, h3⟩ := slice_bounds lo hi its.toArray.size
  unfold slicePick
  rw [h1, h2, h3]
  simp only [sliceRange_one, pick_run, List.size_toArray] <;> rfl
/-- xs[lo:hi] of a list: a new list -/
def rSlL (K : PySem.W.Frag) : V → Option Int → Option Int → Hp → VK → Prop := fun x lo hi H Q => ∃ a xs, x = .ref a ∧ SqL K H a xs ∧ ∀ p, H p = none → Q (.ref p) (upd H p (.lst (cutV xs lo hi)))
theorem sl_list : SlR X (rSlL X.K) := by
  intro pins s σ H x v vl vu lo hi sl Q I rx hs pl pu h
  obtain ⟨a, xs, rfl, hx, q⟩ := h
  cases rx
  obtain ⟨its, r, ht, hz⟩ := I.list hx
  have hlen := r.length
  refine ⟨"list", _, slot_list_getitem.lookup, ht.isList.typeIs, ?_⟩
  refine wpAny_getItem_list_slice ht.isList hs pl pu .none (by simp) ?_ (by rw [List.size_toArray] <;> omega)
  rw [slicePick_cut, ← hlen]
  refine ⟨.ref s.heap.objs.size, _, I.laid (t' := s.toks) (o := .lst (cutV xs lo hi)) (fun b ob q => Heap.get?_push_of_some _ q) (Nat.le_refl _) ?_, rfl, q _ (I.hok.fresh (Nat.le_refl _))⟩
  exact ⟨Nat.le_trans (cutV_length xs lo hi) hz, _, 0, (r.drop (HT.sIx xs.length 0 lo)).take (HT.sIx xs.length xs.length hi - HT.sIx xs.length 0 lo), Heap.get?_push_size _ rfl⟩

/-! ### in, not in: flat items -/
/-! ### len, list(x), tuple(x) of any list or tuple that is read -/
theorem call_len_seq : CallR X (.builtin "len") (fun xs H Q => ∃ p ys, xs = [.ref p] ∧ (SqL X.K H p ys ∨ SqT X.K H p ys) ∧ Q (.int ys.length) H) := by
  intro pins s σ H xs us Q I r h
  obtain ⟨p, ys, rfl, hq, q⟩ := h
  obtain ⟨u, rfl, rx⟩ := vals1 r
  cases rx
  have hn := line63
  rcases hq with hq | hq
  · obtain ⟨its, r', pl, hz⟩ := I.list hq
    have hlen := r'.length
    exact Calls.call_len_list pl.isList (by simp only [List.size_toArray] <;> omega) ⟨.int ys.length, H, I.tok _, ⟨s.toks + 1, by rw [List.size_toArray, hlen]⟩, q⟩
  · obtain ⟨its, r', pl, hz⟩ := I.tuple hq
    have hlen := r'.length
    exact len_tuple pl (by simp only [List.size_toArray] <;> omega) ⟨.int ys.length, H, I.tok _, ⟨s.toks + 1, by rw [List.size_toArray, hlen]⟩, q⟩
theorem CallR.or {f : Value} {r r' : List V → Hp → VK → Prop} (h : CallR X f r) (h' : CallR X f r') : CallR X f (fun xs H Q => r xs H Q ∨ r' xs H Q) := by
  intro pins s σ H xs us Q I rs q
  rcases q with q | q
  · exact h pins s σ H xs us Q I rs q
  · exact h' pins s σ H xs us Q I rs q
theorem call_list_of : CallR X (.type "list") (fun xs H Q => ∃ p ys, xs = [.ref p] ∧ (SqL X.K H p ys ∨ SqT X.K H p ys) ∧ ∀ l, H l = none → Q (.ref l) (upd H l (.lst ys))) := by
  intro pins s σ H xs us Q I r h
  obtain ⟨p, ys, rfl, hq, q⟩ := h
  obtain ⟨u, rfl, rx⟩ := vals1 r
  cases rx
  have fin : ∀ (its : List Value), Vals ys its → ys.length ≤ sizeLine → ∀ (h' : Heap) (c' : Nat), (∀ b o', s.heap.get? b = some o' → h'.get? b = some o') →
      h'.get? s.heap.objs.size = some { cls := .type "list", dict := none, data := .seq its.toArray c', slots := #[] } → EP X pins σ Q (.ref s.heap.objs.size) { s with heap := h' } := fun its r' hz h' c' kp e =>
    ⟨.ref s.heap.objs.size, _, I.laid (t' := s.toks) kp (Nat.le_refl _) (show ObjOk X.prog X.w _ h' _ (.lst ys) from ⟨hz, its, c', r', e⟩), rfl, q _ (I.hok.fresh (Nat.le_refl _))⟩
  rcases hq with hq | hq
  · obtain ⟨its, r', pl, hz⟩ := I.list hq
    have hlen := r'.length
    obtain ⟨o, ho, hc, n, hd⟩ := pl.isList
    exact call_list_seq p (.inl rfl) ho hc hd (fun h' c' kp e => fin its r' hz h' c' kp e) (by simp only [List.size_toArray] <;> omega)
  · obtain ⟨its, r', pl, hz⟩ := I.tuple hq
    have hlen := r'.length
    obtain ⟨o, ho, hc, n, hd⟩ := pl
    exact call_list_seq p (.inr rfl) ho hc hd (fun h' c' kp e => fin its r' hz h' c' kp e) (by simp only [List.size_toArray] <;> omega)
/-! ### the call of a builtin's method: o.m(..) -/
/-- the value is of that builtin type -/
def tyV (K : PySem.W.Frag) (T : String) (x : V) (H : Hp) : Prop := match x with
  | .str _ => T = "str"
  | .int _ => T = "int"
  | .ref p => (T = "list" ∧ ∃ xs, SqL K H p xs) ∨ (T = "tuple" ∧ ∃ o, K.lookup p = some o ∧ o.cls = .type "tuple" ∧ o.dict = none) ∨
      (T = "dict" ∧ ((∃ kvs, H p = some (.dK kvs)) ∨ ∃ kvs, H p = some (.dT kvs))) ∨ (T = "set" ∧ ∃ S n, H p = some (.set S n))
  | _ => False
theorem tyV_is {pins : List (Addr × Obj)} {σ : St} {H : Hp} {s : Shared} {T : String} {x : V} {v : Value} (I : Inv X pins σ H s) (r : RelV x v) (ty : tyV X.K T x H) :
    s.TypeIs v T ∧ ∀ a, v = .ref a → ∃ ob, s.heap.get? a = some ob ∧ ob.dict = none := by
  cases x with
  | str z =>
    obtain ⟨t, rfl⟩ := r
    cases (show T = "str" from ty)
    exact ⟨typeIs_str s z t, fun _ e => nomatch e⟩
  | int i =>
    obtain ⟨t, rfl⟩ := r
    cases (show T = "int" from ty)
    exact ⟨typeIs_int s i t, fun _ e => nomatch e⟩
  | ref p =>
    cases r
    rcases ty with ⟨rfl, xs, hq⟩ | ⟨rfl, o, hk, hc, hd⟩ | ⟨rfl, hk⟩ | ⟨rfl, S, n, hk⟩
    · obtain ⟨its, _, pl, _⟩ := I.list hq
      refine ⟨pl.isList.typeIs, fun a e => ?_⟩
      cases e
      obtain ⟨o, n, e, c, hd, _⟩ := pl
      exact ⟨o, e, hd⟩
    · refine ⟨⟨o, I.kIn p o hk, hc⟩, fun a e => ?_⟩
      cases e
      exact ⟨o, I.kIn _ o hk, hd⟩
    · have z : ∃ o, s.heap.get? p = some o ∧ o.ExactDict := by
        rcases hk with ⟨kvs, hk⟩ | ⟨kvs, hk⟩
        · obtain ⟨_, _, _, _, o, _, _, e, ex, _⟩ := I.hok p _ hk
          exact ⟨o, e, ex⟩
        · obtain ⟨_, _, _, _, o, _, _, e, ex, _⟩ := I.hok p _ hk
          exact ⟨o, e, ex⟩
      obtain ⟨o, e, ex⟩ := z
      refine ⟨⟨o, e, ex.1⟩, fun a e2 => ?_⟩
      cases e2
      exact ⟨o, e, ex.2.1⟩
    · obtain ⟨o, _, _, _, e, ex, _⟩ := I.hok p _ hk
      refine ⟨⟨o, e, ex.1⟩, fun a e2 => ?_⟩
      cases e2
      exact ⟨o, e, ex.2.1⟩
  | _ => exact False.elim ty
def tBM0 (K : PySem.W.Frag) (T : String) (r : V → List V → Hp → VK → Prop) (to : TE) : TE := fun σ H Q => to σ H fun x H1 => tyV K T x H1 ∧ r x [] H1 Q
def tBM (K : PySem.W.Frag) (T : String) (r : V → List V → Hp → VK → Prop) (to : TE) (t : TA) : TE := fun σ H Q => to σ H fun x H1 => tyV K T x H1 ∧ t σ H1 fun xs H2 => r x xs H2 Q
variable {o e : Expr} {es : List Expr} {to : TE} {t : TA} {name : Str} {apos cpos : Pos} {T id : String} {r : V → List V → Hp → VK → Prop}
theorem pe_bm0 (pa : PlainAttrs T) (slot : Slot T name id) (hty : typeOf (.builtin id) = pure (.type "method_descriptor")) (hm : MtR X id r) (ho : PE X o to)
    (hbase : attributeBase o name X.env (eval o X.env) = eval o X.env := by rfl) (hline : (apos.endLine == cpos.line) = true := by rfl) : PE X (.Call (.Attribute o name apos) [] [] cpos) (tBM0 X.K T r to) := by
  intro pins s σ H Q I h
  refine wpAny_Call_method0_late hbase hline (thn (ho pins s σ H _ I h) fun v s1 ⟨x, H1, I1, r1, ty, q1⟩ => ?_)
  obtain ⟨h1, h2⟩ := tyV_is I1 r1 ty
  exact ⟨T, id, pa, slot, hty, h1, h2, Calls.callWith_builtin rfl (PySem.evalArgs_none (hm pins s1 σ H1 x [] v [] Q I1 r1 .nil q1))⟩
theorem pe_bm (pa : PlainAttrs T) (slot : Slot T name id) (hty : typeOf (.builtin id) = pure (.type "method_descriptor")) (hm : MtR X id r) (ho : PE X o to) (ha : PA X (e :: es) t)
    (hbase : attributeBase o name X.env (eval o X.env) = eval o X.env := by rfl)
    (hfew : ((backTo cpos (starEach (e :: es) X.env)).all (fun x => !x.1) && (backToKw cpos (keywordEach [] X.env)).all (fun x => x.1.isSome)
      && decide ((e :: es).length + ([] : List Keyword).length + (if ([] : List Keyword).isEmpty then 0 else 1) < 30)) = true := by rfl)
    (hline : (apos.endLine == cpos.line) = true := by rfl) (hs : starEach (e :: es) X.env = (false, eval e X.env) :: starEach es X.env := by rfl) (hplain : (backTo cpos (starEach es X.env)).any (·.1) = false := by rfl) :
    PE X (.Call (.Attribute o name apos) (e :: es) [] cpos) (tBM X.K T r to t) := by
  intro pins s σ H Q I h
  refine wpAny_Call_method_late hbase hfew hline rfl (thn (ho pins s σ H _ I h) fun v s1 ⟨x, H1, I1, r1, ty, q1⟩ => ?_)
  obtain ⟨h1, h2⟩ := tyV_is I1 r1 ty
  refine ⟨T, id, pa, slot, hty, h1, h2, ?_⟩
  have hA := ha cpos pins s1 σ H1 _ I1 q1
  rw [hs] at hA ⊢
  refine Calls.callWith_builtin (by show (false || (backTo cpos (starEach es X.env)).any (·.1)) = false; rw [hplain] <;> rfl) (Calls.evalArgs_plain ?_)
  exact thn hA fun us s2 ⟨vs, H2, I2, r2, q2⟩ => hm pins s2 σ H2 x vs v us Q I2 r1 r2 q2
/- xs.append(e), list.index on a module's tuple .. are MtR facts of 06m -/
end
end L2

namespace L2
open PySem PySem.Spec PyProof.Rows

def MtM (X : Cx) (id : String) (r : V → List V → Hp → VK → Prop) : Prop :=
  ∀ (pins : List (Addr × Obj)) (s : Shared) (σ : St) (H : Hp) (x : V) (xs : List V) (v : Value) (us : List Value) (Q : VK), Inv X pins σ H s → RelV x v → Vals xs us → r x xs H Q →
    wpAny (model X.prog X.w) X.A (call (.builtin id) (v :: us)) (EP X pins σ Q) X.xe s

/-! ### lists of values -/
theorem Vals.one : ∀ {x : V} {us : List Value}, Vals [x] us → ∃ u, us = [u] ∧ RelV x u
  | _, _, .cons r .nil => ⟨_, rfl, r⟩
theorem Vals.two : ∀ {x y : V} {us : List Value}, Vals [x, y] us → ∃ u v, us = [u, v] ∧ RelV x u ∧ RelV y v
  | _, _, _, .cons r (.cons q .nil) => ⟨_, _, rfl, r, q⟩
theorem Vals.zero : ∀ {us : List Value}, Vals [] us → us = []
  | _, .nil => rfl
theorem Vals.reverse {xs : List V} {us : List Value} (h : Vals xs us) : Vals xs.reverse us.reverse := by
  induction h with
  | nil => exact .nil
  | cons r t ih => rw [List.reverse_cons, List.reverse_cons]; exact Vals.append ih (.cons r .nil)
theorem Vals.rep {xs : List V} {us : List Value} (h : Vals xs us) : ∀ k : Nat, Vals (List.replicate k xs).flatten (List.replicate k us).flatten
  | 0 => .nil
  | k + 1 => by
    rw [List.replicate_succ, List.replicate_succ, List.flatten_cons, List.flatten_cons]
    exact Vals.append h (Vals.rep h k)
theorem foldl_rep (its : List Value) : ∀ (k : Nat) (acc : List Value),
    List.foldl (fun x1 x2 => x1 ++ x2) acc.toArray (List.replicate k its.toArray) = (acc ++ (List.replicate k its).flatten).toArray
  | 0, acc => by simp
  | k + 1, acc => by
    have e : acc.toArray ++ its.toArray = (acc ++ its).toArray := by simp
    have e2 : (acc ++ its) ++ (List.replicate k its).flatten = acc ++ (List.replicate (k + 1) its).flatten := by
      rw [List.replicate_succ, List.flatten_cons, List.append_assoc]
    rw [← e2, ← foldl_rep its k (acc ++ its), ← e, List.replicate_succ, List.foldl_cons]

section
variable {X : Cx} {pins : List (Addr × Obj)} {σ : St} {H : Hp} {s : Shared} {l b : Addr} {xs ys zs : List V}

/-! ### the two steps: a tracked list is rewritten, a new list is laid -/
theorem Inv.lset {its its' : List Value} {n : Nat} {f : Array Value → Array Value} {t' : Nat} (I : Inv X pins σ H s) (hH : H l = some (.lst xs))
    (e : s.heap.get? l = some { cls := .type "list", data := .seq its.toArray n }) (hf : f its.toArray = its'.toArray) (hv : Vals ys its') (hz : ys.length ≤ sizeLine) :
    Inv X pins σ (upd H l (.lst ys)) { s with heap := s.heap.update l (Obj.mapSeq f), toks := t' } := by
  have q := PySem.IsL.update e f
  rw [hf] at q
  refine I.write (x := l) (e := l) (by rw [hH]; exact trivial) (.inl rfl) (fun b' u hb hu => (Heap.get?_update_other s.heap (Obj.mapSeq f) (Ne.symm hb)).trans hu) ⟨_, q⟩ ?_
  exact ⟨hz, its', _, hv, q⟩
theorem Inv.lnew {its : List Value} {t' : Nat} (I : Inv X pins σ H s) (hv : Vals ys its) (hz : ys.length ≤ sizeLine) :
    Inv X pins σ (upd H s.heap.objs.size (.lst ys)) { s with heap := s.heap.push { cls := .type "list", data := .seq its.toArray }, toks := t' } :=
  I.laid (fun _ _ q => Heap.get?_push_of_some _ q) (Nat.le_refl _) ⟨hz, its, 0, hv, Heap.get?_push_size _ rfl⟩
theorem Inv.fresh (I : Inv X pins σ H s) : H s.heap.objs.size = none := I.hok.fresh (Nat.le_refl _)
theorem Inv.lstM (I : Inv X pins σ H s) (hH : H l = some (.lst xs)) : xs.length ≤ sizeLine ∧ ∃ (its : List Value) (n : Nat), Vals xs its ∧ xs.length = its.length ∧ s.heap.get? l = some { cls := .type "list", data := .seq its.toArray n } := by
  obtain ⟨z, its, n, r, e⟩ := I.hok l _ hH
  exact ⟨z, its, n, r, r.length, e⟩

theorem notLongL {n : Nat} (h : n ≤ sizeLine) : Builtin.List.listTooLong n = false := by
  unfold Builtin.List.listTooLong
  exact decide_eq_false (by omega)
end

section
variable {X : Cx}

/-! ### methods -/
def rAppend : V → List V → Hp → VK → Prop := fun x vs H Q => ∃ l xs y, x = .ref l ∧ vs = [y] ∧ H l = some (.lst xs) ∧ xs.length < sizeLine ∧ Q .non (upd H l (.lst (xs ++ [y])))
theorem mt_append : MtM X "list.append" rAppend := by
  intro pins s σ H x vs v us Q I rx rv h
  obtain ⟨l, xs, y, rfl, rfl, hH, hz, q⟩ := h
  cases rx
  obtain ⟨u, rfl, ru⟩ := rv.one
  obtain ⟨z, its, n, r, hl, e⟩ := I.lstM hH
  refine call_meets F.slot_list_append ⟨_, e, rfl⟩ F.entry_list_append (F.args_list_append_2 _ _) (PySem.list_append l its.toArray n u (by rw [List.size_toArray]; omega)) ⟨e, ?_⟩
  refine ⟨.non, _, I.lset (its' := its ++ [u]) hH e (by simp) (r.append (.cons ru .nil)) ?_, rfl, q⟩
  rw [List.length_append, List.length_singleton]
  omega

def rReverse : V → List V → Hp → VK → Prop := fun x vs H Q => ∃ l xs, x = .ref l ∧ vs = [] ∧ H l = some (.lst xs) ∧ Q .non (upd H l (.lst xs.reverse))
theorem mt_reverse : MtM X "list.reverse" rReverse := by
  intro pins s σ H x vs v us Q I rx rv h
  obtain ⟨l, xs, rfl, rfl, hH, q⟩ := h
  cases rx
  have hus := rv.zero
  subst hus
  obtain ⟨z, its, n, r, hl, e⟩ := I.lstM hH
  refine call_meets F.slot_list_reverse ⟨_, e, rfl⟩ F.entry_list_reverse (F.args_list_reverse_1 _) (AutoSeq1.list_reverse_list_0 l its.toArray n (by rw [List.size_toArray]; omega)) ⟨e, ?_⟩
  refine ⟨.non, _, I.lset (its' := its.reverse) hH e (by simp) r.reverse ?_, rfl, q⟩
  rw [List.length_reverse]
  omega

/-! ### list + list, list += list, list * int -/
/-- a list times an int (a negative one is nothing) -/
def rRep : R2 := fun x y H Q => ∃ l k xs, x = .ref l ∧ y = .int k ∧ H l = some (.lst xs) ∧ -(2 ^ 63) ≤ k ∧ k < 2 ^ 63 ∧ xs.length * k.toNat ≤ sizeLine ∧
  ∀ p, H p = none → Q (.ref p) (upd H p (.lst (List.replicate k.toNat xs).flatten))
theorem len_rep {α : Type} (xs : List α) (k : Nat) : (List.replicate k xs).flatten.length = k * xs.length := by
  induction k with
  | zero => simp
  | succ k ih => rw [List.replicate_succ, List.flatten_cons, List.length_append, ih, Nat.succ_mul, Nat.add_comm]
theorem op_rep : OpR X (binaryOp .Mult) rRep := by
  intro pins s σ H x y v u Q I rx ry h
  obtain ⟨l, k, xs, rfl, rfl, hH, h1, h2, hz, q⟩ := h
  cases rx
  obtain ⟨t, rfl⟩ := ry
  obtain ⟨z, its, n, r, hl, e⟩ := I.lstM hH
  have hlen : its.toArray.size * k.toNat ≤ sizeLine := by rw [List.size_toArray, ← hl]; exact hz
  have hcap : ¬ its.toArray.size * k.toNat > (2 ^ 63 - 1) / 8 := by
    have : (sizeLine : Nat) ≤ (2 ^ 63 - 1) / 8 := by decide
    omega
  have hfit : ¬ (!Builtin.List.listFitsIndex k) = true := by
    rw [fitsIndex_both h1 h2]
    exact Bool.false_ne_true
  have hlong : ¬ Builtin.List.listTooLong (its.toArray.size * k.toNat) = true := by
    rw [notLongL hlen]
    exact Bool.false_ne_true
  have hnew : List.foldl (fun x1 x2 => x1 ++ x2) #[] (List.replicate (if its.toArray.isEmpty = true then 0 else k.toNat) its.toArray) = (List.replicate k.toNat its).flatten.toArray := by
    have f0 : ∀ m : Nat, List.foldl (fun x1 x2 => x1 ++ x2) #[] (List.replicate m its.toArray) = (List.replicate m its).flatten.toArray := fun m => by
      have := foldl_rep its m []
      rw [List.nil_append] at this
      exact this
    rw [f0]
    cases its with
    | nil => simp
    | cons a r' => rw [if_neg (by simp)]
  refine wpAny_binaryOp_repeat_ref (T := "list") (U := "int") (by decide) ⟨_, e, rfl⟩ (fun s' => typeIs_int s' k t) noFill_list_mul F.fills_int_mul F.slot_int_rmul repeat_list F.slot_int_index.lookup
    (call_meets F.slot_int_rmul (typeIs_int s k t) F.entry_int_rmul (F.args_int_rmul_2 _ _) (int___rmul___int_list k t l its.toArray n)
      ⟨e, rfl, ⟨_, e, rfl⟩, call_meets F.slot_list_mul ⟨_, e, rfl⟩ F.entry_list_mul (F.args_list_mul_2 _ _) (AutoListH.list___mul___list_int_3 l its.toArray n k t hfit hcap hlong) ⟨e, ?_⟩⟩)
  rw [hnew]
  exact ⟨.ref _, _, I.lnew (t' := s.toks) (r.rep k.toNat) (by rw [len_rep, Nat.mul_comm]; exact hz), rfl, q _ I.fresh⟩

/-! ### del xs[i] -/
end

/-! ### xs[a:b] = ys -/
section
variable {prog : Program} {w : World} {A : Around} {E : Value → Shared → Prop} {s : Shared}
end

section
variable {X : Cx}
end
end L2

namespace Att
open PySem PySem.W PySem.Calls PyProof.Rows

/-! ### the script -/
theorem ints_of_wellAll {P : Params} {h : Heap} : ∀ (ns : List Int) (vs : List Value), WellAll P h vs (ns.map WData.int) → IntsAre vs ns := by
  intro ns
  induction ns with
  | nil =>
    intro vs w
    rw [List.map_nil] at w
    cases w
    exact .nil
  | cons n ns ih =>
    intro vs w
    rw [List.map_cons] at w
    cases w with
    | cons a b =>
      cases a
      exact .cons _ _ (ih _ b)

theorem script_of {l : OpenLaw} {n : Nat} (hn : l.most = some n) {P : Params} {h : Heap} {args : List WData} {vals : List Value}
    (hpre : l.row.toRowW.claim.pre args = true) (hwl : WellAll P h vals args) :
    ∃ a vs ns, vals = [Value.ref a] ∧ args = [WData.list (ns.map WData.int)] ∧ h.get? a = some { cls := .type "list", data := .seq vs.toArray } ∧ IntsAre vs ns ∧ ns.length ≤ n := by
  have hsh : WShape.hasAll [] args [.list .int] = true := (pre_splitW hpre).1
  have hc : l.pre.holds [] { args := args } = true := (pre_splitW hpre).2
  obtain ⟨d, r, rfl, h1, h2⟩ := hasAllW_cons hsh
  obtain rfl := hasAllW_nil h2
  obtain ⟨xs, rfl, h3⟩ := hasW_list h1
  obtain ⟨ns, rfl⟩ := items_int h3
  have hlen : ns.length ≤ n := by
    unfold OpenLaw.pre at hc
    have h4 : (WTm.not (.lt (.lit (.int (n : Int))) (.len (.arg 0)))).holds [] { args := [.list (ns.map .int)] } = true := by
      have h4 := (holds_andW hc).1
      rw [hn] at h4
      exact h4
    have h5 := condW_of h4 (w_not (w_lt w_lit (w_len_list (w_arg rfl))))
    rw [List.length_map] at h5
    refine Nat.le_of_not_lt fun q => ?_
    have q' : (n : Int) < ((ns.length : Nat) : Int) := by omega
    first
      | (rw [decide_eq_true q'] at h5; exact absurd h5 (by decide))
      | (simp at h5; omega)
  cases hwl with
  | cons w1 w2 =>
    cases w2
    cases w1 with
    | list ho hall => exact ⟨_, _, ns, rfl, rfl, ho, ints_of_wellAll ns _ hall, hlen⟩

theorem post_true (l : OpenLaw) (args : List WData) : l.row.toRowW.claim.post args (.bool true) args = true :=
  postW_of (r := l.row.toRowW) (X := (true == true))
    (show WShape.has [] (.bool true) .bool = true by first | rfl | decide | simp [WShape.has, WShape.arms, WShape.armsAll])
    (show (WTm.eq .res (.lit (.bool true))).value [] { args := args, res := some (.bool true), after := args } = some (.bool (true == true)) from w_eq_bool (w_res rfl) w_lit) rfl

/-! ### the attachment: holds_open's last premise (the goal 'hc' behind k_head) from a wpAny of the law's body -/
/-- the same from a codeAny of the CALL (for a layer whose function contracts speak of calls) -/
theorem attach_call {l : OpenLaw} {n : Nat} {q : Program} {loose : List Str} {XP : (Str → Option Value) → Heap → Prop} {YP : World → Heap → Prop} {d : DefRec}
    (hn : l.most = some n) (hdf : d.params.defaults = [])
    (call : ∀ (w : World) (s₀ s₁ : Shared) (mg mb : Str → Option Value) (fa : Addr) (o : Obj) (pm cd doc : Value) (a : Addr) (vs : List Value) (ns : List Int),
      Ground q loose [] XP w s₀ mg mb s₁.heap → YP w s₁.heap →
      s₁.heap.get? fa = some o → o.data = .func (docDef d.name d.params d.body d.scope pm cd doc) → s₁.heap.CodeRec cd d.name → mg d.name = some (.ref fa) →
      s₁.heap.get? a = some { cls := .type "list", data := .seq vs.toArray } → IntsAre vs ns → ns.length ≤ n → s₁.gens = #[] →
      codeAny (model l.prog w) callerA (.call (.ref fa) ⟨[.ref a], []⟩) (fun r s' => r = .ok (.ret (.bool true)) ∧ OldK s₁.heap s'.heap ∧ s'.os = s₁.os ∧ AllBare s'.gens) s₁) :
    WalkO q loose XP YP l.row.toRowW d [] (fun f vs => PySem.call f vs) := by
  intro w s₀ s₁ mg mb G Y fa o pm cd doc dV kV ho hd hcd hD hmg hg args vals as hpre hlay hrd hwl hlo
  obtain rfl : dV = .none := Dflts.none hD hdf
  obtain rfl : kV = .none := Dflts.noKw hD
  obtain ⟨a, vs, ns, rfl, rfl, hobj, hints, hlen⟩ := script_of hn hpre hwl
  refine enter_call (codeAny_mono (call w s₀ s₁ mg mb fa o pm cd doc a vs ns G Y ho (fd_plain hd) hcd hmg hobj hints hlen hg) fun r s' hq => ?_)
  obtain ⟨rfl, h2, h3, h4⟩ := hq
  exact ⟨.inl ⟨.bool true, .bool true, [], rfl, fun _ => rfl, .bool true, post_true l _, fun _ => ⟨List.Pairwise.nil, fun _ hm => (nomatch hm)⟩⟩, h2, h3, h4⟩

/-! ### rules over ANY heap (no ledger) from facts about the written part K: the library's own take a ledger (News) for what they write -/
section
variable {prog : Program} {w : World} {A : Around} {E : Value → Shared → Prop} {s : Shared} {K : Frag}

/-! the whole heap as the ledger: makes every rule that writes through a ledger a rule over any heap -/
def ledger (h : Heap) (L d : Addr) : List (Addr × Obj) := (List.range h.objs.size).filterMap fun a => if a = L ∨ a = d then none else (h.get? a).map fun o => (a, o)
end
end Att

namespace L2
open PySem PySem.Spec PyProof.Rows

theorem vals_ints : ∀ {vs : List Value} {ns : List Int}, IntsAre vs ns → Vals (ns.map V.int) vs
  | _, _, .nil => .nil
  | _, _, .cons n t h => .cons ⟨t, rfl⟩ (vals_ints h)

/-- nothing is tracked but the script, known to the object (or it is an object of the module) -/
def Only (H : Hp) : Prop := ∀ b, H b = none ∨ ∃ o xs, H b = some (.frz o (.lst xs))

/-- THE HEAD: the law's promise, at the heap behind the top. F, the promise of the law's def, may use that base is part of the heap (so K.In base, base.Ns mainGlobals mg stand in Mod) -/
theorem law_call {P : Program} {w : World} {K : PySem.W.Frag} {mg mb : Str → Option Value} {CX : CXT} {k : Nat} {fa a : Addr} {fd : FuncData} {x : Str} {sp : Sp} {s₁ : Shared} {vs : List Value} {ns : List Int}
    (KX : K.In s₁.heap) (hns : s₁.heap.Ns mainGlobals mg) (hb : s₁.heap.Ns builtinsNs mb) (hbb : ∀ x : Str, x ≠ "__name__" → mb x = bootBuiltins x) (hlim : s₁.heap.NoLimit) (hg : s₁.gens = #[])
    (ha : s₁.heap.get? a = some { cls := .type "list", data := .seq vs.toArray }) (hi : IntsAre vs ns) (hl : ns.length ≤ sizeLine) (hr : Room k callerA)
    (F : ∀ base : Heap, K.In base → base.Ns mainGlobals mg → FnOk P w K mg base CX k fa fd [x] sp) (hbind : ∀ (s : Shared) (u : Value), BindsTo s fd ⟨[u], []⟩ [(x, u)])
    (hsp : ∀ H : Hp, Only H → SqL K H a (ns.map V.int) → sp [.ref a] H (fun v _ => v = .bl true) fun _ _ _ => False)
    (hCX : ∀ H e s', CX [] H s₁ (fun _ _ _ => False) e s' → False) :
    codeAny (model P w) callerA (.call (.ref fa) ⟨[.ref a], []⟩) (fun r s' => r = .ok (.ret (.bool true)) ∧ OldK s₁.heap s'.heap ∧ s'.os = s₁.os ∧ AllBare s'.gens) s₁ := by
  have rv := vals_ints hi
  have lenV := hi.length
  -- from an abstract heap in which nothing but the script may be tracked
  have core : ∀ H : Hp, Only H → SqL K H a (ns.map V.int) → HOk P w H s₁.heap → (∀ b, H b ≠ none → b = a) → (H a ≠ none → K.lookup a = none) →
      codeAny (model P w) callerA (.call (.ref fa) ⟨[.ref a], []⟩) (fun r s' => r = .ok (.ret (.bool true)) ∧ OldK s₁.heap s'.heap ∧ s'.os = s₁.os ∧ AllBare s'.gens) s₁ := by
    intro H hO hS hok hA hK
    have base_of : ∀ {b : Addr} {o : Obj}, s₁.heap.get? b = some o → H b = none → (hidT s₁.heap H).get? b = some o := fun e n => hidT_get e n
    have noA : ∀ {b : Addr} {o : Obj} {es : Array DictEntry} {ep : Nat}, s₁.heap.get? b = some o → o.data = .dict es ep → H b = none := fun {b o es ep} e d => by
      cases q : H b with
      | none => rfl
      | some u =>
        have e' : b = a := hA b (by rw [q]; simp)
        subst e'
        rw [ha] at e; cases e
        have d' : Data.seq vs.toArray _ = Data.dict es ep := d
        cases d'
    have nsK : ∀ {b : Addr} {m : Str → Option Value}, s₁.heap.Ns b m → (hidT s₁.heap H).Ns b m := fun {b m} ⟨o, es, ep, e, d, r⟩ => ⟨o, es, ep, base_of e (noA e d), d, r⟩
    have hKb : K.In (hidT s₁.heap H) := fun b o e => base_of (KX b o e) (by
      cases q : H b with
      | none => rfl
      | some u =>
        have e' : b = a := hA b (by rw [q]; simp)
        subst e'
        rw [hK (by rw [q]; simp)] at e; cases e)
    have hM : Mod K mg (hidT s₁.heap H) := ⟨hKb, nsK hns, ⟨mb, nsK hb, hbb⟩, let ⟨mc, h1, h2⟩ := hlim; ⟨mc, nsK h1, h2⟩⟩
    have e0 : Env0 P w K mg (hidT s₁.heap H) callerA [] s₁ H := ⟨rfl, hM, fun b o e => of_hidT e, Nat.le_of_eq (hidT_size _ _), trivial, fun b hb => absurd (show b ∈ ([] : List Addr) from hb) (by simp), hok, .of_eq hg⟩
    refine codeAny_mono ((F _ hKb (nsK hns)).run callerA [] s₁ H ⟨[.ref a], []⟩ [.ref a] [.ref a] _ _ hr e0 (hbind s₁ (.ref a)) (.cons rfl .nil) (hsp H hO hS)) fun r s' h => ?_
    cases r with
    | error e => exact (hCX H e s' h).elim
    | ok fl =>
      cases fl with
      | next => exact False.elim h
      | brk => exact False.elim h
      | cont => exact False.elim h
      | ret u =>
        obtain ⟨v, H', os, bare, un, hok', r', q⟩ := h
        have q' : v = .bl true := q
        subst q'
        obtain rfl : u = Value.bool true := r'
        refine ⟨rfl, OldK.of_keep fun b o e => ?_, os, bare⟩
        cases q : H b with
        | none => exact un.keep b o e q (by intro z; exact absurd (show b ∈ ([] : List Addr) from z) (by simp)) (by simp)
        | some u =>
          rcases hO b with z | ⟨ob, xs, z⟩
          · rw [q] at z; cases z
          · have z2 := un.frzs b ob _ z
            obtain ⟨e1, _⟩ := hok b _ z
            obtain ⟨e2, _⟩ := hok' b _ z2
            rw [e] at e1; cases e1
            exact e2
  cases hk : K.lookup a with
  | some o =>
    -- the script is one of the module's own objects
    have e := KX a o hk
    rw [ha] at e
    cases e
    refine core (fun _ => none) (fun _ => .inl rfl) (.inr ⟨_, vs.toArray, _, hk, rfl, rfl, rfl, by rw [List.size_toArray, lenV]; exact hl, by simpa using rv⟩) (fun b u z => by have z' : (none : Option HO) = some u := z; cases z') (fun b z => absurd rfl z) fun z => absurd rfl z
  | none =>
    refine core (fun b => if b = a then some (.frz { cls := .type "list", data := .seq vs.toArray } (.lst (ns.map V.int))) else none) (fun b => ?_) (.inl (.inr ⟨{ cls := .type "list", data := .seq vs.toArray }, if_pos rfl⟩)) (fun b u z => ?_) (fun b z => ?_) fun _ => hk
    · by_cases hb : b = a
      · exact .inr ⟨_, _, if_pos hb⟩
      · exact .inl (if_neg hb)
    · by_cases hb : b = a
      · have z' := (if_pos hb).symm.trans z
        cases z'
        subst hb
        exact ⟨ha, by rw [List.length_map]; exact hl, vs, _, rv, ha⟩
      · have z' := (if_neg hb).symm.trans z
        cases z'
    · by_cases hb : b = a
      · exact hb
      · exact absurd (if_neg hb) z
end L2

namespace L2
open PySem PySem.Spec PyProof.Rows

abbrev KOf {K : PySem.W.Frag} {h : Heap} (_ : K.In h) : PySem.W.Frag := K

/-- the goal that k_head leaves (case hc), from the law's promise. F gives the function object fd (K's own) once, then the promise over every base -/
theorem walk_of {l : PySem.W.OpenLaw} {n k : Nat} {q : Program} {loose : List Str} {XP : (Str → Option Value) → Heap → Prop} {YP : World → Heap → Prop} {d : DefRec} {K : Params → PySem.W.Frag} {CX : World → CXT} {sp : World → Sp} {x : Str}
    (hn : l.most = some n) (hn2 : n ≤ sizeLine) (hdf : d.params.defaults = []) (hr : Room k callerA)
    (hY : ∀ (w : World) (h : Heap), YP w h → (K w.params).In h)
    (F : ∀ (w : World) (mg : Str → Option Value) (fa : Addr) (h : Heap), (K w.params).In h → h.Ns mainGlobals mg → mg d.name = some (.ref fa) →
      ∃ fd : FuncData, (∀ (s : Shared) (u : Value), BindsTo s fd ⟨[u], []⟩ [(x, u)]) ∧
        ∀ base : Heap, (K w.params).In base → base.Ns mainGlobals mg → FnOk l.prog w (K w.params) mg base (CX w) k fa fd [x] (sp w))
    (hsp : ∀ (w : World) (H : Hp) (a : Addr) (ns : List Int), ns.length ≤ n → Only H → SqL (K w.params) H a (ns.map V.int) → sp w [.ref a] H (fun v _ => v = .bl true) fun _ _ _ => False)
    (hCX : ∀ (w : World) (H : Hp) (s : Shared) (e : Value) (s' : Shared), CX w [] H s (fun _ _ _ => False) e s' → False) :
    PySem.W.WalkO q loose XP YP l.row.toRowW d [] (fun f vs => PySem.call f vs) := by
  refine Att.attach_call hn hdf fun w s₀ s₁ mg mb fa o pm cd doc a vs ns G Y ho hd hcd hmg hobj hints hlen hg => ?_
  have KX := hY w _ Y
  obtain ⟨fd, hb, hF⟩ := F w mg fa _ KX G.T.g hmg
  exact law_call KX G.T.g G.T.b G.T.builtins G.T.nolimit hg hobj hints (Nat.le_trans hlen hn2) hr hF hb (fun H hO hS => hsp w H a ns hlen hO hS) fun H e s' => hCX w H s₁ e s'
end L2

/- THE LAST THEOREM (shape; LID, My.* are yours):
   My.Adr: a structure of the addresses that your layer names (classes, functions); My.Txt K t: a structure (Prop) of the equations over K;
   My.txt_mk : {K} {implicit addresses ..} (e1 : nsIn K mainGlobals "law" = some (some (.ref f))) (e2 : K.lookup f = some ⟨oc, od, .func (fnOf "law" "law" params body scope dV kV doc pm an cdv ct), sl⟩) (e3 : codeIn K cdv "law" = true) .. : ∃ t, My.Txt K t

set_option maxRecDepth 100000 in
set_option maxHeartbeats 0 in
theorem PySem.Challenge.cw_LID_holds : PySem.Challenge.rw_LID.Holds := by
  w_on; o_law; k_head; (case hw => w_witness2)
  k_fill
  refine L2.walk_of (l := PySem.Challenge.rw_LID) (n := 63) (k := 40) (x := "script") (CX := fun w => ..) (sp := fun _ => My.sp_law) rfl (by decide) rfl ⟨rfl, by decide, by decide⟩ (fun w h Y => PySem.W.kIn_of Y) ?F ?S ?C
  case F =>
    intro w mg fa h KX G hmg
    have T : ∃ t, My.Txt (L2.KOf KX) t := by
      dsimp only [L2.KOf]                          -- K must stand as «<heap const> w.params» for k_is
      refine' My.txt_mk ?e1 ?e2 ?e3 ..
      (case e1 => PySem.W.k_is)                    -- in the order: a name -> its address -> its object -> its parts
      (case e2 => PySem.W.k_is)
      ..
    obtain ⟨t, T⟩ := T
    have e0 := hmg.symm.trans (PySem.W.mg_of KX G T.law)
    cases e0                                       -- fa is the law's own address
    exact ⟨_, fun s u => .of_eq rfl, fun base kb nb => My.law_fn T kb nb⟩     -- if «.of_eq rfl» comes too early: refine' ⟨_, ?b, fun base kb nb => My.law_fn T kb nb⟩; exact fun s u => .of_eq rfl
  case S => exact fun w H a ns hl hO hS => ..
  case C => exact ..
(the tactic k_is has no namespace: write k_is) -/

/-! SHORT WORDS over the layer: a def of the text, its body, what a loop and a test want. -/
namespace L2
open PySem PySem.Spec PyProof.Rows

/-! ### the text by places -/
/-- the j-th statement of a class's body -/
def inClass (s : Stmt) (j : Nat) : Stmt := match s with
  | .ClassDef _ _ _ body _ _ _ _ _ _ _ => body.getD j (.Pass ⟨0, 0, 0, 0⟩)
  | _ => .Pass ⟨0, 0, 0, 0⟩
def defArgs (s : Stmt) : Arguments := match s with
  | .FunctionDef _ a _ _ _ _ _ _ _ _ => a
  | _ => { posonlyargs := [], args := [], vararg := none, kwonlyargs := [], kw_defaults := [], kwarg := none, defaults := [] }
def defBody (s : Stmt) : List Stmt := match s with
  | .FunctionDef _ _ b _ _ _ _ _ _ _ => b
  | _ => []
def defScope (s : Stmt) : Scope := match s with
  | .FunctionDef _ _ _ _ _ _ sc _ _ _ => sc
  | _ => { kind := .function, names := [], isGenerator := false, isCoroutine := false }

/-! ### no exception leaves a def -/
abbrev CX0 : CXT := fun _ _ _ _ _ _ => False
abbrev E0 : XK := fun _ _ _ => False
theorem pass0 {X : Cx} : Passes CX0 X E0 := fun _ _ _ _ _ _ _ h => h.elim

/-! ### a def (or method) of the text as it stands behind the top -/
structure Fun (K : PySem.W.Frag) (x qual : Str) (st : Stmt) (f : Addr) (fd : FuncData) : Prop where
  ex : ∃ (oc : Value) (od : Option Addr) (kV doc pm : Value) (an : Option Addr) (cdv ct : Value) (osl : Array (Option Value)),
    fd = PySem.W.fnOf x qual (defArgs st) (defBody st) (defScope st) .none kV doc pm an cdv ct ∧ K.lookup f = some ⟨oc, od, .func fd, osl⟩ ∧ PySem.W.codeIn K cdv qual = true
  kp : PySem.W.keepIn K (.ref f) = true
section
variable {P : Program} {w : World} {K : PySem.W.Frag} {mg : Str → Option Value} {base : Heap}
/-- THE RULE for a def: its body as a term of rules, and the reading of that term -/
theorem Fun.ok {x qual : Str} {st : Stmt} {f : Addr} {fd : FuncData} {N ps : List Str} {k : Nat} {sp : Sp} (F : Fun K x qual st f fd) (S : FnScope N ps (defScope st)) (len : ∀ vs H Q E, sp vs H Q E → vs.length = ps.length)
    (hbody : ∀ (cdv : Value) (A : Around) (outer : List Env) (s : Shared) (H : Hp) (vs : List V) (Q : VK) (E : XK), Room k (A.deeper (envOfC qual (defScope st) s.heap.objs.size f cdv)) → sp vs H Q E →
      ∃ t, PSs (cxOf CX0 P w K mg base N qual (defScope st) f cdv A outer s H E).nox (defBody st) t ∧ t { nx := fun _ H' => Q .non H', rt := Q } (start N vs) H) : FnOk P w K mg base CX0 (k + 1) f fd ps sp := by
  obtain ⟨oc, od, kV, doc, pm, an, cdv, ct, osl, rfl, lk, hcd⟩ := F.ex
  refine fn_of lk hcd S len fun A outer s H vs Q E hr hsp => ?_
  obtain ⟨t, h, q⟩ := hbody cdv A outer s H vs Q E hr hsp
  exact ⟨t, h.nox, q⟩
/-- how its arguments bind (no defaults): h is «fun _ _ _ _ _ _ us hl => match us, hl with | [_, _], _ => rfl», one _ a parameter -/
theorem Fun.binds {x qual : Str} {st : Stmt} {f : Addr} {fd : FuncData} {ps : List Str} (F : Fun K x qual st f fd)
    (h : ∀ (kV doc pm : Value) (an : Option Addr) (cdv ct : Value) (us : List Value), us.length = ps.length → bindArgs (PySem.W.fnOf x qual (defArgs st) (defBody st) (defScope st) .none kV doc pm an cdv ct) ⟨us, []⟩ = pure (ps.zip us)) : Binds K fd ps [] := by
  obtain ⟨oc, od, kV, doc, pm, an, cdv, ct, osl, rfl, lk, hcd⟩ := F.ex
  exact .all (h kV doc pm an cdv ct)
theorem fun_mk {x qual : Str} {st : Stmt} {f : Addr} {oc : Value} {od an : Option Addr} {osl : Array (Option Value)} {kV doc pm cdv ct : Value} (l : K.lookup f = some ⟨oc, od, .func (PySem.W.fnOf x qual (defArgs st) (defBody st) (defScope st) .none kV doc pm an cdv ct), osl⟩)
    (c : PySem.W.codeIn K cdv qual = true) (k : PySem.W.keepIn K (.ref f) = true) : Fun K x qual st f (PySem.W.fnOf x qual (defArgs st) (defBody st) (defScope st) .none kV doc pm an cdv ct) := ⟨⟨oc, od, kV, doc, pm, an, cdv, ct, osl, rfl, l, c⟩, k⟩
end
/-! ### expressions in short: the name that stands in the i-th slot -/
section
variable {X : Cx}
theorem pv (i : Nat) {x : Str} {pos : Pos} (hN : X.N[i]? = some x := by rfl) (hv : Vis X.env.scope x := by first | exact Or.inl rfl | exact Or.inr (Or.inl rfl) | exact Or.inr (Or.inr rfl)) (hd : (x == ("__debug__" : Str)) = false := by decide)
    (hcd : (x == ("__classdict__" : Str)) = false := by decide) : PE X (.Name x pos) (tVar i) := pe_var hN hv hd hcd
end

/-! ### tests -/
/-! ### heaps -/
/-- all that was tracked is as it was -/
def Same (H H' : Hp) : Prop := ∀ b o, H b = some o → H' b = some o
theorem Same.refl (H : Hp) : Same H H := fun _ _ h => h
theorem Same.trans {H H1 H2 : Hp} (a : Same H H1) (b : Same H1 H2) : Same H H2 := fun c o h => b c o (a c o h)
theorem Same.free {H H' : Hp} (e : Same H H') {l : Addr} (h : H' l = Option.none) : H l = Option.none := by
  cases q : H l with
  | none => rfl
  | some o =>
    rw [e l o q] at h
    cases h
theorem Same.seq {K : PySem.W.Frag} {H H' : Hp} {a : Addr} {xs : List V} (e : Same H H') (h : SqL K H a xs) : SqL K H' a xs := by
  rcases h with (h | ⟨o, h⟩) | h
  · exact .inl (.inl (e _ _ h))
  · exact .inl (.inr ⟨o, e _ _ h⟩)
  · exact .inr h

end L2

set_option maxHeartbeats 4000000
/-! EXT 1: list comprehensions over the hand layer -/
namespace L2
open PySem PySem.Spec PyProof.Rows

/-- the context of a comprehension's block; no exception leaves it -/
def cxIn (X : Cx) (N : List Str) (scope : Scope) (cl : List (Str × Addr)) (C : Addr) (s₀ : Shared) (H₀ : Hp) (ex : List Addr) : Cx where
  prog := X.prog
  w := X.w
  K := X.K
  mg := X.mg
  base := X.base
  A := X.A
  N := N
  s₀ := s₀
  H₀ := H₀
  env := compEnvC scope cl C X.env
  outer := X.stack
  stack := X.stack
  ex := ex
  fn := fun _ => false
  calm := X.calm
  pn := []
  xe := fun _ _ => False

/-- what the block's scope must have; own: its own names, fr: the names it reads from around, js: their slots there -/
structure CompOk (X : Cx) (fr : List Str) (js : List Nat) (scope : Scope) (cl : List (Str × Addr)) : Prop where
  clos : closureFor scope X.env = pure cl
  cell : ∀ y ∈ scope.names, y.2 ≠ .cell
  kind : scope.kind = .function
  names : ∀ y ∈ scope.names, y.2 = .local → scope.names.lookup y.1 = some .local
  clin : ∀ p ∈ cl, X.env.cells.lookup p.1 = some p.2
  has : scope.names.all (fun p => p.2 != .free || (cl.lookup p.1).isSome) = true
  fre : Paired (fun (x : Str) (j : Nat) => X.N[j]? = some x ∧ (X.env.scope.names.lookup x = some .cell ∨ X.env.scope.names.lookup x = some .free) ∧ scope.names.lookup x = some .free) fr js

theorem relabel_inv {env : Env} {x : Str} {k' : NameKind} : ∀ {names : List (Str × NameKind)},
    (names.map fun (n, k) => if (k == NameKind.free && env.scope.kind == .function && env.kindOf n == some .cell) then (n, NameKind.cell) else (n, k)).lookup x = some k' →
    ∃ k, names.lookup x = some k ∧ (k' = k ∨ (k = .free ∧ k' = .cell))
  | [], h => by simp at h
  | (n, k) :: r, h => by
    have ih := @relabel_inv env x k' r
    change List.lookup x ((if (k == NameKind.free && env.scope.kind == .function && env.kindOf n == some .cell) = true then (n, NameKind.cell) else (n, k)) :: _) = _ at h
    by_cases hc : (k == NameKind.free && env.scope.kind == .function && env.kindOf n == some .cell) = true
    · rw [if_pos hc] at h
      cases hx : x == n with
      | true =>
        simp only [List.lookup_cons, hx] at h ⊢
        cases h
        refine ⟨k, rfl, .inr ⟨?_, rfl⟩⟩
        simp only [Bool.and_eq_true, beq_iff_eq] at hc
        exact hc.1.1
      | false =>
        simp only [List.lookup_cons, hx] at h ⊢
        exact ih h
    · rw [if_neg hc] at h
      cases hx : x == n with
      | true =>
        simp only [List.lookup_cons, hx] at h ⊢
        cases h
        exact ⟨_, rfl, .inl rfl⟩
      | false =>
        simp only [List.lookup_cons, hx] at h ⊢
        exact ih h
theorem relabel_free {env : Env} {x : Str} : ∀ {names : List (Str × NameKind)}, names.lookup x = some .free →
    (names.map fun (n, k) => if (k == NameKind.free && env.scope.kind == .function && env.kindOf n == some .cell) then (n, NameKind.cell) else (n, k)).lookup x = some .cell ∨
    (names.map fun (n, k) => if (k == NameKind.free && env.scope.kind == .function && env.kindOf n == some .cell) then (n, NameKind.cell) else (n, k)).lookup x = some .free
  | [], h => by simp at h
  | (n, k) :: r, h => by
    have ih := @relabel_free env x r
    show List.lookup x ((if (k == NameKind.free && env.scope.kind == .function && env.kindOf n == some .cell) = true then (n, NameKind.cell) else (n, k)) :: _) = _ ∨ List.lookup x ((if (k == NameKind.free && env.scope.kind == .function && env.kindOf n == some .cell) = true then (n, NameKind.cell) else (n, k)) :: _) = _
    by_cases hc : (k == NameKind.free && env.scope.kind == .function && env.kindOf n == some .cell) = true
    · rw [if_pos hc]
      cases hx : x == n with
      | true => simp only [List.lookup_cons, hx]; exact .inl trivial
      | false => simp only [List.lookup_cons, hx] at h ⊢; exact ih h
    · rw [if_neg hc]
      cases hx : x == n with
      | true =>
        simp only [List.lookup_cons, hx] at h ⊢
        cases h
        exact .inr rfl
      | false => simp only [List.lookup_cons, hx] at h ⊢; exact ih h

/-- the slots at the block's begin -/
def inSt (n : Nat) (js : List Nat) (σ : St) : St := List.replicate n none ++ js.map fun j => (σ[j]?).join

/-- W: the invariant by the turn, a measure, what is made so far, the block's slots -/
def CompR (n : Nat) (js : List Nat) (g : TG) (te : TE) (σ : St) (Q : VK) (J : It) (H1 : Hp) : Prop := ∃ W : Nat → Nat → List V → St → Hp → Prop, (∃ m, W 0 m [] (inSt n js σ) H1) ∧
  ∀ i m ys σ' H', W i m ys σ' H' →
    (J.stop i H' ∧ ∀ p, H' p = none → Q (.ref p) (upd H' p (.lst ys))) ∨
    (J.go i H' ∧ ys.length < sizeLine ∧ ∃ N : V → St → Hp → Prop, (∀ y σ'' H'', N y σ'' H'' → ∃ m', m' < m ∧ W (i + 1) m' (ys ++ [y]) σ'' H'') ∧ ∀ x H2, J.yld i H' x H2 → g x σ' H2 fun σ3 H3 => te σ3 H3 fun y H4 => N y σ3 H4)
def tComp (n : Nat) (js : List Nat) (wi : TI) (g : TG) (te : TE) : TE := fun σ H Q => wi σ H fun J H1 => CompR n js g te σ Q J H1

def CompFin (X : Cx) (pins : List (Addr × Obj)) (σ : St) (Q : VK) (D C : Addr) (s' : Shared) : Prop :=
  ∃ H2, Inv X pins σ H2 s' ∧ Q (.ref D) H2 ∧ H2 C = none ∧ C ≠ X.env.locals ∧ X.s₀.heap.objs.size ≤ C ∧ (∀ x c, X.env.cells.lookup x = some c → c ≠ C) ∧ (∀ p ∈ X.pn ++ pins, p.1 ≠ C) ∧ ∃ m, s'.heap.Ns C m

section
variable {X : Cx} {own fr : List Str} {js : List Nat} {scope : Scope} {cl : List (Str × Addr)} {elt target iter : Expr} {pos : Pos} {wi : TI} {g : TG} {te : TE}

theorem cells_in (O : CompOk X fr js scope cl) {x : Str} {c : Addr} (e : cl.lookup x = some c) : X.env.cells.lookup x = some c := O.clin (x, c) (PySem.mem_of_lookup e)

/-- the block's context is sound -/
theorem cxIn_ok {pins : List (Addr × Obj)} {σ : St} {H : Hp} {s : Shared} {fp : List Addr} {C : Addr} (O : CompOk X fr js scope cl) (I : Inv X pins σ H s) (hC : s.heap.objs.size ≤ C) (hf : ∀ b ∈ fp, FpOk X pins H b) (ho : ∀ b ∈ fp, b < s.heap.objs.size) :
    (cxIn X (own ++ fr) scope cl C s H fp).Ok := by
  refine ⟨I.ok.mod, O.kind, I.ok.glob, I.ok.blt, hC, fun x y c h1 h2 => I.ok.inj x y c (cells_in O h1) (cells_in O h2), fun x hx => ?_, fun x c h => (by cases h), I.ok.hd, I.ok.frames, .inl rfl, fun b hb => ?_, I.bs, ?_, fun b o e hb => ?_, fun b hb hb' => ?_, I.stack, I.stkFree⟩
  · have key : scope.names.lookup x = some .free := by
      have hx' : (scope.names.map fun (n, k) => if (k == NameKind.free && X.env.scope.kind == .function && X.env.kindOf n == some .cell) then (n, NameKind.cell) else (n, k)).lookup x = some .cell ∨
        (scope.names.map fun (n, k) => if (k == NameKind.free && X.env.scope.kind == .function && X.env.kindOf n == some .cell) then (n, NameKind.cell) else (n, k)).lookup x = some .free := hx
      rcases hx' with h | h
      · obtain ⟨k, e, z⟩ := relabel_inv h
        rcases z with z | ⟨z, _⟩
        · subst z; exact absurd rfl (O.cell _ (PySem.mem_of_lookup e))
        · subst z; exact e
      · obtain ⟨k, e, z⟩ := relabel_inv h
        rcases z with z | ⟨_, z⟩
        · subst z; exact e
        · cases z
    have hm := List.all_eq_true.mp O.has _ (PySem.mem_of_lookup key)
    have hs : (cl.lookup x).isSome = true := by simpa using hm
    exact Option.isSome_iff_exists.mp hs
  · obtain ⟨f0, f1, f2, f3, f4, f5⟩ := hf b hb
    exact ⟨Nat.ne_of_lt (Nat.lt_of_lt_of_le (ho b hb) hC), fun x c e => f4 x c (cells_in O e)⟩
  · exact Nat.le_trans I.ok.bsz I.sz
  · obtain ⟨f0, f1, f2, f3, f4, f5⟩ := hf b hb
    rcases f3 with z | z
    · exact I.ok.noex b o e z
    · exact absurd (Nat.lt_of_lt_of_le (Heap.lt_size e) (Nat.le_trans I.ok.bsz z)) (Nat.lt_irrefl _)
  · obtain ⟨f0, f1, f2, f3, f4, f5⟩ := hf b hb
    rcases List.mem_cons.mp (I.stkSub b hb') with z | z
    · exact f1 z
    · exact f2 z

theorem Paired.idx {α β : Type} {F : α → β → Prop} : ∀ {l₁ : List α} {l₂ : List β}, Paired F l₁ l₂ → ∀ (i : Nat) (a : α) (b : β), l₁[i]? = some a → l₂[i]? = some b → F a b
  | _, _, .nil, _, _, _, h, _ => by simp at h
  | _, _, .cons r _, 0, a, b, h1, h2 => by simp at h1 h2; subst h1; subst h2; exact r
  | _, _, .cons _ t, i + 1, a, b, h1, h2 => Paired.idx t i a b (by simpa using h1) (by simpa using h2)

/-- the block begins -/
theorem cxIn_inv {pins : List (Addr × Obj)} {σ : St} {H : Hp} {s s' : Shared} {fp : List Addr} {C : Addr} {m : Str → Option Value} (O : CompOk X fr js scope cl) (hl : fr.length = js.length) (I : Inv X pins σ H s) (hC : s.heap.objs.size ≤ C) (hf : ∀ b ∈ fp, FpOk X pins H b)
    (ho : ∀ b ∈ fp, b < s.heap.objs.size) (os : s'.os = s.os) (hg : s'.gens = s.gens) (old : ∀ b o, s.heap.get? b = some o → s'.heap.get? b = some o) (hn : s'.heap.Ns C m) :
    Inv (cxIn X (own ++ fr) scope cl C s H fp) [] (inSt own.length js σ) H s' := by
  refine ⟨cxIn_ok O I hC hf ho, os, by rw [hg]; exact I.bare, Un.kept old, ⟨m, hn, fun i x v e1 e2 e3 => ?_⟩, fun x c e => ?_, I.hok.fresh hC, fun x c e => I.freeC x c (cells_in O e), fun p hp => absurd (show p ∈ ([] : List (Addr × Obj)) from hp) (by simp), I.hok.kept old, ?_⟩
  · unfold inSt at e2
    have e1' : (own ++ fr)[i]? = some x := e1
    by_cases hi : i < own.length
    · rw [List.getElem?_append_left (by simpa using hi), List.getElem?_replicate] at e2
      split at e2 <;> cases e2
    · have hi' : own.length ≤ i := Nat.le_of_not_lt hi
      rw [List.getElem?_append_right (by simpa using hi'), List.length_replicate, List.getElem?_map] at e2
      rw [List.getElem?_append_right hi'] at e1'
      cases ej : js[i - own.length]? with
      | none => rw [ej] at e2; cases e2
      | some j =>
        rw [ej] at e2
        have e2' : (σ[j]?).join = some v := Option.some.inj e2
        have eσ : σ[j]? = some (some v) := by
          cases q : σ[j]? with
          | none => rw [q] at e2'; cases e2'
          | some o => rw [q] at e2'; simp at e2'; rw [e2']
        obtain ⟨hN, hk, hs⟩ := Paired.idx O.fre _ x j e1' ej
        obtain ⟨mo, hmo, hlo⟩ := I.loc
        have vis : Vis X.env.scope x := hk.elim (fun z => .inr (.inl z)) fun z => .inr (.inr z)
        obtain ⟨u, r, l⟩ := hlo j x v hN eσ vis
        refine ⟨u, r, .inr ⟨relabel_free hs, ?_⟩⟩
        have hm := List.all_eq_true.mp O.has _ (PySem.mem_of_lookup hs)
        have hs' : (cl.lookup x).isSome = true := by simpa using hm
        obtain ⟨c, ec⟩ := Option.isSome_iff_exists.mp hs'
        refine ⟨c, ec, ?_⟩
        rcases l with ⟨k, _⟩ | ⟨_, c', e', z⟩
        · have k' : X.env.scope.names.lookup x = some .local := k
          rcases hk with q | q <;> (rw [q] at k'; cases k')
        · have := cells_in O ec
          rw [e'] at this
          cases this
          obtain ⟨oc, hoc, hd⟩ := z
          exact ⟨oc, old _ _ hoc, hd⟩
  · obtain ⟨v, oc, hoc, hd⟩ := I.cell x c (cells_in O e)
    exact ⟨v, oc, old _ _ hoc, hd⟩
  · unfold inSt
    show _ = (own ++ fr).length
    rw [List.length_append, List.length_append, List.length_replicate, List.length_map, hl]

theorem Un.adopt {fs ex : List Addr} {H H1 : Hp} {h h1 : Heap} {a : Addr} {o : HO} (u : Un fs ex H H1 h h1) (ha : h.objs.size ≤ a) (hn : H a = none) : Un fs ex H (upd H1 a o) h h1 where
  keep := u.keep
  slot := u.slot
  free := fun b ob q n hx => by rw [upd_ne (Nat.ne_of_lt (Nat.lt_of_lt_of_le (Heap.lt_size q) ha))]; exact u.free b ob q n hx
  there := u.there
  tups := fun b xs q => by rw [upd_ne (ne_of_none q hn)]; exact u.tups b xs q
  frzs := fun b ob xs q => by rw [upd_ne (ne_of_none q hn)]; exact u.frzs b ob xs q
  tbls := fun b ps q => by rw [upd_ne (ne_of_none q hn)]; exact u.tbls b ps q
theorem HOk.adopt {P : Program} {w : World} {H : Hp} {h : Heap} {a : Addr} {o : HO} (x : HOk P w H h) (hn : H a = none) (new : ObjOk P w (upd H a o) h a o) : HOk P w (upd H a o) h := fun b u e => by
  by_cases hb : b = a
  · subst hb; rw [upd_same] at e; cases e; exact new
  · rw [upd_ne hb] at e
    exact (x b u e).stay (fun c v _ q => q) (fun c q => by rw [upd_ne (ne_of_none q hn)]; exact q) fun c xs q => by rw [upd_ne (ne_of_none q hn)]; exact q

theorem comp_core {pins : List (Addr × Obj)} {σ : St} {H : Hp} {s : Shared} {fp : List Addr} {it : Addr} {tn : Nat → Heap → Prop} {J : It} {E : Value → Shared → Prop} {Q : VK} {RR : Value → Addr → Result → Shared → Prop} (O : CompOk X fr js scope cl) (hl : fr.length = js.length) (hcm : X.calm = true)
    (I : Inv X pins σ H s) (T : Turn X.prog X.w X.K target J fp it tn) (st : tn 0 s.heap) (hf : ∀ b ∈ fp, FpOk X pins H b)
    (hg : ∀ C s₀ H₀ ex, PG (cxIn X (own ++ fr) scope cl C s₀ H₀ ex) target g) (he : ∀ C s₀ H₀ ex, PE (cxIn X (own ++ fr) scope cl C s₀ H₀ ex) elt te)
    (W : Nat → Nat → List V → St → Hp → Prop) {m0 : Nat} (w0 : W 0 m0 [] (inSt own.length js σ) H)
    (turn : ∀ i m ys σ' H', W i m ys σ' H' →
      (J.stop i H' ∧ ∀ p, H' p = none → Q (.ref p) (upd H' p (.lst ys))) ∨
      (J.go i H' ∧ ys.length < sizeLine ∧ ∃ N : V → St → Hp → Prop, (∀ y σ'' H'', N y σ'' H'' → ∃ m', m' < m ∧ W (i + 1) m' (ys ++ [y]) σ'' H'') ∧ ∀ x H2, J.yld i H' x H2 → g x σ' H2 fun σ3 H3 => te σ3 H3 fun y H4 => N y σ3 H4))
    (hRR : ∀ D C s', CompFin X pins σ Q D C s' → RR (.ref D) C (.ok .next) s') :
    wpAny (model X.prog X.w) X.A (newList []) (fun acc s₃ => wpAny (model X.prog X.w) X.A (newFunctionEnv scope X.env.globals cl [] X.env.qual none .none (some X.env)) (fun cenv s₄ =>
      codeAny (model X.prog X.w) X.A (.compStart (.ListComp elt [⟨target, iter, [], 0⟩] scope pos) 0 (.ref it) acc { cenv with scope := relabel scope X.env }) (RR acc cenv.locals) s₄) E s₃) E s := by
  refine wpAny_newObj_type (wpAny_newFunctionEnv O.cell (by intro y hy; simp at hy) (fun h₁ hns₁ hsb₁ => ?_) O.kind)
  dsimp only at hns₁ hsb₁ ⊢
  generalize hH2 : s.heap.push { cls := .type "list", dict := none, data := .seq ([] : List Value).toArray } = H2 at hns₁ hsb₁ ⊢
  have hCs : H2.objs.size = s.heap.objs.size + 1 := by rw [← hH2, Heap.size_push]
  have hDC : s.heap.objs.size ≠ H2.objs.size := by rw [hCs]; exact Nat.ne_of_lt (Nat.lt_succ_self _)
  have hCge : s.heap.objs.size ≤ H2.objs.size := by rw [hCs]; exact Nat.le_succ _
  have below : ∀ b, b < s.heap.objs.size → b ≠ H2.objs.size ∧ b ≠ s.heap.objs.size := fun b hb => ⟨by rw [hCs]; exact Nat.ne_of_lt (Nat.lt_succ_of_lt hb), Nat.ne_of_lt hb⟩
  have old : ∀ b o, s.heap.get? b = some o → h₁.get? b = some o := fun b o e => hsb₁.extBut b o (below b (Heap.lt_size e)).1 (Heap.get?_push_of_some _ (hH2 ▸ Heap.get?_push_of_some _ e))
  have hacc : h₁.get? s.heap.objs.size = some { cls := .type "list", data := .seq ([] : List Value).toArray 0 } := hsb₁.extBut _ _ hDC (Heap.get?_push_of_some _ (hH2 ▸ Heap.get?_push_size _ rfl))
  have ho : ∀ b ∈ fp, b < s.heap.objs.size := fun b hb => by obtain ⟨o, e, _⟩ := T.obj 0 _ st b hb; exact Heap.lt_size e
  generalize hDe : s.heap.objs.size = D at *
  generalize hCe : H2.objs.size = C at *
  let X' : Cx := cxIn X (own ++ fr) scope cl C s H fp
  have ok' : X'.Ok := cxIn_ok O I (by rw [hDe]; exact hCge) hf (by rw [hDe]; exact ho)
  have hDfs : D ∉ X'.fs := by
    intro z
    rcases List.mem_cons.mp (I.stkSub D z) with q | q
    · exact absurd I.lt (by rw [← q, hDe]; exact Nat.lt_irrefl _)
    · exact I.nofs (Nat.le_of_eq hDe) q
  have hDfp : ∀ b ∈ fp, D ≠ b := fun b hb z => absurd (ho b hb) (by rw [z]; exact Nat.lt_irrefl _)
  have hDcell : ∀ x c, cl.lookup x = some c → c ≠ D := fun x c e z => by
    obtain ⟨v, q⟩ := I.cell x c (cells_in O e)
    exact absurd q.lt (by rw [z, hDe]; exact Nat.lt_irrefl _)
  have fpok : ∀ {H' : Hp} {pins' : List (Addr × Obj)}, (∀ p ∈ pins', p.1 = D) → (∀ b ∈ fp, H' b = none) → ∀ b ∈ fp, FpOk X' pins' H' b := fun {H' pins'} hp hn b hb => by
    obtain ⟨f0, f1, f2, f3, f4, f5⟩ := hf b hb
    refine ⟨hn b hb, (below b (ho b hb)).1, fun z => ?_, .inl hb, fun x c e => f4 x c (cells_in O e), fun p hp' => ?_⟩
    · rcases List.mem_cons.mp (I.stkSub b z) with q | q
      · exact f1 q
      · exact f2 q
    · have hp'' : p ∈ pins' := by simpa [X', cxIn] using hp'
      rw [hp p hp'']; exact hDfp b hb
  have loop : ∀ s₃ : Shared, s₃ = { s with heap := h₁, toks := s.toks + ([] : List (Str × Value)).length } →
      codeAny (model X.prog X.w) X.A (.compLoop (.ListComp elt [⟨target, iter, [], 0⟩] scope pos) 0 (.ref it) (.ref D) (compEnvC scope cl C X.env)) (RR (.ref D) C) s₃ := by
    rintro s₃ rfl
    refine PySem.W.kcp_loop (fun k s' => ∃ i σ' H' ys its nn, Inv X' [] σ' H' s' ∧ tn i s'.heap ∧ (∀ b ∈ fp, H' b = none) ∧ H' D = none ∧ s'.heap.get? D = some { cls := .type "list", data := .seq (its : List Value).toArray nn } ∧ Vals ys its ∧ ys.length ≤ sizeLine ∧ W i k ys σ' H') ?_ m0
      ⟨0, _, H, [], [], 0, cxIn_inv O hl I (by rw [hDe]; exact hCge) hf (by rw [hDe]; exact ho) rfl rfl (by intro b o e; exact old b o e) hns₁, T.keep _ _ _ st fun b _ o e => old b o e, fun b hb => (hf b hb).1, I.hok.fresh (Nat.le_of_eq hDe), hacc, .nil, Nat.zero_le _, w0⟩
    rintro k s' ⟨i, σ', H', ys, its, nn, I', st', hfn, hDn, hDo, rv, hz, w⟩
    have hlen := rv.length
    have hpD : ∀ p ∈ [(D, ({ cls := .type "list", data := .seq its.toArray nn } : Obj))], p.1 = D := fun p hp => by rw [List.mem_singleton.mp hp]
    have Ip : Inv X' [(D, ({ cls := .type "list", data := .seq its.toArray nn } : Obj))] σ' H' s' := I'.pins_of fun p hp => by
      rw [List.mem_singleton.mp hp]
      exact ⟨hDo, hDn, hDC, hDfs, fun v z => by cases z⟩
    rcases turn i k ys σ' H' w with ⟨stop, fin⟩ | ⟨go, hlt, N, hN, step⟩
    · refine wpAny_mono (T.done X' rfl rfl rfl hcm i _ s' σ' H' (fun _ _ => False) Ip (fpok hpD hfn) st' stop) (fun r s4 ⟨hr, I4⟩ => ?_) fun _ _ z => False.elim z
      subst hr
      refine hRR D C s4 ?_
      have hD4 : s4.heap.get? D = some { cls := .type "list", data := .seq its.toArray nn } := (I4.pin _ (List.mem_append_right _ (List.mem_singleton.mpr rfl))).1
      have un : Un (frs X.stack) fp H (upd H' D (.lst ys)) s.heap s4.heap := Un.adopt I4.base (Nat.le_of_eq hDe) (I.hok.fresh (Nat.le_of_eq hDe))
      have hok : HOk X.prog X.w (upd H' D (.lst ys)) s4.heap := HOk.adopt I4.hok hDn ⟨hz, its, nn, rv, hD4⟩
      refine ⟨upd H' D (.lst ys), I.call' I4.os un hok I4.bare fun b hb => ?_, fin D hDn, ?_, ?_, ?_, fun x c e z => ?_, fun p hp z => ?_, ?_⟩
      · obtain ⟨f0, f1, f2, f3, f4, f5⟩ := hf b hb
        exact ⟨f3, f1, f4, f5⟩
      · rw [upd_ne (Ne.symm hDC)]
        exact I4.free
      · exact Nat.ne_of_gt (Nat.lt_of_lt_of_le I.lt (by rw [hDe]; exact hCge))
      · exact Nat.le_trans I.sz (by rw [hDe]; exact hCge)
      · obtain ⟨v, q⟩ := I.cell x c e
        exact absurd (Nat.lt_of_lt_of_le q.lt (by rw [hDe, z]; exact hCge)) (Nat.lt_irrefl _)
      · exact absurd (Nat.lt_of_lt_of_le (Heap.lt_size (I.pin p hp).1) (by rw [hDe, z]; exact hCge)) (Nat.lt_irrefl _)
      · obtain ⟨m', hn', _⟩ := I4.loc
        exact ⟨m', hn'⟩
    · refine wpAny_mono (T.item X' rfl rfl rfl hcm i _ s' σ' H' (fun _ _ => False) Ip (fpok hpD hfn) st' go) (fun r s4 ⟨u, hr, h4⟩ => ?_) fun _ _ z => False.elim z
      subst hr
      refine wpAny_mono h4 (fun _ s5 ⟨x, H5, I5, r5, y5, st5, fr5⟩ => ?_) fun _ _ z => False.elim z
      have I5' := I5.pinned (fpok hpD fr5) (T.obj _ _ st5)
      refine wpAny_mono (hg C s H fp _ s5 σ' H5 x u _ I5' r5 (step x H5 y5)) (fun _ s6 ⟨σ6, H6, I6, q6⟩ => ?_) fun _ _ z => False.elim z
      refine wpAny_mono (he C s H fp _ s6 σ6 H6 _ I6 q6) (fun v s7 ⟨y, H7, I7, r7, n7⟩ => ?_) fun _ _ z => False.elim z
      obtain ⟨m', hm', w7⟩ := hN y σ6 H7 n7
      have hD7 := I7.pin (D, { cls := .type "list", data := .seq its.toArray nn }) (List.mem_append_right _ (List.mem_append_left _ (List.mem_singleton.mpr rfl)))
      refine append_at hD7.1 (fun h8 sb hD8 => ?_) (by rw [List.size_toArray, ← hlen]; exact hz)
      have I7' : Inv X' [] σ6 H7 s7 := I7.pins_of fun p hp => absurd hp (by simp)
      have I8 : Inv X' [] σ6 H7 { s7 with heap := h8 } := I7'.turned (t' := s7.toks) (it := D) (fun b o hb e => (sb.2 b hb).trans e) hD7.2.1 hDC (.inr (Nat.le_of_eq hDe)) hDcell (fun p hp => absurd (show p ∈ ([] : List (Addr × Obj)) from hp) (by simp))
      refine ⟨m', hm', i + 1, σ6, H7, ys ++ [y], its ++ [v], nn + 1, I8, T.keep _ _ _ st5 fun b hb o e => ?_, fun b hb => ?_, hD7.2.1, ?_, rv.append (.cons r7 .nil), ?_, w7⟩
      · exact (sb.2 b (fun z => hDfp b hb z.symm)).trans (I7.pin (b, o) (List.mem_append_right _ (List.mem_append_right _ (mem_pinsAt hb e)))).1
      · obtain ⟨o, e, d⟩ := T.obj _ _ st5 b hb
        exact (I7.pin (b, o) (List.mem_append_right _ (List.mem_append_right _ (mem_pinsAt hb e)))).2.1
      · rw [hD8, List.push_toArray]
      · rw [List.length_append, List.length_singleton]; exact hlt
  exact codeAny_compStart_list (loop _ rfl) (T.self _ 0 _ _ _ (T.keep _ _ _ st fun b _ o e => old b o e) (loop _ rfl))

/-- [elt for target in iter] -/
theorem pe_comp (O : CompOk X fr js scope cl) (hcm : X.calm = true) (hi : PI X target iter wi) (hg : ∀ C s₀ H₀ ex, PG (cxIn X (own ++ fr) scope cl C s₀ H₀ ex) target g) (he : ∀ C s₀ H₀ ex, PE (cxIn X (own ++ fr) scope cl C s₀ H₀ ex) elt te)
    (hs : ∀ x, foldedSetIterable iter X.env x = pure x := by intro _; rfl) : PE X (.ListComp elt [⟨target, iter, [], 0⟩] scope pos) (tComp own.length js wi g te) := by
  intro pins s σ H Q I h
  rw [eval_ListComp]
  refine wpAny_comprehension_free (use := none) rfl hs O.clos O.kind O.names (thn (hi pins s σ H _ I h) fun x s1 h1 => thn h1 fun itv s2 h2 => ?_)
  obtain ⟨it, fp, tn, J, H2, rfl, I2, T, st, hf, W, ⟨m0, w0⟩, turn⟩ := h2
  refine comp_core (RR := fun acc C => compPost (model X.prog X.w) X.A X.xe none (EP X pins σ Q) acc C) O (Paired.length O.fre) hcm I2 T st hf hg he W w0 turn ?_
  rintro D C s' ⟨H3, I3, q, c1, c2, c3, c4, c5, m, hn⟩
  exact ⟨m, hn, fun h' sb => ⟨.ref D, H3, I3.turned (t' := s'.toks) (it := C) (fun b o hb e => (sb.2 b hb).trans e) c1 c2 (.inr c3) c4 c5, rfl, q⟩⟩

/-- name = [elt for target in iter] -/
theorem ps_setComp {i : Nat} {y : Str} {py spos : Pos} (hN : X.N.Nodup) (hy : X.N[i]? = some y) (hly : Loc X.env.scope y) (O : CompOk X fr js scope cl) (hcm : X.calm = true) (hi : PI X target iter wi) (hg : ∀ C s₀ H₀ ex, PG (cxIn X (own ++ fr) scope cl C s₀ H₀ ex) target g)
    (he : ∀ C s₀ H₀ ex, PE (cxIn X (own ++ fr) scope cl C s₀ H₀ ex) elt te) (hsw : swapsWith (.ListComp elt [⟨target, iter, [], 0⟩] scope pos) (some (.Name y py)) spos.line X.env = pure true)
    (hf : X.fn y = true ∨ X.env.scope.names.lookup y = some .local := by first | exact .inl rfl | exact .inr rfl | assumption) (hs : ∀ x, foldedSetIterable iter X.env x = pure x := by intro _; rfl) :
    PS X (.Assign [.Name y py] (.ListComp elt [⟨target, iter, [], 0⟩] scope pos) spos) (tAsg (tComp own.length js wi g te) (gName i)) := by
  intro pins s σ H D I h
  rw [exec_Assign_Name_used _ _ _ _ hsw]
  refine wpAny_bind (wpAny_standAt (wpAny_bind ?_))
  show wpAny _ X.A (do let _ ← comprehension (.ListComp elt [⟨target, iter, [], 0⟩] scope pos) scope X.env _ (newList []) false (eval iter X.env) (some (assign (.Name y py) X.env))) _ _ s
  refine wpAny_bind (wpAny_mono (wpAny_comprehension_free (use := some (assign (.Name y py) X.env)) (Q := fun _ s' => SP X pins D .next s') rfl hs O.clos O.kind O.names
    (thn (hi pins s σ H _ I h) fun x s1 h1 => thn h1 fun itv s2 h2 => ?_)) (fun _ s' hq => wpAny_pure (wpAny_pure hq)) fun _ _ e => e)
  obtain ⟨it, fp, tn, J, H2, rfl, I2, T, st, hfp, W, ⟨m0, w0⟩, turn⟩ := h2
  refine comp_core (Q := fun x H1 => gName i x σ H1 D.nx) (RR := fun acc C => compPost (model X.prog X.w) X.A X.xe (some (assign (.Name y py) X.env)) (fun _ s' => SP X pins D .next s') acc C) O (Paired.length O.fre) hcm I2 T st hfp hg he W w0 turn ?_
  rintro DD C s' ⟨H3, I3, q, c1, c2, c3, c4, c5, m, hn⟩
  show wpAny _ _ (assign (.Name y py) X.env (.ref DD)) _ _ s'
  refine wpAny_assign_Name (store_ok2 I3 hN hy hly (v := .ref DD) rfl (fun s4 I4 ⟨a, sb, ha⟩ => ?_) hf)
  have hCa : C ≠ a := by
    rcases ha with rfl | ha
    · exact c2
    · exact fun z => c4 y a ha z.symm
  refine ⟨m, hn.sameBut sb hCa, fun h' sb' => ⟨_, H3, I4.turned (t' := s4.toks) (it := C) (fun b o hb e => (sb'.2 b hb).trans e) c1 c2 (.inr c3) c4 c5, q⟩⟩
end
/-- over a list that the element leaves as it is -/
theorem comp_list {n : Nat} {js : List Nat} {K : PySem.W.Frag} {a : Addr} {xs : List V} {g : TG} {te : TE} {σ0 : St} {H : Hp} {Q : VK} (Pv : Nat → List V → St → Hp → Prop) (hz : xs.length ≤ sizeLine) (h0 : Pv 0 [] (inSt n js σ0) H) (hl : ∀ i ys σ H, i ≤ xs.length → Pv i ys σ H → SqL K H a xs ∧ ys.length ≤ i)
    (hs : ∀ i x ys σ H, xs[i]? = some x → Pv i ys σ H → g x σ H fun σ2 H2 => te σ2 H2 fun y H3 => Pv (i + 1) (ys ++ [y]) σ2 H3) (hd : ∀ ys σ H p, Pv xs.length ys σ H → H p = none → Q (.ref p) (upd H p (.lst ys))) :
    CompR n js g te σ0 Q (Itl K a) H := by
  refine ⟨fun i m ys σ H => m = xs.length - i ∧ i ≤ xs.length ∧ Pv i ys σ H, ⟨xs.length, by simp, Nat.zero_le _, h0⟩, ?_⟩
  rintro i m ys σ H ⟨rfl, hi, p⟩
  obtain ⟨q, hy⟩ := hl i ys σ H hi p
  by_cases hlt : i < xs.length
  · refine .inr ⟨⟨xs, xs[i], q, by simp [hlt]⟩, by omega, fun y σ'' H'' => Pv (i + 1) (ys ++ [y]) σ'' H'', fun y σ' H' p' => ⟨xs.length - (i + 1), by omega, rfl, hlt, p'⟩, fun x H' y => ?_⟩
    obtain ⟨e, y⟩ := y
    subst e
    exact hs i x ys σ _ (y xs q) p
  · have e : i = xs.length := by omega
    subst e
    exact .inl ⟨⟨xs, q, Nat.le_refl _⟩, fun r hr => hd ys σ H r p hr⟩
/-- over a range -/
theorem comp_range {k : Nat} {js : List Nat} {lo : Int} {n : Nat} {g : TG} {te : TE} {σ0 : St} {H : Hp} {Q : VK} (Pv : Nat → List V → St → Hp → Prop) (hz : n ≤ sizeLine) (h0 : Pv 0 [] (inSt k js σ0) H) (hl : ∀ i ys σ H, i ≤ n → Pv i ys σ H → ys.length ≤ i)
    (hs : ∀ i ys σ H, i < n → Pv i ys σ H → g (.int (lo + i)) σ H fun σ2 H2 => te σ2 H2 fun y H3 => Pv (i + 1) (ys ++ [y]) σ2 H3) (hd : ∀ ys σ H p, Pv n ys σ H → H p = none → Q (.ref p) (upd H p (.lst ys))) :
    CompR k js g te σ0 Q (Itr lo n) H := by
  refine ⟨fun i m ys σ H => m = n - i ∧ i ≤ n ∧ Pv i ys σ H, ⟨n, by simp, Nat.zero_le _, h0⟩, ?_⟩
  rintro i m ys σ H ⟨rfl, hi, p⟩
  have hy := hl i ys σ H hi p
  by_cases hlt : i < n
  · refine .inr ⟨hlt, by omega, fun y σ'' H'' => Pv (i + 1) (ys ++ [y]) σ'' H'', fun y σ' H' p' => ⟨n - (i + 1), by omega, rfl, hlt, p'⟩, fun x H' y => ?_⟩
    obtain ⟨e, y⟩ := y
    subst e y
    exact hs i ys σ _ hlt p
  · have e : i = n := by omega
    subst e
    exact .inl ⟨Nat.le_refl _, fun r hr => hd ys σ H r p hr⟩
end L2

/-! EXT 2: more rules of operations, and the readings by their heads -/
namespace L2
open PySem PySem.Spec PyProof.Rows

/-! ### numbers of many bits -/
def Bits (k : Nat) (i : Int) : Prop := i.natAbs < 2 ^ k
theorem Bits.mono {j k : Nat} {i : Int} (h : Bits j i) (hk : j ≤ k) : Bits k i := Nat.lt_of_lt_of_le h (Nat.pow_le_pow_right (by decide) hk)
theorem Bits.mul {j k : Nat} {a b : Int} (ha : Bits j a) (hb : Bits k b) : Bits (j + k) (a * b) := by
  unfold Bits at *
  rw [Int.natAbs_mul, Nat.pow_add]
  exact Nat.mul_lt_mul_of_lt_of_lt ha hb
theorem Bits.add {k : Nat} {a b : Int} (ha : Bits k a) (hb : Bits k b) : Bits (k + 1) (a + b) := by
  unfold Bits at *
  have := Int.natAbs_add_le a b
  rw [Nat.pow_succ]; omega
theorem Bits.neg {k : Nat} {a : Int} (ha : Bits k a) : Bits k (-a) := by unfold Bits at *; rwa [Int.natAbs_neg]
theorem Bits.sub {k : Nat} {a b : Int} (ha : Bits k a) (hb : Bits k b) : Bits (k + 1) (a - b) := by rw [Int.sub_eq_add_neg]; exact ha.add hb.neg
theorem Bits.of_le {k : Nat} {a b : Int} (hb : Bits k b) (h : a.natAbs ≤ b.natAbs) : Bits k a := Nat.lt_of_le_of_lt h hb
theorem Bits.zero {k : Nat} : Bits k 0 := Nat.pow_pos (by decide)
theorem Bits.log {k : Nat} {i : Int} (h : Bits k i) (hk : 0 < k) : i.natAbs.log2 < k := by
  by_cases h0 : i.natAbs = 0
  · rw [h0]; simpa using hk
  · exact (Nat.log2_lt h0).mpr h
theorem Bits.int {k : Nat} {i : Int} (h : Bits k i) (hk : k ≤ 1000000) : Builtin.Int.intBits i ≤ 2 ^ 20 := by
  have e : (2 : Nat) ^ 20 = 1048576 := by decide
  unfold Builtin.Int.intBits
  split
  · exact Nat.zero_le _
  · rename_i hn
    have h0 : i.natAbs ≠ 0 := by
      intro z
      have : i = 0 := Int.natAbs_eq_zero.mp z
      exact hn (by simp [this])
    have := (Nat.log2_lt h0).mpr h
    omega

section
variable {X : Cx} {a b : Expr} {ta tb : TE} {pos : Pos}
def CMulB (i j : Int) : Prop := Bits 1000000 i ∧ Bits 1000000 j
theorem op_mulB : OpR X (binaryOp .Mult) (rI CMulB fun i j => .int (i * j)) := opI fun _ _ _ _ _ _ _ hc q => mul_int q (.of_bits (hc.1.int (Nat.le_refl _)) (hc.2.int (Nat.le_refl _)))
/-- % by a number above 0 -/
theorem op_modP : OpR X (binaryOp .Mod) (rI (fun _ j => 0 < j) fun i j => .int (i % j)) := op_mod
/-- // by a number above 0 of at most 9000 bits -/
def CDivP (_ j : Int) : Prop := 0 < j ∧ Bits 9000 j
theorem op_fdivP : OpR X (binaryOp .FloorDiv) (rI CDivP fun i j => .int (i / j)) := opI fun i j _ _ _ _ _ hc q => by
  refine floordiv_int (Int.ne_of_gt hc.1) ?_ (.inl (PyProof.noPylong_of_log2 (hc.2.log (by decide))))
  rw [Int.fdiv_eq_ediv_of_nonneg _ (Int.le_of_lt hc.1)]
  exact q
/-- // by any number but 0 of at most 9000 bits -/
def CDivB (_ j : Int) : Prop := j ≠ 0 ∧ Bits 9000 j
theorem op_fdivB : OpR X (binaryOp .FloorDiv) (rI CDivB fun i j => .int (i.fdiv j)) := opI fun _ _ _ _ _ _ _ hc q => floordiv_int hc.1 q (.inl (PyProof.noPylong_of_log2 (hc.2.log (by decide))))
theorem op_eqI : OpR X (compareOp .Eq) (rI0 fun i j => .bl (decide (i = j))) := opB0 fun _ _ _ _ _ _ _ q => eq_int (by rw [Bool.beq_eq_decide_eq]; exact q)
theorem op_neI : OpR X (compareOp .NotEq) (rI0 fun i j => .bl (!decide (i = j))) := opB0 fun _ _ _ _ _ _ _ q => ne_int (by rw [bne, Bool.beq_eq_decide_eq]; exact q)

/-! ### two lists of ints -/
def rEqL (K : PySem.W.Frag) : R2 := fun x y H Q => ∃ (a b : Addr) (ns ms : List Int), x = .ref a ∧ y = .ref b ∧ SqL K H a (ns.map V.int) ∧ SqL K H b (ms.map V.int) ∧ Q (.bl (decide (ns = ms))) H
def rNeL (K : PySem.W.Frag) : R2 := fun x y H Q => ∃ (a b : Addr) (ns ms : List Int), x = .ref a ∧ y = .ref b ∧ SqL K H a (ns.map V.int) ∧ SqL K H b (ms.map V.int) ∧ Q (.bl (!decide (ns = ms))) H
theorem op_eqL (hu : X.A.units + 64 < cLine) : OpR X (compareOp .Eq) (rEqL X.K) := by
  intro pins s σ H x y v u Q I rx ry h
  obtain ⟨a, b, ns, ms, rfl, rfl, ha, hb, q⟩ := h
  cases rx; cases ry
  obtain ⟨i1, r1, p1, _⟩ := I.list ha
  obtain ⟨i2, r2, p2, _⟩ := I.list hb
  exact PySem.W.eq_intsK p1.isList (intsAre_of r1) p2.isList (intsAre_of r2) hu ⟨.bl _, H, I, rfl, q⟩
theorem op_neL (hu : X.A.units + 64 < cLine) : OpR X (compareOp .NotEq) (rNeL X.K) := by
  intro pins s σ H x y v u Q I rx ry h
  obtain ⟨a, b, ns, ms, rfl, rfl, ha, hb, q⟩ := h
  cases rx; cases ry
  obtain ⟨i1, r1, p1, _⟩ := I.list ha
  obtain ⟨i2, r2, p2, _⟩ := I.list hb
  exact PySem.W.ne_intsK p1.isList (intsAre_of r1) p2.isList (intsAre_of r2) hu ⟨.bl _, H, I, rfl, q⟩

/-! ### insert -/
/-! ### isinstance -/
def rIsI (K : PySem.W.Frag) : List V → Hp → VK → Prop := fun xs H Q => ∃ (x : V) (t c : Value) (n : V) (k : Bool), xs = [x, n] ∧ RelV n c ∧ (∀ u, RelV n u → u = c) ∧ TyOf K H x t ∧ PySem.W.kitOne K t c = some k ∧ Q (.bl k) H
theorem call_isinst : CallR X (.builtin "isinstance") (rIsI X.K) := by
  intro pins s σ H xs us Q I r h
  obtain ⟨x, t, c, n, k, rfl, rn, hn, ty, e, q⟩ := h
  obtain ⟨u1, u2, rfl, r1, r2⟩ := r.two
  obtain rfl := hn u2 r2
  exact isinst_ok I r1 ty e fun tk => ⟨.bl k, H, I.tok tk, rfl, q⟩
theorem isI_ty {K : PySem.W.Frag} {H : Hp} {Q : VK} {x : V} {n : String} {t : Value} {k : Bool} (ty : TyOf K H x t) (e : PySem.W.kitOne K t (.type n) = some k) (q : Q (.bl k) H) : rIsI K [x, .ty n] H Q :=
  ⟨x, t, .type n, .ty n, k, rfl, rfl, fun _ h => h, ty, e, q⟩
theorem isI_ref {K : PySem.W.Frag} {H : Hp} {Q : VK} {x : V} {C : Addr} {t : Value} {k : Bool} (ty : TyOf K H x t) (e : PySem.W.kitOne K t (.ref C) = some k) (q : Q (.bl k) H) : rIsI K [x, .ref C] H Q :=
  ⟨x, t, .ref C, .ref C, k, rfl, rfl, fun _ h => h, ty, e, q⟩
end

/-! ### the readings, by their heads -/
section
variable {D : Ends} {σ : St} {H : Hp} {Q : VK} {t u : TS} {te ta tb : TE} {c : TT} {i : Nat} {v : V} {r : R2}
theorem rd_seq (h : t { D with nx := u D } σ H) : tSeq t u D σ H := h
/-- state and heap anew, by what is known of them -/
theorem rd_gen (P : St → Hp → Prop) (h : P σ H) (h1 : ∀ σ' H', P σ' H' → u D σ' H') : u D σ H := h1 σ H h
theorem rd_sa (h : te σ H fun x H1 => u D (σ.set i (some x)) H1) : tSeq (tAsg te (gName i)) u D σ H := h
theorem rd_sd (h : te σ H fun _ H1 => u D σ H1) : tSeq (tDrop te) u D σ H := h
/-- an if that only returns -/
theorem rd_sr {t1 : TS} (h : c σ H fun b H1 => if b = true then t1 { D with nx := u D } σ H1 else u D σ H1) : tSeq (tIfS c t1 tNext) u D σ H := h
theorem rd_isI {K : PySem.W.Frag} {n : V} (h : ta σ H fun x H1 => rIsI K [x, n] H1 Q) : tCB (rIsI K) (tCons ta (tCons (tC n) tNil)) σ H Q := h
/-- the rest behind an if first -/
theorem rd_cutIf {t1 t2 : TS} (P : St → Hp → Prop) (h1 : ∀ σ' H', P σ' H' → u D σ' H') (h2 : (∀ σ' H', P σ' H' → u D σ' H') → c σ H fun b H1 => if b = true then t1 { D with nx := u D } σ H1 else t2 { D with nx := u D } σ H1) : tSeq (tIfS c t1 t2) u D σ H := h2 h1
theorem rd_asg (h : te σ H fun x H1 => D.nx (σ.set i (some x)) H1) : tAsg te (gName i) D σ H := h
theorem rd_ret (h : te σ H D.rt) : tRet te D σ H := h
theorem rd_drop (h : te σ H fun _ H1 => D.nx σ H1) : tDrop te D σ H := h
theorem rd_if (h : c σ H fun b H1 => if b = true then t D σ H1 else u D σ H1) : tIfS c t u D σ H := h
theorem rd_B {K : Bool → Hp → Prop} (h : te σ H fun x H' => ∃ k, x = .bl k ∧ K k H') : tB te σ H K := h
theorem rd_not {K : Bool → Hp → Prop} {tt : TT} (h : tt σ H fun k H1 => K (!k) H1) : tNot tt σ H K := h
theorem rd_and {K : Bool → Hp → Prop} {t1 t2 : TT} (h : t1 σ H fun k H1 => if k = true then t2 σ H1 K else K false H1) : tAnd t1 t2 σ H K := h
theorem rd_or {K : Bool → Hp → Prop} {t1 t2 : TT} (h : t1 σ H fun k H1 => if k = true then K true H1 else t2 σ H1 K) : tOr t1 t2 σ H K := h
theorem rd_andV (h : ta σ H fun x H1 => ∃ k, x = .bl k ∧ if k = true then tb σ H1 Q else Q (.bl false) H1) : tAndV ta tb σ H Q := h
theorem rd_notV (h : ta σ H fun x H1 => ∃ k, x = .bl k ∧ Q (.bl (!k)) H1) : tNotV ta σ H Q := h
theorem rd_eqT {a b : Int} (e : a = b) (h : Q (.bl true) H) : Q (.bl (decide (a = b))) H := by rw [decide_eq_true e]; exact h
theorem rd_true {A B : Prop} (h : A) : if true = true then A else B := by rw [if_pos rfl]; exact h
theorem rd_false {A B : Prop} (h : B) : if false = true then A else B := by rw [if_neg Bool.false_ne_true]; exact h
theorem rd_dec {p A B : Prop} [Decidable p] (h1 : p → A) (h2 : ¬ p → B) : if decide p = true then A else B := by
  by_cases hp : p
  · rw [if_pos (decide_eq_true hp)]; exact h1 hp
  · rw [if_neg (by rw [decide_eq_false hp]; exact Bool.false_ne_true)]; exact h2 hp
theorem rd_ndec {p A B : Prop} [Decidable p] (h1 : ¬ p → A) (h2 : p → B) : if (!decide p) = true then A else B := by
  by_cases hp : p
  · rw [if_neg (by rw [decide_eq_true hp]; exact Bool.false_ne_true)]; exact h2 hp
  · rw [if_pos (by rw [decide_eq_false hp]; rfl)]; exact h1 hp
end

/-- what a def of the text is, for its callers -/
structure Cal (P : Program) (w : World) (K : PySem.W.Frag) (mg : Str → Option Value) (base : Heap) (k : Nat) (x : Str) (ps : List Str) (sp : Sp) (f : Addr) (fd : FuncData) : Prop where
  ok : FnOk P w K mg base CX0 k f fd ps sp
  mg : mg x = some (.ref f)
  kp : PySem.W.keepIn K (.ref f) = true
  bd : Binds K fd ps []

/-- a new object leaves what is there -/
theorem Same.upd_new {H : Hp} {p : Addr} {o : HO} (h : H p = none) : Same H (upd H p o) := fun b u e => by rw [upd_ne (ne_of_none e h)]; exact e
theorem Same.then_new {H H1 : Hp} {p : Addr} {o : HO} (s : Same H H1) (h : H1 p = none) : Same H (upd H1 p o) := s.trans (Same.upd_new h)
theorem Same.ne {H H1 : Hp} {a p : Addr} {o : HO} (s : Same H H1) (e : H a = some o) (h : H1 p = none) : a ≠ p := ne_of_none (s a o e) h
end L2
/-! ### the same rules with the fragment as a letter (for a comprehension's block) -/
namespace L2
open PySem PySem.Spec PyProof.Rows
section
variable {X : Cx} {K : PySem.W.Frag}
theorem ix_listK (h : X.K = K) : IxR X (rIxL K) := by subst h; exact ix_list
theorem ix_tupK (h : X.K = K) : IxR X (rIxT K) := by subst h; exact ix_tup
theorem sl_listK (h : X.K = K) : SlR X (rSlL K) := by subst h; exact sl_list
def rLenL (K : PySem.W.Frag) : List V → Hp → VK → Prop := fun xs H Q => ∃ p ys, xs = [.ref p] ∧ (SqL K H p ys ∨ SqT K H p ys) ∧ Q (.int ys.length) H
theorem call_lenK (h : X.K = K) : CallR X (.builtin "len") (rLenL K) := by subst h; exact call_len_seq
def rListOf (K : PySem.W.Frag) : List V → Hp → VK → Prop := fun xs H Q => ∃ p ys, xs = [.ref p] ∧ (SqL K H p ys ∨ SqT K H p ys) ∧ ∀ l, H l = none → Q (.ref l) (upd H l (.lst ys))
theorem call_listK (h : X.K = K) : CallR X (.type "list") (rListOf K) := by subst h; exact call_list_of
theorem op_eqLK (h : X.K = K) (hu : X.A.units + 64 < cLine) : OpR X (compareOp .Eq) (rEqL K) := by subst h; exact op_eqL hu
theorem op_neLK (h : X.K = K) (hu : X.A.units + 64 < cLine) : OpR X (compareOp .NotEq) (rNeL K) := by subst h; exact op_neL hu
theorem call_isinstK (h : X.K = K) : CallR X (.builtin "isinstance") (rIsI K) := by subst h; exact call_isinst
theorem pi_listK {tg l : Expr} {tl : TE} (h : X.K = K) (hl : PE X l tl) : PI X tg l (iList K tl) := by subst h; exact pi_list hl
theorem pe_fldK {e : Expr} {ta : TE} {f : Str} {pos : Pos} (h : X.K = K) (he : PE X e ta) (hb : attributeBase e f X.env (eval e X.env) = eval e X.env) : PE X (.Attribute e f pos) (tFld K ta f) := by subst h; exact pe_fld he hb
end
end L2

/-! EXT 3: enumerate(list), reversed(list), range with a step -/
namespace L2
open PySem PySem.Spec PyProof.Rows

/-- i, the i-th item, as a new pair, of the list at a -/
def Ite (K : PySem.W.Frag) (a : Addr) : It :=
  ⟨fun i H => ∃ xs x, SqL K H a xs ∧ xs[i]? = some x, fun i H x H' => ∃ v p, x = .ref p ∧ H p = none ∧ H' = upd H p (.tup [.int i, v]) ∧ ∀ xs, SqL K H a xs → xs[i]? = some v, fun i H => ∃ xs, SqL K H a xs ∧ xs.length ≤ i⟩
theorem turn_enum {P : Program} {w : World} {K : PySem.W.Frag} {es : List Expr} {x1 : Nat} {tp : Pos} (a e it : Addr) (hne : e ≠ it) : Turn P w K (.Tuple es x1 tp) (Ite K a) [e, it] e (fun i h => (∃ old, IsEnum h e it (i : Int) old) ∧ h.IsListIter it a i) where
  mem := by simp
  obj := fun i h st b hb => by
    obtain ⟨⟨old, he⟩, hi⟩ := st
    rcases List.mem_cons.mp hb with rfl | hb
    · exact ⟨_, he, fun v z => by cases z⟩
    · have q : b = it := by simpa using hb
      subst q
      obtain ⟨o, e, c, d⟩ := hi
      exact ⟨o, e, fun v z => by rw [d] at z; cases z⟩
  keep := fun i h h' st k => by
    obtain ⟨⟨old, he⟩, hi⟩ := st
    exact ⟨⟨old, k e (by simp) _ he⟩, hi.at fun o q => k it (by simp) o q⟩
  item := by
    intro X hP hw hK hc i pins s σ H E I hf st hg
    subst hP hw hK
    obtain ⟨⟨old, he⟩, hi⟩ := st
    obtain ⟨xs, x, hq, hx⟩ := hg
    obtain ⟨its, rv, p, hz⟩ := I.list hq
    obtain ⟨u, hu, ru⟩ := rv.get hx
    refine wpAny_pyNext_enum_item he hi p.isList (x := u) (by simpa using hu) hne fun h' out hit' htup hsz kk => ?_
    have hfp : H s.heap.objs.size = none := I.hok.fresh (Nat.le_refl _)
    have nfp : ∀ b o, H b = some o → b ≠ e ∧ b ≠ it := fun b o q => ⟨fun z => (by rw [z, (hf e (by simp)).1] at q; cases q), fun z => (by rw [z, (hf it (by simp)).1] at q; cases q)⟩
    have I1 : Inv X pins σ (upd H s.heap.objs.size (.tup [.int i, x])) { s with heap := h', toks := s.toks + 1 } := by
      refine I.step (g' := s.gens) (d' := s.drawn) (ch := [e, it]) (fun b hb => ?_) (fun b o _ _ hc q _ => kk b o (fun z => hc (by simp [z])) (fun z => hc (by simp [z])) q)
        (fun b o _ _ hc q _ => ⟨o.slots, kk b o (fun z => hc (by simp [z])) (fun z => hc (by simp [z])) q⟩) (fun b o _ q n => by rw [upd_ne (Nat.ne_of_lt (Heap.lt_size q))]; exact n)
        (fun b o hc q => ⟨o, kk b o (fun z => hc (by simp [z])) (fun z => hc (by simp [z])) q⟩) (fun b ys q => by rw [upd_ne (ne_of_none q hfp)]; exact q) (fun b o ys q => by rw [upd_ne (ne_of_none q hfp)]; exact q)
        (fun b ps q => ⟨#[], by rw [upd_ne (ne_of_none q hfp), q]; simp⟩) (fun m hm => ?_) (fun b o q => ?_) I.bare
      · obtain ⟨f0, f1, f2, f3, f4, f5⟩ := hf b hb
        exact ⟨f3, f1, f4, f5⟩
      · obtain ⟨o, es', ep', ho, r⟩ := hm
        exact ⟨o, es', ep', kk _ o (Ne.symm (hf e (by simp)).2.1) (Ne.symm (hf it (by simp)).2.1) ho, r⟩
      · by_cases hb : b = s.heap.objs.size
        · subst hb
          rw [upd_same] at q
          cases q
          exact ⟨by show 2 ≤ sizeLine; decide, [.int i s.toks, u], .cons ⟨_, rfl⟩ (.cons ru .nil), ⟨_, htup, rfl, _, rfl⟩⟩
        · rw [upd_ne hb] at q
          refine (I.hok b o q).stay (fun c v hc z => ?_) (fun c z => by rw [upd_ne (ne_of_none z hfp)]; exact z) fun c ys z => by rw [upd_ne (ne_of_none z hfp)]; exact z
          rcases hc with rfl | hc
          · exact kk c v (nfp c o q).1 (nfp c o q).2 z
          · exact kk c v (nfp c _ hc).1 (nfp c _ hc).2 z
    refine ⟨_, rfl, wpAny_letOwnedTupleGo_enum out fun h'' he'' sb => ?_⟩
    obtain ⟨f0, f1, f2, f3, f4, f5⟩ := hf e (by simp)
    have hen : upd H s.heap.objs.size (.tup [.int i, x]) e = none := by
      rw [upd_ne (Nat.ne_of_lt (Heap.lt_size he))]; exact f0
    have I2 := I1.turned (h' := h'') (t' := s.toks + 1) (it := e) (fun b o hb q => (sb.2 b hb).trans q) hen f1 f3 f4 f5
    refine ⟨.ref s.heap.objs.size, _, I2, rfl, ⟨x, _, rfl, hfp, rfl, fun ys hy => by rw [I.list_inj hy hq]; exact hx⟩, ⟨⟨u, ?_⟩, hit'.at fun o q => (sb.2 it (Ne.symm hne)).trans q⟩, fun b hb => ?_⟩
    · have : ((i + 1 : Nat) : Int) = (i : Int) + 1 := by omega
      rw [this]; exact he''
    · have hlt : b < s.heap.objs.size := by
        rcases List.mem_cons.mp hb with rfl | hb
        · exact Heap.lt_size he
        · have q : b = it := by simpa using hb
          subst q
          obtain ⟨o, e1, _⟩ := hi
          exact Heap.lt_size e1
      rw [upd_ne (Nat.ne_of_lt hlt)]
      exact (hf b hb).1
  done := by
    intro X hP hw hK hc i pins s σ H E I hf st hg
    subst hP hw hK
    obtain ⟨⟨old, he⟩, hi⟩ := st
    obtain ⟨xs, hq, hx⟩ := hg
    obtain ⟨its, rv, p, hz⟩ := I.list hq
    obtain ⟨f0, f1, f2, f3, f4, f5⟩ := hf it (by simp)
    have hl := rv.length
    exact wpAny_pyNext_enum_end (I.ok.hd hc) he hi p.isList (by simp; omega) fun h' eb => ⟨rfl, I.turned (t' := s.toks) (fun b o hb e => eb b o hb e) f0 f1 f3 f4 f5⟩
  self := fun _ _ _ _ _ st h => by
    obtain ⟨⟨old, he⟩, hi⟩ := st
    exact wpAny_pyIter_enum he h
section
variable {X : Cx}
def iEnum (K : PySem.W.Frag) (ta : TA) : TI := fun σ H R => ta σ H fun vs H1 => ∃ a, vs = [.ref a] ∧ (∃ xs, SqL K H1 a xs) ∧ R (Ite K a) H1
theorem pi_enum {es : List Expr} {x1 : Nat} {tp : Pos} {a : Expr} {ta : TA} {p pos : Pos} (hg : Gl X "enumerate") (hm : X.mg "enumerate" = none) (ha : PA X [a] ta) (hs : starEach [a] X.env = [(false, eval a X.env)] := by rfl) : PI X (.Tuple es x1 tp) (.Call (.Name "enumerate" p) [a] [] pos) (iEnum X.K ta) := by
  intro pins s σ H R I h
  refine Call_ (ld_blt I hg hm boot_enumerate (PyProof.Rows.callWith_type1 (thn (ha pos pins s σ H _ I h) fun us s1 ⟨vs, H1, I1, r1, q1⟩ => ?_) hs rfl))
  obtain ⟨a', e, ⟨xs, hq⟩, q⟩ := q1
  subst e
  obtain ⟨u, rfl, ru⟩ := r1.one
  cases ru
  obtain ⟨its, rv, pl, hz⟩ := I1.list hq
  refine call_enumerate_list pl.isList fun h' he hit hsz hk => ?_
  have I2 : Inv X pins σ H1 { s1 with heap := h' } := I1.kept (t' := s1.toks) hk
  refine wpAny_pyIter_enum he ?_
  refine ⟨s1.heap.objs.size + 1, [s1.heap.objs.size + 1, s1.heap.objs.size], _, _, H1, rfl, I2, turn_enum a' _ _ (Nat.succ_ne_self _), ⟨⟨_, he⟩, hit⟩, fun b hb => ?_, q⟩
  have hb' : s1.heap.objs.size ≤ b := by
    rcases List.mem_cons.mp hb with rfl | hb
    · exact Nat.le_succ _
    · have q : b = s1.heap.objs.size := by simpa using hb
      subst q; exact Nat.le_refl _
  exact I1.fpOk hb' (I1.hok.fresh hb')
end
/-- over enumerate of a list that the body leaves as it is; the pairs lie about -/
theorem for_enum {K : PySem.W.Frag} {a : Addr} {xs : List V} {g : TG} {tb : TS} {D : Ends} {σ : St} {H : Hp} (Pv : Nat → St → Hp → Prop) (h0 : Pv 0 σ H) (hl : ∀ i σ H, i ≤ xs.length → Pv i σ H → SqL K H a xs)
    (hs : ∀ i x σ H p, xs[i]? = some x → Pv i σ H → H p = none → g (.ref p) σ (upd H p (.tup [.int i, x])) fun σ2 H2 => tb { D with nx := Pv (i + 1), ct := Pv (i + 1), bk := D.nx } σ2 H2) (hd : ∀ σ H, Pv xs.length σ H → D.nx σ H) :
    ∃ W : Nat → Nat → St → Hp → Prop, (∃ m, W 0 m σ H) ∧ ∀ i m σ H, W i m σ H →
      ((Ite K a).stop i H ∧ D.nx σ H) ∨ ((Ite K a).go i H ∧ ∃ N : St → Hp → Prop, (∀ σ' H', N σ' H' → ∃ m', m' < m ∧ W (i + 1) m' σ' H') ∧ ∀ x H', (Ite K a).yld i H x H' → g x σ H' fun σ2 H2 => tb { D with nx := N, ct := N, bk := D.nx } σ2 H2) := by
  refine ⟨fun i m σ H => m = xs.length - i ∧ i ≤ xs.length ∧ Pv i σ H, ⟨xs.length, by simp, Nat.zero_le _, h0⟩, ?_⟩
  rintro i m σ H ⟨rfl, hi, p⟩
  have q := hl i σ H hi p
  by_cases hlt : i < xs.length
  · refine .inr ⟨⟨xs, xs[i], q, by simp [hlt]⟩, Pv (i + 1), fun σ' H' p' => ⟨xs.length - (i + 1), by omega, rfl, hlt, p'⟩, fun x H' y => ?_⟩
    obtain ⟨v, r, rfl, hr, rfl, y⟩ := y
    exact hs i v σ _ r (y xs q) p hr
  · have e : i = xs.length := by omega
    subst e
    exact .inl ⟨⟨xs, q, Nat.le_refl _⟩, hd σ H p⟩
/-- the list at a from its end, as it stood (n items) -/
def Itv (K : PySem.W.Frag) (a : Addr) (xs : List V) : It :=
  ⟨fun i H => SqL K H a xs ∧ i < xs.length, fun i H x H' => H' = H ∧ xs[xs.length - 1 - i]? = some x, fun i H => xs.length ≤ i⟩
theorem turn_rev {P : Program} {w : World} {K : PySem.W.Frag} {tg : Expr} (a it : Addr) (xs : List V) : Turn P w K tg (Itv K a xs) [it] it (fun i h => i ≤ xs.length ∧ h.IsRevIter it a ((xs.length : Int) - 1 - i)) where
  mem := by simp
  obj := fun i h st b hb => by
    have e : b = it := by simpa using hb
    subst e
    obtain ⟨_, o, e, c, d⟩ := st
    exact ⟨o, e, fun v z => by rw [d] at z; cases z⟩
  keep := fun i h h' st k => ⟨st.1, st.2.at fun o e => k it (by simp) o e⟩
  item := by
    intro X hP hw hK hc i pins s σ H E I hf st hg
    subst hP hw hK
    obtain ⟨hq, hlt⟩ := hg
    obtain ⟨its, rv, p, hz⟩ := I.list hq
    have hl := rv.length
    obtain ⟨x, hx⟩ : ∃ x, xs[xs.length - 1 - i]? = some x := ⟨_, List.getElem?_eq_getElem (by omega)⟩
    obtain ⟨u, hu, ru⟩ := rv.get hx
    obtain ⟨f0, f1, f2, f3, f4, f5⟩ := hf it (by simp)
    have e1 : (xs.length : Int) - 1 - i = ((xs.length - 1 - i : Nat) : Int) := by omega
    have hit := st.2
    rw [e1] at hit
    refine wpAny_pyNext_rev_item hit p.isList (x := u) (by simpa using hu) fun h' st' sb => ?_
    have I1 : Inv X pins σ H { s with heap := h' } := I.turned (t' := s.toks) (fun b o hb e => (sb.2 b hb).trans e) f0 f1 f3 f4 f5
    obtain ⟨o, e, c, d⟩ := id st'
    refine ⟨u, rfl, go_of (s := { s with heap := h' }) e c d (by decide) ⟨x, H, I1, ru, ⟨rfl, hx⟩, ⟨hlt, ?_⟩, fun b hb => (hf b hb).1⟩⟩
    have e2 : (xs.length : Int) - 1 - ((i + 1 : Nat) : Int) = ((xs.length - 1 - i : Nat) : Int) - 1 := by omega
    rw [e2]; exact st'
  done := by
    intro X hP hw hK hc i pins s σ H E I hf st hg
    subst hP hw hK
    obtain ⟨f0, f1, f2, f3, f4, f5⟩ := hf it (by simp)
    have hle : xs.length ≤ i := hg
    have e1 : (xs.length : Int) - 1 - i = -1 := by have := st.1; omega
    have hit := st.2
    rw [e1] at hit
    exact wpAny_pyNext_rev_end (I.ok.hd hc) hit fun h' eb => ⟨rfl, I.turned (t' := s.toks) (fun b o hb e => eb b o hb e) f0 f1 f3 f4 f5⟩
  self := fun _ _ _ _ _ st h => wpAny_pyIter_revIter st.2 h
section
variable {X : Cx} {tg : Expr}
def iRev (K : PySem.W.Frag) (ta : TA) : TI := fun σ H R => ta σ H fun vs H1 => ∃ a xs, vs = [.ref a] ∧ SqL K H1 a xs ∧ R (Itv K a xs) H1
theorem pi_rev {a : Expr} {ta : TA} {p pos : Pos} (hg : Gl X "reversed") (hm : X.mg "reversed" = none) (ha : PA X [a] ta) (hs : starEach [a] X.env = [(false, eval a X.env)] := by rfl) : PI X tg (.Call (.Name "reversed" p) [a] [] pos) (iRev X.K ta) := by
  intro pins s σ H R I h
  refine Call_ (ld_blt I hg hm boot_reversed (PyProof.Rows.callWith_type1 (thn (ha pos pins s σ H _ I h) fun us s1 ⟨vs, H1, I1, r1, q1⟩ => ?_) hs rfl))
  obtain ⟨a', xs, e, hq, q⟩ := q1
  subst e
  obtain ⟨u, rfl, ru⟩ := r1.one
  cases ru
  obtain ⟨its, rv, pl, hz⟩ := I1.list hq
  have hl := rv.length
  refine call_reversed_list pl.isList ?_
  have hit : (s1.heap.push (revObj a' ((its.toArray.size : Int) - 1))).IsRevIter s1.heap.objs.size a' ((xs.length : Int) - 1 - ((0 : Nat) : Int)) := by
    have e1 : (xs.length : Int) - 1 - ((0 : Nat) : Int) = (its.toArray.size : Int) - 1 := by rw [List.size_toArray]; omega
    rw [e1]
    exact ⟨_, Heap.get?_push_size _ rfl, rfl, rfl⟩
  have I2 : Inv X pins σ H1 { s1 with heap := s1.heap.push (revObj a' ((its.toArray.size : Int) - 1)) } := I1.kept (t' := s1.toks) fun b o e => Heap.get?_push_of_some _ e
  refine wpAny_pyIter_revIter (s := { s1 with heap := s1.heap.push (revObj a' ((its.toArray.size : Int) - 1)) }) hit ?_
  refine ⟨s1.heap.objs.size, [s1.heap.objs.size], _, _, H1, rfl, I2, turn_rev a' _ xs, ⟨Nat.zero_le _, hit⟩, fun b hb => ?_, q⟩
  have e : b = s1.heap.objs.size := by simpa using hb
  subst e
  exact I1.fpOk (Nat.le_refl _) (I1.hok.fresh (Nat.le_refl _))
end
theorem for_rev {K : PySem.W.Frag} {a : Addr} {xs : List V} {g : TG} {tb : TS} {D : Ends} {σ : St} {H : Hp} (Pv : Nat → St → Hp → Prop) (h0 : Pv 0 σ H) (hl : ∀ i σ H, i ≤ xs.length → Pv i σ H → SqL K H a xs)
    (hs : ∀ i x σ H, i < xs.length → xs[xs.length - 1 - i]? = some x → Pv i σ H → g x σ H fun σ2 H2 => tb { D with nx := Pv (i + 1), ct := Pv (i + 1), bk := D.nx } σ2 H2) (hd : ∀ σ H, Pv xs.length σ H → D.nx σ H) :
    ∃ W : Nat → Nat → St → Hp → Prop, (∃ m, W 0 m σ H) ∧ ∀ i m σ H, W i m σ H →
      ((Itv K a xs).stop i H ∧ D.nx σ H) ∨ ((Itv K a xs).go i H ∧ ∃ N : St → Hp → Prop, (∀ σ' H', N σ' H' → ∃ m', m' < m ∧ W (i + 1) m' σ' H') ∧ ∀ x H', (Itv K a xs).yld i H x H' → g x σ H' fun σ2 H2 => tb { D with nx := N, ct := N, bk := D.nx } σ2 H2) := by
  refine ⟨fun i m σ H => m = xs.length - i ∧ i ≤ xs.length ∧ Pv i σ H, ⟨xs.length, by simp, Nat.zero_le _, h0⟩, ?_⟩
  rintro i m σ H ⟨rfl, hi, p⟩
  by_cases hlt : i < xs.length
  · refine .inr ⟨⟨hl i σ H hi p, hlt⟩, Pv (i + 1), fun σ' H' p' => ⟨xs.length - (i + 1), by omega, rfl, hlt, p'⟩, fun x H' y => ?_⟩
    obtain ⟨e, y⟩ := y
    subst e
    exact hs i x σ _ hlt y p
  · have e : i = xs.length := by omega
    subst e
    exact .inl ⟨Nat.le_refl _, hd σ H p⟩
end L2

/-! EXT 4: defs with defaults, methods and classes for their callers -/
namespace L2
open PySem PySem.Spec PyProof.Rows
/-- a def whose defaults lie at dV -/
structure FunD (K : PySem.W.Frag) (x qual : Str) (st : Stmt) (dV : Value) (f : Addr) (fd : FuncData) : Prop where
  ex : ∃ (oc : Value) (od : Option Addr) (kV doc pm : Value) (an : Option Addr) (cdv ct : Value) (osl : Array (Option Value)),
    fd = PySem.W.fnOf x qual (defArgs st) (defBody st) (defScope st) dV kV doc pm an cdv ct ∧ K.lookup f = some ⟨oc, od, .func fd, osl⟩ ∧ PySem.W.codeIn K cdv qual = true
  kp : PySem.W.keepIn K (.ref f) = true
section
variable {P : Program} {w : World} {K : PySem.W.Frag} {mg : Str → Option Value} {base : Heap}
theorem FunD.ok {x qual : Str} {st : Stmt} {dV : Value} {f : Addr} {fd : FuncData} {N ps : List Str} {k : Nat} {sp : Sp} (F : FunD K x qual st dV f fd) (S : FnScope N ps (defScope st)) (len : ∀ vs H Q E, sp vs H Q E → vs.length = ps.length)
    (hbody : ∀ (cdv : Value) (A : Around) (outer : List Env) (s : Shared) (H : Hp) (vs : List V) (Q : VK) (E : XK), Room k (A.deeper (envOfC qual (defScope st) s.heap.objs.size f cdv)) → sp vs H Q E →
      ∃ t, PSs (cxOf CX0 P w K mg base N qual (defScope st) f cdv A outer s H E).nox (defBody st) t ∧ t { nx := fun _ H' => Q .non H', rt := Q } (start N vs) H) : FnOk P w K mg base CX0 (k + 1) f fd ps sp := by
  obtain ⟨oc, od, kV, doc, pm, an, cdv, ct, osl, rfl, lk, hcd⟩ := F.ex
  refine fn_of lk hcd S len fun A outer s H vs Q E hr hsp => ?_
  obtain ⟨t, h, q⟩ := hbody cdv A outer s H vs Q E hr hsp
  exact ⟨t, h.nox, q⟩
theorem FunD.binds {x qual : Str} {st : Stmt} {dV : Value} {f : Addr} {fd : FuncData} {ps : List Str} (F : FunD K x qual st dV f fd)
    (h : ∀ (kV doc pm : Value) (an : Option Addr) (cdv ct : Value) (us : List Value), us.length = ps.length → bindArgs (PySem.W.fnOf x qual (defArgs st) (defBody st) (defScope st) dV kV doc pm an cdv ct) ⟨us, []⟩ = pure (ps.zip us)) : Binds K fd ps [] := by
  obtain ⟨oc, od, kV, doc, pm, an, cdv, ct, osl, rfl, lk, hcd⟩ := F.ex
  exact .all (h kV doc pm an cdv ct)
/-- the last parameters are filled by the tuple of defaults at T -/
theorem FunD.bindsD {x qual : Str} {st : Stmt} {T : Addr} {f : Addr} {fd : FuncData} {ps : List Str} {ds tup : List Value} {o : Obj} {n : Nat} (m : Nat) (F : FunD K x qual st (.ref T) f fd) (lo : K.lookup T = some o) (hs : o.data = .seq tup.toArray n) (hm : m + ds.length = ps.length)
    (h : ∀ (kV doc pm : Value) (an : Option Addr) (cdv ct : Value) (us : List Value), us.length = m → ∃ k : Option (Array Value) → Sem (List (Str × Value)),
      bindArgs (PySem.W.fnOf x qual (defArgs st) (defBody st) (defScope st) (.ref T) kV doc pm an cdv ct) ⟨us, []⟩ = seqItems? (.ref T) >>= k ∧ k (some tup.toArray) = pure (ps.zip (us ++ ds))) : Binds K fd ps ds := by
  obtain ⟨oc, od, kV, doc, pm, an, cdv, ct, osl, rfl, lk, hcd⟩ := F.ex
  intro s us KX hl
  rw [List.length_append] at hl
  obtain ⟨k, h1, h2⟩ := h kV doc pm an cdv ct us (by omega)
  exact PySem.W.binds_K (k := k) KX rfl lo hs h1 h2
theorem funD_mk {x qual : Str} {st : Stmt} {f : Addr} {oc : Value} {od an : Option Addr} {osl : Array (Option Value)} {dV kV doc pm cdv ct : Value} (l : K.lookup f = some ⟨oc, od, .func (PySem.W.fnOf x qual (defArgs st) (defBody st) (defScope st) dV kV doc pm an cdv ct), osl⟩)
    (c : PySem.W.codeIn K cdv qual = true) (k : PySem.W.keepIn K (.ref f) = true) : FunD K x qual st dV f (PySem.W.fnOf x qual (defArgs st) (defBody st) (defScope st) dV kV doc pm an cdv ct) := ⟨⟨oc, od, kV, doc, pm, an, cdv, ct, osl, rfl, l, c⟩, k⟩
end
/-- a method, for its callers -/
structure MCal (P : Program) (w : World) (K : PySem.W.Frag) (mg : Str → Option Value) (base : Heap) (k : Nat) (C : Addr) (m : Str) (ps : List Str) (sp : Sp) (f : Addr) (fd : FuncData) : Prop where
  ok : FnOk P w K mg base CX0 k f fd ps sp
  mt : Meth K C m f
  bd : Binds K fd ps []
/-- a class, for those who make its instances; ds: the defaults of __init__ -/
structure KCal (P : Program) (w : World) (K : PySem.W.Frag) (mg : Str → Option Value) (base : Heap) (k : Nat) (C : Addr) (x : Str) (ps : List Str) (sp : Sp) (f : Addr) (fd : FuncData) (ds : List Value) (dvs : List V) : Prop where
  ok : FnOk P w K mg base CX0 k f fd ps sp
  mkr : Mk K C f
  mg : mg x = some (.ref C)
  bd : Binds K fd ps []
  bdD : Binds K fd ps ds
  vd : Vals dvs ds
end L2

/-! EXT 5: list(reversed(xs)) -/
namespace L2
open PySem PySem.Spec PyProof.Rows
section
variable {prog : Program} {w : World} {A : Around} {E : Value → Shared → Prop} {s : Shared}
end
section
variable {X : Cx} {K : PySem.W.Frag}
end
end L2

/-! EXT 7: an exception of an own class is raised, and flies through defs (behind Ext4) -/
namespace L2
open PySem PySem.Spec PyProof.Rows
theorem Un.back {fs : List Addr} {H H1 : Hp} {h h1 h2 : Heap} (u : Un fs [] H H1 h h1) (k : ∀ b o, h.get? b = some o → b ∉ fs → ∃ o', h1.get? b = some o' ∧ h2.get? b = some o')
    (hf : ∀ b ∈ fs, H b = none) (hd : ∀ b ∈ fs, ∀ o, h1.get? b = some o → ∀ vs, o.data ≠ .fields vs) (sl : h1.UpToSlots h2) : Un fs [] H H1 h h2 where
  keep := fun b o e n hb hx => by
    obtain ⟨o', e1, e2⟩ := k b o e hb
    rw [u.keep b o e n hb hx] at e1
    cases e1
    exact e2
  slot := fun b o e n hb hx => by
    obtain ⟨s1, e1⟩ := u.slot b o e n hb hx
    obtain ⟨s2, e2⟩ := sl b _ e1 (hd b hb _ e1)
    exact ⟨s2, e2⟩
  free := u.free
  there := fun b o e hx => by
    by_cases hb : b ∈ fs
    · obtain ⟨s1, e1⟩ := u.slot b o e (hf b hb) hb hx
      obtain ⟨s2, e2⟩ := sl b _ e1 (hd b hb _ e1)
      exact ⟨_, e2⟩
    · obtain ⟨o', _, e2⟩ := k b o e hb
      exact ⟨o', e2⟩
  tups := u.tups
  frzs := u.frzs
  tbls := u.tbls
theorem HOk.back {P : Program} {w : World} {H : Hp} {h h' B : Heap} (x : HOk P w H h) (k : ∀ b y, H b = some y → ∃ o', h.get? b = some o' ∧ B.get? b = some o') (st : B.StaysIn h') : HOk P w H h' := fun a o e => by
  refine (x a o e).stay (fun b u hb q => ?_) (fun _ z => z) fun _ _ z => z
  have hn : ∃ y, H b = some y := by
    rcases hb with rfl | hb
    · exact ⟨_, e⟩
    · exact ⟨_, hb⟩
  obtain ⟨y, hy⟩ := hn
  obtain ⟨o', e1, e2⟩ := k b y hy
  rw [q] at e1
  cases e1
  exact st _ _ e2
section
variable {P : Program} {w : World} {K : PySem.W.Frag} {mg : Str → Option Value} {base : Heap} {N : List Str} {qual : Str} {scope : Scope} {f : Addr} {cd : Value} {A : Around} {outer : List Env} {s : Shared} {H : Hp} {E : XK} {pins : List (Addr × Obj)} {σ : St} {H1 : Hp} {s1 : Shared}
end
end L2

/-! EXT 11: range(lo, hi, -1) -/
namespace L2
open PySem PySem.Spec PyProof.Rows
def ItrD (lo : Int) (n : Nat) : It := ⟨fun i _ => i < n, fun i H x H' => H' = H ∧ x = .int (lo + i * -1), fun i _ => n ≤ i⟩
theorem turn_rangeD {P : Program} {w : World} {K : PySem.W.Frag} {tg : Expr} (it : Addr) (lo : Int) (n : Nat) : Turn P w K tg (ItrD lo n) [it] it (fun i h => IsRangeIter h it (lo + (i : Nat) * -1) ((n : Int) - (i : Nat)) (-1)) where
  mem := by simp
  obj := fun i h st b hb => by
    have e : b = it := by simpa using hb
    subst e
    exact ⟨_, st, fun v z => by
      have z' : Data.fields _ = Data.cell v := z
      cases z'⟩
  keep := fun i h h' st k => k it (by simp) _ st
  item := by
    intro X hP hw hK hc i pins s σ H E I hf st hg
    subst hP hw hK
    obtain ⟨f0, f1, f2, f3, f4, f5⟩ := hf it (by simp)
    have W := Walks.range (prog := X.prog) (w := X.w) (I.ok.hd hc) it lo (-1) n
    refine W.item i s _ _ hg st fun v h' tk hv st' kk => ?_
    obtain ⟨t, rfl⟩ := hv
    have I1 : Inv X pins σ H { s with heap := h', toks := tk } := I.turned (fun b o hb e => kk b o (by simpa using hb) e) f0 f1 f3 f4 f5
    exact ⟨_, rfl, go_of (s := { s with heap := h', toks := tk }) (n := "range_iterator") st' rfl rfl (by decide) ⟨.int (lo + i * -1), H, I1, ⟨t, rfl⟩, ⟨rfl, rfl⟩, st', fun b hb => (hf b hb).1⟩⟩
  done := by
    intro X hP hw hK hc i pins s σ H E I hf st hg
    subst hP hw hK
    obtain ⟨f0, f1, f2, f3, f4, f5⟩ := hf it (by simp)
    exact wpAny_pyNext_range_end (I.ok.hd hc) st (by have : n ≤ i := hg; omega) fun h' eb => ⟨rfl, I.turned (t' := s.toks) (fun b o hb e => eb b o hb e) f0 f1 f3 f4 f5⟩
  self := fun _ _ _ _ _ st h => wpAny_pyIter_rangeiter st h
theorem rangeSize_down (a b : Int) : Builtin.Range.rangeSize a b (-1) = if b < a then a - b else 0 := by
  unfold Builtin.Range.rangeSize
  rw [if_neg (by decide)]
  show (if a > b then (a - b - 1) / 1 + 1 else 0) = _
  rw [Int.ediv_one]
  split <;> omega
theorem small_down {a b : Int} (ha : -(2 ^ 61) ≤ a) (ha' : a < 2 ^ 61) (hb : -(2 ^ 61) ≤ b) (hb' : b < 2 ^ 61) : Builtin.Range.small a b (-1) = true := by
  unfold Builtin.Range.small
  rw [rangeSize_down]
  simp only [Builtin.Range.rangeFitsLong, Bool.and_eq_true, Bool.or_eq_true, decide_eq_true_eq, beq_iff_eq, show ¬ ((-1 : Int) > 0) by decide, if_false]
  split <;> omega
section
variable {X : Cx} {tg : Expr}
theorem range_itD {pins : List (Addr × Obj)} {σ : St} {H : Hp} {s : Shared} {R : It → Hp → Prop} {E : Value → Shared → Prop} {lo hi : Int} {t u v : Tok} {tk : Nat} (I : Inv X pins σ H s) (h1 : -(2 ^ 61) ≤ lo) (h2 : lo < 2 ^ 61) (h3 : -(2 ^ 61) ≤ hi) (h4 : hi < 2 ^ 61)
    (q : R (ItrD lo (lo - hi).toNat) H) : wpAny (model X.prog X.w) X.A (pyIter (.ref s.heap.objs.size)) (PIE X pins σ tg R) E { s with heap := s.heap.push { cls := .type "range", data := .fields #[.int lo t, .int hi u, .int (-1) v] }, toks := tk } := by
  refine wpAny_pyIter_range (IsRange.new ..) (small_down h1 h2 h3 h4) ?_
  have I1 : Inv X pins σ H { s with heap := s.heap.push { cls := .type "range", data := .fields #[.int lo t, .int hi u, .int (-1) v] }, toks := tk } := I.kept fun b o e => Heap.get?_push_of_some _ e
  refine ⟨(s.heap.push { cls := .type "range", data := .fields #[.int lo t, .int hi u, .int (-1) v] }).objs.size, [(s.heap.push { cls := .type "range", data := .fields #[.int lo t, .int hi u, .int (-1) v] }).objs.size], _, _, H, rfl,
    I1.kept (t' := tk) fun b o e => Heap.get?_push_of_some _ e, turn_rangeD _ lo (lo - hi).toNat, ?_, fun b hb => ?_, q⟩
  · have e1 : lo + ((0 : Nat) : Int) * -1 = lo := by simp
    have e2 : (((lo - hi).toNat : Nat) : Int) - ((0 : Nat) : Int) = Builtin.Range.rangeSize lo hi (-1) := by rw [rangeSize_down]; split <;> omega
    show IsRangeIter _ _ (lo + ((0 : Nat) : Int) * -1) ((((lo - hi).toNat : Nat) : Int) - ((0 : Nat) : Int)) (-1)
    rw [e1, e2]
    exact Heap.get?_push_size _ rfl
  · have e : b = (s.heap.push { cls := .type "range", data := .fields #[.int lo t, .int hi u, .int (-1) v] }).objs.size := by simpa using hb
    subst e
    exact I1.fpOk (Nat.le_refl _) (I1.hok.fresh (Nat.le_refl _))
def iRngD (ta : TA) : TI := fun σ H R => ta σ H fun vs H1 => ∃ i j : Int, vs = [.int i, .int j, .int (-1)] ∧ (-(2 ^ 61) ≤ i ∧ i < 2 ^ 61 ∧ -(2 ^ 61) ≤ j ∧ j < 2 ^ 61) ∧ R (ItrD i (i - j).toNat) H1
theorem pi_rangeD {a b c : Expr} {ta : TA} {p pos : Pos} (hg : Gl X "range") (hm : X.mg "range" = none) (ha : PA X [a, b, c] ta) (hs : starEach [a, b, c] X.env = [(false, eval a X.env), (false, eval b X.env), (false, eval c X.env)] := by rfl) (hs2 : starEach [b, c] X.env = [(false, eval b X.env), (false, eval c X.env)] := by rfl) :
    PI X tg (.Call (.Name "range" p) [a, b, c] [] pos) (iRngD ta) := by
  intro pins s σ H R I h
  refine Call_ (ld_blt I hg hm boot_range (PyProof.Rows.callWith_type1 (thn (ha pos pins s σ H _ I h) fun us s1 ⟨vs, H1, I1, r1, q1⟩ => ?_) (by rw [hs, hs2]) (by rw [hs2]; rfl)))
  obtain ⟨i, j, e, ⟨q1, q2, q3, q4⟩, q⟩ := q1
  subst e
  cases r1 with
  | cons r rr =>
    cases rr with
    | cons r' rr =>
      cases rr with
      | cons r'' rr =>
        cases rr
        obtain ⟨t, rfl⟩ := r
        obtain ⟨t', rfl⟩ := r'
        obtain ⟨t'', rfl⟩ := r''
        exact call_range_3 (by decide) (range_itD I1 q1 q2 q3 q4 q) (Or.inl (PyProof.noPylong_small (by decide)))
end
theorem for_rangeD {lo : Int} {n : Nat} {g : TG} {tb : TS} {D : Ends} {σ : St} {H : Hp} (Pv : Nat → St → Hp → Prop) (h0 : Pv 0 σ H)
    (hs : ∀ i σ H, i < n → Pv i σ H → g (.int (lo + i * -1)) σ H fun σ2 H2 => tb { D with nx := Pv (i + 1), ct := Pv (i + 1), bk := D.nx } σ2 H2) (hd : ∀ σ H, Pv n σ H → D.nx σ H) :
    ∃ W : Nat → Nat → St → Hp → Prop, (∃ m, W 0 m σ H) ∧ ∀ i m σ H, W i m σ H →
      ((ItrD lo n).stop i H ∧ D.nx σ H) ∨ ((ItrD lo n).go i H ∧ ∃ N : St → Hp → Prop, (∀ σ' H', N σ' H' → ∃ m', m' < m ∧ W (i + 1) m' σ' H') ∧ ∀ x H', (ItrD lo n).yld i H x H' → g x σ H' fun σ2 H2 => tb { D with nx := N, ct := N, bk := D.nx } σ2 H2) := by
  refine ⟨fun i m σ H => m = n - i ∧ i ≤ n ∧ Pv i σ H, ⟨n, by simp, Nat.zero_le _, h0⟩, ?_⟩
  rintro i m σ H ⟨rfl, hi, p⟩
  by_cases hlt : i < n
  · refine .inr ⟨hlt, Pv (i + 1), fun σ' H' p' => ⟨n - (i + 1), by omega, rfl, hlt, p'⟩, fun x H' y => ?_⟩
    obtain ⟨e, y⟩ := y
    subst e y
    exact hs i σ _ hlt p
  · have e : i = n := by omega
    subst e
    exact .inl ⟨Nat.le_refl _, hd σ H p⟩
end L2

/-! EXT 14: lists of lists of ints (behind Ext2) -/
namespace L2
open PySem PySem.Spec PyProof.Rows
theorem refs_of : ∀ {ps : List Addr} {us : List Value}, Vals (ps.map V.ref) us → us = ps.map Value.ref
  | [], _, h => by cases h; rfl
  | p :: ps, _, h => by
    cases h with
    | cons r rr =>
      cases r
      rw [refs_of rr]; rfl
section
variable {X : Cx} {K : PySem.W.Frag}
end
end L2

/-! EXT 17: max(list, default=e), any(list) (behind Ext2) -/
namespace L2
open PySem PySem.Spec PyProof.Rows
/-- M is the greatest of the first n -/
def Top (val : Nat → Int) (n : Nat) (M : Int) : Prop := (∃ i, i < n ∧ val i = M) ∧ ∀ i, i < n → val i ≤ M
theorem Top.more {val : Nat → Int} {n : Nat} {M : Int} (h : Top val n M) (hn : val n > M) : Top val (n + 1) (val n) :=
  ⟨⟨n, by omega, rfl⟩, fun i hi => by
    by_cases e : i = n
    · subst e; exact Int.le_refl _
    · have := h.2 i (by omega); omega⟩
theorem Top.less {val : Nat → Int} {n : Nat} {M : Int} (h : Top val n M) (hn : ¬ val n > M) : Top val (n + 1) M :=
  ⟨let ⟨i, hi, e⟩ := h.1; ⟨i, by omega, e⟩, fun i hi => by
    by_cases e : i = n
    · subst e; omega
    · exact h.2 i (by omega)⟩
section
variable {prog : Program} {w : World} {A : Around} {R : Result → Shared → Prop} {I S : Addr} {fp wr : List Addr} {n : Nat} {P : Nat → Value → Prop} {St : Nat → Heap → Prop} {val : Nat → Int} {d : Value}
end
section
variable {prog : Program} {w : World} {A : Around} {E : Value → Shared → Prop} {s : Shared} {l : Addr} {xs : Array (Int × Tok)} {d : Value}
end
section
variable {X : Cx} {K : PySem.W.Frag} {e ed : Expr} {ta td : TE} {p pos kp : Pos}
end
end L2

/-! EXT 20: a def with defaults, for its callers (behind Ext2) -/
namespace L2
open PySem PySem.Spec PyProof.Rows
end L2

/-! EXT 21: a slice of a text, sum of a list of whole numbers, a def with defaults asked both ways (behind Ext2) -/
namespace L2
open PySem PySem.Spec PyProof.Rows
section
variable {X : Cx}
end
theorem ints_of : ∀ {ns : List Int} {us : List Value}, Vals (ns.map V.int) us → ∃ l : List (Int × Tok), us = l.map (fun p => Value.int p.1 p.2) ∧ l.map (·.1) = ns
  | [], _, h => by cases h; exact ⟨[], rfl, rfl⟩
  | n :: ns, _, h => by
    cases h with
    | cons r rr =>
      obtain ⟨t, rfl⟩ := r
      obtain ⟨l, rfl, e⟩ := ints_of rr
      exact ⟨(n, t) :: l, rfl, by rw [List.map_cons, e]⟩
theorem preSum_list : ∀ (l : List (Int × Tok)) (n : Nat), n ≤ l.length → preSum (numAt l.toArray) n = ((l.take n).map (·.1)).sum
  | l, 0, _ => rfl
  | l, n + 1, h => by
    rw [preSum, preSum_list l n (by omega), List.take_add_one, List.getElem?_eq_getElem (by omega)]
    unfold numAt
    rw [List.getElem?_toArray, List.getElem?_eq_getElem (by omega), Option.toList_some, List.map_append, List.sum_append]
    show _ = _ + (l[n].1 + 0)
    rw [Int.add_zero]; rfl
theorem call_sumK {X : Cx} {K : PySem.W.Frag} (hK : X.K = K) (hc : X.calm = true) : CallR X (.builtin "sum") (fun xs H Q => ∃ (p : Addr) (ns : List Int), xs = [.ref p] ∧ SqL K H p (ns.map V.int) ∧ Q (.int ns.sum) H) := by
  subst hK
  intro pins s σ H xs us Q I r h
  obtain ⟨p, ns, rfl, hq, q⟩ := h
  obtain ⟨u, rfl, rx⟩ := vals1 r
  cases rx
  obtain ⟨its, r', pl, hz⟩ := I.list hq
  obtain ⟨l, rfl, e⟩ := ints_of r'
  have hl : s.heap.IsList p (intItems l.toArray) := by
    have h1 := pl.isList
    have e2 : (l.map (fun p => Value.int p.1 p.2)).toArray = intItems l.toArray := by unfold intItems; simp
    rw [← e2]; exact h1
  refine sum_intListG (I.ok.hd hc) hl fun h' tk t' hk => ⟨.int ns.sum, H, I.kept hk, ⟨t', ?_⟩, q⟩
  have e3 : preSum (numAt l.toArray) l.toArray.size = ns.sum := by
    rw [List.size_toArray, preSum_list l l.length (Nat.le_refl _), List.take_length, e]
  rw [e3]
end L2

/-! EXT 18: a list of ints in a list of such lists (behind Ext14) -/
namespace L2
open PySem PySem.Spec PyProof.Rows
def rNinLL (K : PySem.W.Frag) : R2 := fun x y H Q => ∃ (a p : Addr) (ps : List Addr) (xss : List (List Int)) (xs : List Int), x = .ref p ∧ y = .ref a ∧ H p = some (.lst (xs.map V.int)) ∧ SqL K H a (ps.map V.ref) ∧ ps.length = xss.length ∧ (∀ (i : Nat) (p : Addr) (xs : List Int), ps[i]? = some p → xss[i]? = some xs → H p = some (.lst (xs.map V.int))) ∧ Q (.bl (!decide (xs ∈ xss))) H
theorem ints_inj {xs ys : List Int} (h : xs.map V.int = ys.map V.int) : xs = ys := by
  refine List.ext_getElem? fun i => ?_
  have := congrArg (fun l : List V => l[i]?) h
  simp only [List.getElem?_map] at this
  cases e1 : xs[i]? <;> cases e2 : ys[i]? <;> rw [e1, e2] at this <;> simp at this
  rw [this]
open Classical in
noncomputable def eRow (H : Hp) (xs : List Int) (w : Value) : Bool := match w with
  | .ref q => decide (H q = some (.lst (xs.map V.int)))
  | _ => false
theorem eRow_iff {H : Hp} {xs : List Int} {q : Addr} : eRow H xs (.ref q) = true ↔ H q = some (.lst (xs.map V.int)) := by unfold eRow; exact @decide_eq_true_iff _ (_)
section
variable {X : Cx} {K : PySem.W.Frag}
theorem op_ninLL (hu : X.A.units + 66 < cLine) : OpR X (compareOp .NotIn) (rNinLL X.K) := by
  intro pins s σ H x y v u Q I rx ry h
  obtain ⟨a, p, ps, xss, xs, rfl, rfl, hp, ha, hl, hr, q⟩ := h
  cases rx; cases ry
  obtain ⟨i0, r0, p0, _⟩ := I.list (SqL.of (K := X.K) hp)
  obtain ⟨i1, r1, p1, _⟩ := I.list ha
  obtain rfl := refs_of r1
  refine SeqAt.notIn_listAt (eRow H xs) p1.isList (fun w hw => ?_) ⟨.bl _, H, I, rfl, ?_⟩
  · obtain ⟨q, hq, rfl⟩ := List.mem_map.mp (by simpa using hw)
    obtain ⟨i, hi, rfl⟩ := List.getElem_of_mem hq
    have hx : xss[i]? = some (xss[i]'(by omega)) := List.getElem?_eq_getElem (by omega)
    have h1 := hr i ps[i] _ (List.getElem?_eq_getElem hi) hx
    obtain ⟨i2, r2, p2, _⟩ := I.list (SqL.of (K := X.K) h1)
    have e := PySem.W.keq_ints (A := X.A) p2.isList (intsAre_of r2) p0.isList (intsAre_of r0) (by show X.A.units + 1 + 64 < cLine; omega)
    have ee : eRow H xs (.ref ps[i]) = decide (xss[i]'(by omega) = xs) := by
      rw [Bool.eq_iff_iff, eRow_iff, h1, decide_eq_true_eq]
      constructor
      · intro z; injection z with z; injection z with z; exact ints_inj z
      · intro z; rw [z]
    rw [ee]
    exact e
  · have e : (ps.map Value.ref).toArray.any (eRow H xs) = decide (xs ∈ xss) := by
      rw [show (ps.map Value.ref).toArray.any (eRow H xs) = (ps.map Value.ref).any (eRow H xs) by simp, Bool.eq_iff_iff, List.any_eq_true, decide_eq_true_eq]
      constructor
      · rintro ⟨w, hw, z⟩
        obtain ⟨q, hq, rfl⟩ := List.mem_map.mp hw
        obtain ⟨i, hi, rfl⟩ := List.getElem_of_mem hq
        have hx : xss[i]? = some (xss[i]'(by omega)) := List.getElem?_eq_getElem (by omega)
        have h1 := hr i ps[i] _ (List.getElem?_eq_getElem hi) hx
        have z' : H ps[i] = _ := eRow_iff.mp z
        rw [h1] at z'
        injection z' with z'; injection z' with z'
        rw [← ints_inj z']
        exact List.getElem_mem _
      · intro hm
        obtain ⟨i, hi, rfl⟩ := List.getElem_of_mem hm
        refine ⟨.ref (ps[i]'(by omega)), List.mem_map.mpr ⟨_, List.getElem_mem _, rfl⟩, ?_⟩
        exact eRow_iff.mpr (hr i _ _ (List.getElem?_eq_getElem (by omega)) (List.getElem?_eq_getElem hi))
    rw [e]
    exact q
theorem op_ninLLK (h : X.K = K) (hu : X.A.units + 66 < cLine) : OpR X (compareOp .NotIn) (rNinLL K) := by subst h; exact op_ninLL hu
end
end L2

/-! EXT 25: list comprehensions with one test (behind Ext1) -/
namespace L2
open PySem PySem.Spec PyProof.Rows
theorem loopT {prog : Program} {w : World} {A : Around} {s : Shared} {elt target iter cond : Expr} {scope : Scope} {pos : Pos} {it acc : Value} {env : Env} {R : Result → Shared → Prop} (J : Nat → Shared → Prop)
    (turn : ∀ n s, J n s → wpAny (model prog w) A (pyNext it) (fun r a => match r with
      | none => R (.ok .next) a
      | some v => wpAny (model prog w) A (letOwnedTupleGo target it v) (fun _ b => wpAny (model prog w) A (assign target env v) (fun _ c =>
          wpAny (model prog w) A (isTrue cond env (eval cond env)) (fun ok d =>
            if ok = true then wpAny (model prog w) A (eval elt env) (fun x f =>
              wpAny (model prog w) A (call (.builtin "list.append") [acc, x]) (fun _ g => ∃ m, m < n ∧ J m g) (notedBy (model prog w) A env fun e z => R (.error e) z) f) (notedBy (model prog w) A env fun e z => R (.error e) z) d
            else ∃ m, m < n ∧ J m d) (notedBy (model prog w) A env fun e z => R (.error e) z) c)
          (notedBy (model prog w) A env fun e z => R (.error e) z) b) (notedBy (model prog w) A env fun e z => R (.error e) z) a) (notedBy (model prog w) A env fun e z => R (.error e) z) s)
    (n : Nat) (h : J n s) : codeAny (model prog w) A (.compLoop (.ListComp elt [⟨target, iter, [cond], 0⟩] scope pos) 0 it acc env) R s := by
  refine codeAny_loop rfl J (fun n s hJ => ?_) n h
  change wpAny _ A ((compTurn (.ListComp elt [⟨target, iter, [cond], 0⟩] scope pos) 0 it acc env).onRaise (fun x => do noteFrame x env; theTreesLotGoes x)) _ _ s
  refine wpAny_noted ?_
  rw [compTurn_list]
  refine wpAny_bind (wpAny_standAt (wpAny_bind (wpAny_mono (turn n s hJ) (fun r a h1 => ?_) fun _ _ z => z)))
  cases r with
  | none => exact wpAny_pure h1
  | some v =>
    refine wpAny_bind (wpAny_mono h1 (fun _ b h2 => ?_) fun _ _ z => z)
    refine wpAny_bind (wpAny_mono h2 (fun _ c h3 => ?_) fun _ _ z => z)
    refine wpAny_bind (wpAny_tests_one (wpAny_mono h3 (fun ok d h4 => ?_) fun _ _ z => z))
    cases ok with
    | false => exact wpAny_pure ⟨rfl, h4⟩
    | true => exact wpAny_bind (wpAny_bind (wpAny_mono h4 (fun x f h5 => wpAny_bind (wpAny_mono h5 (fun _ g h6 => wpAny_pure (wpAny_pure ⟨rfl, h6⟩)) fun _ _ z => z)) fun _ _ z => z))
/-- the invariant as in CompR; what is made at a turn: an item or none -/
def CompRT (n : Nat) (js : List Nat) (g : TG) (tt : TT) (te : TE) (σ : St) (Q : VK) (J : It) (H1 : Hp) : Prop := ∃ W : Nat → Nat → List V → St → Hp → Prop, (∃ m, W 0 m [] (inSt n js σ) H1) ∧
  ∀ i m ys σ' H', W i m ys σ' H' →
    (J.stop i H' ∧ ∀ p, H' p = none → Q (.ref p) (upd H' p (.lst ys))) ∨
    (J.go i H' ∧ ys.length < sizeLine ∧ ∃ N : Option V → St → Hp → Prop, (∀ y σ'' H'', N y σ'' H'' → ∃ m', m' < m ∧ W (i + 1) m' (ys ++ y.toList) σ'' H'') ∧ ∀ x H2, J.yld i H' x H2 → g x σ' H2 fun σ3 H3 => tt σ3 H3 fun kk H4 => if kk = true then te σ3 H4 fun y H5 => N (some y) σ3 H5 else N none σ3 H4)
def tCompT (n : Nat) (js : List Nat) (wi : TI) (g : TG) (tt : TT) (te : TE) : TE := fun σ H Q => wi σ H fun J H1 => CompRT n js g tt te σ Q J H1
section
variable {X : Cx} {own fr : List Str} {js : List Nat} {scope : Scope} {cl : List (Str × Addr)} {elt target iter : Expr} {pos : Pos} {wi : TI} {g : TG} {te : TE} {cond : Expr} {tt : TT}
theorem comp_coreT {pins : List (Addr × Obj)} {σ : St} {H : Hp} {s : Shared} {fp : List Addr} {it : Addr} {tn : Nat → Heap → Prop} {J : It} {E : Value → Shared → Prop} {Q : VK} {RR : Value → Addr → Result → Shared → Prop} (O : CompOk X fr js scope cl) (hl : fr.length = js.length) (hcm : X.calm = true)
    (I : Inv X pins σ H s) (T : Turn X.prog X.w X.K target J fp it tn) (st : tn 0 s.heap) (hf : ∀ b ∈ fp, FpOk X pins H b)
    (hg : ∀ C s₀ H₀ ex, PG (cxIn X (own ++ fr) scope cl C s₀ H₀ ex) target g) (he : ∀ C s₀ H₀ ex, PE (cxIn X (own ++ fr) scope cl C s₀ H₀ ex) elt te) (hc : ∀ C s₀ H₀ ex, PT (cxIn X (own ++ fr) scope cl C s₀ H₀ ex) cond tt)
    (W : Nat → Nat → List V → St → Hp → Prop) {m0 : Nat} (w0 : W 0 m0 [] (inSt own.length js σ) H)
    (turn : ∀ i m ys σ' H', W i m ys σ' H' →
      (J.stop i H' ∧ ∀ p, H' p = none → Q (.ref p) (upd H' p (.lst ys))) ∨
      (J.go i H' ∧ ys.length < sizeLine ∧ ∃ N : Option V → St → Hp → Prop, (∀ y σ'' H'', N y σ'' H'' → ∃ m', m' < m ∧ W (i + 1) m' (ys ++ y.toList) σ'' H'') ∧ ∀ x H2, J.yld i H' x H2 → g x σ' H2 fun σ3 H3 => tt σ3 H3 fun kk H4 => if kk = true then te σ3 H4 fun y H5 => N (some y) σ3 H5 else N none σ3 H4))
    (hRR : ∀ D C s', CompFin X pins σ Q D C s' → RR (.ref D) C (.ok .next) s') :
    wpAny (model X.prog X.w) X.A (newList []) (fun acc s₃ => wpAny (model X.prog X.w) X.A (newFunctionEnv scope X.env.globals cl [] X.env.qual none .none (some X.env)) (fun cenv s₄ =>
      codeAny (model X.prog X.w) X.A (.compStart (.ListComp elt [⟨target, iter, [cond], 0⟩] scope pos) 0 (.ref it) acc { cenv with scope := relabel scope X.env }) (RR acc cenv.locals) s₄) E s₃) E s := by
  refine wpAny_newObj_type (wpAny_newFunctionEnv O.cell (by intro y hy; simp at hy) (fun h₁ hns₁ hsb₁ => ?_) O.kind)
  dsimp only at hns₁ hsb₁ ⊢
  generalize hH2 : s.heap.push { cls := .type "list", dict := none, data := .seq ([] : List Value).toArray } = H2 at hns₁ hsb₁ ⊢
  have hCs : H2.objs.size = s.heap.objs.size + 1 := by rw [← hH2, Heap.size_push]
  have hDC : s.heap.objs.size ≠ H2.objs.size := by rw [hCs]; exact Nat.ne_of_lt (Nat.lt_succ_self _)
  have hCge : s.heap.objs.size ≤ H2.objs.size := by rw [hCs]; exact Nat.le_succ _
  have below : ∀ b, b < s.heap.objs.size → b ≠ H2.objs.size ∧ b ≠ s.heap.objs.size := fun b hb => ⟨by rw [hCs]; exact Nat.ne_of_lt (Nat.lt_succ_of_lt hb), Nat.ne_of_lt hb⟩
  have old : ∀ b o, s.heap.get? b = some o → h₁.get? b = some o := fun b o e => hsb₁.extBut b o (below b (Heap.lt_size e)).1 (Heap.get?_push_of_some _ (hH2 ▸ Heap.get?_push_of_some _ e))
  have hacc : h₁.get? s.heap.objs.size = some { cls := .type "list", data := .seq ([] : List Value).toArray 0 } := hsb₁.extBut _ _ hDC (Heap.get?_push_of_some _ (hH2 ▸ Heap.get?_push_size _ rfl))
  have ho : ∀ b ∈ fp, b < s.heap.objs.size := fun b hb => by obtain ⟨o, e, _⟩ := T.obj 0 _ st b hb; exact Heap.lt_size e
  generalize hDe : s.heap.objs.size = D at *
  generalize hCe : H2.objs.size = C at *
  let X' : Cx := cxIn X (own ++ fr) scope cl C s H fp
  have ok' : X'.Ok := cxIn_ok O I (by rw [hDe]; exact hCge) hf (by rw [hDe]; exact ho)
  have hDfs : D ∉ X'.fs := by
    intro z
    rcases List.mem_cons.mp (I.stkSub D z) with q | q
    · exact absurd I.lt (by rw [← q, hDe]; exact Nat.lt_irrefl _)
    · exact I.nofs (Nat.le_of_eq hDe) q
  have hDfp : ∀ b ∈ fp, D ≠ b := fun b hb z => absurd (ho b hb) (by rw [z]; exact Nat.lt_irrefl _)
  have hDcell : ∀ x c, cl.lookup x = some c → c ≠ D := fun x c e z => by
    obtain ⟨v, q⟩ := I.cell x c (cells_in O e)
    exact absurd q.lt (by rw [z, hDe]; exact Nat.lt_irrefl _)
  have fpok : ∀ {H' : Hp} {pins' : List (Addr × Obj)}, (∀ p ∈ pins', p.1 = D) → (∀ b ∈ fp, H' b = none) → ∀ b ∈ fp, FpOk X' pins' H' b := fun {H' pins'} hp hn b hb => by
    obtain ⟨f0, f1, f2, f3, f4, f5⟩ := hf b hb
    refine ⟨hn b hb, (below b (ho b hb)).1, fun z => ?_, .inl hb, fun x c e => f4 x c (cells_in O e), fun p hp' => ?_⟩
    · rcases List.mem_cons.mp (I.stkSub b z) with q | q
      · exact f1 q
      · exact f2 q
    · have hp'' : p ∈ pins' := by simpa [X', cxIn] using hp'
      rw [hp p hp'']; exact hDfp b hb
  have loop : ∀ s₃ : Shared, s₃ = { s with heap := h₁, toks := s.toks + ([] : List (Str × Value)).length } →
      codeAny (model X.prog X.w) X.A (.compLoop (.ListComp elt [⟨target, iter, [cond], 0⟩] scope pos) 0 (.ref it) (.ref D) (compEnvC scope cl C X.env)) (RR (.ref D) C) s₃ := by
    rintro s₃ rfl
    refine loopT (fun k s' => ∃ i σ' H' ys its nn, Inv X' [] σ' H' s' ∧ tn i s'.heap ∧ (∀ b ∈ fp, H' b = none) ∧ H' D = none ∧ s'.heap.get? D = some { cls := .type "list", data := .seq (its : List Value).toArray nn } ∧ Vals ys its ∧ ys.length ≤ sizeLine ∧ W i k ys σ' H') ?_ m0
      ⟨0, _, H, [], [], 0, cxIn_inv O hl I (by rw [hDe]; exact hCge) hf (by rw [hDe]; exact ho) rfl rfl (by intro b o e; exact old b o e) hns₁, T.keep _ _ _ st fun b _ o e => old b o e, fun b hb => (hf b hb).1, I.hok.fresh (Nat.le_of_eq hDe), hacc, .nil, Nat.zero_le _, w0⟩
    rintro k s' ⟨i, σ', H', ys, its, nn, I', st', hfn, hDn, hDo, rv, hz, w⟩
    have hlen := rv.length
    have hpD : ∀ p ∈ [(D, ({ cls := .type "list", data := .seq its.toArray nn } : Obj))], p.1 = D := fun p hp => by rw [List.mem_singleton.mp hp]
    have Ip : Inv X' [(D, ({ cls := .type "list", data := .seq its.toArray nn } : Obj))] σ' H' s' := I'.pins_of fun p hp => by
      rw [List.mem_singleton.mp hp]
      exact ⟨hDo, hDn, hDC, hDfs, fun v z => by cases z⟩
    rcases turn i k ys σ' H' w with ⟨stop, fin⟩ | ⟨go, hlt, N, hN, step⟩
    · refine wpAny_mono (T.done X' rfl rfl rfl hcm i _ s' σ' H' (fun _ _ => False) Ip (fpok hpD hfn) st' stop) (fun r s4 ⟨hr, I4⟩ => ?_) fun _ _ z => False.elim z
      subst hr
      refine hRR D C s4 ?_
      have hD4 : s4.heap.get? D = some { cls := .type "list", data := .seq its.toArray nn } := (I4.pin _ (List.mem_append_right _ (List.mem_singleton.mpr rfl))).1
      have un : Un (frs X.stack) fp H (upd H' D (.lst ys)) s.heap s4.heap := Un.adopt I4.base (Nat.le_of_eq hDe) (I.hok.fresh (Nat.le_of_eq hDe))
      have hok : HOk X.prog X.w (upd H' D (.lst ys)) s4.heap := HOk.adopt I4.hok hDn ⟨hz, its, nn, rv, hD4⟩
      refine ⟨upd H' D (.lst ys), I.call' I4.os un hok I4.bare fun b hb => ?_, fin D hDn, ?_, ?_, ?_, fun x c e z => ?_, fun p hp z => ?_, ?_⟩
      · obtain ⟨f0, f1, f2, f3, f4, f5⟩ := hf b hb
        exact ⟨f3, f1, f4, f5⟩
      · rw [upd_ne (Ne.symm hDC)]
        exact I4.free
      · exact Nat.ne_of_gt (Nat.lt_of_lt_of_le I.lt (by rw [hDe]; exact hCge))
      · exact Nat.le_trans I.sz (by rw [hDe]; exact hCge)
      · obtain ⟨v, q⟩ := I.cell x c e
        exact absurd (Nat.lt_of_lt_of_le q.lt (by rw [hDe, z]; exact hCge)) (Nat.lt_irrefl _)
      · exact absurd (Nat.lt_of_lt_of_le (Heap.lt_size (I.pin p hp).1) (by rw [hDe, z]; exact hCge)) (Nat.lt_irrefl _)
      · obtain ⟨m', hn', _⟩ := I4.loc
        exact ⟨m', hn'⟩
    · refine wpAny_mono (T.item X' rfl rfl rfl hcm i _ s' σ' H' (fun _ _ => False) Ip (fpok hpD hfn) st' go) (fun r s4 ⟨u, hr, h4⟩ => ?_) fun _ _ z => False.elim z
      subst hr
      refine wpAny_mono h4 (fun _ s5 ⟨x, H5, I5, r5, y5, st5, fr5⟩ => ?_) fun _ _ z => False.elim z
      have I5' := I5.pinned (fpok hpD fr5) (T.obj _ _ st5)
      refine wpAny_mono (hg C s H fp _ s5 σ' H5 x u _ I5' r5 (step x H5 y5)) (fun _ s6 ⟨σ6, H6, I6, q6⟩ => ?_) fun _ _ z => False.elim z
      refine wpAny_mono (hc C s H fp _ s6 σ6 H6 _ I6 q6) (fun ok s6' hok => ?_) fun _ _ z => False.elim z
      obtain ⟨H6', I6', q6'⟩ := hok
      cases ok with
      | false =>
        obtain ⟨m', hm', w7⟩ := hN none σ6 H6' q6'
        have hD7 := I6'.pin (D, { cls := .type "list", data := .seq its.toArray nn }) (List.mem_append_right _ (List.mem_append_left _ (List.mem_singleton.mpr rfl)))
        have I7' : Inv X' [] σ6 H6' s6' := I6'.pins_of fun p hp => absurd hp (by simp)
        refine ⟨m', hm', i + 1, σ6, H6', ys, its, nn, I7', T.keep _ _ _ st5 fun b hb o e => ?_, fun b hb => ?_, hD7.2.1, hD7.1, rv, hz, by simpa using w7⟩
        · exact (I6'.pin (b, o) (List.mem_append_right _ (List.mem_append_right _ (mem_pinsAt hb e)))).1
        · obtain ⟨o, e, d⟩ := T.obj _ _ st5 b hb
          exact (I6'.pin (b, o) (List.mem_append_right _ (List.mem_append_right _ (mem_pinsAt hb e)))).2.1
      | true =>
        refine wpAny_mono (he C s H fp _ s6' σ6 H6' _ I6' q6') (fun v s7 ⟨y, H7, I7, r7, n7⟩ => ?_) fun _ _ z => False.elim z
        obtain ⟨m', hm', w7⟩ := hN (some y) σ6 H7 n7
        have hD7 := I7.pin (D, { cls := .type "list", data := .seq its.toArray nn }) (List.mem_append_right _ (List.mem_append_left _ (List.mem_singleton.mpr rfl)))
        refine append_at hD7.1 (fun h8 sb hD8 => ?_) (by rw [List.size_toArray, ← hlen]; exact hz)
        have I7' : Inv X' [] σ6 H7 s7 := I7.pins_of fun p hp => absurd hp (by simp)
        have I8 : Inv X' [] σ6 H7 { s7 with heap := h8 } := I7'.turned (t' := s7.toks) (it := D) (fun b o hb e => (sb.2 b hb).trans e) hD7.2.1 hDC (.inr (Nat.le_of_eq hDe)) hDcell (fun p hp => absurd (show p ∈ ([] : List (Addr × Obj)) from hp) (by simp))
        refine ⟨m', hm', i + 1, σ6, H7, ys ++ [y], its ++ [v], nn + 1, I8, T.keep _ _ _ st5 fun b hb o e => ?_, fun b hb => ?_, hD7.2.1, ?_, rv.append (.cons r7 .nil), ?_, w7⟩
        · exact (sb.2 b (fun z => hDfp b hb z.symm)).trans (I7.pin (b, o) (List.mem_append_right _ (List.mem_append_right _ (mem_pinsAt hb e)))).1
        · obtain ⟨o, e, d⟩ := T.obj _ _ st5 b hb
          exact (I7.pin (b, o) (List.mem_append_right _ (List.mem_append_right _ (mem_pinsAt hb e)))).2.1
        · rw [hD8, List.push_toArray]
        · rw [List.length_append, List.length_singleton]; exact hlt
  exact codeAny_compStart_list (loop _ rfl) (T.self _ 0 _ _ _ (T.keep _ _ _ st fun b _ o e => old b o e) (loop _ rfl))

/-- name = [elt for target in iter if cond] -/
theorem ps_setCompT {i : Nat} {y : Str} {py spos : Pos} (hN : X.N.Nodup) (hy : X.N[i]? = some y) (hly : Loc X.env.scope y) (O : CompOk X fr js scope cl) (hcm : X.calm = true) (hi : PI X target iter wi) (hg : ∀ C s₀ H₀ ex, PG (cxIn X (own ++ fr) scope cl C s₀ H₀ ex) target g)
    (he : ∀ C s₀ H₀ ex, PE (cxIn X (own ++ fr) scope cl C s₀ H₀ ex) elt te) (hc : ∀ C s₀ H₀ ex, PT (cxIn X (own ++ fr) scope cl C s₀ H₀ ex) cond tt) (hsw : swapsWith (.ListComp elt [⟨target, iter, [cond], 0⟩] scope pos) (some (.Name y py)) spos.line X.env = pure true)
    (hf : X.fn y = true ∨ X.env.scope.names.lookup y = some .local := by first | exact .inl rfl | exact .inr rfl | assumption) (hs : ∀ x, foldedSetIterable iter X.env x = pure x := by intro _; rfl) :
    PS X (.Assign [.Name y py] (.ListComp elt [⟨target, iter, [cond], 0⟩] scope pos) spos) (tAsg (tCompT own.length js wi g tt te) (gName i)) := by
  intro pins s σ H D I h
  rw [exec_Assign_Name_used _ _ _ _ hsw]
  refine wpAny_bind (wpAny_standAt (wpAny_bind ?_))
  show wpAny _ X.A (do let _ ← comprehension (.ListComp elt [⟨target, iter, [cond], 0⟩] scope pos) scope X.env _ (newList []) false (eval iter X.env) (some (assign (.Name y py) X.env))) _ _ s
  refine wpAny_bind (wpAny_mono (wpAny_comprehension_free (use := some (assign (.Name y py) X.env)) (Q := fun _ s' => SP X pins D .next s') rfl hs O.clos O.kind O.names
    (thn (hi pins s σ H _ I h) fun x s1 h1 => thn h1 fun itv s2 h2 => ?_)) (fun _ s' hq => wpAny_pure (wpAny_pure hq)) fun _ _ e => e)
  obtain ⟨it, fp, tn, J, H2, rfl, I2, T, st, hfp, W, ⟨m0, w0⟩, turn⟩ := h2
  refine comp_coreT (Q := fun x H1 => gName i x σ H1 D.nx) (RR := fun acc C => compPost (model X.prog X.w) X.A X.xe (some (assign (.Name y py) X.env)) (fun _ s' => SP X pins D .next s') acc C) O (Paired.length O.fre) hcm I2 T st hfp hg he hc W w0 turn ?_
  rintro DD C s' ⟨H3, I3, q, c1, c2, c3, c4, c5, m, hn⟩
  show wpAny _ _ (assign (.Name y py) X.env (.ref DD)) _ _ s'
  refine wpAny_assign_Name (store_ok2 I3 hN hy hly (v := .ref DD) rfl (fun s4 I4 ⟨a, sb, ha⟩ => ?_) hf)
  have hCa : C ≠ a := by
    rcases ha with rfl | ha
    · exact c2
    · exact fun z => c4 y a ha z.symm
  refine ⟨m, hn.sameBut sb hCa, fun h' sb' => ⟨_, H3, I4.turned (t' := s4.toks) (it := C) (fun b o hb e => (sb'.2 b hb).trans e) c1 c2 (.inr c3) c4 c5, q⟩⟩
end
/-- over a list that test and element leave as it is -/
theorem comp_listT {n : Nat} {js : List Nat} {K : PySem.W.Frag} {a : Addr} {xs : List V} {g : TG} {tt : TT} {te : TE} {σ0 : St} {H : Hp} {Q : VK} (Pv : Nat → List V → St → Hp → Prop) (hz : xs.length ≤ sizeLine) (h0 : Pv 0 [] (inSt n js σ0) H) (hl : ∀ i ys σ H, i ≤ xs.length → Pv i ys σ H → SqL K H a xs ∧ ys.length ≤ i)
    (hs : ∀ i x ys σ H, xs[i]? = some x → Pv i ys σ H → g x σ H fun σ2 H2 => tt σ2 H2 fun kk H3 => if kk = true then te σ2 H3 fun y H4 => Pv (i + 1) (ys ++ [y]) σ2 H4 else Pv (i + 1) ys σ2 H3) (hd : ∀ ys σ H p, Pv xs.length ys σ H → H p = none → Q (.ref p) (upd H p (.lst ys))) :
    CompRT n js g tt te σ0 Q (Itl K a) H := by
  refine ⟨fun i m ys σ H => m = xs.length - i ∧ i ≤ xs.length ∧ Pv i ys σ H, ⟨xs.length, by simp, Nat.zero_le _, h0⟩, ?_⟩
  rintro i m ys σ H ⟨rfl, hi, p⟩
  obtain ⟨q, hy⟩ := hl i ys σ H hi p
  by_cases hlt : i < xs.length
  · refine .inr ⟨⟨xs, xs[i], q, by simp [hlt]⟩, by omega, fun y σ'' H'' => Pv (i + 1) (ys ++ y.toList) σ'' H'', fun y σ' H' p' => ⟨xs.length - (i + 1), by omega, rfl, hlt, p'⟩, fun x H' y => ?_⟩
    obtain ⟨e, y⟩ := y
    subst e
    have := hs i x ys σ _ (y xs q) p
    simpa using this
  · have e : i = xs.length := by omega
    subst e
    exact .inl ⟨⟨xs, q, Nat.le_refl _⟩, fun r hr => hd ys σ H r p hr⟩
end L2

/-! Lists of coefficients: plain mathematics -/
namespace RM

/-- the coefficient at place k -/
def cf (l : List Int) (k : Nat) : Int := l.getD k 0
theorem cf_nil (k : Nat) : cf [] k = 0 := by simp [cf]
theorem cf_zero (x : Int) (l : List Int) : cf (x :: l) 0 = x := rfl
theorem cf_succ (x : Int) (l : List Int) (k : Nat) : cf (x :: l) (k + 1) = cf l k := rfl
theorem cf_ge {l : List Int} {k : Nat} (h : l.length ≤ k) : cf l k = 0 := by
  unfold cf; rw [List.getD, List.getElem?_eq_none_iff.mpr h]; rfl
theorem cf_lt {l : List Int} {k : Nat} (h : k < l.length) : cf l k = l[k] := by
  unfold cf; rw [List.getD, List.getElem?_eq_getElem h]; rfl
theorem cf_some {l : List Int} {k : Nat} {x : Int} (h : l[k]? = some x) : cf l k = x := by
  unfold cf; rw [List.getD, h]; rfl
theorem get_cf {l : List Int} {k : Nat} (h : k < l.length) : l[k]? = some (cf l k) := by
  rw [cf_lt h, List.getElem?_eq_getElem h]
theorem cf_append_left {l r : List Int} {k : Nat} (h : k < l.length) : cf (l ++ r) k = cf l k := by
  unfold cf; rw [List.getD, List.getD, List.getElem?_append_left h]
theorem cf_append_right {l r : List Int} {k : Nat} (h : l.length ≤ k) : cf (l ++ r) k = cf r (k - l.length) := by
  unfold cf; rw [List.getD, List.getD, List.getElem?_append_right h]
theorem cf_set {l : List Int} {j k : Nat} {x : Int} (h : j < l.length) : cf (l.set j x) k = if k = j then x else cf l k := by
  unfold cf; rw [List.getD, List.getD, List.getElem?_set]
  by_cases e : j = k
  · subst e; simp [h]
  · rw [if_neg e, if_neg (fun z => e z.symm)]
theorem cf_replicate (n k : Nat) : cf (List.replicate n 0) k = 0 := by
  unfold cf; rw [List.getD, List.getElem?_replicate]; split <;> rfl
theorem cf_map_range (f : Nat → Int) (n k : Nat) : cf ((List.range n).map f) k = if k < n then f k else 0 := by
  unfold cf; rw [List.getD, List.getElem?_map]
  by_cases h : k < n
  · rw [if_pos h, List.getElem?_range h]; rfl
  · rw [if_neg h, List.getElem?_eq_none_iff.mpr (by simpa using h)]; rfl
theorem ext_cf {a b : List Int} (hl : a.length = b.length) (h : ∀ k, k < a.length → cf a k = cf b k) : a = b := by
  apply List.ext_getElem hl
  intro k h1 h2
  rw [← cf_lt h1, ← cf_lt h2]; exact h k h1

/-- noughts at the end left out -/
def trim (l : List Int) : List Int := (l.reverse.dropWhile (· == 0)).reverse
theorem trim_snoc_zero (l : List Int) : trim (l ++ [0]) = trim l := by
  unfold trim; rw [List.reverse_append]; rfl
theorem trim_snoc_ne (l : List Int) {x : Int} (h : x ≠ 0) : trim (l ++ [x]) = l ++ [x] := by
  unfold trim
  rw [List.reverse_append]
  show ((x :: l.reverse).dropWhile (· == 0)).reverse = _
  rw [List.dropWhile_cons_of_neg (by simpa using h)]
  simp
/-- its last one is not 0 -/
def Tr (l : List Int) : Prop := ∀ n, l.length = n + 1 → cf l n ≠ 0
theorem snoc_cases (l : List Int) : l = [] ∨ ∃ r x, l = r ++ [x] := by
  cases h : l.reverse with
  | nil => left; simpa using h
  | cons x r => right; exact ⟨r.reverse, x, by rw [← List.reverse_reverse l, h]; simp⟩
theorem cf_last (r : List Int) (x : Int) : cf (r ++ [x]) r.length = x := by
  rw [cf_append_right (Nat.le_refl _), Nat.sub_self]; rfl
theorem tr_nil : Tr [] := fun n h => by simp at h
theorem tr_snoc {r : List Int} {x : Int} : Tr (r ++ [x]) ↔ x ≠ 0 := by
  constructor
  · intro h
    have := h r.length (by simp)
    rwa [cf_last] at this
  · intro h n hn
    have e : n = r.length := by simp at hn; omega
    subst e
    rwa [cf_last]
theorem trim_spec : ∀ (n : Nat) (l : List Int), l.length = n → Tr (trim l) ∧ (trim l).length ≤ l.length ∧ ∀ k, cf (trim l) k = cf l k
  | 0, l, h => by
    have : l = [] := List.length_eq_zero_iff.mp h
    subst this
    exact ⟨tr_nil, Nat.le_refl _, fun _ => rfl⟩
  | n + 1, l, h => by
    rcases snoc_cases l with rfl | ⟨r, x, rfl⟩
    · simp at h
    · by_cases hx : x = 0
      · subst hx
        obtain ⟨h1, h2, h3⟩ := trim_spec n r (by simpa using h)
        rw [trim_snoc_zero]
        refine ⟨h1, by rw [List.length_append]; exact Nat.le_trans h2 (Nat.le_add_right _ _), fun k => ?_⟩
        rw [h3]
        by_cases hk : k < r.length
        · rw [cf_append_left hk]
        · rw [cf_append_right (Nat.le_of_not_lt hk), cf_ge (Nat.le_of_not_lt hk)]
          cases e : k - r.length with
          | zero => rfl
          | succ j => rw [cf_succ, cf_nil]
      · rw [trim_snoc_ne r hx]
        exact ⟨tr_snoc.mpr hx, Nat.le_refl _, fun _ => rfl⟩
theorem tr_trim (l : List Int) : Tr (trim l) := (trim_spec _ l rfl).1
theorem length_trim (l : List Int) : (trim l).length ≤ l.length := (trim_spec _ l rfl).2.1
theorem cf_trim (l : List Int) (k : Nat) : cf (trim l) k = cf l k := (trim_spec _ l rfl).2.2 k
theorem trim_of_tr {l : List Int} (h : Tr l) : trim l = l := by
  rcases snoc_cases l with rfl | ⟨r, x, rfl⟩
  · rfl
  · exact trim_snoc_ne r (tr_snoc.mp h)
/-- polynomials are alike where their coefficients are -/
theorem eq_of_cf {a b : List Int} (ha : Tr a) (hb : Tr b) (h : ∀ k, cf a k = cf b k) : a = b := by
  have le : ∀ {a b : List Int}, Tr a → (∀ k, cf a k = cf b k) → a.length ≤ b.length := fun {a b} ha h => by
    cases e : a.length with
    | zero => exact Nat.zero_le _
    | succ n =>
      apply Classical.byContradiction
      intro hn
      exact ha n e (by rw [h n, cf_ge (by omega)])
  have hl : a.length = b.length := Nat.le_antisymm (le ha h) (le hb fun k => (h k).symm)
  exact ext_cf hl fun k _ => h k
theorem trim_take_zero {l : List Int} {n : Nat} (hn : n < l.length) (h : cf l n = 0) : trim (l.take (n + 1)) = trim (l.take n) := by
  rw [List.take_add_one, get_cf hn, h]
  exact trim_snoc_zero _
theorem trim_take_ne {l : List Int} {n : Nat} (hn : n < l.length) (h : cf l n ≠ 0) : trim (l.take (n + 1)) = l.take (n + 1) := by
  rw [List.take_add_one, get_cf hn]
  exact trim_snoc_ne _ h
end RM

namespace RM
/-- the sum of two rows, place by place, the second times a factor -/
def linL (f : Int) (a b : List Int) : List Int := (List.range (max a.length b.length)).map fun k => cf a k + f * cf b k
theorem cf_linL (f : Int) (a b : List Int) (k : Nat) : cf (linL f a b) k = cf a k + f * cf b k := by
  unfold linL
  rw [cf_map_range]
  by_cases h : k < max a.length b.length
  · rw [if_pos h]
  · have h1 : a.length ≤ k := by omega
    have h2 : b.length ≤ k := by omega
    rw [if_neg h, cf_ge h1, cf_ge h2]; simp
def addL (a b : List Int) : List Int := trim (linL 1 a b)
/-- the terms of a product's coefficient -/
def tm (a b : List Int) (n i : Nat) : Int := if i ≤ n then cf a i * cf b (n - i) else 0
def sm (a b : List Int) (n : Nat) : Nat → Int
  | 0 => 0
  | j + 1 => sm a b n j + tm a b n j
def mulc (a b : List Int) (n : Nat) : Int := sm a b n a.length
def mulL (a b : List Int) : List Int := if a = [] ∨ b = [] then [] else (List.range (a.length + b.length - 1)).map (mulc a b)
theorem tm_zero_left {a b : List Int} {n i : Nat} (h : a.length ≤ i) : tm a b n i = 0 := by
  unfold tm; split
  · rw [cf_ge h, Int.zero_mul]
  · rfl
theorem tm_zero_right {a b : List Int} {n i : Nat} (h : b.length ≤ n - i) : tm a b n i = 0 := by
  unfold tm; split
  · rw [cf_ge h, Int.mul_zero]
  · rfl
theorem sm_zero {a b : List Int} {n : Nat} : ∀ {j : Nat}, (∀ i, i < j → tm a b n i = 0) → sm a b n j = 0
  | 0, _ => rfl
  | j + 1, h => by
    rw [sm, sm_zero fun i hi => h i (Nat.lt_succ_of_lt hi), h j (Nat.lt_succ_self _)]; rfl
theorem mulc_big {a b : List Int} {n : Nat} (h : a.length + b.length ≤ n + 1) : mulc a b n = 0 := by
  apply sm_zero
  intro i hi
  exact tm_zero_right (by omega)
theorem mulc_top {a b : List Int} {la lb : Nat} (ha : a.length = la + 1) (hb : b.length = lb + 1) : mulc a b (la + lb) = cf a la * cf b lb := by
  unfold mulc
  rw [ha, sm, sm_zero fun i hi => tm_zero_right (by omega)]
  unfold tm
  rw [if_pos (Nat.le_add_right _ _), Nat.add_sub_cancel_left, Int.zero_add]
theorem cf_mulL (a b : List Int) (n : Nat) : cf (mulL a b) n = mulc a b n := by
  unfold mulL
  by_cases h : a = [] ∨ b = []
  · rw [if_pos h, cf_nil]
    symm
    apply sm_zero
    intro i hi
    rcases h with rfl | rfl
    · simp at hi
    · exact tm_zero_right (Nat.zero_le _)
  · rw [if_neg h, cf_map_range]
    by_cases hn : n < a.length + b.length - 1
    · rw [if_pos hn]
    · rw [if_neg hn, mulc_big (by omega)]
theorem tr_mulL {a b : List Int} (ha : Tr a) (hb : Tr b) : Tr (mulL a b) := by
  intro n hn
  rw [cf_mulL]
  by_cases h : a = [] ∨ b = []
  · unfold mulL at hn; rw [if_pos h] at hn; simp at hn
  · have h1 : a ≠ [] := fun z => h (.inl z)
    have h2 : b ≠ [] := fun z => h (.inr z)
    obtain ⟨la, ea⟩ : ∃ la, a.length = la + 1 := ⟨a.length - 1, by have := List.length_pos_iff.mpr h1; omega⟩
    obtain ⟨lb, eb⟩ : ∃ lb, b.length = lb + 1 := ⟨b.length - 1, by have := List.length_pos_iff.mpr h2; omega⟩
    unfold mulL at hn
    rw [if_neg h, List.length_map, List.length_range] at hn
    have e : n = la + lb := by omega
    subst e
    rw [mulc_top ea eb]
    exact Int.mul_ne_zero (ha la ea) (hb lb eb)
/-- one more term laid on -/
theorem mul_step {a b acc : List Int} {j k : Nat} (hj : j < a.length) (hk : k < b.length) (hl : j + k < acc.length)
    (h : ∀ n, n < acc.length → cf acc n = sm a b n j + (if j ≤ n ∧ n - j < k then tm a b n j else 0)) :
    ∀ n, n < (acc.set (j + k) (cf acc (j + k) + cf a j * cf b k)).length → cf (acc.set (j + k) (cf acc (j + k) + cf a j * cf b k)) n = sm a b n j + (if j ≤ n ∧ n - j < k + 1 then tm a b n j else 0) := by
  intro n hn
  rw [List.length_set] at hn
  rw [cf_set hl]
  by_cases e : n = j + k
  · subst e
    rw [if_pos rfl, h _ hl, if_neg (by omega), if_pos ⟨by omega, by omega⟩]
    unfold tm
    rw [if_pos (by omega), Nat.add_sub_cancel_left, Int.add_zero]
  · rw [if_neg e, h n hn]
    congr 1
    by_cases h1 : j ≤ n ∧ n - j < k
    · rw [if_pos h1, if_pos ⟨h1.1, by omega⟩]
    · rw [if_neg h1, if_neg (by omega)]
theorem mul_row {a b acc : List Int} {j : Nat} (h : ∀ n, n < acc.length → cf acc n = sm a b n j + (if j ≤ n ∧ n - j < b.length then tm a b n j else 0)) : ∀ n, n < acc.length → cf acc n = sm a b n (j + 1) := by
  intro n hn
  rw [h n hn, sm]
  congr 1
  by_cases h1 : j ≤ n ∧ n - j < b.length
  · rw [if_pos h1]
  · rw [if_neg h1]
    by_cases h2 : j ≤ n
    · rw [tm_zero_right (by omega)]
    · unfold tm; rw [if_neg h2]
theorem mul_start {a b acc : List Int} {j : Nat} (h : ∀ n, n < acc.length → cf acc n = sm a b n j) : ∀ n, n < acc.length → cf acc n = sm a b n j + (if j ≤ n ∧ n - j < 0 then tm a b n j else 0) := by
  intro n hn
  rw [if_neg (by omega), Int.add_zero]; exact h n hn
theorem mul_end {a b acc : List Int} (hl : a.length + b.length ≤ acc.length + 1) (h : ∀ n, n < acc.length → cf acc n = sm a b n a.length) (n : Nat) : cf acc n = mulc a b n := by
  by_cases hn : n < acc.length
  · exact h n hn
  · rw [cf_ge (Nat.le_of_not_lt hn), mulc_big (by omega)]
end RM
namespace RM
theorem addL_eq (a b : List Int) : trim ((List.range (max a.length b.length)).map fun k => cf a k + cf b k) = addL a b := by
  unfold addL linL
  congr 2; funext k; rw [Int.one_mul]
end RM

/-! Fractions in lowest terms: plain mathematics -/
namespace RM
/-- the divisor with the bottom's sign -/
def dv (t b : Int) : Int := if b < 0 then -((Nat.gcd t.natAbs b.natAbs : Nat) : Int) else ((Nat.gcd t.natAbs b.natAbs : Nat) : Int)
def rt (t b : Int) : Int := t.fdiv (dv t b)
def rb (t b : Int) : Int := b.fdiv (dv t b)
theorem gcd_pos {t b : Int} (hb : b ≠ 0) : 0 < Nat.gcd t.natAbs b.natAbs := Nat.gcd_pos_of_pos_right _ (Int.natAbs_pos.mpr hb)
theorem dv_ne {t b : Int} (hb : b ≠ 0) : dv t b ≠ 0 := by
  have := @gcd_pos t b hb
  unfold dv; split <;> omega
theorem dv_abs (t b : Int) : (dv t b).natAbs = Nat.gcd t.natAbs b.natAbs := by unfold dv; split <;> omega
theorem dv_dvd_left (t b : Int) : dv t b ∣ t := Int.natAbs_dvd_natAbs.mp (by rw [dv_abs]; exact Nat.gcd_dvd_left _ _)
theorem dv_dvd_right (t b : Int) : dv t b ∣ b := Int.natAbs_dvd_natAbs.mp (by rw [dv_abs]; exact Nat.gcd_dvd_right _ _)
theorem fdiv_of_dvd {a d : Int} (hd : d ≠ 0) (h : d ∣ a) : d * a.fdiv d = a := by
  obtain ⟨c, rfl⟩ := h
  rw [Int.mul_fdiv_cancel_left c hd]
theorem rt_eq {t b : Int} (hb : b ≠ 0) : dv t b * rt t b = t := fdiv_of_dvd (dv_ne hb) (dv_dvd_left t b)
theorem rb_eq {t b : Int} (hb : b ≠ 0) : dv t b * rb t b = b := fdiv_of_dvd (dv_ne hb) (dv_dvd_right t b)
theorem rb_pos {t b : Int} (hb : b ≠ 0) : 0 < rb t b := by
  have h1 := @rb_eq t b hb
  have h2 := @gcd_pos t b hb
  by_cases hn : b < 0
  · have hd : dv t b < 0 := by unfold dv; rw [if_pos hn]; omega
    apply Classical.byContradiction
    intro h
    have : 0 ≤ dv t b * rb t b := Int.mul_nonneg_of_nonpos_of_nonpos (Int.le_of_lt hd) (by omega)
    omega
  · have hd : 0 < dv t b := by unfold dv; rw [if_neg hn]; omega
    apply Classical.byContradiction
    intro h
    have : dv t b * rb t b ≤ 0 := Int.mul_nonpos_of_nonneg_of_nonpos (Int.le_of_lt hd) (by omega)
    omega
theorem r_gcd {t b : Int} (hb : b ≠ 0) : Nat.gcd (rt t b).natAbs (rb t b).natAbs = 1 := by
  have h1 : t.natAbs = Nat.gcd t.natAbs b.natAbs * (rt t b).natAbs := by
    rw [← dv_abs, ← Int.natAbs_mul, rt_eq hb]
  have h2 : b.natAbs = Nat.gcd t.natAbs b.natAbs * (rb t b).natAbs := by
    rw [← dv_abs, ← Int.natAbs_mul, rb_eq hb]
  have hp := @gcd_pos t b hb
  have e : Nat.gcd t.natAbs b.natAbs = Nat.gcd t.natAbs b.natAbs * Nat.gcd (rt t b).natAbs (rb t b).natAbs := by
    rw [← Nat.gcd_mul_left, ← h1, ← h2]
  exact (Nat.eq_of_mul_eq_mul_left hp (by rw [Nat.mul_one]; exact e)).symm
theorem r_cross {t b : Int} (hb : b ≠ 0) : rt t b * b = t * rb t b := by
  have e1 := @rt_eq t b hb
  have e2 := @rb_eq t b hb
  calc rt t b * b = rt t b * (dv t b * rb t b) := by rw [e2]
    _ = (dv t b * rt t b) * rb t b := by rw [← Int.mul_assoc, Int.mul_comm (rt t b)]
    _ = t * rb t b := by rw [e1]
theorem rt_abs {t b : Int} (hb : b ≠ 0) : (rt t b).natAbs ≤ t.natAbs := by
  have h1 : t.natAbs = Nat.gcd t.natAbs b.natAbs * (rt t b).natAbs := by rw [← dv_abs, ← Int.natAbs_mul, rt_eq hb]
  rw [h1]; exact Nat.le_mul_of_pos_left _ (gcd_pos hb)
theorem rb_abs {t b : Int} (hb : b ≠ 0) : (rb t b).natAbs ≤ b.natAbs := by
  have h1 : b.natAbs = Nat.gcd t.natAbs b.natAbs * (rb t b).natAbs := by rw [← dv_abs, ← Int.natAbs_mul, rb_eq hb]
  rw [h1]; exact Nat.le_mul_of_pos_left _ (gcd_pos hb)
/-- the sign -/
def sg (x : Int) : Int := if x < 0 then -1 else if 0 < x then 1 else 0
theorem sg_neg (x : Int) : sg (-x) = -sg x := by unfold sg; split <;> split <;> (try split) <;> (try split) <;> omega
theorem sg_mul_pos {x p : Int} (hp : 0 < p) : sg (x * p) = sg x := by
  unfold sg
  by_cases h1 : x < 0
  · rw [if_pos h1, if_pos (Int.mul_neg_of_neg_of_pos h1 hp)]
  · by_cases h2 : 0 < x
    · have := Int.mul_pos h2 hp
      rw [if_neg h1, if_pos h2, if_neg (by omega), if_pos this]
    · obtain rfl : x = 0 := by omega
      simp
end RM

/-! The value of a row at t/b, cleared of bottoms (behind MathPoly, MathRatio) -/
namespace RM
def hv (t b : Int) : List Int → Int
  | [] => 0
  | v :: l => v * b ^ (l.length + 1) + t * hv t b l
theorem hv_nil (t b : Int) : hv t b [] = 0 := rfl
theorem hv_cons (t b v : Int) (l : List Int) : hv t b (v :: l) = v * b ^ (l.length + 1) + t * hv t b l := rfl
/-- a row times (b x - a), with what is carried in -/
def mb (a b : Int) : Int → List Int → List Int
  | c, [] => [c]
  | c, x :: l => (-a * x + c) :: mb a b (b * x) l
theorem mb_len (a b : Int) : ∀ (c : Int) (l : List Int), (mb a b c l).length = l.length + 1
  | c, [] => rfl
  | c, x :: l => by show (mb a b (b * x) l).length + 1 = _; rw [mb_len]; rfl
theorem cf_mb (a b : Int) : ∀ (c : Int) (l : List Int) (k : Nat), cf (mb a b c l) k = -a * cf l k + (if k = 0 then c else b * cf l (k - 1))
  | c, [], 0 => by show c = _; rw [cf_nil]; simp
  | c, [], k + 1 => by show cf [] k = _; rw [cf_nil, cf_nil]; simp [cf_nil]
  | c, x :: l, 0 => rfl
  | c, x :: l, k + 1 => by
    show cf (mb a b (b * x) l) k = _
    rw [cf_mb a b (b * x) l k, cf_succ, if_neg (Nat.succ_ne_zero k)]
    cases k with
    | zero => rfl
    | succ k => rw [if_neg (Nat.succ_ne_zero k)]; rfl
theorem hv_mb (t u a b : Int) : ∀ (c : Int) (l : List Int), hv t u (mb a b c l) = c * u ^ (l.length + 1) + (b * t - a * u) * hv t u l
  | c, [] => by show c * u ^ 1 + t * 0 = c * u ^ 1 + (b * t - a * u) * 0; simp
  | c, x :: l => by
    show (-a * x + c) * u ^ ((mb a b (b * x) l).length + 1) + t * hv t u (mb a b (b * x) l) = c * u ^ (l.length + 1 + 1) + (b * t - a * u) * (x * u ^ (l.length + 1) + t * hv t u l)
    rw [hv_mb t u a b (b * x) l, mb_len]
    generalize hv t u l = h
    rw [Int.pow_succ u (l.length + 1)]
    generalize u ^ (l.length + 1) = p
    grind
theorem cf_two (x y : Int) (k : Nat) : cf [x, y] k = if k = 0 then x else if k = 1 then y else 0 := by
  rcases k with _ | _ | k
  · rfl
  · rfl
  · rw [if_neg (by omega), if_neg (by omega)]; exact cf_ge (by simp)
theorem sm_two (l : List Int) (x y : Int) (n : Nat) : ∀ j, sm l [x, y] n j = (if n < j then cf l n * x else 0) + (if 1 ≤ n ∧ n - 1 < j then cf l (n - 1) * y else 0)
  | 0 => by rw [if_neg (by omega), if_neg (by omega)]; rfl
  | j + 1 => by
    show sm l [x, y] n j + tm l [x, y] n j = _
    rw [sm_two l x y n j]
    unfold tm
    rw [cf_two]
    grind
theorem mul_two {a b : Int} {l : List Int} (h : l ≠ []) : mulL l [-a, b] = mb a b 0 l := by
  apply ext_cf
  · rw [mb_len]; unfold mulL; rw [if_neg (by simp [h]), List.length_map, List.length_range]; simp
  · intro k _
    rw [cf_mulL, cf_mb]
    unfold mulc
    rw [sm_two]
    have e1 : (if k < l.length then cf l k * -a else 0) = -a * cf l k := by
      by_cases hk : k < l.length
      · rw [if_pos hk, Int.mul_comm]
      · rw [if_neg hk, cf_ge (Nat.le_of_not_lt hk), Int.mul_zero]
    have e2 : (if 1 ≤ k ∧ k - 1 < l.length then cf l (k - 1) * b else 0) = if k = 0 then 0 else b * cf l (k - 1) := by
      by_cases h0 : k = 0
      · rw [if_neg (by omega), if_pos h0]
      · rw [if_neg h0]
        by_cases hk : k - 1 < l.length
        · rw [if_pos (by omega), Int.mul_comm]
        · rw [if_neg (by omega), cf_ge (Nat.le_of_not_lt hk), Int.mul_zero]
    rw [e1, e2]
/-- t and b over one divisor -/
theorem hv_scale (g t b : Int) : ∀ l : List Int, hv (g * t) (g * b) l = g ^ l.length * hv t b l
  | [] => by simp [hv_nil]
  | v :: l => by
    rw [hv_cons, hv_cons, hv_scale g t b l, Int.mul_pow]
    show v * (g ^ (l.length + 1) * b ^ (l.length + 1)) + g * t * (g ^ l.length * hv t b l) = g ^ (l.length + 1) * (v * b ^ (l.length + 1) + t * hv t b l)
    rw [Int.pow_succ g l.length]
    generalize b ^ (l.length + 1) = p
    generalize g ^ l.length = q
    generalize hv t b l = h
    grind
theorem pow_ne {g : Int} (h : g ≠ 0) (n : Nat) : g ^ n ≠ 0 := by
  induction n with
  | zero => simp
  | succ n ih => rw [Int.pow_succ]; exact Int.mul_ne_zero ih h
theorem pow_pos' {g : Int} (h : 0 < g) (n : Nat) : 0 < g ^ n := by
  induction n with
  | zero => simp
  | succ n ih => rw [Int.pow_succ]; exact Int.mul_pos ih h
/-- the word that the row's value at t/b is top/bot -/
def At (l : List Int) (t b top bot : Int) : Prop := hv t b l * bot = top * b ^ l.length
/-- the value as a fraction in least terms -/
theorem At.value {l : List Int} {t b top bot : Int} (hb : 0 < b) (h : At l t b top bot) : rt (hv t b l) (b ^ l.length) * bot = top * rb (hv t b l) (b ^ l.length) := by
  unfold At at h
  have hp : b ^ l.length ≠ 0 := pow_ne (Int.ne_of_gt hb) _
  have c := r_cross (t := hv t b l) hp
  refine Int.eq_of_mul_eq_mul_right hp ?_
  generalize b ^ l.length = p at *
  generalize hv t b l = x at *
  generalize rt x p = r at *
  generalize rb x p = s at *
  grind
theorem At.sign {l : List Int} {t b top bot : Int} (hb : 0 < b) (hbot : 0 < bot) (h : At l t b top bot) : sg (hv t b l) = sg top := by
  unfold At at h
  rw [← sg_mul_pos (x := hv t b l) hbot, h, sg_mul_pos (pow_pos' hb _)]
theorem hv_one (t u c : Int) : hv t u [c] = c * u := by
  show c * u ^ 1 + t * 0 = c * u
  grind
theorem drop_hv (t b : Int) {l : List Int} {n : Nat} (h : n < l.length) : hv t b (l.drop n) = cf l n * b ^ (l.length - n) + t * hv t b (l.drop (n + 1)) := by
  rw [List.drop_eq_getElem_cons h, hv_cons, List.length_drop, cf_lt h]
  have e : l.length - (n + 1) + 1 = l.length - n := by omega
  rw [e]
end RM

/-! Division of coefficient lists without fractions: plain mathematics (behind MathPoly) -/
namespace RM
/-- the step of the quotient: times c, and l laid down at place p -/
theorem sm_lay {q q' b : List Int} {c l : Int} {p n : Nat} (h : ∀ k, cf q' k = c * cf q k + (if k = p then l else 0)) :
    ∀ j, sm q' b n j = c * sm q b n j + (if p < j ∧ p ≤ n then l * cf b (n - p) else 0)
  | 0 => by rw [sm, sm, if_neg (by omega)]; simp
  | j + 1 => by
    rw [sm, sm, sm_lay h j]
    unfold tm
    by_cases hj : j ≤ n
    · rw [if_pos hj, if_pos hj, h j]
      by_cases e : j = p
      · subst e
        rw [if_pos rfl, if_neg (by omega), if_pos ⟨by omega, hj⟩]; grind
      · rw [if_neg e]
        by_cases h2 : p < j ∧ p ≤ n
        · rw [if_pos h2, if_pos ⟨by omega, h2.2⟩]; grind
        · rw [if_neg h2, if_neg (by omega)]; grind
    · rw [if_neg hj, if_neg hj]
      by_cases h2 : p < j ∧ p ≤ n
      · rw [if_pos h2, if_pos ⟨by omega, h2.2⟩]; grind
      · rw [if_neg h2, if_neg (by omega)]; grind
theorem mulc_lay {q q' b : List Int} {c l : Int} {p n : Nat} (hl : q'.length = q.length) (hp : p < q.length) (h : ∀ k, cf q' k = c * cf q k + (if k = p then l else 0)) :
    mulc q' b n = c * mulc q b n + (if p ≤ n then l * cf b (n - p) else 0) := by
  unfold mulc
  rw [hl, sm_lay h]
  by_cases h2 : p ≤ n
  · rw [if_pos h2, if_pos ⟨hp, h2⟩]
  · rw [if_neg h2, if_neg (by omega)]
def scL (c : Int) (l : List Int) : List Int := l.map fun x => c * x
theorem length_scL (c : Int) (l : List Int) : (scL c l).length = l.length := by unfold scL; rw [List.length_map]
theorem cf_scL (c : Int) (l : List Int) (k : Nat) : cf (scL c l) k = c * cf l k := by
  by_cases h : k < l.length
  · unfold cf scL; simp [h]
  · rw [cf_ge (by rw [length_scL]; omega), cf_ge (by omega)]; simp
/-- what `lowered` tells: without the last, less l times b's coefficients from place p on -/
def lowL (r b : List Int) (p : Nat) (l : Int) : List Int := (List.range (r.length - 1)).map fun k => cf r k - (if p ≤ k then l * cf b (k - p) else 0)
theorem length_lowL (r b : List Int) (p : Nat) (l : Int) : (lowL r b p l).length = r.length - 1 := by unfold lowL; simp
theorem cf_lowL (r b : List Int) (p : Nat) (l : Int) (k : Nat) : cf (lowL r b p l) k = if k < r.length - 1 then cf r k - (if p ≤ k then l * cf b (k - p) else 0) else 0 := by
  unfold lowL; rw [cf_map_range]

theorem sg_self (x : Int) : sg x * x = (x.natAbs : Int) := by unfold sg; split <;> (try split) <;> omega
/-- one step of the division: (quotient, rest), i steps are still to go -/
def divStep (b : List Int) (z : List Int × List Int) (i : Nat) : List Int × List Int :=
  let s : Int := ((cf b (b.length - 1)).natAbs : Int)
  let l := sg (cf b (b.length - 1)) * cf z.2 (z.2.length - 1)
  ((scL s z.1).set i l, lowL (scL s z.2) b i l)
def divAt (a b : List Int) : Nat → List Int × List Int
  | 0 => (List.replicate (a.length + 1 - b.length) 0, a)
  | i + 1 => divStep b (divAt a b i) (a.length + 1 - b.length - 1 - i)
structure DivInv (a b : List Int) (i : Nat) : Prop where
  lq : (divAt a b i).1.length = a.length + 1 - b.length
  lr : (divAt a b i).2.length = a.length - i
  low : ∀ k, k + i < a.length + 1 - b.length → cf (divAt a b i).1 k = 0
  eqn : ∀ n, ((cf b (b.length - 1)).natAbs : Int) ^ i * cf a n = mulc (divAt a b i).1 b n + cf (divAt a b i).2 n
theorem mulc_zero {a b : List Int} {n : Nat} (h : ∀ k, cf a k = 0) : mulc a b n = 0 := by
  apply sm_zero; intro i _; unfold tm; rw [h i]; simp
theorem div_inv {a b : List Int} (hb : b ≠ []) : ∀ i, i ≤ a.length + 1 - b.length → DivInv a b i
  | 0, _ => ⟨by simp [divAt], by simp [divAt], fun k _ => by show cf (List.replicate _ 0) k = 0; rw [cf_replicate], fun n => by
      show _ = mulc (List.replicate _ 0) b n + cf a n
      rw [mulc_zero fun k => cf_replicate _ _]; simp⟩
  | i + 1, hi => by
    obtain ⟨lq, lr, low, eqn⟩ := div_inv (a := a) hb i (by omega)
    have hbl := List.length_pos_iff.mpr hb
    have e : divAt a b (i + 1) = divStep b (divAt a b i) (a.length + 1 - b.length - 1 - i) := rfl
    generalize hz : divAt a b i = z at lq lr low eqn
    have hp : a.length + 1 - b.length - 1 - i < (scL ((cf b (b.length - 1)).natAbs : Int) z.1).length := by rw [length_scL, lq]; omega
    have hq : ∀ k, cf (divStep b z (a.length + 1 - b.length - 1 - i)).1 k = ((cf b (b.length - 1)).natAbs : Int) * cf z.1 k + (if k = a.length + 1 - b.length - 1 - i then sg (cf b (b.length - 1)) * cf z.2 (z.2.length - 1) else 0) := by
      intro k
      unfold divStep
      dsimp only
      rw [cf_set hp, cf_scL]
      by_cases h : k = a.length + 1 - b.length - 1 - i
      · rw [if_pos h, if_pos h, low k (by omega)]; simp
      · rw [if_neg h, if_neg h]; simp
    have hlq : (divStep b z (a.length + 1 - b.length - 1 - i)).1.length = a.length + 1 - b.length := by
      unfold divStep; dsimp only; rw [List.length_set, length_scL, lq]
    refine ⟨?_, ?_, ?_, ?_⟩
    · rw [e, hz, hlq]
    · rw [e, hz]; unfold divStep; dsimp only; rw [length_lowL, length_scL, lr]; omega
    · intro k hk
      rw [e, hz, hq, if_neg (by omega), low k (by omega)]; simp
    · intro n
      rw [e, hz, mulc_lay (by rw [hlq, lq]) (by rw [lq]; omega) hq, Int.pow_succ]
      have en := eqn n
      unfold divStep
      dsimp only
      rw [cf_lowL, length_scL, cf_scL, lr]
      by_cases h1 : n < a.length - i - 1
      · rw [if_pos h1]
        by_cases h2 : a.length + 1 - b.length - 1 - i ≤ n
        · rw [if_pos h2]; grind
        · rw [if_neg h2]; grind
      · rw [if_neg h1]
        by_cases h3 : n = a.length - i - 1
        · have h2 : a.length + 1 - b.length - 1 - i ≤ n := by omega
          have h4 : n - (a.length + 1 - b.length - 1 - i) = b.length - 1 := by omega
          rw [if_pos h2, h4]
          have sg := sg_self (cf b (b.length - 1))
          rw [← h3]
          grind
        · have h2 : a.length + 1 - b.length - 1 - i ≤ n := by omega
          have hc : cf z.2 n = 0 := cf_ge (by rw [lr]; omega)
          rw [if_pos h2, cf_ge (l := b) (k := n - (a.length + 1 - b.length - 1 - i)) (by omega)]
          grind
def divN (a b : List Int) : Nat := a.length + 1 - b.length
def divF (a b : List Int) : Int := ((cf b (b.length - 1)).natAbs : Int) ^ divN a b
def divQ (a b : List Int) : List Int := (divAt a b (divN a b)).1
def divR (a b : List Int) : List Int := trim (divAt a b (divN a b)).2
theorem div_eqn {a b : List Int} (hb : b ≠ []) (n : Nat) : divF a b * cf a n = mulc (divQ a b) b n + cf (divR a b) n := by
  unfold divR divQ divF; rw [cf_trim]; exact (div_inv hb (divN a b) (Nat.le_refl _)).eqn n
theorem div_lenR {a b : List Int} (hb : b ≠ []) : (divR a b).length < b.length := by
  have h := (div_inv (a := a) hb (divN a b) (Nat.le_refl _)).lr
  have h2 := length_trim (divAt a b (divN a b)).2
  have hbl := List.length_pos_iff.mpr hb
  unfold divR
  unfold divN at *
  omega
theorem div_trR (a b : List Int) : Tr (divR a b) := tr_trim _
end RM

/-! What divides what: plain mathematics (behind MathDiv) -/
namespace RM
theorem sm_congr {a a' b b' : List Int} {n : Nat} (h1 : ∀ k, cf a k = cf a' k) (h2 : ∀ k, cf b k = cf b' k) : ∀ j, sm a b n j = sm a' b' n j
  | 0 => rfl
  | j + 1 => by rw [sm, sm, sm_congr h1 h2 j]; unfold tm; rw [h1 j, h2 (n - j)]
theorem sm_ge {a b : List Int} {n : Nat} : ∀ d, sm a b n (a.length + d) = mulc a b n
  | 0 => rfl
  | d + 1 => by rw [← Nat.add_assoc, sm, sm_ge d, tm_zero_left (by omega)]; omega
theorem sm_ge' {a b : List Int} {n N : Nat} (h : a.length ≤ N) : sm a b n N = mulc a b n := by
  obtain ⟨d, rfl⟩ := Nat.exists_eq_add_of_le h
  exact sm_ge d
theorem mulc_congr {a a' b b' : List Int} {n : Nat} (h1 : ∀ k, cf a k = cf a' k) (h2 : ∀ k, cf b k = cf b' k) : mulc a b n = mulc a' b' n := by
  rw [← sm_ge' (Nat.le_max_left a.length a'.length), ← sm_ge' (Nat.le_max_right a.length a'.length)]
  exact sm_congr h1 h2 _
theorem sm_lin {a b c q : List Int} {x y : Int} {n : Nat} (h : ∀ k, cf c k = x * cf a k + y * cf b k) : ∀ j, sm c q n j = x * sm a q n j + y * sm b q n j
  | 0 => by simp [sm]
  | j + 1 => by
    rw [sm, sm, sm, sm_lin h j]; unfold tm; rw [h j]
    by_cases hj : j ≤ n
    · rw [if_pos hj, if_pos hj, if_pos hj]; grind
    · rw [if_neg hj, if_neg hj, if_neg hj]; grind
theorem mulc_lin {a b c q : List Int} {x y : Int} {n : Nat} (h : ∀ k, cf c k = x * cf a k + y * cf b k) : mulc c q n = x * mulc a q n + y * mulc b q n := by
  have h1 : a.length ≤ a.length + b.length + c.length := by omega
  have h2 : b.length ≤ a.length + b.length + c.length := by omega
  have h3 : c.length ≤ a.length + b.length + c.length := by omega
  rw [← sm_ge' h1, ← sm_ge' h2, ← sm_ge' h3]
  exact sm_lin h _
theorem sm_right {a b b' : List Int} {c : Int} {n : Nat} (h : ∀ k, cf b' k = c * cf b k) : ∀ j, sm a b' n j = c * sm a b n j
  | 0 => by simp [sm]
  | j + 1 => by
    rw [sm, sm, sm_right h j]; unfold tm; rw [h (n - j)]
    by_cases hj : j ≤ n
    · rw [if_pos hj, if_pos hj]; grind
    · rw [if_neg hj, if_neg hj]; grind
theorem mulc_right {a b b' : List Int} {c : Int} {n : Nat} (h : ∀ k, cf b' k = c * cf b k) : mulc a b' n = c * mulc a b n := sm_right h _
theorem mulc_one' (c : Int) (l : List Int) (n : Nat) : mulc [c] l n = c * cf l n := by
  unfold mulc
  show sm [c] l n 0 + tm [c] l n 0 = _
  unfold sm tm
  rw [if_pos (Nat.zero_le _), cf_zero, Nat.sub_zero, Int.zero_add]
theorem nil_of_cf {l : List Int} (ht : Tr l) (h : ∀ k, cf l k = 0) : l = [] := by
  refine Classical.byContradiction fun hne => ?_
  have hl := List.length_pos_iff.mpr hne
  exact ht (l.length - 1) (by omega) (h _)
/-- what is times q of a degree less than q's is nought -/
theorem mulc_small {d q : List Int} (hq : q ≠ []) (hqt : Tr q) (h : ∀ n, q.length ≤ n + 1 → mulc d q n = 0) : ∀ k, cf d k = 0 := by
  have e : trim d = [] := by
    refine Classical.byContradiction fun hne => ?_
    have hl := List.length_pos_iff.mpr hne
    have hql := List.length_pos_iff.mpr hq
    have ht := tr_trim d ((trim d).length - 1) (by omega)
    have hb := hqt (q.length - 1) (by omega)
    have h1 := h ((trim d).length - 1 + (q.length - 1)) (by omega)
    rw [← mulc_congr (a := trim d) (b := q) (fun k => cf_trim d k) (fun _ => rfl), mulc_top (la := (trim d).length - 1) (lb := q.length - 1) (by omega) (by omega)] at h1
    exact Int.mul_ne_zero ht hb h1
  intro k
  rw [← cf_trim, e, cf_nil]
end RM

/-! The shared divisor: plain mathematics -/
namespace RM

/-- the mirror of shared -/
def gcdF (d : Nat) (l : List Int) : Nat := l.foldl (fun d v => Nat.gcd d v.natAbs) d
def gcdL (l : List Int) : Nat := gcdF 0 l
theorem gcdF_nil (d : Nat) : gcdF d [] = d := rfl
theorem gcdF_cons (d : Nat) (v : Int) (l : List Int) : gcdF d (v :: l) = gcdF (Nat.gcd d v.natAbs) l := rfl
theorem gcdF_snoc (d : Nat) (l : List Int) (v : Int) : gcdF d (l ++ [v]) = Nat.gcd (gcdF d l) v.natAbs := by
  unfold gcdF; rw [List.foldl_append]; rfl
theorem gcdL_snoc (l : List Int) (v : Int) : gcdL (l ++ [v]) = Nat.gcd (gcdL l) v.natAbs := gcdF_snoc 0 l v
theorem dvd_gcdF {m : Nat} : ∀ {l : List Int} {d : Nat}, m ∣ gcdF d l ↔ m ∣ d ∧ ∀ v ∈ l, m ∣ v.natAbs
  | [], d => by simp [gcdF_nil]
  | v :: l, d => by
    rw [gcdF_cons, dvd_gcdF, Nat.dvd_gcd_iff]
    simp only [List.mem_cons, forall_eq_or_imp]
    exact ⟨fun ⟨⟨a, b⟩, c⟩ => ⟨a, b, c⟩, fun ⟨a, b, c⟩ => ⟨⟨a, b⟩, c⟩⟩
theorem dvd_gcdL {m : Nat} {l : List Int} : m ∣ gcdL l ↔ ∀ v ∈ l, m ∣ v.natAbs := by
  unfold gcdL; rw [dvd_gcdF]; exact ⟨fun h => h.2, fun h => ⟨Nat.dvd_zero m, h⟩⟩
theorem gcdL_dvd {l : List Int} {v : Int} (h : v ∈ l) : gcdL l ∣ v.natAbs := dvd_gcdL.mp (Nat.dvd_refl _) v h
theorem gcdL_one (v : Int) : gcdL [v] = v.natAbs := by
  show Nat.gcd 0 v.natAbs = _; exact Nat.gcd_zero_left _
/-- Euclid's turn -/
theorem gcd_turn {a b : Int} (ha : 0 ≤ a) (hb : 0 < b) : Nat.gcd b.natAbs (a % b).natAbs = Nat.gcd a.natAbs b.natAbs := by
  have e : (a % b).natAbs = a.natAbs % b.natAbs := by
    obtain ⟨x, rfl⟩ := Int.eq_ofNat_of_zero_le ha
    obtain ⟨y, rfl⟩ := Int.eq_ofNat_of_zero_le (Int.le_of_lt hb)
    rfl
  rw [e, Nat.gcd_comm, ← Nat.gcd_rec, Nat.gcd_comm]

end RM

/-! Shrunk and plain: plain mathematics (behind MathGcd, MathPoly) -/
namespace RM
def shrL (l : List Int) : List Int := l.map fun x => x / (gcdL l : Int)
def lastI (l : List Int) : Int := cf l (l.length - 1)
theorem lastI_snoc (r : List Int) (x : Int) : lastI (r ++ [x]) = x := by
  unfold lastI; rw [List.length_append]; exact cf_last r x
def posL (l : List Int) : List Int := if lastI l < 0 then l.map fun x => -x else l
def plainL (l : List Int) : List Int := posL (shrL l)
theorem trim_map {c : Int → Int} (h0 : ∀ x, c x = 0 ↔ x = 0) : ∀ (n : Nat) (l : List Int), l.length = n → trim (l.map c) = (trim l).map c
  | 0, l, h => by rw [List.length_eq_zero_iff.mp h]; rfl
  | n + 1, l, h => by
    rcases snoc_cases l with rfl | ⟨r, x, rfl⟩
    · rfl
    · rw [List.map_append]
      show trim (r.map c ++ [c x]) = _
      by_cases hx : x = 0
      · subst hx
        rw [(h0 0).mpr rfl, trim_snoc_zero, trim_snoc_zero]
        exact trim_map h0 n r (by simpa using h)
      · rw [trim_snoc_ne r hx, trim_snoc_ne _ (fun z => hx ((h0 x).mp z)), List.map_append]; rfl
/-- the shared divisor is 1, or there is nothing -/
def Prim (l : List Int) : Prop := l = [] ∨ gcdL l = 1
theorem shrL_prim {l : List Int} (h : Prim l) : shrL l = l := by
  rcases h with rfl | h
  · rfl
  · unfold shrL; rw [h]
    conv => rhs; rw [← List.map_id l]
    apply List.map_congr_left
    intro x _
    show x / 1 = x
    exact Int.ediv_one x
theorem gcdL_map_unit {l : List Int} {s : Int} (hs : s = 1 ∨ s = -1) : gcdL (l.map fun x => x * s) = gcdL l := by
  have key : ∀ m : Nat, m ∣ gcdL (l.map fun x => x * s) ↔ m ∣ gcdL l := by
    intro m
    rw [dvd_gcdL, dvd_gcdL]
    have e : ∀ x : Int, (x * s).natAbs = x.natAbs := fun x => by
      rcases hs with rfl | rfl
      · rw [Int.mul_one]
      · rw [Int.mul_neg, Int.mul_one, Int.natAbs_neg]
    constructor
    · intro h v hv
      have := h (v * s) (List.mem_map.mpr ⟨v, hv, rfl⟩)
      rwa [e] at this
    · intro h v hv
      obtain ⟨u, hu, rfl⟩ := List.mem_map.mp hv
      rw [e]; exact h u hu
  exact Nat.dvd_antisymm ((key _).mp (Nat.dvd_refl _)) ((key _).mpr (Nat.dvd_refl _))
theorem prim_neg {l : List Int} (h : Prim l) : Prim (l.map fun x => -x) := by
  rcases h with rfl | h
  · exact .inl rfl
  · right
    have e : (l.map fun x => -x) = l.map fun x => x * (-1) := by
      apply List.map_congr_left; intro x _; omega
    rw [e, gcdL_map_unit (.inr rfl), h]
theorem lastI_map_neg (l : List Int) : lastI (l.map fun x => -x) = -lastI l := by
  rcases snoc_cases l with rfl | ⟨r, x, rfl⟩
  · rfl
  · rw [List.map_append]
    show lastI (r.map _ ++ [-x]) = _
    rw [lastI_snoc, lastI_snoc]
theorem prim_posL {l : List Int} (h : Prim l) : Prim (posL l) := by
  unfold posL; split
  · exact prim_neg h
  · exact h
theorem tr_map {c : Int → Int} (h0 : ∀ x, c x = 0 ↔ x = 0) {l : List Int} (h : Tr l) : Tr (l.map c) := by
  rw [← trim_of_tr h, ← trim_map h0 _ l rfl]; exact tr_trim _
theorem tr_posL {l : List Int} (h : Tr l) : Tr (posL l) := by
  unfold posL; split
  · exact tr_map (fun x => by omega) h
  · exact h
end RM

/-! Plain lists that differ by a factor (behind MathShr, MathDiv) -/
namespace RM
theorem gcdF_scL (c : Int) : ∀ (l : List Int) (d : Nat), gcdF (c.natAbs * d) (scL c l) = c.natAbs * gcdF d l
  | [], d => rfl
  | v :: l, d => by
    show gcdF (Nat.gcd (c.natAbs * d) (c * v).natAbs) (scL c l) = c.natAbs * gcdF (Nat.gcd d v.natAbs) l
    rw [Int.natAbs_mul, Nat.gcd_mul_left, gcdF_scL c l]
theorem gcdL_scL (c : Int) (l : List Int) : gcdL (scL c l) = c.natAbs * gcdL l := by
  have h := gcdF_scL c l 0
  rw [Nat.mul_zero] at h
  exact h
theorem int_dvd_gcdL {l : List Int} {x : Int} (h : x ∈ l) : (gcdL l : Int) ∣ x := Int.ofNat_dvd_left.mpr (gcdL_dvd h)
theorem shrL_scL_pos {c : Int} (hc : 0 < c) (l : List Int) : shrL (scL c l) = shrL l := by
  unfold shrL
  rw [gcdL_scL]
  unfold scL
  rw [List.map_map]
  refine List.map_congr_left fun x _ => ?_
  show c * x / ((c.natAbs * gcdL l : Nat) : Int) = x / (gcdL l : Int)
  have e : ((c.natAbs * gcdL l : Nat) : Int) = c * (gcdL l : Int) := by rw [Int.natCast_mul]; congr 1; omega
  rw [e, Int.mul_ediv_mul_of_pos _ _ hc]
theorem shrL_scL_neg {c : Int} (hc : c < 0) (l : List Int) : shrL (scL c l) = (shrL l).map fun x => -x := by
  unfold shrL
  rw [gcdL_scL]
  unfold scL
  rw [List.map_map, List.map_map]
  refine List.map_congr_left fun x hx => ?_
  show c * x / ((c.natAbs * gcdL l : Nat) : Int) = -(x / (gcdL l : Int))
  have e : ((c.natAbs * gcdL l : Nat) : Int) = (-c) * (gcdL l : Int) := by rw [Int.natCast_mul]; congr 1; omega
  have e2 : c * x = (-c) * (-x) := by rw [Int.neg_mul_neg]
  rw [e, e2, Int.mul_ediv_mul_of_pos _ _ (by omega : 0 < -c), Int.neg_ediv_of_dvd (int_dvd_gcdL hx)]
theorem posL_neg {m : List Int} (h : Tr m) : posL (m.map fun x => -x) = posL m := by
  rcases snoc_cases m with rfl | ⟨r, x, rfl⟩
  · rfl
  have hx : x ≠ 0 := tr_snoc.mp h
  have h1 := lastI_map_neg (r ++ [x])
  rw [lastI_snoc] at h1
  unfold posL
  rw [h1, lastI_snoc]
  by_cases hn : x < 0
  · rw [if_neg (by omega), if_pos hn]
  · rw [if_pos (by omega), if_neg hn, List.map_map]
    rw [show ((fun x : Int => -x) ∘ fun x : Int => -x) = id from by funext y; simp]
    exact List.map_id _
theorem tr_shrL {l : List Int} (h : Tr l) : Tr (shrL l) := by
  intro n hn
  have hl : l.length = n + 1 := by rw [← hn]; unfold shrL; rw [List.length_map]
  have hx := h n hl
  have hm : cf l n ∈ l := by rw [cf_lt (by omega)]; exact List.getElem_mem _
  have e : cf (shrL l) n = cf l n / (gcdL l : Int) := by
    have h1 : n < l.length := by omega
    unfold shrL cf
    simp [List.getD, h1]
  rw [e]
  intro z
  have d := int_dvd_gcdL hm
  have := Int.mul_ediv_cancel' d
  rw [z, Int.mul_zero] at this
  exact hx this.symm
theorem plainL_scL {c : Int} (hc : c ≠ 0) {l : List Int} (h : Tr l) : plainL (scL c l) = plainL l := by
  unfold plainL
  by_cases hp : 0 < c
  · rw [shrL_scL_pos hp]
  · rw [shrL_scL_neg (by omega), posL_neg (tr_shrL h)]
theorem tr_scL {c : Int} (hc : c ≠ 0) {l : List Int} (h : Tr l) : Tr (scL c l) := by
  intro n hn
  rw [length_scL] at hn
  rw [cf_scL]
  exact Int.mul_ne_zero hc (h n hn)
theorem plain_prop {a b : List Int} {x y : Int} (hx : x ≠ 0) (hy : y ≠ 0) (ha : Tr a) (hb : Tr b) (h : ∀ k, x * cf a k = y * cf b k) : plainL a = plainL b := by
  have e : scL x a = scL y b := eq_of_cf (tr_scL hx ha) (tr_scL hy hb) fun k => by rw [cf_scL, cf_scL, h k]
  rw [← plainL_scL hx ha, e, plainL_scL hy hb]
end RM

/-! Slope, turned, flipped, lifted: plain mathematics (behind MathPoly) -/
namespace RM
/-- the places laid so far -/
def lp (l : List Int) (m i n : Nat) : Int := if n % m = 0 ∧ n / m < i then cf l (n / m) else 0
end RM

/-! The product's laws: by its first factor's items; commutative, associative (behind MathDiv2) -/
namespace RM
/-- the items one place up -/
def up (f : Nat → Int) (n : Nat) : Int := if n = 0 then 0 else f (n - 1)
theorem sm_cons (x : Int) (a b : List Int) (n : Nat) : ∀ j, sm (x :: a) b n (j + 1) = x * cf b n + (if n = 0 then 0 else sm a b (n - 1) j)
  | 0 => by
    show 0 + tm (x :: a) b n 0 = _
    unfold tm
    rw [if_pos (Nat.zero_le _)]
    rw [cf_zero, Nat.sub_zero]
    by_cases h : n = 0
    · rw [if_pos h]; omega
    · rw [if_neg h]; show _ = _ + 0; omega
  | j + 1 => by
    show sm (x :: a) b n (j + 1) + tm (x :: a) b n (j + 1) = _
    rw [sm_cons x a b n j]
    by_cases h : n = 0
    · rw [if_pos h, if_pos h]
      unfold tm
      rw [if_neg (by omega)]; omega
    · rw [if_neg h, if_neg h]
      show _ = _ + (sm a b (n - 1) j + tm a b (n - 1) j)
      have e : tm (x :: a) b n (j + 1) = tm a b (n - 1) j := by
        unfold tm
        rw [cf_succ]
        by_cases h2 : j + 1 ≤ n
        · rw [if_pos h2, if_pos (by omega)]
          congr 2; omega
        · rw [if_neg h2, if_neg (by omega)]
      rw [e]; omega
theorem mulc_cons (x : Int) (a b : List Int) (n : Nat) : mulc (x :: a) b n = x * cf b n + up (mulc a b) n := sm_cons x a b n a.length
theorem mulc_nil (b : List Int) (n : Nat) : mulc [] b n = 0 := rfl
theorem cf_cons_up (x : Int) (a : List Int) (n : Nat) : cf (x :: a) n = (if n = 0 then x else 0) + up (cf a) n := by
  cases n with
  | zero => show x = x + 0; omega
  | succ n => show cf a n = 0 + cf a n; omega
theorem mulc_cons_right (y : Int) (b : List Int) : ∀ (a : List Int) (n : Nat), mulc a (y :: b) n = y * cf a n + up (mulc a b) n
  | [], n => by
    rw [mulc_nil, cf_nil]
    unfold up
    split
    · simp
    · rw [mulc_nil]; simp
  | x :: a, n => by
    rw [mulc_cons, cf_cons_up, cf_cons_up]
    cases n with
    | zero =>
      show x * (y + 0) + 0 = y * (x + 0) + 0
      simp only [Int.add_zero]; exact Int.mul_comm _ _
    | succ n =>
      show x * (0 + cf b n) + mulc a (y :: b) n = y * (0 + cf a n) + mulc (x :: a) b n
      rw [mulc_cons_right y b a n, mulc_cons]
      simp only [Int.zero_add]
      omega
theorem mulc_nil_right : ∀ (a : List Int) (n : Nat), mulc a [] n = 0
  | [], n => rfl
  | x :: a, n => by
    rw [mulc_cons, cf_nil]
    unfold up
    split
    · simp
    · rw [mulc_nil_right a]; simp
theorem mulc_comm : ∀ (a b : List Int) (n : Nat), mulc a b n = mulc b a n
  | [], b, n => by rw [mulc_nil_right]; rfl
  | x :: a, b, n => by
    rw [mulc_cons, mulc_cons_right]
    congr 1
    unfold up
    split
    · rfl
    · exact mulc_comm a b _
theorem cf_shift (a : List Int) (n : Nat) : cf (0 :: a) n = up (cf a) n := by
  rw [cf_cons_up]; split <;> omega
theorem mulc_shift (a b : List Int) (n : Nat) : mulc (0 :: a) b n = up (mulc a b) n := by
  rw [mulc_cons]; omega
theorem mulc_assoc : ∀ (a b c : List Int) (n : Nat), mulc (mulL a b) c n = mulc a (mulL b c) n
  | [], b, c, n => by
    rw [mulc_nil, mulc_zero fun k => by rw [cf_mulL, mulc_nil]]
  | x :: a, b, c, n => by
    rw [mulc_cons, cf_mulL]
    have e : ∀ k, cf (mulL (x :: a) b) k = x * cf b k + 1 * cf (0 :: mulL a b) k := fun k => by
      rw [cf_mulL, mulc_cons, cf_shift, Int.one_mul]
      congr 1
      unfold up
      split
      · rfl
      · rw [cf_mulL]
    rw [mulc_lin e, mulc_shift, Int.one_mul]
    congr 1
    unfold up
    split
    · rfl
    · exact mulc_assoc a b c _
end RM

/-! Divisors, with any factor; what the chain of plain rests ends with (behind MathRing, MathPlain) -/
namespace RM
/-- d divides p, with fractions -/
def Dv (d p : List Int) : Prop := ∃ (c : Int) (q : List Int), c ≠ 0 ∧ ∀ n, c * cf p n = mulc q d n
theorem Dv.refl (d : List Int) : Dv d d := ⟨1, [1], by decide, fun n => by rw [mulc_one']⟩
theorem Dv.nil (d : List Int) : Dv d [] := ⟨1, [], by decide, fun n => by rw [cf_nil, mulc_nil]; rfl⟩
theorem Dv.trans {d e p : List Int} (h1 : Dv d e) (h2 : Dv e p) : Dv d p := by
  obtain ⟨c1, q1, hc1, e1⟩ := h1
  obtain ⟨c2, q2, hc2, e2⟩ := h2
  refine ⟨c1 * c2, mulL q2 q1, Int.mul_ne_zero hc1 hc2, fun n => ?_⟩
  rw [mulc_assoc, Int.mul_assoc, e2, ← mulc_right (b' := mulL q1 d) (fun k => by rw [cf_mulL, e1])]
/-- f a = q b + r: who divides b and r divides a, who divides a and b divides r -/
theorem Dv.up {d a b r q : List Int} {f : Int} (hf : f ≠ 0) (h : ∀ n, f * cf a n = mulc q b n + cf r n) (hb : Dv d b) (hr : Dv d r) : Dv d a := by
  obtain ⟨c1, q1, hc1, e1⟩ := hb
  obtain ⟨c2, q2, hc2, e2⟩ := hr
  refine ⟨c1 * c2 * f, linL c1 (scL c2 (mulL q q1)) q2, Int.mul_ne_zero (Int.mul_ne_zero hc1 hc2) hf, fun n => ?_⟩
  rw [mulc_lin (a := mulL q q1) (b := q2) (x := c2) (y := c1) (fun k => by rw [cf_linL, cf_scL]), mulc_assoc, ← e2, mulc_right (b := b) (b' := mulL q1 d) (c := c1) (fun k => by rw [cf_mulL, e1])]
  have := h n
  grind
theorem Dv.down {d a b r q : List Int} {f : Int} (h : ∀ n, f * cf a n = mulc q b n + cf r n) (ha : Dv d a) (hb : Dv d b) : Dv d r := by
  obtain ⟨c1, q1, hc1, e1⟩ := ha
  obtain ⟨c2, q2, hc2, e2⟩ := hb
  refine ⟨c1 * c2, linL (-c1) (scL (f * c2) q1) (mulL q q2), Int.mul_ne_zero hc1 hc2, fun n => ?_⟩
  rw [mulc_lin (a := q1) (b := mulL q q2) (x := f * c2) (y := -c1) (fun k => by rw [cf_linL, cf_scL]), mulc_assoc, ← e1, mulc_right (b := b) (b' := mulL q2 d) (c := c2) (fun k => by rw [cf_mulL, e2])]
  have := h n
  grind
theorem Dv.prop_right {d p p' : List Int} {x y : Int} (hx : x ≠ 0) (h : ∀ n, x * cf p' n = y * cf p n) (hd : Dv d p) : Dv d p' := by
  obtain ⟨c, q, hc, e⟩ := hd
  refine ⟨c * x, scL y q, Int.mul_ne_zero hc hx, fun n => ?_⟩
  rw [mulc_lin (a := q) (b := []) (x := y) (y := 0) (fun k => by rw [cf_scL]; simp), ← e]
  have := h n
  grind
theorem plain_scale {l : List Int} (h : Tr l) : ∃ g : Int, g ≠ 0 ∧ ∀ n, cf l n = g * cf (plainL l) n := by
  by_cases hl : l = []
  · subst hl
    exact ⟨1, by decide, fun n => by rw [cf_nil]; show 0 = 1 * cf [] n; rw [cf_nil]; rfl⟩
  have hg : (gcdL l : Int) ≠ 0 := by
    obtain ⟨r, x, rfl⟩ := (snoc_cases l).resolve_left hl
    have hx : x ≠ 0 := tr_snoc.mp h
    have h1 : 0 < gcdL (r ++ [x]) := Nat.pos_of_dvd_of_pos (gcdL_dvd (by simp : x ∈ r ++ [x])) (Int.natAbs_pos.mpr hx)
    omega
  have e1 : ∀ n, cf l n = (gcdL l : Int) * cf (shrL l) n := fun n => by
    unfold shrL
    by_cases hn : n < l.length
    · rw [cf_lt hn, cf_lt (by rw [List.length_map]; exact hn), List.getElem_map]
      exact (Int.mul_ediv_cancel' (int_dvd_gcdL (List.getElem_mem hn))).symm
    · rw [cf_ge (by omega), cf_ge (by rw [List.length_map]; omega), Int.mul_zero]
  unfold plainL posL
  split
  · refine ⟨-(gcdL l : Int), by omega, fun n => ?_⟩
    have e2 : cf ((shrL l).map fun x => -x) n = -cf (shrL l) n := by
      by_cases hn : n < (shrL l).length
      · rw [cf_lt hn, cf_lt (by rw [List.length_map]; exact hn), List.getElem_map]
      · rw [cf_ge (l := shrL l) (by omega), cf_ge (l := (shrL l).map fun x => -x) (by rw [List.length_map]; omega)]; rfl
    rw [e1, e2]; grind
  · exact ⟨_, hg, e1⟩
theorem Dv.plain {d p : List Int} (hp : Tr p) : Dv d (plainL p) ↔ Dv d p := by
  obtain ⟨g, hg, e⟩ := plain_scale hp
  exact ⟨fun h => Dv.prop_right (x := 1) (y := g) (by decide) (fun n => by rw [e]; omega) h, fun h => Dv.prop_right (x := g) (y := 1) hg (fun n => by rw [← e]; omega) h⟩
theorem plain_len (l : List Int) : (plainL l).length = l.length := by
  unfold plainL posL shrL
  split <;> simp
theorem tr_plain {l : List Int} (h : Tr l) : Tr (plainL l) := tr_posL (tr_shrL h)
/-- no number above 1 divides m and all of a -/
def Cop (a : List Int) (m : Nat) : Prop := ∀ k : Nat, k ∣ m → (∀ n, (k : Int) ∣ cf a n) → k = 1
theorem gauss : ∀ (N : Nat) (a b : List Int) (m : Nat), a.length + b.length ≤ N → Cop a m → Cop b m → (∀ n, (m : Int) ∣ mulc a b n) → m = 1
  | _, [], b, m, _, h1, _, _ => h1 m (Nat.dvd_refl _) fun n => by rw [cf_nil]; exact Int.dvd_zero _
  | _, _ :: _, [], m, _, _, h2, _ => h2 m (Nat.dvd_refl _) fun n => by rw [cf_nil]; exact Int.dvd_zero _
  | 0, _ :: _, _ :: _, _, h, _, _, _ => absurd h (by simp)
  | N + 1, x :: a, y :: b, m, h, h1, h2, h3 => by
    have d1 : Nat.gcd m x.natAbs = 1 := by
      refine gauss N a (y :: b) _ (by simp at h ⊢; omega) (fun k hk hn => h1 k (Nat.dvd_trans hk (Nat.gcd_dvd_left _ _)) fun n => ?_) (fun k hk => h2 k (Nat.dvd_trans hk (Nat.gcd_dvd_left _ _))) fun n => ?_
      · cases n with
        | zero => exact Int.ofNat_dvd_left.mpr (Nat.dvd_trans hk (Nat.gcd_dvd_right _ _))
        | succ n => exact hn n
      · have e := mulc_cons x a (y :: b) (n + 1)
        have g1 : ((Nat.gcd m x.natAbs : Nat) : Int) ∣ mulc (x :: a) (y :: b) (n + 1) := Int.dvd_trans (Int.ofNat_dvd.mpr (Nat.gcd_dvd_left _ _)) (h3 _)
        have g2 : ((Nat.gcd m x.natAbs : Nat) : Int) ∣ x * cf (y :: b) (n + 1) := Int.dvd_mul_of_dvd_left (Int.ofNat_dvd_left.mpr (Nat.gcd_dvd_right _ _))
        have e2 : mulc a (y :: b) n = mulc (x :: a) (y :: b) (n + 1) - x * cf (y :: b) (n + 1) := by
          rw [e]; show _ = _ + mulc a (y :: b) n - _; omega
        rw [e2]; exact Int.dvd_sub g1 g2
    have d2 : Nat.gcd m y.natAbs = 1 := by
      refine gauss N (x :: a) b _ (by simp at h ⊢; omega) (fun k hk => h1 k (Nat.dvd_trans hk (Nat.gcd_dvd_left _ _))) (fun k hk hn => h2 k (Nat.dvd_trans hk (Nat.gcd_dvd_left _ _)) fun n => ?_) fun n => ?_
      · cases n with
        | zero => exact Int.ofNat_dvd_left.mpr (Nat.dvd_trans hk (Nat.gcd_dvd_right _ _))
        | succ n => exact hn n
      · have e := mulc_cons_right y b (x :: a) (n + 1)
        have g1 : ((Nat.gcd m y.natAbs : Nat) : Int) ∣ mulc (x :: a) (y :: b) (n + 1) := Int.dvd_trans (Int.ofNat_dvd.mpr (Nat.gcd_dvd_left _ _)) (h3 _)
        have g2 : ((Nat.gcd m y.natAbs : Nat) : Int) ∣ y * cf (x :: a) (n + 1) := Int.dvd_mul_of_dvd_left (Int.ofNat_dvd_left.mpr (Nat.gcd_dvd_right _ _))
        have e2 : mulc (x :: a) b n = mulc (x :: a) (y :: b) (n + 1) - y * cf (x :: a) (n + 1) := by
          rw [e]; show _ = _ + mulc (x :: a) b n - _; omega
        rw [e2]; exact Int.dvd_sub g1 g2
    have h0 := h3 0
    rw [mulc_cons] at h0
    have h0' : m ∣ x.natAbs * y.natAbs := by
      rw [← Int.natAbs_mul]
      refine Int.ofNat_dvd_left.mp ?_
      have e : x * cf (y :: b) 0 + up (mulc a (y :: b)) 0 = x * y := by
        show x * y + 0 = x * y; omega
      rwa [e] at h0
    have h4 : m ∣ y.natAbs := Nat.Coprime.dvd_of_dvd_mul_left d1 h0'
    rw [Nat.gcd_eq_left h4] at d2
    exact d2
theorem mem_cf {l : List Int} {v : Int} (h : v ∈ l) : ∃ n, n < l.length ∧ cf l n = v := by
  obtain ⟨n, hn, e⟩ := List.getElem_of_mem h
  exact ⟨n, hn, by rw [cf_lt hn, e]⟩
theorem cop_of {a : List Int} {m : Nat} (h : gcdL a = 1) : Cop a m := fun k _ hn => by
  have : k ∣ gcdL a := dvd_gcdL.mpr fun v hv => by
    obtain ⟨n, _, rfl⟩ := mem_cf hv
    exact Int.ofNat_dvd_left.mp (hn n)
  rw [h] at this
  exact Nat.dvd_one.mp this
theorem prim_mul {a b : List Int} (ha : gcdL a = 1) (hb : gcdL b = 1) : gcdL (mulL a b) = 1 := by
  refine gauss _ a b _ (Nat.le_refl _) (cop_of ha) (cop_of hb) fun n => ?_
  rw [← cf_mulL]
  by_cases hn : n < (mulL a b).length
  · rw [cf_lt hn]; exact int_dvd_gcdL (List.getElem_mem hn)
  · rw [cf_ge (by omega)]; exact Int.dvd_zero _
/-- a plain polynomial, not nought -/
structure Pln (l : List Int) : Prop where
  tr : Tr l
  ne : l ≠ []
  prim : gcdL l = 1
  pos : 0 < lastI l
theorem lastI_ne {l : List Int} (h : Tr l) (hne : l ≠ []) : lastI l ≠ 0 := by
  have := List.length_pos_iff.mpr hne
  exact h (l.length - 1) (by omega)
theorem Pln.plain {l : List Int} (h : Pln l) : plainL l = l := by
  unfold plainL
  rw [shrL_prim (.inr h.prim)]
  unfold posL
  rw [if_neg (by have := h.pos; omega)]
theorem shr_scale {l : List Int} : scL (gcdL l : Int) (shrL l) = l := by
  unfold scL shrL
  rw [List.map_map]
  refine (List.map_congr_left (g := id) fun x hx => ?_).trans (List.map_id _)
  exact Int.mul_ediv_cancel' (int_dvd_gcdL hx)
theorem pln_plain {l : List Int} (h : Tr l) (hne : l ≠ []) : Pln (plainL l) := by
  have hg : 0 < gcdL l := by
    obtain ⟨r, x, rfl⟩ := (snoc_cases l).resolve_left hne
    have hx : x ≠ 0 := tr_snoc.mp h
    exact Nat.pos_of_dvd_of_pos (gcdL_dvd (by simp : x ∈ r ++ [x])) (Int.natAbs_pos.mpr hx)
  have h1 : gcdL (shrL l) = 1 := by
    have e := gcdL_scL (gcdL l : Int) (shrL l)
    rw [shr_scale, Int.natAbs_natCast] at e
    exact Nat.eq_of_mul_eq_mul_left hg (by rw [← e, Nat.mul_one])
  have hs : shrL l ≠ [] := fun z => hne (by have := congrArg List.length z; unfold shrL at this; simpa using this)
  have hl := lastI_ne (tr_shrL h) hs
  have hp : gcdL (plainL l) = 1 := by
    rcases prim_posL (.inr h1 : Prim (shrL l)) with z | z
    · exact absurd (congrArg List.length z) (by
        have := plain_len l
        unfold plainL at this
        rw [this]
        exact fun q => hne (List.length_eq_zero_iff.mp q))
    · exact z
  refine ⟨tr_plain h, fun z => hne (List.length_eq_zero_iff.mp (by rw [← plain_len, z]; rfl)), hp, ?_⟩
  unfold plainL posL
  split
  · rw [lastI_map_neg]; omega
  · omega
theorem len_mulL {a b : List Int} (ha : a ≠ []) (hb : b ≠ []) : (mulL a b).length = a.length + b.length - 1 := by
  unfold mulL
  rw [if_neg (fun z => z.elim ha hb), List.length_map, List.length_range]
theorem last_mulL {a b : List Int} (ha : a ≠ []) (hb : b ≠ []) : lastI (mulL a b) = lastI a * lastI b := by
  have h1 := List.length_pos_iff.mpr ha
  have h2 := List.length_pos_iff.mpr hb
  unfold lastI
  rw [len_mulL ha hb, cf_mulL]
  have e : a.length + b.length - 1 - 1 = (a.length - 1) + (b.length - 1) := by omega
  rw [e, mulc_top (by omega) (by omega)]
theorem Pln.mul {a b : List Int} (ha : Pln a) (hb : Pln b) : Pln (mulL a b) := by
  refine ⟨tr_mulL ha.tr hb.tr, fun z => ?_, prim_mul ha.prim hb.prim, by rw [last_mulL ha.ne hb.ne]; exact Int.mul_pos ha.pos hb.pos⟩
  have h1 := List.length_pos_iff.mpr ha.ne
  have h2 := List.length_pos_iff.mpr hb.ne
  have := len_mulL ha.ne hb.ne
  rw [z] at this
  simp at this
  omega
/-- c p = q d, d plain: then plain q times d is plain p -/
theorem plain_mul {p q d : List Int} {c : Int} (hc : c ≠ 0) (hp : Tr p) (hpn : p ≠ []) (hq : Tr q) (hd : Pln d) (h : ∀ n, c * cf p n = mulc q d n) : mulL (plainL q) d = plainL p := by
  have hqn : q ≠ [] := fun z => by
    have h1 := List.length_pos_iff.mpr hpn
    have h2 := h (p.length - 1)
    rw [z, mulc_nil] at h2
    exact Int.mul_ne_zero hc (hp (p.length - 1) (by omega)) h2
  obtain ⟨g, hg, e⟩ := plain_scale hq
  have hm := (pln_plain hq hqn).mul hd
  rw [← hm.plain]
  refine plain_prop hg hc hm.tr hp fun k => ?_
  rw [h, cf_mulL, mulc_lin (a := plainL q) (b := []) (x := g) (y := 0) (c := q) (fun k => by rw [e]; simp), mulc_nil]
  simp
theorem Dv.trim {d p : List Int} (h : Dv d p) : ∃ (c : Int) (q : List Int), c ≠ 0 ∧ Tr q ∧ ∀ n, c * cf p n = mulc q d n := by
  obtain ⟨c, q, hc, e⟩ := h
  exact ⟨c, RM.trim q, hc, tr_trim q, fun n => by rw [e]; exact (mulc_congr (fun k => cf_trim q k) fun _ => rfl).symm⟩
/-- a plain divisor's fellow, whole -/
theorem Dv.fellow {d p : List Int} (hd : Pln d) (hp : Tr p) (hpn : p ≠ []) (h : Dv d p) : ∃ q, Pln q ∧ mulL q d = plainL p := by
  obtain ⟨c, q, hc, hq, e⟩ := h.trim
  have hqn : q ≠ [] := fun z => by
    have h1 := List.length_pos_iff.mpr hpn
    have h2 := e (p.length - 1)
    rw [z, mulc_nil] at h2
    exact Int.mul_ne_zero hc (hp (p.length - 1) (by omega)) h2
  exact ⟨plainL q, pln_plain hq hqn, plain_mul hc hp hpn hq hd e⟩
theorem Pln.const {l : List Int} (h : Pln l) (h1 : l.length = 1) : l = [1] := by
  obtain ⟨x, rfl⟩ : ∃ x, l = [x] := List.length_eq_one_iff.mp h1
  have h2 := h.prim
  rw [gcdL_one] at h2
  have h3 : 0 < x := h.pos
  have : x = 1 := by omega
  rw [this]
theorem one_mul (l : List Int) (h : Tr l) : mulL [1] l = l := by
  refine eq_of_cf (tr_mulL (tr_snoc (r := []).mpr (by decide)) h) h fun k => ?_
  rw [cf_mulL, mulc_one']; omega
/-- two plain ones that divide each other are one -/
theorem pln_same {a b : List Int} (ha : Pln a) (hb : Pln b) (h1 : Dv a b) (h2 : Dv b a) : a = b := by
  obtain ⟨q, hq, e⟩ := h1.fellow ha hb.tr hb.ne
  obtain ⟨r, hr, e'⟩ := h2.fellow hb ha.tr ha.ne
  rw [hb.plain] at e
  rw [ha.plain] at e'
  have l1 := len_mulL hq.ne ha.ne
  have l2 := len_mulL hr.ne hb.ne
  rw [e] at l1
  rw [e'] at l2
  have p1 := List.length_pos_iff.mpr hq.ne
  have p2 := List.length_pos_iff.mpr hr.ne
  have p3 := List.length_pos_iff.mpr ha.ne
  have hq1 := hq.const (by omega)
  rw [hq1, one_mul a ha.tr] at e
  exact e
theorem Dv.short {d r : List Int} (hd : d ≠ []) (hdt : Tr d) (hr : Tr r) (hl : r.length < d.length) (h : Dv d r) : r = [] := by
  obtain ⟨c, q, hc, e⟩ := h
  have z := mulc_small hd hdt (d := q) fun n hn => by rw [← e, cf_ge (by omega), Int.mul_zero]
  refine nil_of_cf hr fun k => ?_
  have h1 := e k
  rw [mulc_zero z] at h1
  exact (Int.mul_eq_zero.mp h1).resolve_left hc
theorem Dv.rest {d p : List Int} (hd : d ≠ []) (hdt : Tr d) (h : Dv d p) : divR p d = [] :=
  Dv.short hd hdt (div_trR _ _) (div_lenR hd) (Dv.down (fun n => div_eqn (a := p) hd n) h (Dv.refl d))
end RM

/-! Squares and layers: shapes are prime, what divides a product of them (behind MathCom, MathLift) -/
namespace RM
theorem mul_nilL (a : List Int) : mulL [] a = [] := by unfold mulL; rw [if_pos (.inl rfl)]
theorem mul_nilR (a : List Int) : mulL a [] = [] := by unfold mulL; rw [if_pos (.inr rfl)]
theorem mulC (a b : List Int) : mulL a b = mulL b a := by
  by_cases ha : a = []
  · rw [ha, mul_nilL, mul_nilR]
  by_cases hb : b = []
  · rw [hb, mul_nilL, mul_nilR]
  refine ext_cf ?_ fun k _ => ?_
  · rw [len_mulL ha hb, len_mulL hb ha]; omega
  · rw [cf_mulL, cf_mulL, mulc_comm]
theorem mul_neL {a b : List Int} (ha : a ≠ []) (hb : b ≠ []) : mulL a b ≠ [] := fun z => by
  have := len_mulL ha hb
  rw [z, List.length_nil] at this
  have := List.length_pos_iff.mpr ha
  have := List.length_pos_iff.mpr hb
  omega
theorem mulA (a b c : List Int) : mulL (mulL a b) c = mulL a (mulL b c) := by
  by_cases ha : a = []
  · rw [ha, mul_nilL, mul_nilL, mul_nilL]
  by_cases hb : b = []
  · rw [hb, mul_nilL, mul_nilR, mul_nilL]
  by_cases hc : c = []
  · rw [hc, mul_nilR, mul_nilR, mul_nilR]
  have h1 := mul_neL ha hb
  have h2 := mul_neL hb hc
  refine ext_cf ?_ fun k _ => ?_
  · have := List.length_pos_iff.mpr hb
    rw [len_mulL h1 hc, len_mulL ha h2, len_mulL ha hb, len_mulL hb hc]; omega
  · rw [cf_mulL, cf_mulL, mulc_assoc]
instance : Std.Commutative mulL := ⟨mulC⟩
instance : Std.Associative mulL := ⟨mulA⟩
theorem pln_len {a : List Int} (h : Pln a) : 1 ≤ a.length := List.length_pos_iff.mpr h.ne
/-- one is the other's multiple -/
def Sim (a b : List Int) : Prop := ∃ x y : Int, x ≠ 0 ∧ y ≠ 0 ∧ ∀ n, x * cf a n = y * cf b n
theorem Sim.refl (a : List Int) : Sim a a := ⟨1, 1, by decide, by decide, fun _ => rfl⟩
theorem Sim.dv {a b d : List Int} (h : Sim a b) (hd : Dv d b) : Dv d a := by
  obtain ⟨x, y, hx, hy, e⟩ := h
  exact Dv.prop_right hx e hd
theorem Sim.symm {a b : List Int} (h : Sim a b) : Sim b a := by
  obtain ⟨x, y, hx, hy, e⟩ := h
  exact ⟨y, x, hy, hx, fun n => (e n).symm⟩
theorem Dv.cancel {d a b : List Int} (hd : d ≠ []) (ht : Tr d) (h : Dv (mulL d a) (mulL d b)) : Dv a b := by
  obtain ⟨c, q, hc, e⟩ := h
  have key : ∀ k, cf (linL (-1) (scL c b) (mulL q a)) k = 0 := by
    refine mulc_small hd ht fun n _ => ?_
    rw [mulc_lin (a := b) (b := mulL q a) (x := c) (y := -1) (fun k => by rw [cf_linL, cf_scL])]
    have e1 : mulc (mulL q a) d n = mulc q (mulL d a) n := by
      rw [← cf_mulL, ← cf_mulL]
      congr 1
      rw [mulA, mulC a d]
    have e2 := e n
    rw [cf_mulL, mulc_comm] at e2
    rw [e1, ← e2]; omega
  refine ⟨c, q, hc, fun n => ?_⟩
  have := key n
  rw [cf_linL, cf_scL, cf_mulL] at this
  omega
/-- a prime shape -/
structure Pri (s : List Int) : Prop where
  pln : Pln s
  two : 2 ≤ s.length
  or : ∀ a b, Dv s (mulL a b) → Dv s a ∨ Dv s b
theorem Pri.same {s t : List Int} (hs : Pri s) (ht : Pri t) (h : Dv s t) : s = t := by
  obtain ⟨q, hq, e⟩ := h.fellow hs.pln ht.pln.tr ht.pln.ne
  rw [ht.pln.plain] at e
  have l := len_mulL hq.ne hs.pln.ne
  rw [e] at l
  have := hs.two
  have := pln_len hq
  rcases ht.or q s (e ▸ Dv.refl _) with z | z
  · exact absurd (Dv.short ht.pln.ne ht.pln.tr hq.tr (by omega) z) hq.ne
  · exact pln_same hs.pln ht.pln h z
/-! ### the slope of a product -/
/-! ### powers, products of powers -/
/-- shapes and how often -/
structure Use (us : List (List Int × Nat)) : Prop where
  pri : ∀ p ∈ us, Pri p.1
  pos : ∀ p ∈ us, 1 ≤ p.2
  nd : (us.map (·.1)).Nodup
theorem Use.tail {p : List Int × Nat} {us : List (List Int × Nat)} (h : Use (p :: us)) : Use us :=
  ⟨fun x hx => h.pri x (List.mem_cons_of_mem _ hx), fun x hx => h.pos x (List.mem_cons_of_mem _ hx), (List.nodup_cons.mp h.nd).2⟩
/-! ### shapes are prime -/
def rawQ (u e b : Int) : List Int := if e = 0 then [-u, b] else [u * u - e, -2 * b * u, b * b]
theorem tr_rawQ {u e b : Int} (hb : 1 ≤ b) : Tr (rawQ u e b) ∧ 2 ≤ (rawQ u e b).length := by
  unfold rawQ
  split
  · exact ⟨(tr_snoc (r := [-u])).mpr (by omega), by show 2 ≤ 2; decide⟩
  · exact ⟨(tr_snoc (r := [u * u - e, -2 * b * u])).mpr (Int.mul_ne_zero (by omega) (by omega)), by show 2 ≤ 3; decide⟩
theorem nosq {n e : Int} (hn : 0 ≤ n) (h1 : n * n < e) (h2 : e < (n + 1) * (n + 1)) : ∀ (k : Nat) (x y : Int), x.toNat ≤ k → 0 < x → 0 ≤ y → e * (x * x) = y * y → False
  | 0, x, y, hk, hx, _, _ => by omega
  | k + 1, x, y, hk, hx, hy, h => by
    have hxx : 0 < x * x := Int.mul_pos hx hx
    have a1 : n * x < y := by
      refine Int.not_le.mp fun z => ?_
      have := Int.mul_le_mul z z hy (Int.le_trans hy z)
      have := Int.mul_lt_mul_of_pos_right h1 hxx
      have e1 : n * x * (n * x) = n * n * (x * x) := by grind
      omega
    have a2 : y < (n + 1) * x := by
      refine Int.not_le.mp fun z => ?_
      have z0 : 0 ≤ (n + 1) * x := Int.mul_nonneg (by omega) (by omega)
      have := Int.mul_le_mul z z z0 hy
      have := Int.mul_lt_mul_of_pos_right h2 hxx
      have e1 : (n + 1) * x * ((n + 1) * x) = (n + 1) * (n + 1) * (x * x) := by grind
      omega
    have a3 : (n + 1) * x = n * x + x := by rw [Int.add_mul]; omega
    refine nosq hn h1 h2 k (y - n * x) ((e * x - n * y).natAbs : Int) (by omega) (by omega) (by omega) ?_
    rw [Int.natAbs_mul_self' (e * x - n * y)]
    grind
/-- no square -/
def NS (e : Int) : Prop := e ≤ 0 ∨ ∃ n : Int, 0 ≤ n ∧ n * n < e ∧ e < (n + 1) * (n + 1)
theorem NS.no {e x y : Int} (h : NS e) (he : e ≠ 0) (hx : x ≠ 0) (eq : x * x * e = y * y) : False := by
  rcases h with h | ⟨n, hn, h1, h2⟩
  · have hxx : 0 < x * x := by
      rcases Int.lt_or_gt_of_ne hx with z | z
      · exact Int.mul_pos_of_neg_of_neg z z
      · exact Int.mul_pos z z
    have : x * x * e < 0 := Int.mul_neg_of_pos_of_neg hxx (by omega)
    have : 0 ≤ y * y := by
      rcases Int.le_total 0 y with z | z
      · exact Int.mul_nonneg z z
      · exact Int.mul_nonneg_of_nonpos_of_nonpos z z
    omega
  · refine nosq hn h1 h2 _ (x.natAbs : Int) (y.natAbs : Int) (Nat.le_refl _) (by omega) (by omega) ?_
    rw [Int.natAbs_mul_self' x, Int.natAbs_mul_self' y, ← eq, Int.mul_comm]
end RM

/-! The bound of a polynomial holds its roots, told by squares (behind MathCom, MathEval) -/
namespace RM
theorem hv_lin {t n x y : Int} : ∀ (a b c : List Int), a.length = c.length → b.length = c.length → (∀ k, cf c k = x * cf a k + y * cf b k) → hv t n c = x * hv t n a + y * hv t n b
  | [], [], [], _, _, _ => by simp [hv_nil]
  | u :: a, v :: b, w :: c, ha, hb, h => by
    have h0 : w = x * u + y * v := h 0
    have ih := hv_lin (t := t) (n := n) (x := x) (y := y) a b c (by simpa using ha) (by simpa using hb) (fun k => h (k + 1))
    have la : a.length = c.length := by simpa using ha
    have lb : b.length = c.length := by simpa using hb
    rw [hv_cons, hv_cons, hv_cons, ih, h0, la, lb]
    generalize n ^ (c.length + 1) = p
    grind
  | [], _ :: _, [], _, h, _ => by simp at h
  | _ :: _, _, [], h, _, _ => by simp at h
  | [], _, _ :: _, h, _, _ => by simp at h
  | _ :: _, [], _ :: _, _, h, _ => by simp at h
theorem hv_scL (t n g : Int) (l : List Int) : hv t n (scL g l) = g * hv t n l := by
  have := hv_lin (t := t) (n := n) (x := g) (y := 0) l l (scL g l) (by rw [length_scL]) (by rw [length_scL]) (fun k => by rw [cf_scL]; simp)
  rw [this]; simp
/-- noughts behind a row -/
theorem hv_zeros (t n : Int) : ∀ (k : Nat) (l : List Int), hv t n (l ++ List.replicate k 0) = n ^ k * hv t n l
  | k, [] => by
    rw [List.nil_append, hv_nil, Int.mul_zero]
    induction k with
    | zero => rfl
    | succ k ih => rw [List.replicate_succ, hv_cons, ih]; simp
  | k, v :: l => by
    rw [List.cons_append, hv_cons, hv_zeros t n k l, hv_cons]
    have : (l ++ List.replicate k (0 : Int)).length + 1 = l.length + 1 + k := by simp; omega
    rw [this, Int.pow_add]
    generalize n ^ (l.length + 1) = p
    generalize n ^ k = q
    grind
theorem cf_zeros (l : List Int) (k j : Nat) : cf (l ++ List.replicate k 0) j = cf l j := by
  by_cases h : j < l.length
  · rw [cf_append_left h]
  · rw [cf_append_right (by omega), cf_replicate, cf_ge (by omega)]
theorem hv_mulL (t n : Int) {b : List Int} (hb : b ≠ []) : ∀ {a : List Int}, a ≠ [] → n * hv t n (mulL a b) = hv t n a * hv t n b
  | [x], _ => by
    have e : mulL [x] b = scL x b := by
      apply ext_cf
      · rw [len_mulL (by simp) hb, length_scL]; simp
      · intro k _; rw [cf_mulL, mulc_one', cf_scL]
    rw [e, hv_scL, hv_one]
    grind
  | x :: y :: a, _ => by
    have ih := hv_mulL t n hb (a := y :: a) (by simp)
    have lm : (mulL (x :: y :: a) b).length = (y :: a).length + b.length := by rw [len_mulL (by simp) hb, List.length_cons]; omega
    have lm2 : (mulL (y :: a) b).length + 1 = (y :: a).length + b.length := by
      rw [len_mulL (by simp) hb]; have := List.length_pos_iff.mpr hb; rw [List.length_cons]; omega
    have e := hv_lin (t := t) (n := n) (x := x) (y := 1) (b ++ List.replicate (y :: a).length 0) (0 :: mulL (y :: a) b) (mulL (x :: y :: a) b) (by rw [lm, List.length_append, List.length_replicate]; omega) (by rw [lm, List.length_cons, lm2])
      (fun k => by rw [cf_mulL, mulc_cons, cf_zeros, cf_shift]; rw [Int.one_mul]; congr 1; unfold up; split <;> first | rfl | rw [cf_mulL])
    rw [e, hv_zeros, hv_cons (v := 0), hv_cons (v := x)]
    have : n * (x * (n ^ (y :: a).length * hv t n b) + 1 * (0 * n ^ ((mulL (y :: a) b).length + 1) + t * hv t n (mulL (y :: a) b))) = x * (n ^ (y :: a).length * n) * hv t n b + t * (n * hv t n (mulL (y :: a) b)) := by grind
    rw [this, ih, ← Int.pow_succ]
    grind

def pr (t n : Int) : List (List Int) → Int
  | [] => 1
  | s :: ss => hv t n s * pr t n ss
def sl : List (List Int) → Nat
  | [] => 0
  | s :: ss => s.length + sl ss
theorem mulL_ne {a b : List Int} (ha : a ≠ []) (hb : b ≠ []) : mulL a b ≠ [] := fun z => by
  have := len_mulL ha hb
  rw [z] at this
  have h1 := List.length_pos_iff.mpr ha
  have h2 := List.length_pos_iff.mpr hb
  rw [List.length_nil] at this
  omega
def prodL (acc : List Int) (ss : List (List Int)) : List Int := ss.foldl mulL acc
theorem prodL_snoc (acc : List Int) (ss : List (List Int)) (s : List Int) : prodL acc (ss ++ [s]) = mulL (prodL acc ss) s := by unfold prodL; rw [List.foldl_append]; rfl
theorem prodL_ok : ∀ (ss : List (List Int)) (acc : List Int), acc ≠ [] → Tr acc → (∀ s ∈ ss, s ≠ [] ∧ Tr s) → prodL acc ss ≠ [] ∧ Tr (prodL acc ss) ∧ (prodL acc ss).length + ss.length = acc.length + sl ss
  | [], acc, h1, h2, _ => ⟨h1, h2, by simp [prodL, sl]⟩
  | s :: ss, acc, h1, h2, h3 => by
    have hs := h3 s (List.mem_cons_self ..)
    obtain ⟨a, b, c⟩ := prodL_ok ss (mulL acc s) (mulL_ne h1 hs.1) (tr_mulL h2 hs.2) (fun x hx => h3 x (List.mem_cons_of_mem _ hx))
    refine ⟨a, b, ?_⟩
    have l := len_mulL h1 hs.1
    have p1 := List.length_pos_iff.mpr h1
    have p2 := List.length_pos_iff.mpr hs.1
    show (prodL (mulL acc s) ss).length + (ss.length + 1) = acc.length + (s.length + sl ss)
    omega
theorem hv_prod (t n : Int) : ∀ (ss : List (List Int)) (acc : List Int), acc ≠ [] → (∀ s ∈ ss, s ≠ []) → n ^ ss.length * hv t n (prodL acc ss) = hv t n acc * pr t n ss
  | [], acc, _, _ => by show n ^ 0 * hv t n acc = hv t n acc * 1; simp
  | s :: ss, acc, h1, h3 => by
    have hs := h3 s (List.mem_cons_self ..)
    have ih := hv_prod t n ss (mulL acc s) (mulL_ne h1 hs) (fun x hx => h3 x (List.mem_cons_of_mem _ hx))
    have e := hv_mulL t n hs h1
    show n ^ (ss.length + 1) * hv t n (prodL (mulL acc s) ss) = hv t n acc * (hv t n s * pr t n ss)
    rw [Int.pow_succ, Int.mul_comm _ n, Int.mul_assoc, ih, ← Int.mul_assoc, e, Int.mul_assoc]
end RM

namespace RM
theorem along_eq {l1 l2 r1 r2 pl pc a1 a2 c1 c2 x1 x2 : Int} (ha : 0 < a2) (hc : 0 < c2) (e1 : a1 * pc = pl * a2) (e2 : c1 * (r2 * a2) = r1 * a1 * c2) (e3 : x1 * (l2 * c2) = (l1 * c2 + c1 * l2) * x2) :
    x1 * (l2 * r2 * pc) = (l1 * r2 * pc + r1 * l2 * pl) * x2 := by
  have h0 : c2 * a2 ≠ 0 := Int.ne_of_gt (Int.mul_pos hc ha)
  refine Int.eq_of_mul_eq_mul_right h0 ?_
  calc x1 * (l2 * r2 * pc) * (c2 * a2) = x1 * (l2 * c2) * (r2 * pc * a2) := by grind
    _ = (l1 * c2 + c1 * l2) * x2 * (r2 * pc * a2) := by rw [e3]
    _ = x2 * (l1 * c2 * r2 * pc * a2 + l2 * pc * (c1 * (r2 * a2))) := by grind
    _ = x2 * (l1 * c2 * r2 * pc * a2 + l2 * pc * (r1 * a1 * c2)) := by rw [e2]
    _ = x2 * c2 * (l1 * r2 * pc * a2 + l2 * r1 * (a1 * pc)) := by grind
    _ = x2 * c2 * (l1 * r2 * pc * a2 + l2 * r1 * (pl * a2)) := by rw [e1]
    _ = (l1 * r2 * pc + r1 * l2 * pl) * x2 * (c2 * a2) := by grind
/-- the least multiple of two numbers and what it is of each -/
theorem both_of {l r : Int} (hl : 0 < l) (hr : 0 < r) {g : Nat} (hg : g = Nat.gcd l.natAbs r.natAbs) : ∃ l' r' : Int, 0 < l' ∧ 0 < r' ∧ (0 : Int) < g ∧ l = g * l' ∧ r = g * r' ∧ l * r / g = l * r' ∧ l * r' / l = r' ∧ l * r' / r = l' ∧ 0 < l * r' := by
  have g0 : 0 < g := by rw [hg]; exact Nat.gcd_pos_of_pos_left _ (by omega)
  have gi : (0 : Int) < g := by omega
  obtain ⟨l', hl'⟩ : (g : Int) ∣ l := Int.natAbs_dvd_natAbs.mp (by rw [Int.natAbs_natCast, hg]; exact Nat.gcd_dvd_left _ _)
  obtain ⟨r', hr'⟩ : (g : Int) ∣ r := Int.natAbs_dvd_natAbs.mp (by rw [Int.natAbs_natCast, hg]; exact Nat.gcd_dvd_right _ _)
  have l0 : 0 < l' := Int.lt_of_mul_lt_mul_left (a := (g : Int)) (by rw [Int.mul_zero, ← hl']; exact hl) (Int.le_of_lt gi)
  have r0 : 0 < r' := Int.lt_of_mul_lt_mul_left (a := (g : Int)) (by rw [Int.mul_zero, ← hr']; exact hr) (Int.le_of_lt gi)
  refine ⟨l', r', l0, r0, gi, hl', hr', ?_, ?_, ?_, Int.mul_pos hl r0⟩
  · have e : l * r = (l * r') * g := by
      calc l * r = l * (g * r') := by rw [← hr']
        _ = (l * r') * g := by grind
    rw [e]; exact Int.mul_ediv_cancel _ (Int.ne_of_gt gi)
  · exact Int.mul_ediv_cancel_left _ (Int.ne_of_gt hl)
  · have e : l * r' = l' * r := by
      calc l * r' = (g * l') * r' := by rw [← hl']
        _ = l' * (g * r') := by grind
        _ = l' * r := by rw [← hr']
    rw [e]; exact Int.mul_ediv_cancel _ (Int.ne_of_gt hr)
end RM

/-! narrowing of any row: spread, moved, stretched, by values (behind MathEval) -/
namespace RM
/-- a row spread: its value at p / q is that at p / 2q -/
def sprG : List Int → List Int
  | [] => []
  | v :: l => 2 ^ l.length * v :: sprG l
theorem sprG_len : ∀ l, (sprG l).length = l.length
  | [] => rfl
  | v :: l => by show (sprG l).length + 1 = _; rw [sprG_len l]; rfl
theorem hv_spr (p q : Int) : ∀ l, 2 * hv p q (sprG l) = hv p (2 * q) l
  | [] => by show 2 * 0 = (0 : Int); rfl
  | v :: l => by
    have ih := hv_spr p q l
    show 2 * (2 ^ l.length * v * q ^ ((sprG l).length + 1) + p * hv p q (sprG l)) = v * (2 * q) ^ (l.length + 1) + p * hv p (2 * q) l
    rw [sprG_len, ← ih, Int.mul_pow, Int.pow_succ 2]
    grind
/-- the sums from each place on -/
def suf : List Int → List Int
  | [] => []
  | v :: l => (v + (suf l).headD 0) :: suf l
theorem suf_len : ∀ l, (suf l).length = l.length
  | [] => rfl
  | v :: l => by show (suf l).length + 1 = _; rw [suf_len l]; rfl
theorem suf_hv (p q : Int) : ∀ l, hv (p + q) q l = (suf l).headD 0 * q ^ l.length + p * hv (p + q) q ((suf l).tail)
  | [] => by show (0 : Int) = 0 * q ^ 0 + p * 0; omega
  | v :: l => by
    have ih := suf_hv p q l
    show v * q ^ (l.length + 1) + (p + q) * hv (p + q) q l = (v + (suf l).headD 0) * q ^ (l.length + 1) + p * hv (p + q) q (suf l)
    cases hs : suf l with
    | nil =>
      have hl : l = [] := by
        have := suf_len l
        rw [hs] at this
        exact List.eq_nil_of_length_eq_zero this.symm
      subst hl
      show v * q ^ 1 + (p + q) * 0 = (v + 0) * q ^ 1 + p * 0
      grind
    | cons g r =>
      rw [hs] at ih
      have hl : r.length + 1 = l.length := by have := suf_len l; rw [hs] at this; exact this
      have ih' : hv (p + q) q l = g * q ^ l.length + p * hv (p + q) q r := ih
      show v * q ^ (l.length + 1) + (p + q) * hv (p + q) q l = (v + g) * q ^ (l.length + 1) + p * (g * q ^ (r.length + 1) + (p + q) * hv (p + q) q r)
      rw [ih', hl, Int.pow_succ]
      grind
def pass : Nat → List Int → List Int
  | 0, m => suf m
  | _ + 1, [] => []
  | i + 1, c :: m => c :: pass i m
theorem pass_len : ∀ (i : Nat) (m : List Int), (pass i m).length = m.length
  | 0, m => suf_len m
  | _ + 1, [] => rfl
  | i + 1, c :: m => by show (pass i m).length + 1 = _; rw [pass_len i m]; rfl
def mixV (p q : Int) : Nat → List Int → Int
  | 0, m => hv (p + q) q m
  | _ + 1, [] => 0
  | i + 1, c :: m => c * q ^ (m.length + 1) + p * mixV p q i m
theorem mix_pass (p q : Int) : ∀ (i : Nat) (m : List Int), mixV p q (i + 1) (pass i m) = mixV p q i m
  | 0, m => by
    show mixV p q 1 (suf m) = hv (p + q) q m
    rw [suf_hv]
    cases hs : suf m with
    | nil =>
      show (0 : Int) = 0 * q ^ m.length + p * hv (p + q) q []
      rw [hv_nil]; omega
    | cons g r =>
      have hl : r.length + 1 = m.length := by have := suf_len m; rw [hs] at this; exact this
      show g * q ^ (r.length + 1) + p * hv (p + q) q r = g * q ^ m.length + p * hv (p + q) q r
      rw [hl]
  | i + 1, [] => rfl
  | i + 1, c :: m => by
    show c * q ^ ((pass i m).length + 1) + p * mixV p q (i + 1) (pass i m) = c * q ^ (m.length + 1) + p * mixV p q i m
    rw [mix_pass p q i m, pass_len]
theorem mix_end (p q : Int) : ∀ (i : Nat) (m : List Int), m.length ≤ i + 1 → mixV p q i m = hv p q m
  | 0, [], _ => rfl
  | 0, [c], _ => by
    show c * q ^ 1 + (p + q) * 0 = c * q ^ 1 + p * 0
    omega
  | 0, _ :: _ :: _, h => absurd h (by simp)
  | _ + 1, [], _ => rfl
  | i + 1, c :: m, h => by
    show c * q ^ (m.length + 1) + p * mixV p q i m = c * q ^ (m.length + 1) + p * hv p q m
    rw [mix_end p q i m (by simpa using h)]
def movT : Nat → List Int → List Int
  | 0, l => l
  | i + 1, l => pass i (movT i l)
theorem movT_len : ∀ (i : Nat) (l : List Int), (movT i l).length = l.length
  | 0, _ => rfl
  | i + 1, l => by show (pass i (movT i l)).length = _; rw [pass_len, movT_len i l]
theorem mix_mov (p q : Int) : ∀ (i : Nat) (l : List Int), mixV p q i (movT i l) = hv (p + q) q l
  | 0, _ => rfl
  | i + 1, l => by show mixV p q (i + 1) (pass i (movT i l)) = _; rw [mix_pass, mix_mov p q i l]
/-- a row moved by one -/
def movG (l : List Int) : List Int := movT (l.length - 1) l
theorem movG_len (l : List Int) : (movG l).length = l.length := movT_len _ _
theorem hv_mov (p q : Int) (l : List Int) : hv p q (movG l) = hv (p + q) q l := by
  rw [← mix_mov p q (l.length - 1) l]
  exact (mix_end p q (l.length - 1) _ (by rw [movG_len]; omega)).symm
theorem hv_sum : ∀ l : List Int, hv 1 1 l = l.sum
  | [] => rfl
  | v :: l => by
    show v * 1 ^ (l.length + 1) + 1 * hv 1 1 l = v + l.sum
    rw [hv_sum l, Int.one_pow]; omega
/-- a row stretched: its value at p / q is that at (s0 q + s1 p) / m q -/
def strG (m s0 s1 : Int) : List Int → List Int
  | [] => []
  | v :: l => mb (-s0) s1 (v * m ^ l.length) (strG m s0 s1 l)
theorem strG_len (m s0 s1 : Int) : ∀ l, (strG m s0 s1 l).length = l.length
  | [] => rfl
  | v :: l => by show (mb _ _ _ _).length = _; rw [mb_len, strG_len m s0 s1 l]; rfl
theorem hv_str (m s0 s1 p q : Int) : ∀ l, m * hv p q (strG m s0 s1 l) = hv (s0 * q + s1 * p) (m * q) l
  | [] => by show m * 0 = (0 : Int); omega
  | v :: l => by
    have ih := hv_str m s0 s1 p q l
    show m * hv p q (mb (-s0) s1 (v * m ^ l.length) (strG m s0 s1 l)) = v * (m * q) ^ (l.length + 1) + (s0 * q + s1 * p) * hv (s0 * q + s1 * p) (m * q) l
    rw [hv_mb, strG_len, ← ih, Int.mul_pow, Int.pow_succ m]
    grind
/-- the last of a stretched row -/
theorem strG_last (m s0 s1 : Int) : ∀ l, cf (strG m s0 s1 l) (l.length - 1) = cf l (l.length - 1) * s1 ^ (l.length - 1)
  | [] => by show (0 : Int) = 0 * _; omega
  | [v] => by
    show cf (mb (-s0) s1 (v * m ^ 0) []) 0 = v * s1 ^ 0
    rw [cf_mb, if_pos rfl, cf_nil, Int.pow_zero, Int.pow_zero]
    omega
  | v :: u :: l => by
    have ih := strG_last m s0 s1 (u :: l)
    show cf (mb (-s0) s1 _ (strG m s0 s1 (u :: l))) (l.length + 1) = cf (u :: l) l.length * s1 ^ (l.length + 1)
    rw [cf_mb, if_neg (by omega)]
    have e1 : cf (strG m s0 s1 (u :: l)) (l.length + 1) = 0 := cf_ge (by rw [strG_len]; exact Nat.le_refl _)
    have e2 : cf (strG m s0 s1 (u :: l)) (l.length + 1 - 1) = cf (u :: l) l.length * s1 ^ l.length := ih
    rw [e1, e2, Int.pow_succ]
    grind
theorem sg_pos_mul {x p : Int} (hp : 0 < p) : sg (p * x) = sg x := by rw [Int.mul_comm]; exact sg_mul_pos hp
end RM

/-! roots told by four numbers u, e, b, s: (u + s r) / b, r the root of e (behind MathSq, MathBound, MathNar) -/
namespace RM
def sureI (sq due : Int) : Int := if due < 0 ∨ due * due < sq then 1 else 0 - (if sq < due * due then 1 else 0)
def sideG (l : List Int) (t n : Int) : Int := if 0 < cf l 3 then sureI (cf l 1 * n * n) (cf l 2 * t - cf l 0 * n) else 0 - sureI (cf l 1 * n * n) (0 - (cf l 2 * t - cf l 0 * n))
theorem sure_cases (sq d : Int) : (sureI sq d = 1 ∧ (d < 0 ∨ d * d < sq)) ∨ (sureI sq d = 0 ∧ 0 ≤ d ∧ d * d = sq) ∨ (sureI sq d = -1 ∧ 0 ≤ d ∧ sq < d * d) := by
  unfold sureI
  by_cases h : d < 0 ∨ d * d < sq
  · rw [if_pos h]; exact .inl ⟨rfl, h⟩
  · rw [if_neg h]
    by_cases h2 : sq < d * d
    · rw [if_pos h2]; exact .inr (.inr ⟨rfl, by omega, h2⟩)
    · rw [if_neg h2]; exact .inr (.inl ⟨rfl, by omega, by omega⟩)
/-- a root's four numbers -/
structure Spt (l : List Int) : Prop where
  is : ∃ u e b s : Int, l = [u, e, b, s] ∧ 0 ≤ e ∧ 1 ≤ b ∧ (s = 1 ∨ s = -1)
theorem sq_le_of {x y : Int} (hx : 0 ≤ x) (h : x ≤ y) : x * x ≤ y * y := Int.mul_le_mul h h hx (by omega)
theorem sq_lt_of {x y : Int} (hx : 0 ≤ x) (h : x < y) : x * x < y * y := by
  have h1 : x * x ≤ x * y := Int.mul_le_mul_of_nonneg_left (Int.le_of_lt h) hx
  have h2 : x * y < y * y := Int.mul_lt_mul_of_pos_right h (by omega)
  omega
theorem lt_of_sq {x y : Int} (hy : 0 ≤ y) (h : x * x < y * y) : x < y := Int.not_le.mp fun z => by
  have := sq_le_of hy z
  omega
theorem le_of_sq {x y : Int} (hy : 0 ≤ y) (h : x * x ≤ y * y) : x ≤ y := Int.not_lt.mp fun z => by
  have := sq_lt_of hy z
  omega
theorem sure_scale {g sq d : Int} (hg : 0 < g) : sureI (sq * (g * g)) (g * d) = sureI sq d := by
  have hgg : 0 < g * g := Int.mul_pos hg hg
  have e1 : g * d * (g * d) = d * d * (g * g) := by grind
  have e2 : (g * d < 0) ↔ d < 0 := by
    constructor
    · intro h
      refine Int.not_le.mp fun z => ?_
      have := Int.mul_nonneg (Int.le_of_lt hg) z
      omega
    · intro h; exact Int.mul_neg_of_pos_of_neg hg h
  have e3 : ∀ x y : Int, (x * (g * g) < y * (g * g)) ↔ x < y := fun x y => ⟨fun h => Int.lt_of_mul_lt_mul_right h (Int.le_of_lt hgg), fun h => Int.mul_lt_mul_of_pos_right h hgg⟩
  unfold sureI
  rw [e1]
  simp only [e2, e3]
theorem side_scale {g t n : Int} (l : List Int) (hg : 0 < g) : sideG l (g * t) (g * n) = sideG l t n := by
  have e1 : cf l 1 * (g * n) * (g * n) = cf l 1 * n * n * (g * g) := by grind
  have e2 : cf l 2 * (g * t) - cf l 0 * (g * n) = g * (cf l 2 * t - cf l 0 * n) := by grind
  have e3 : 0 - g * (cf l 2 * t - cf l 0 * n) = g * (0 - (cf l 2 * t - cf l 0 * n)) := by grind
  unfold sideG
  rw [e1, e2, e3, sure_scale hg, sure_scale hg]
theorem side_cross {t n t' n' : Int} (l : List Int) (hn : 0 < n) (hn' : 0 < n') (e : t * n' = t' * n) : sideG l t n = sideG l t' n' := by
  rw [← side_scale (g := n') l hn', ← side_scale (g := n) (t := t') l hn]
  have e1 : n' * t = n * t' := by rw [Int.mul_comm, e, Int.mul_comm]
  rw [e1, Int.mul_comm n' n]
theorem side_cases (l : List Int) (t n : Int) : sideG l t n = 1 ∨ sideG l t n = 0 ∨ sideG l t n = -1 := by
  unfold sideG
  split
  · rcases sure_cases (cf l 1 * n * n) (cf l 2 * t - cf l 0 * n) with h | h | h <;> omega
  · rcases sure_cases (cf l 1 * n * n) (0 - (cf l 2 * t - cf l 0 * n)) with h | h | h <;> omega
/-- what lies at the root or behind it: all further on lies behind it -/
theorem side_less {l : List Int} (hl : Spt l) {t n t' n' : Int} (hn : 0 < n) (hn' : 0 < n') (h : t * n' < t' * n) (hs : sideG l t n ≤ 0) : sideG l t' n' = -1 := by
  obtain ⟨u, e, b, s, rfl, he, hb, hs1⟩ := hl
  have hlt : (b * t - u * n) * n' < (b * t' - u * n') * n := by
    have h1 : b * (t * n') < b * (t' * n) := Int.mul_lt_mul_of_pos_left h (by omega)
    have e1 : (b * t - u * n) * n' = b * (t * n') - u * n * n' := by grind
    have e2 : (b * t' - u * n') * n = b * (t' * n) - u * n * n' := by grind
    omega
  have hnn : 0 < n * n := Int.mul_pos hn hn
  have hnn' : 0 < n' * n' := Int.mul_pos hn' hn'
  rcases hs1 with rfl | rfl
  · have z0 : (0 : Int) < 1 := by decide
    have hs : sureI (e * n * n) (b * t - u * n) ≤ 0 := hs
    show sureI (e * n' * n') (b * t' - u * n') = -1
    generalize b * t - u * n = a at *
    generalize b * t' - u * n' = a' at *
    have k1 : 0 ≤ a ∧ e * n * n ≤ a * a := by rcases sure_cases (e * n * n) a with h | h | h <;> omega
    have k2 : 0 ≤ a * n' := Int.mul_nonneg k1.1 (Int.le_of_lt hn')
    have k3 : 0 < a' := Int.lt_of_mul_lt_mul_right (a := n) (by omega) (Int.le_of_lt hn)
    have k4 := sq_lt_of k2 hlt
    have k5 : e * n * n * (n' * n') ≤ a * a * (n' * n') := Int.mul_le_mul_of_nonneg_right k1.2 (Int.le_of_lt hnn')
    have k6 : e * n' * n' * (n * n) < a' * a' * (n * n) := by
      have e1 : e * n' * n' * (n * n) = e * n * n * (n' * n') := by grind
      have e2 : a' * a' * (n * n) = a' * n * (a' * n) := by grind
      have e3 : a * a * (n' * n') = a * n' * (a * n') := by grind
      omega
    have k7 := Int.lt_of_mul_lt_mul_right k6 (Int.le_of_lt hnn)
    rcases sure_cases (e * n' * n') a' with h | h | h <;> omega
  · have hs : 0 - sureI (e * n * n) (0 - (b * t - u * n)) ≤ 0 := hs
    show 0 - sureI (e * n' * n') (0 - (b * t' - u * n')) = -1
    generalize ha : 0 - (b * t - u * n) = a at *
    generalize ha' : 0 - (b * t' - u * n') = a' at *
    have hlt' : a' * n < a * n' := by
      have e1 : a' * n = -((b * t' - u * n') * n) := by rw [← ha']; grind
      have e2 : a * n' = -((b * t - u * n) * n') := by rw [← ha]; grind
      omega
    have k1 : a < 0 ∨ a * a ≤ e * n * n := by rcases sure_cases (e * n * n) a with h | h | h <;> omega
    have k2 : a' < 0 ∨ a' * a' < e * n' * n' := by
      by_cases z : a' < 0
      · exact .inl z
      right
      have p1 : 0 ≤ a' * n := Int.mul_nonneg (by omega) (Int.le_of_lt hn)
      have p2 : 0 < a := Int.lt_of_mul_lt_mul_right (a := n') (by omega) (Int.le_of_lt hn')
      have p3 := sq_lt_of p1 hlt'
      have k5 : a * a * (n' * n') ≤ e * n * n * (n' * n') := Int.mul_le_mul_of_nonneg_right (by omega) (Int.le_of_lt hnn')
      have k6 : a' * a' * (n * n) < e * n' * n' * (n * n) := by
        have e1 : e * n' * n' * (n * n) = e * n * n * (n' * n') := by grind
        have e2 : a' * a' * (n * n) = a' * n * (a' * n) := by grind
        have e3 : a * a * (n' * n') = a * n' * (a * n') := by grind
        omega
      exact Int.lt_of_mul_lt_mul_right k6 (Int.le_of_lt hnn)
    rcases sure_cases (e * n' * n') a' with h | h | h <;> omega
/-- the roots of one factor -/
def spF (f : List Int) : List (List Int) := (if 0 ≤ cf f 1 then [[cf f 0, cf f 1, cf f 2, 1]] else []) ++ (if 0 < cf f 1 then [[cf f 0, cf f 1, cf f 2, -1]] else [])
def spots (fs : List (List Int)) : List (List Int) := fs.flatMap spF
def spr (t n : Int) : List (List Int) → Int
  | [] => 1
  | l :: ls => -sideG l t n * spr t n ls
theorem spr_app (t n : Int) : ∀ a b, spr t n (a ++ b) = spr t n a * spr t n b
  | [], b => by show _ = 1 * _; rw [Int.one_mul]; rfl
  | x :: a, b => by show _ * spr t n (a ++ b) = _ * _ * _; rw [spr_app t n a b, Int.mul_assoc]
theorem spf_spt {f l : List Int} {u e b : Int} (hf : f = [u, e, b]) (hb : 1 ≤ b) (h : l ∈ spF f) : Spt l ∧ ∃ s, l = [u, e, b, s] ∧ 0 ≤ e ∧ (s = 1 ∨ s = -1 ∧ 0 < e) := by
  subst hf
  have hd : spF [u, e, b] = (if 0 ≤ e then [[u, e, b, 1]] else []) ++ (if 0 < e then [[u, e, b, -1]] else []) := rfl
  rw [hd] at h
  rcases List.mem_append.mp h with h | h
  · by_cases z : 0 ≤ e
    · rw [if_pos z] at h
      obtain rfl := List.mem_singleton.mp h
      exact ⟨⟨u, e, b, 1, rfl, z, hb, .inl rfl⟩, 1, rfl, z, .inl rfl⟩
    · rw [if_neg z] at h; cases h
  · by_cases z : 0 < e
    · rw [if_pos z] at h
      obtain rfl := List.mem_singleton.mp h
      exact ⟨⟨u, e, b, -1, rfl, by omega, hb, .inr rfl⟩, -1, rfl, by omega, .inr ⟨rfl, z⟩⟩
    · rw [if_neg z] at h; cases h
/-- the sign of (b x - u)^2 - e, or of b x - u, by the sides -/
theorem raw_sign {u e b t n : Int} (hn : 0 < n) : sg (hv t n (rawQ u e b)) = spr t n (spF [u, e, b]) := by
  have hd : spF [u, e, b] = (if 0 ≤ e then [[u, e, b, 1]] else []) ++ (if 0 < e then [[u, e, b, -1]] else []) := rfl
  rw [hd]
  by_cases h0 : e = 0
  · subst h0
    have er : rawQ u 0 b = [-u, b] := by unfold rawQ; rw [if_pos rfl]
    have ev : hv t n [-u, b] = n * (b * t - u * n) := by
      show -u * n ^ 2 + t * (b * n ^ 1 + t * 0) = _
      grind
    rw [er, ev, sg_pos_mul hn, if_pos (Int.le_refl _), if_neg (by omega)]
    show _ = -sureI (0 * n * n) (b * t - u * n) * 1
    generalize b * t - u * n = a
    rw [Int.zero_mul, Int.zero_mul]
    have : a < 0 ∨ a = 0 ∨ 0 < a := by omega
    rcases this with h | h | h
    · have h1 : sg a = -1 := by unfold sg; rw [if_pos h]
      rcases sure_cases 0 a with z | z | z <;> omega
    · subst h
      rfl
    · have h1 : sg a = 1 := by unfold sg; rw [if_neg (by omega), if_pos h]
      have h2 := Int.mul_pos h h
      rcases sure_cases 0 a with z | z | z <;> omega
  · have er : rawQ u e b = [u * u - e, -2 * b * u, b * b] := by unfold rawQ; rw [if_neg h0]
    have ev : hv t n [u * u - e, -2 * b * u, b * b] = n * ((b * t - u * n) * (b * t - u * n) - e * n * n) := by
      show (u * u - e) * n ^ 3 + t * ((-2 * b * u) * n ^ 2 + t * ((b * b) * n ^ 1 + t * 0)) = _
      grind
    rw [er, ev, sg_pos_mul hn]
    by_cases hp : 0 ≤ e
    · rw [if_pos hp, if_pos (by omega)]
      show _ = -sureI (e * n * n) (b * t - u * n) * (-(0 - sureI (e * n * n) (0 - (b * t - u * n))) * 1)
      generalize b * t - u * n = a
      have hE : 0 < e * n * n := Int.mul_pos (Int.mul_pos (by omega) hn) hn
      generalize e * n * n = E at *
      have e1 : (0 - a) * (0 - a) = a * a := by grind
      have h1 := sure_cases E a
      have h2 := sure_cases E (0 - a)
      rw [e1] at h2
      have az : a = 0 → a * a = 0 := fun z => by rw [z]; rfl
      have s3 : (a * a < E ∧ sg (a * a - E) = -1) ∨ (a * a = E ∧ sg (a * a - E) = 0) ∨ (E < a * a ∧ sg (a * a - E) = 1) := by
        unfold sg
        split <;> (try split) <;> omega
      generalize a * a = q at *
      rcases h1 with ⟨x1, x2⟩ | ⟨x1, x2⟩ | ⟨x1, x2⟩ <;> rcases h2 with ⟨y1, y2⟩ | ⟨y1, y2⟩ | ⟨y1, y2⟩ <;> rw [x1, y1] <;> simp <;> omega
    · rw [if_neg hp, if_neg (by omega)]
      have h1 : 0 ≤ (b * t - u * n) * (b * t - u * n) := by
        rcases Int.le_total 0 (b * t - u * n) with z | z
        · exact Int.mul_nonneg z z
        · exact Int.mul_nonneg_of_nonpos_of_nonpos z z
      have h2 : e * n * n < 0 := by rw [Int.mul_assoc]; exact Int.mul_neg_of_neg_of_pos (by omega) (Int.mul_pos hn hn)
      show sg _ = 1
      unfold sg
      rw [if_neg (by omega), if_pos (by omega)]
def shpQ (f : List Int) : List Int := plainL (rawQ (cf f 0) (cf f 1) (cf f 2))
theorem sg_mul (x y : Int) : sg (x * y) = sg x * sg y := by
  rcases Int.lt_trichotomy x 0 with hx | hx | hx
  · have h1 : sg x = -1 := by unfold sg; rw [if_pos hx]
    have e : x * y = -((-x) * y) := by grind
    rw [e, sg_neg, sg_pos_mul (by omega), h1]; omega
  · subst hx; rw [Int.zero_mul]; show (0 : Int) = 0 * _; rw [Int.zero_mul]
  · have h1 : sg x = 1 := by unfold sg; rw [if_neg (by omega), if_pos hx]
    rw [sg_pos_mul hx, h1, Int.one_mul]
theorem plain_pos {l : List Int} (h : Tr l) (hne : l ≠ []) (hp : 0 < lastI l) : ∃ g : Int, 0 < g ∧ l = scL g (plainL l) := by
  obtain ⟨g, hg, e⟩ := plain_scale h
  have e2 : l = scL g (plainL l) := by
    apply ext_cf
    · rw [length_scL, plain_len]
    · intro k _; rw [cf_scL, e k]
  have hP := pln_plain h hne
  refine ⟨g, ?_, e2⟩
  obtain ⟨r, x, er⟩ := (snoc_cases l).resolve_left hne
  have hx : lastI l = cf l r.length := by rw [er, lastI_snoc, cf_last]
  obtain ⟨r', x', er'⟩ := (snoc_cases (plainL l)).resolve_left hP.ne
  have hx' : lastI (plainL l) = cf (plainL l) r'.length := by rw [er', lastI_snoc, cf_last]
  have hl : r.length = r'.length := by
    have := plain_len l
    have h1 := congrArg List.length er
    have h2 := congrArg List.length er'
    simp at h1 h2; omega
  have h3 := e r.length
  rw [← hx, hl, ← hx'] at h3
  have h4 := hP.pos
  rw [h3] at hp
  rcases Int.lt_or_gt_of_ne hg with z | z
  · have := Int.mul_neg_of_neg_of_pos z h4
    omega
  · exact z
theorem shp_sign {u e b t n : Int} (hb : 1 ≤ b) (hn : 0 < n) : sg (hv t n (shpQ [u, e, b])) = spr t n (spF [u, e, b]) := by
  obtain ⟨tr, l2⟩ := tr_rawQ (u := u) (e := e) hb
  have hne : rawQ u e b ≠ [] := fun z => by rw [z] at l2; simp at l2
  have hlast : 0 < lastI (rawQ u e b) := by
    unfold rawQ
    split
    · show 0 < lastI ([-u] ++ [b]); rw [lastI_snoc]; omega
    · show 0 < lastI ([u * u - e, -2 * b * u] ++ [b * b]); rw [lastI_snoc]; exact Int.mul_pos (by omega) (by omega)
  obtain ⟨g, hg, eg⟩ := plain_pos tr hne hlast
  rw [← raw_sign hn]
  show sg (hv t n (plainL (rawQ u e b))) = _
  have e3 : hv t n (rawQ u e b) = g * hv t n (plainL (rawQ u e b)) := by
    calc hv t n (rawQ u e b) = hv t n (scL g (plainL (rawQ u e b))) := by rw [← eg]
      _ = _ := hv_scL _ _ _ _
  rw [e3, sg_pos_mul hg]
/-- factors as they are drawn -/
def FacQ (f : List Int) : Prop := ∃ u e b : Int, f = [u, e, b] ∧ 1 ≤ b
theorem pr_sign {t n : Int} (hn : 0 < n) : ∀ (fs : List (List Int)), (∀ f ∈ fs, FacQ f) → sg (pr t n (fs.map shpQ)) = spr t n (spots fs)
  | [], _ => rfl
  | f :: fs, h => by
    obtain ⟨u, e, b, rfl, hb⟩ := h f (List.mem_cons_self ..)
    have ih := pr_sign (t := t) hn fs fun x hx => h x (List.mem_cons_of_mem _ hx)
    have e1 : spots ([u, e, b] :: fs) = spF [u, e, b] ++ spots fs := by unfold spots; rw [List.flatMap_cons]
    show sg (hv t n (shpQ [u, e, b]) * pr t n (fs.map shpQ)) = _
    rw [sg_mul, shp_sign hb hn, ih, e1, spr_app]
theorem shpQ_ne {f : List Int} (h : FacQ f) : shpQ f ≠ [] ∧ Tr (shpQ f) := by
  obtain ⟨u, e, b, rfl, hb⟩ := h
  obtain ⟨tr, l2⟩ := tr_rawQ (u := u) (e := e) hb
  refine ⟨fun z => ?_, tr_plain tr⟩
  have := plain_len (rawQ u e b)
  have z' : plainL (rawQ u e b) = [] := z
  rw [z'] at this; simp at this; omega
/-- the sign of the whole product -/
theorem prod_sign {t n c : Int} (hn : 0 < n) {fs : List (List Int)} (h : ∀ f ∈ fs, FacQ f) : sg (hv t n (mulL [c] (prodL [1] (fs.map shpQ)))) = sg c * spr t n (spots fs) := by
  have hs : ∀ s ∈ fs.map shpQ, s ≠ [] ∧ Tr s := fun s hs => by
    obtain ⟨x, hx, rfl⟩ := List.mem_map.mp hs
    exact shpQ_ne (h x hx)
  obtain ⟨p1, p2, p3⟩ := prodL_ok (fs.map shpQ) [1] (by simp) ((tr_snoc (r := [])).mpr (by decide)) hs
  have e1 := hv_mulL t n (a := [c]) (b := prodL [1] (fs.map shpQ)) p1 (by simp)
  have e2 := hv_prod t n (fs.map shpQ) [1] (by simp) fun s h => (hs s h).1
  rw [hv_one] at e1 e2
  rw [← pr_sign hn fs h]
  have e3 : hv t n (mulL [c] (prodL [1] (fs.map shpQ))) = c * hv t n (prodL [1] (fs.map shpQ)) := by
    refine Int.eq_of_mul_eq_mul_left (Int.ne_of_gt hn) ?_
    rw [e1]; grind
  rw [e3, sg_mul]
  have e4 := congrArg sg e2
  rw [sg_pos_mul (Int.pow_pos hn), Int.one_mul, sg_pos_mul hn] at e4
  rw [e4]
end RM

/-! two roots of unlike factors do not lie in one narrow span (behind MathSpot) -/
namespace RM
/-- the root lies above A / D, not above B / D -/
def inS (l : List Int) (A B D : Int) : Prop := 0 < sideG l A D ∧ sideG l B D ≤ 0
instance (l : List Int) (A B D : Int) : Decidable (inS l A B D) := inferInstanceAs (Decidable (_ ∧ _))
/-- small numbers -/
structure Fsm (u e b : Int) : Prop where
  u1 : -11 ≤ u
  u2 : u ≤ 11
  e0 : 0 ≤ e
  e1 : e < 36
  b1 : 1 ≤ b
  b2 : b ≤ 3
theorem near_raw {u e b s A B D : Int} (h : Fsm u e b) (hs : s = 1 ∨ s = -1 ∧ 0 < e) (hD : 2 ^ 40 ≤ D) (hw : B = A + 128) (hi : inS [u, e, b, s] A B D) : ((b * A - u * D) * (b * A - u * D) - e * D * D).natAbs ≤ 5000 * D.natAbs := by
  obtain ⟨u1, u2, e0, e1, b1, b2⟩ := h
  have hDD : 0 < D := by omega
  have eB : b * B - u * D = b * A - u * D + 128 * b := by rw [hw]; grind
  have h36 : e * D * D ≤ 6 * D * (6 * D) := by
    have h1 : e * (D * D) ≤ 36 * (D * D) := Int.mul_le_mul_of_nonneg_right (by omega) (Int.le_of_lt (Int.mul_pos hDD hDD))
    have e2 : e * D * D = e * (D * D) := by grind
    have e3 : 6 * D * (6 * D) = 36 * (D * D) := by grind
    omega
  have hE0 : 0 ≤ e * D * D := Int.mul_nonneg (Int.mul_nonneg e0 (by omega)) (by omega)
  have hbig : e = 0 ∨ 147456 < e * D * D := by
    rcases Int.lt_or_le 0 e with z | z
    · right
      have h1 : 1 * (D * D) ≤ e * (D * D) := Int.mul_le_mul_of_nonneg_right (by omega) (Int.le_of_lt (Int.mul_pos hDD hDD))
      have e2 : e * D * D = e * (D * D) := by grind
      have h2 : 1 * D ≤ D * D := Int.mul_le_mul_of_nonneg_right (by omega) (by omega)
      omega
    · left; omega
  rcases hs with rfl | ⟨rfl, hp⟩
  · have i1 : 0 < sureI (e * D * D) (b * A - u * D) := hi.1
    have i2 : sureI (e * D * D) (b * B - u * D) ≤ 0 := hi.2
    rw [eB] at i2
    generalize b * A - u * D = a at *
    have k1 : a < 0 ∨ a * a < e * D * D := by rcases sure_cases (e * D * D) a with z | z | z <;> omega
    have k2 : 0 ≤ a + 128 * b ∧ e * D * D ≤ (a + 128 * b) * (a + 128 * b) := by rcases sure_cases (e * D * D) (a + 128 * b) with z | z | z <;> omega
    by_cases ha : a < 0
    · have q1 := sq_le_of k2.1 (show a + 128 * b ≤ 384 by omega)
      have z0 : e = 0 := by omega
      subst z0
      have q2 : (-a) * (-a) ≤ 384 * 384 := sq_le_of (by omega) (by omega)
      have q3 : (-a) * (-a) = a * a := by grind
      have q4 : 0 ≤ a * a := by rw [← q3]; exact Int.mul_nonneg (by omega) (by omega)
      rw [Int.zero_mul, Int.zero_mul]
      omega
    · have k3 : a * a < e * D * D := by omega
      have k4 : a < 6 * D := lt_of_sq (by omega) (by omega)
      have e3 : (a + 128 * b) * (a + 128 * b) = a * a + 256 * (b * a) + 16384 * (b * b) := by grind
      have k5 : b * a ≤ 3 * a := Int.mul_le_mul_of_nonneg_right b2 (by omega)
      have k6 : b * b ≤ 9 := Int.mul_le_mul b2 b2 (by omega) (by omega)
      omega
  · have i1 : 0 < 0 - sureI (e * D * D) (0 - (b * A - u * D)) := hi.1
    have i2 : 0 - sureI (e * D * D) (0 - (b * B - u * D)) ≤ 0 := hi.2
    rw [eB] at i2
    have eq1 : (b * A - u * D) * (b * A - u * D) = (0 - (b * A - u * D)) * (0 - (b * A - u * D)) := by grind
    have eq2 : 0 - (b * A - u * D + 128 * b) = 0 - (b * A - u * D) - 128 * b := by omega
    rw [eq1]
    rw [eq2] at i2
    generalize 0 - (b * A - u * D) = c at *
    have k1 : 0 ≤ c ∧ e * D * D < c * c := by rcases sure_cases (e * D * D) c with z | z | z <;> omega
    have k2 : c - 128 * b < 0 ∨ (c - 128 * b) * (c - 128 * b) ≤ e * D * D := by rcases sure_cases (e * D * D) (c - 128 * b) with z | z | z <;> omega
    by_cases hc : c - 128 * b < 0
    · have q1 := sq_le_of k1.1 (show c ≤ 384 by omega)
      omega
    · have k3 : (c - 128 * b) * (c - 128 * b) ≤ e * D * D := by omega
      have k4 : c - 128 * b ≤ 6 * D := le_of_sq (by omega) (by omega)
      have e3 : c * c = (c - 128 * b) * (c - 128 * b) + 256 * (b * c) - 16384 * (b * b) := by grind
      have k5 : b * c ≤ 3 * c := Int.mul_le_mul_of_nonneg_right b2 (by omega)
      have k6 : 0 ≤ b * b := Int.mul_nonneg (by omega) (by omega)
      omega
/-- both roots of one factor are not in one narrow span -/
theorem twin_apart {u e b A B D : Int} (h : Fsm u e b) (he : 0 < e) (hD : 2 ^ 40 ≤ D) (hw : B = A + 128) (h1 : inS [u, e, b, 1] A B D) (h2 : inS [u, e, b, -1] A B D) : False := by
  obtain ⟨u1, u2, e0, e1, b1, b2⟩ := h
  have hDD : 0 < D := by omega
  have eB : b * B - u * D = b * A - u * D + 128 * b := by rw [hw]; grind
  have i1 : sureI (e * D * D) (b * B - u * D) ≤ 0 := h1.2
  have i2 : 0 < 0 - sureI (e * D * D) (0 - (b * A - u * D)) := h2.1
  rw [eB] at i1
  generalize b * A - u * D = a at *
  have k1 : 0 ≤ a + 128 * b := by rcases sure_cases (e * D * D) (a + 128 * b) with z | z | z <;> omega
  have k2 : 0 ≤ 0 - a ∧ e * D * D < (0 - a) * (0 - a) := by rcases sure_cases (e * D * D) (0 - a) with z | z | z <;> omega
  have k3 := sq_le_of k2.1 (show 0 - a ≤ 384 by omega)
  have h3 : 1 * (D * D) ≤ e * (D * D) := Int.mul_le_mul_of_nonneg_right (by omega) (Int.le_of_lt (Int.mul_pos hDD hDD))
  have e2 : e * D * D = e * (D * D) := by grind
  have h4 : 1 * D ≤ D * D := Int.mul_le_mul_of_nonneg_right (by omega) (by omega)
  omega
theorem abs_mul_le {x y : Int} {a b : Nat} (hx : x.natAbs ≤ a) (hy : y.natAbs ≤ b) : (x * y).natAbs ≤ a * b := by rw [Int.natAbs_mul]; exact Nat.mul_le_mul hx hy
/-- unlike factors: the two equations cannot both nearly hold -/
theorem near_both {u e b u' e' b' A D : Int} (h : Fsm u e b) (h' : Fsm u' e' b') (hD : 2 ^ 40 ≤ D)
    (n1 : ((b * A - u * D) * (b * A - u * D) - e * D * D).natAbs ≤ 5000 * D.natAbs) (n2 : ((b' * A - u' * D) * (b' * A - u' * D) - e' * D * D).natAbs ≤ 5000 * D.natAbs) :
    4 * ((b * u' - u * b') * (b * u' - u * b')) * (b * b * e') = (b' * b' * e - b * b * e' - (b * u' - u * b') * (b * u' - u * b')) * (b' * b' * e - b * b * e' - (b * u' - u * b') * (b * u' - u * b')) := by
  obtain ⟨u1, u2, e0, e1, b1, b2⟩ := h
  obtain ⟨u1', u2', e0', e1', b1', b2'⟩ := h'
  obtain ⟨N, rfl⟩ := Int.eq_ofNat_of_zero_le (show 0 ≤ D by omega)
  rw [Int.natAbs_natCast] at n1 n2
  have hN : 1099511627776 ≤ N := by omega
  have q9 : (b' * b').natAbs ≤ 9 := abs_mul_le (a := 3) (b := 3) (by omega) (by omega)
  have q9' : (b * b).natAbs ≤ 9 := abs_mul_le (a := 3) (b := 3) (by omega) (by omega)
  have d1 := abs_mul_le q9 n1
  have d2 := abs_mul_le q9' n2
  have hU : (b * u' - u * b').natAbs ≤ 66 := by
    have a1 : (b * u').natAbs ≤ 3 * 11 := abs_mul_le (by omega) (by omega)
    have a2 : (u * b').natAbs ≤ 11 * 3 := abs_mul_le (by omega) (by omega)
    omega
  have hE1 : (b' * b' * e).natAbs ≤ 9 * 35 := abs_mul_le q9 (by omega)
  have hE2 : (b * b * e').natAbs ≤ 9 * 35 := abs_mul_le q9' (by omega)
  -- X = b' a, Y = b a', X = Y + U N
  have r1 : (b' * (b * A - u * N)) * (b' * (b * A - u * N)) = b' * b' * e * (N * N) + b' * b' * ((b * A - u * N) * (b * A - u * N) - e * N * N) := by grind
  have r2 : (b * (b' * A - u' * N)) * (b * (b' * A - u' * N)) = b * b * e' * (N * N) + b * b * ((b' * A - u' * N) * (b' * A - u' * N) - e' * N * N) := by grind
  have r3 : b' * (b * A - u * N) = b * (b' * A - u' * N) + (b * u' - u * b') * N := by grind
  generalize b' * b' * ((b * A - u * N) * (b * A - u * N) - e * N * N) = δ1 at *
  generalize b * b * ((b' * A - u' * N) * (b' * A - u' * N) - e' * N * N) = δ2 at *
  rw [r3] at r1
  generalize b * (b' * A - u' * N) = Y at *
  generalize b * u' - u * b' = U at *
  generalize b' * b' * e = E1 at *
  generalize b * b * e' = E2 at *
  clear n1 n2 q9 q9' r3 u1 u2 e0 e1 b1 b2 u1' u2' e0' e1' b1' b2' hD
  have hUU : (U * U).natAbs ≤ 66 * 66 := abs_mul_le hU hU
  have hW : (E1 - E2 - U * U).natAbs ≤ 4986 := by omega
  generalize hWd : E1 - E2 - U * U = W at *
  -- 2 U N Y = W N N + (δ1 - δ2)
  have r4 : 2 * U * N * Y = W * (N * N) + (δ1 - δ2) := by rw [← hWd]; grind
  have r5 : (2 * U * N * Y) * (2 * U * N * Y) = 4 * (U * U) * (N * N) * (Y * Y) := by grind
  rw [r4, r2] at r5
  -- N^2 ((4 U^2 E2 - W^2) N^2 - ...) = 0
  have hM : (δ1 - δ2).natAbs ≤ 90000 * N := by omega
  have hδ2 : δ2.natAbs ≤ 45000 * N := by omega
  generalize δ1 - δ2 = δ at *
  have hNN : (0 : Int) < (N : Int) * N := Int.mul_pos (by omega) (by omega)
  have r6 : (4 * (U * U) * E2 - W * W) * (N * N) * (N * N) = 2 * W * δ * (N * N) + δ * δ - 4 * (U * U) * δ2 * (N * N) := by grind
  refine Int.sub_eq_zero.mp (Classical.byContradiction fun hne => ?_)
  generalize hZ : 4 * (U * U) * E2 - W * W = Z at *
  have hZ1 : 1 ≤ Z.natAbs := by omega
  have b1 : (Z * (N * N) * (N * N)).natAbs = Z.natAbs * (N * N) * (N * N) := by rw [Int.natAbs_mul, Int.natAbs_mul, Int.natAbs_mul, Int.natAbs_natCast]
  have t1 : (2 * W * δ * (N * N)).natAbs ≤ 2 * 4986 * (90000 * N) * (N * N) := by
    refine abs_mul_le (abs_mul_le (abs_mul_le (by decide) hW) hM) ?_
    rw [Int.natAbs_mul, Int.natAbs_natCast]; exact Nat.le_refl _
  have t2 : (δ * δ).natAbs ≤ 90000 * N * (90000 * N) := abs_mul_le hM hM
  have t3 : (4 * (U * U) * δ2 * (N * N)).natAbs ≤ 4 * (66 * 66) * (45000 * N) * (N * N) := by
    refine abs_mul_le (abs_mul_le (abs_mul_le (by decide) hUU) hδ2) ?_
    rw [Int.natAbs_mul, Int.natAbs_natCast]; exact Nat.le_refl _
  have t4 : 1 * (N * N) * (N * N) ≤ Z.natAbs * (N * N) * (N * N) := Nat.mul_le_mul_right _ (Nat.mul_le_mul_right _ hZ1)
  rw [← b1, r6] at t4
  have e1 : 2 * 4986 * (90000 * N) * (N * N) = 897480000 * (N * N * N) := by grind
  have e2 : 90000 * N * (90000 * N) = 8100000000 * (N * N) := by grind
  have e3 : 4 * (66 * 66) * (45000 * N) * (N * N) = 784080000 * (N * N * N) := by grind
  have e4 : 1 * (N * N) * (N * N) = N * (N * N * N) := by grind
  have m1 : 1 * (N * N) ≤ N * (N * N) := Nat.mul_le_mul_right _ (by omega)
  have m2 : 1099511627776 * (N * N * N) ≤ N * (N * N * N) := Nat.mul_le_mul_right _ hN
  have m3 : N * (N * N) = N * N * N := by grind
  have m4 : 0 < N * N * N := Nat.mul_pos (Nat.mul_pos (by omega) (by omega)) (by omega)
  generalize N * N * N = n3 at *
  omega
/-- unlike plain polynomials, unlike roots -/
theorem shape_eq {u e b u' e' b' : Int} (h : Fsm u e b) (h' : Fsm u' e' b') (hs : NS e) (hs' : NS e')
    (eq : 4 * ((b * u' - u * b') * (b * u' - u * b')) * (b * b * e') = (b' * b' * e - b * b * e' - (b * u' - u * b') * (b * u' - u * b')) * (b' * b' * e - b * b * e' - (b * u' - u * b') * (b * u' - u * b'))) : shpQ [u, e, b] = shpQ [u', e', b'] := by
  obtain ⟨u1, u2, e0, e1, b1, b2⟩ := h
  obtain ⟨u1', u2', e0', e1', b1', b2'⟩ := h'
  have key : b * u' - u * b' = 0 ∧ b' * b' * e = b * b * e' := by
    by_cases hz : e' = 0
    · subst hz
      have e3 : (b' * b' * e - (b * u' - u * b') * (b * u' - u * b')) * (b' * b' * e - (b * u' - u * b') * (b * u' - u * b')) = 0 := by
        have : b * b * (0 : Int) = 0 := Int.mul_zero _
        rw [this] at eq
        rw [Int.mul_zero] at eq
        have h9 : b' * b' * e - 0 - (b * u' - u * b') * (b * u' - u * b') = b' * b' * e - (b * u' - u * b') * (b * u' - u * b') := by omega
        rw [h9] at eq
        exact eq.symm
      have e4 : b' * b' * e = (b * u' - u * b') * (b * u' - u * b') := by
        rcases Int.mul_eq_zero.mp e3 with z | z <;> omega
      by_cases hz2 : e = 0
      · subst hz2
        rw [Int.mul_zero] at e4
        refine ⟨?_, by rw [Int.mul_zero, Int.mul_zero]⟩
        rcases Int.mul_eq_zero.mp e4.symm with z | z <;> exact z
      · exact (hs.no hz2 (by omega) e4).elim
    · by_cases hU : b * u' - u * b' = 0
      · rw [hU] at eq
        have e3 : (b' * b' * e - b * b * e') * (b' * b' * e - b * b * e') = 0 := by
          have h8 : 4 * ((0 : Int) * 0) * (b * b * e') = 0 := by rw [Int.mul_zero, Int.mul_zero, Int.zero_mul]
          rw [h8] at eq
          have h9 : b' * b' * e - b * b * e' - 0 * 0 = b' * b' * e - b * b * e' := by omega
          rw [h9] at eq; exact eq.symm
        refine ⟨hU, ?_⟩
        rcases Int.mul_eq_zero.mp e3 with z | z <;> omega
      · refine (hs'.no hz (x := 2 * (b * u' - u * b') * b) (Int.mul_ne_zero (Int.mul_ne_zero (by decide) hU) (by omega)) (Eq.trans ?_ eq)).elim
        grind
  obtain ⟨k1, k2⟩ := key
  show plainL (rawQ u e b) = plainL (rawQ u' e' b')
  obtain ⟨tr, l2⟩ := tr_rawQ (u := u) (e := e) b1
  obtain ⟨tr', l2'⟩ := tr_rawQ (u := u') (e := e') b1'
  have hne : rawQ u e b ≠ [] := fun z => by rw [z] at l2; simp at l2
  have hne' : rawQ u' e' b' ≠ [] := fun z => by rw [z] at l2'; simp at l2'
  have hz : e = 0 ↔ e' = 0 := by
    constructor
    · intro z; rw [z, Int.mul_zero] at k2
      rcases Int.mul_eq_zero.mp k2.symm with y | y
      · rcases Int.mul_eq_zero.mp y with y | y <;> omega
      · exact y
    · intro z; rw [z, Int.mul_zero] at k2
      rcases Int.mul_eq_zero.mp k2 with y | y
      · rcases Int.mul_eq_zero.mp y with y | y <;> omega
      · exact y
  have prop : ∃ x y : Int, x ≠ 0 ∧ y ≠ 0 ∧ ∀ n, x * cf (rawQ u' e' b') n = y * cf (rawQ u e b) n := by
    by_cases h0 : e = 0
    · have h0' := hz.mp h0
      refine ⟨b, b', by omega, by omega, fun n => ?_⟩
      unfold rawQ
      rw [if_pos h0, if_pos h0', cf_two, cf_two]
      split
      · have : b * u' = u * b' := by omega
        grind
      · split
        · grind
        · omega
    · have h0' : ¬ e' = 0 := fun z => h0 (hz.mpr z)
      refine ⟨b * b, b' * b', Int.mul_ne_zero (by omega) (by omega), Int.mul_ne_zero (by omega) (by omega), fun n => ?_⟩
      have k3 : b * u' = u * b' := by omega
      unfold rawQ
      rw [if_neg h0, if_neg h0']
      match n with
      | 0 =>
        show b * b * (u' * u' - e') = b' * b' * (u * u - e)
        have : (b * u') * (b * u') = (u * b') * (u * b') := by rw [k3]
        grind
      | 1 =>
        show b * b * (-2 * b' * u') = b' * b' * (-2 * b * u)
        have : b * b' * (b * u') = b * b' * (u * b') := by rw [k3]
        grind
      | 2 =>
        show b * b * (b' * b') = b' * b' * (b * b)
        grind
      | n + 3 =>
        show b * b * 0 = b' * b' * 0
        omega
  obtain ⟨x, y, hx, hy, hp⟩ := prop
  refine pln_same (pln_plain tr hne) (pln_plain tr' hne') ?_ ?_
  · rw [Dv.plain tr']
    refine Dv.prop_right hx hp ?_
    obtain ⟨g, hg, eg⟩ := plain_scale tr
    exact ⟨1, [g], by decide, fun n => by rw [mulc_one', ← eg]; omega⟩
  · rw [Dv.plain tr]
    refine Dv.prop_right (x := y) (y := x) hy (fun n => (hp n).symm) ?_
    obtain ⟨g, hg, eg⟩ := plain_scale tr'
    exact ⟨1, [g], by decide, fun n => by rw [mulc_one', ← eg]; omega⟩
/-- factors as drawn from -11 to 11 -/
def FacS (f : List Int) : Prop := ∃ u e b : Int, f = [u, e, b] ∧ -11 ≤ u ∧ u ≤ 11 ∧ -36 < e ∧ e < 36 ∧ 1 ≤ b ∧ b ≤ 3 ∧ NS e
theorem FacS.q {f : List Int} (h : FacS f) : FacQ f := by
  obtain ⟨u, e, b, rfl, _, _, _, _, h5, _⟩ := h
  exact ⟨u, e, b, rfl, h5⟩
def Apart (l l' : List Int) : Prop := ∀ A B D : Int, 2 ^ 40 ≤ D → B = A + 128 → inS l A B D → inS l' A B D → False
theorem spots_apart {fs : List (List Int)} (hF : ∀ f ∈ fs, FacS f) (hn : (fs.map shpQ).Nodup) : (spots fs).Pairwise Apart := by
  unfold spots
  rw [List.pairwise_flatMap]
  constructor
  · intro f hf
    obtain ⟨u, e, b, rfl, h1, h2, h3, h4, h5, h6, h7⟩ := hF f hf
    have hd : spF [u, e, b] = (if 0 ≤ e then [[u, e, b, 1]] else []) ++ (if 0 < e then [[u, e, b, -1]] else []) := rfl
    rw [hd]
    by_cases z : 0 < e
    · rw [if_pos (by omega), if_pos z]
      show List.Pairwise _ [[u, e, b, 1], [u, e, b, -1]]
      refine List.pairwise_pair.mpr fun A B D hD hw a1 a2 => ?_
      exact twin_apart ⟨h1, h2, by omega, h4, h5, h6⟩ z hD hw a1 a2
    · rw [if_neg z]
      split
      · exact List.pairwise_singleton _ _
      · exact List.Pairwise.nil
  · rw [List.nodup_iff_pairwise_ne, List.pairwise_map] at hn
    refine hn.imp_of_mem fun {f g} hf hg hne x hx y hy A B D hD hw a1 a2 => hne ?_
    obtain ⟨u, e, b, rfl, h1, h2, h3, h4, h5, h6, h7⟩ := hF f hf
    obtain ⟨u', e', b', rfl, h1', h2', h3', h4', h5', h6', h7'⟩ := hF g hg
    obtain ⟨_, s, rfl, he, hs⟩ := spf_spt rfl h5 hx
    obtain ⟨_, s', rfl, he', hs'⟩ := spf_spt rfl h5' hy
    have F1 : Fsm u e b := ⟨h1, h2, he, h4, h5, h6⟩
    have F2 : Fsm u' e' b' := ⟨h1', h2', he', h4', h5', h6'⟩
    exact shape_eq F1 F2 h7 h7' (near_both F1 F2 hD (near_raw F1 hs hD hw a1) (near_raw F2 hs' hD hw a2))
/-- those in the span -/
def amid (ls : List (List Int)) (A B D : Int) : List (List Int) := ls.filter fun l => decide (inS l A B D)
theorem amid_one {ls : List (List Int)} (hp : ls.Pairwise Apart) {l : List Int} (hl : l ∈ ls) {A B D : Int} (hD : 2 ^ 40 ≤ D) (hw : B = A + 128) (hi : inS l A B D) : (amid ls A B D).length = 1 := by
  have hm : l ∈ amid ls A B D := List.mem_filter.mpr ⟨hl, decide_eq_true hi⟩
  have hf : (amid ls A B D).Pairwise Apart := hp.filter _
  have hall : ∀ x ∈ amid ls A B D, inS x A B D := fun x hx => of_decide_eq_true (List.mem_filter.mp hx).2
  generalize amid ls A B D = r at *
  match r with
  | [] => cases hm
  | [_] => rfl
  | x :: y :: r =>
    have h1 := (List.pairwise_cons.mp hf).1 y (by simp)
    exact (h1 A B D hD hw (hall x (by simp)) (hall y (by simp))).elim
theorem amid_split : ∀ {ls : List (List Int)} {A B D : Int}, (amid ls A B D).length = 1 → ∃ pre l post, ls = pre ++ l :: post ∧ amid ls A B D = [l] ∧ inS l A B D ∧ (∀ x ∈ pre ++ post, ¬ inS x A B D)
  | [], A, B, D, h => by cases h
  | x :: ls, A, B, D, h => by
    unfold amid at h ⊢
    by_cases hx : inS x A B D
    · rw [List.filter_cons_of_pos (p := fun l => decide (inS l A B D)) (decide_eq_true hx)] at h ⊢
      have h0 : (ls.filter fun l => decide (inS l A B D)) = [] := List.eq_nil_of_length_eq_zero (by simpa using h)
      refine ⟨[], x, ls, rfl, by rw [h0], hx, fun y hy hiy => ?_⟩
      have : y ∈ (ls.filter fun l => decide (inS l A B D)) := List.mem_filter.mpr ⟨hy, decide_eq_true hiy⟩
      rw [h0] at this; cases this
    · rw [List.filter_cons_of_neg (p := fun l => decide (inS l A B D)) (by simpa using hx)] at h ⊢
      obtain ⟨pre, l, post, rfl, e2, e3, e4⟩ := amid_split h
      refine ⟨x :: pre, l, post, rfl, e2, e3, fun y hy => ?_⟩
      rcases List.mem_cons.mp hy with rfl | z
      · exact hx
      · exact e4 y z
theorem spots_spt {fs : List (List Int)} (hF : ∀ f ∈ fs, FacQ f) {l : List Int} (hl : l ∈ spots fs) : Spt l := by
  obtain ⟨f, hf, hm⟩ := List.mem_flatMap.mp hl
  obtain ⟨u, e, b, rfl, hb⟩ := hF f hf
  exact (spf_spt rfl hb hm).1
/-- all roots lie between -64 and 64 -/
theorem spot_wide {fs : List (List Int)} (hF : ∀ f ∈ fs, FacS f) {l : List Int} (hl : l ∈ spots fs) : inS l (-64) 64 1 := by
  obtain ⟨f, hf, hm⟩ := List.mem_flatMap.mp hl
  obtain ⟨u, e, b, rfl, h1, h2, h3, h4, h5, h6, h7⟩ := hF f hf
  obtain ⟨_, s, rfl, he, hs⟩ := spf_spt rfl h5 hm
  rcases hs with rfl | ⟨rfl, hp⟩
  · constructor
    · show 0 < sureI (e * 1 * 1) (b * (-64) - u * 1)
      rcases sure_cases (e * 1 * 1) (b * (-64) - u * 1) with z | z | z <;> omega
    · show sureI (e * 1 * 1) (b * 64 - u * 1) ≤ 0
      have := sq_le_of (x := 53) (y := b * 64 - u * 1) (by decide) (by omega)
      rcases sure_cases (e * 1 * 1) (b * 64 - u * 1) with z | z | z <;> omega
  · constructor
    · show 0 < 0 - sureI (e * 1 * 1) (0 - (b * (-64) - u * 1))
      have := sq_le_of (x := 53) (y := 0 - (b * (-64) - u * 1)) (by decide) (by omega)
      rcases sure_cases (e * 1 * 1) (0 - (b * (-64) - u * 1)) with z | z | z <;> omega
    · show 0 - sureI (e * 1 * 1) (0 - (b * 64 - u * 1)) ≤ 0
      rcases sure_cases (e * 1 * 1) (0 - (b * 64 - u * 1)) with z | z | z <;> omega
end RM

open PySem.W in
local macro_rules | `(tactic| walk_at "comp_ok") => `(tactic| exact ⟨by with_unfolding_all rfl, by decide +kernel, rfl, by decide +kernel, by repeat' (first | exact List.forall_mem_nil _ | refine List.forall_mem_cons.2 ⟨rfl, ?_⟩), by rfl, by repeat' (first | exact .nil | refine .cons ⟨rfl, by first | exact Or.inl rfl | exact Or.inr rfl, rfl⟩ ?_)⟩)

namespace R27
open PySem L2 RM
def top (i : Nat) : Stmt := PySem.Challenge.pw_rootspan_k27_narrowed.main.body.getD i (.Pass ⟨0, 0, 0, 0⟩)
abbrev s_shared : Stmt := top 5
abbrev s_shared_by_two : Stmt := top 6
abbrev s_whole_sign : Stmt := top 7
abbrev s_Ratio___init__ : Stmt := inClass (top 8) 0
abbrev s_Ratio_plus : Stmt := inClass (top 8) 1
abbrev s_Ratio_minus : Stmt := inClass (top 8) 2
abbrev s_Ratio_times : Stmt := inClass (top 8) 3
abbrev s_poly : Stmt := top 10
abbrev s_degree : Stmt := top 11
abbrev s_added : Stmt := top 12
abbrev s_coefficient : Stmt := top 13
abbrev s_multiplied : Stmt := top 14
abbrev s_value_parts : Stmt := top 15
abbrev s_sign_at : Stmt := top 16
abbrev s_narrowed : Stmt := top 18
abbrev s_halvings : Stmt := top 19
abbrev s_stretched : Stmt := top 20
abbrev s_halved : Stmt := top 21
abbrev s_spread : Stmt := top 22
abbrev s_moved : Stmt := top 23
abbrev s_along : Stmt := top 24
abbrev s__law_cell_at : Stmt := top 26
abbrev s__law_whole : Stmt := top 27
abbrev s__law_within : Stmt := top 28
abbrev s__law_mul : Stmt := top 29
abbrev s__law_gcd : Stmt := top 30
abbrev s__law_shrunk : Stmt := top 31
abbrev s__law_plain : Stmt := top 32
abbrev s__law_factor_by : Stmt := top 33
abbrev s__law_shape : Stmt := top 34
abbrev s__law_factors_by : Stmt := top 35
abbrev s__law_product : Stmt := top 36
abbrev s__law_sure : Stmt := top 37
abbrev s__law_side : Stmt := top 38
abbrev s__law_roots_of : Stmt := top 39
abbrev s__law_is_ratio : Stmt := top 40
abbrev s__law_end : Stmt := top 41
abbrev s__law_amid : Stmt := top 42
abbrev s__law_half : Stmt := top 43
abbrev s__law_span : Stmt := top 44
abbrev s__law_same : Stmt := top 45
abbrev s_law : Stmt := top 46
theorem sc_shared : FnScope ["row", "divisor", "value"] ["row"] (defScope s_shared) := ⟨rfl, rfl, rfl, by decide +kernel, rfl, by decide +kernel, by decide +kernel⟩
theorem sc_shared_by_two : FnScope ["one", "other", "greater", "less", "rest"] ["one", "other"] (defScope s_shared_by_two) := ⟨rfl, rfl, rfl, by decide +kernel, rfl, by decide +kernel, by decide +kernel⟩
theorem sc_whole_sign : FnScope ["value"] ["value"] (defScope s_whole_sign) := ⟨rfl, rfl, rfl, by decide +kernel, rfl, by decide +kernel, by decide +kernel⟩
theorem sc_Ratio___init__ : FnScope ["self", "top", "bottom", "divisor"] ["self", "top", "bottom"] (defScope s_Ratio___init__) := ⟨rfl, rfl, rfl, by decide +kernel, rfl, by decide +kernel, by decide +kernel⟩
theorem sc_Ratio_plus : FnScope ["self", "other"] ["self", "other"] (defScope s_Ratio_plus) := ⟨rfl, rfl, rfl, by decide +kernel, rfl, by decide +kernel, by decide +kernel⟩
theorem sc_Ratio_minus : FnScope ["self", "other"] ["self", "other"] (defScope s_Ratio_minus) := ⟨rfl, rfl, rfl, by decide +kernel, rfl, by decide +kernel, by decide +kernel⟩
theorem sc_Ratio_times : FnScope ["self", "other"] ["self", "other"] (defScope s_Ratio_times) := ⟨rfl, rfl, rfl, by decide +kernel, rfl, by decide +kernel, by decide +kernel⟩
theorem sc_poly : FnScope ["row", "length"] ["row"] (defScope s_poly) := ⟨rfl, rfl, rfl, by decide +kernel, rfl, by decide +kernel, by decide +kernel⟩
theorem sc_degree : FnScope ["row"] ["row"] (defScope s_degree) := ⟨rfl, rfl, rfl, by decide +kernel, rfl, by decide +kernel, by decide +kernel⟩
theorem sc_added : FnScope ["first", "second", "length"] ["first", "second"] (defScope s_added) := ⟨rfl, rfl, rfl, by decide +kernel, rfl, by decide +kernel, by decide +kernel⟩
theorem sc_coefficient : FnScope ["row", "place"] ["row", "place"] (defScope s_coefficient) := ⟨rfl, rfl, rfl, by decide +kernel, rfl, by decide +kernel, by decide +kernel⟩
theorem sc_multiplied : FnScope ["first", "second", "product", "j", "one", "k", "other"] ["first", "second"] (defScope s_multiplied) := ⟨rfl, rfl, rfl, by decide +kernel, rfl, by decide +kernel, by decide +kernel⟩
theorem sc_value_parts : FnScope ["row", "top", "bottom", "above", "below", "value"] ["row", "top", "bottom"] (defScope s_value_parts) := ⟨rfl, rfl, rfl, by decide +kernel, rfl, by decide +kernel, by decide +kernel⟩
theorem sc_sign_at : FnScope ["row", "ratio"] ["row", "ratio"] (defScope s_sign_at) := ⟨rfl, rfl, rfl, by decide +kernel, rfl, by decide +kernel, by decide +kernel⟩
theorem sc_narrowed : FnScope ["row", "low", "high", "width", "reach", "steps", "found"] ["row", "low", "high", "width"] (defScope s_narrowed) := ⟨rfl, rfl, rfl, by decide +kernel, rfl, by decide +kernel, by decide +kernel⟩
theorem sc_halvings : FnScope ["reach", "width", "wide", "goal", "steps"] ["reach", "width"] (defScope s_halvings) := ⟨rfl, rfl, rfl, by decide +kernel, rfl, by decide +kernel, by decide +kernel⟩
theorem sc_stretched : FnScope ["row", "low", "reach", "bottom", "start", "step", "found", "power", "value"] ["row", "low", "reach"] (defScope s_stretched) := ⟨rfl, rfl, rfl, by decide +kernel, rfl, by decide +kernel, by decide +kernel⟩
theorem sc_halved : FnScope ["row", "end", "steps", "place", "pieces", "ahead", "left", "k", "there"] ["row", "end", "steps"] (defScope s_halved) := ⟨rfl, rfl, rfl, by decide +kernel, rfl, by decide +kernel, by decide +kernel⟩
theorem sc_spread : FnScope ["row", "found", "factor", "value"] ["row"] (defScope s_spread) := ⟨rfl, rfl, rfl, by decide +kernel, rfl, by decide +kernel, by decide +kernel⟩
theorem sc_moved : FnScope ["row", "found", "start", "k"] ["row"] (defScope s_moved) := ⟨rfl, rfl, rfl, by decide +kernel, rfl, by decide +kernel, by decide +kernel⟩
theorem sc_along : FnScope ["low", "reach", "place", "pieces"] ["low", "reach", "place", "pieces"] (defScope s_along) := ⟨rfl, rfl, rfl, by decide +kernel, rfl, by decide +kernel, by decide +kernel⟩
theorem sc__law_cell_at : FnScope ["_law_script", "_law_k"] ["_law_script", "_law_k"] (defScope s__law_cell_at) := ⟨rfl, rfl, rfl, by decide +kernel, rfl, by decide +kernel, by decide +kernel⟩
theorem sc__law_whole : FnScope ["_law_found"] ["_law_found"] (defScope s__law_whole) := ⟨rfl, rfl, rfl, by decide +kernel, rfl, by decide +kernel, by decide +kernel⟩
theorem sc__law_within : FnScope ["_law_cell", "_law_most"] ["_law_cell", "_law_most"] (defScope s__law_within) := ⟨rfl, rfl, rfl, by decide +kernel, rfl, by decide +kernel, by decide +kernel⟩
theorem sc__law_mul : FnScope ["_law_kp", "_law_kq", "_law_made", "_law_i", "_law_one", "_law_j", "_law_other"] ["_law_kp", "_law_kq"] (defScope s__law_mul) := ⟨rfl, rfl, rfl, by decide +kernel, rfl, by decide +kernel, by decide +kernel⟩
theorem sc__law_gcd : FnScope ["_law_a", "_law_b", "_law_rest"] ["_law_a", "_law_b"] (defScope s__law_gcd) := ⟨rfl, rfl, rfl, by decide +kernel, rfl, by decide +kernel, by decide +kernel⟩
theorem sc__law_shrunk : FnScope ["_law_kp", "_law_most", "_law_one"] ["_law_kp"] (defScope s__law_shrunk) := ⟨rfl, rfl, rfl, by decide +kernel, rfl, by decide +kernel, by decide +kernel⟩
theorem sc__law_plain : FnScope ["_law_kp", "_law_made"] ["_law_kp"] (defScope s__law_plain) := ⟨rfl, rfl, rfl, by decide +kernel, rfl, by decide +kernel, by decide +kernel⟩
theorem sc__law_factor_by : FnScope ["_law_cell", "_law_most", "_law_u", "_law_b", "_law_n", "_law_e"] ["_law_cell", "_law_most"] (defScope s__law_factor_by) := ⟨rfl, rfl, rfl, by decide +kernel, rfl, by decide +kernel, by decide +kernel⟩
theorem sc__law_shape : FnScope ["_law_factor", "_law_u", "_law_b"] ["_law_factor"] (defScope s__law_shape) := ⟨rfl, rfl, rfl, by decide +kernel, rfl, by decide +kernel, by decide +kernel⟩
theorem sc__law_factors_by : FnScope ["_law_drawn", "_law_most", "_law_room", "_law_made", "_law_shapes", "_law_cell", "_law_one", "_law_shape_here"] ["_law_drawn", "_law_most", "_law_room"] (defScope s__law_factors_by) := ⟨rfl, rfl, rfl, by decide +kernel, rfl, by decide +kernel, by decide +kernel⟩
theorem sc__law_product : FnScope ["_law_factors", "_law_made", "_law_one"] ["_law_factors"] (defScope s__law_product) := ⟨rfl, rfl, rfl, by decide +kernel, rfl, by decide +kernel, by decide +kernel⟩
theorem sc__law_sure : FnScope ["_law_square", "_law_due"] ["_law_square", "_law_due"] (defScope s__law_sure) := ⟨rfl, rfl, rfl, by decide +kernel, rfl, by decide +kernel, by decide +kernel⟩
theorem sc__law_side : FnScope ["_law_spot", "_law_top", "_law_bottom", "_law_due", "_law_square"] ["_law_spot", "_law_top", "_law_bottom"] (defScope s__law_side) := ⟨rfl, rfl, rfl, by decide +kernel, rfl, by decide +kernel, by decide +kernel⟩
theorem sc__law_roots_of : FnScope ["_law_factors", "_law_made", "_law_one"] ["_law_factors"] (defScope s__law_roots_of) := ⟨rfl, rfl, rfl, by decide +kernel, rfl, by decide +kernel, by decide +kernel⟩
theorem sc__law_is_ratio : FnScope ["_law_found"] ["_law_found"] (defScope s__law_is_ratio) := ⟨rfl, rfl, rfl, by decide +kernel, rfl, by decide +kernel, by decide +kernel⟩
theorem sc__law_end : FnScope ["_law_cell", "_law_factors", "_law_known", "_law_one"] ["_law_cell", "_law_factors"] (defScope s__law_end) := ⟨rfl, rfl, rfl, by decide +kernel, rfl, by decide +kernel, by decide +kernel⟩
theorem sc__law_amid : FnScope ["_law_spots", "_law_span_here", "_law_found", "_law_spot"] ["_law_spots", "_law_span_here"] (defScope s__law_amid) := ⟨rfl, rfl, rfl, by decide +kernel, rfl, by decide +kernel, by decide +kernel⟩
theorem sc__law_half : FnScope ["_law_span_here", "_law_spot", "_law_middle"] ["_law_span_here", "_law_spot"] (defScope s__law_half) := ⟨rfl, rfl, rfl, by decide +kernel, rfl, by decide +kernel, by decide +kernel⟩
theorem sc__law_span : FnScope ["_law_script", "_law_factors", "_law_spots", "_law_low", "_law_high", "_law_span_here", "_law_spot"] ["_law_script", "_law_factors", "_law_spots"] (defScope s__law_span) := ⟨rfl, rfl, rfl, by decide +kernel, rfl, by decide +kernel, by decide +kernel⟩
theorem sc__law_same : FnScope ["_law_found", "_law_top", "_law_bottom"] ["_law_found", "_law_top", "_law_bottom"] (defScope s__law_same) := ⟨rfl, rfl, rfl, by decide +kernel, rfl, by decide +kernel, by decide +kernel⟩
theorem sc_law : FnScope ["_law_script", "_law_factors", "_law_lead", "_law_kp", "_law_spots", "_law_span_here", "_law_top", "_law_bottom", "_law_handed", "_law_found", "_law_spot"] ["_law_script"] (defScope s_law) := ⟨rfl, rfl, rfl, by decide +kernel, rfl, by decide +kernel, by decide +kernel⟩
structure Txt (K : PySem.W.Frag) (mg : Str → Option Value) : Prop where
  abs_ : mg "abs" = none
  len_ : mg "len" = none
  max_ : mg "max" = none
  range_ : mg "range" = none
  enumerate_ : mg "enumerate" = none
  reversed_ : mg "reversed" = none
  sum_ : mg "sum" = none
  list_ : mg "list" = none
  isinstance_ : mg "isinstance" = none
  int_ : mg "int" = none
  bool_ : mg "bool" = none
  tuple_ : mg "tuple" = none
def spLaw (K : PySem.W.Frag) : Sp := fun vs H Q _ => ∃ (a : Addr) (ns : List Int), vs = [.ref a] ∧ SqL K H a (ns.map V.int) ∧ ns.length ≤ 63 ∧ ∀ H', Q (.bl true) H'
section
variable {P : Program} {w : World} {K : PySem.W.Frag} {mg : Str → Option Value} {base : Heap}
theorem rep_zero (n : Nat) : (List.replicate n [V.int 0]).flatten = (List.replicate n (0 : Int)).map V.int := by
  induction n with
  | zero => rfl
  | succ n ih => rw [List.replicate_succ, List.flatten_cons, ih, List.replicate_succ]; rfl
theorem ixN_nat {n j : Nat} {i : Int} (e : i = j) (h : j < n) : ixN n i = some j := by
  subst e; unfold ixN; rw [if_pos (Int.natCast_nonneg _), if_pos (by omega)]; simp
theorem map_set_int (l : List Int) (j : Nat) (x : Int) : (l.map V.int).set j (.int x) = (l.set j x).map V.int := by rw [List.map_set]
theorem at_map {l : List Int} {j : Nat} {i : Int} (e : i = j) (h : j < l.length) : atI (l.map V.int) i = some (.int (cf l j)) := by
  subst e
  exact atI_nat (by rw [List.getElem?_map, get_cf h]; rfl)
/-- all but the thing at p is as it was -/
def SameB (p : Addr) (H H' : Hp) : Prop := ∀ b o, b ≠ p → H b = some o → H' b = some o
theorem SameB.refl (p : Addr) (H : Hp) : SameB p H H := fun _ _ _ h => h
theorem SameB.then_new {p q : Addr} {H H1 : Hp} {o : HO} (s : SameB p H H1) (h : H1 q = none) : SameB p H (upd H1 q o) := fun b u n e => by
  rw [upd_ne (ne_of_none (s b u n e) h)]; exact s b u n e
theorem SameB.then_upd {p : Addr} {H H1 : Hp} {o : HO} (s : SameB p H H1) : SameB p H (upd H1 p o) := fun b u n e => by
  rw [upd_ne n]; exact s b u n e
def AllB (k : Nat) (l : List Int) : Prop := ∀ x ∈ l, Bits k x
theorem AllB.cf {k : Nat} {l : List Int} (h : AllB k l) (n : Nat) : Bits k (cf l n) := by
  by_cases hn : n < l.length
  · rw [cf_lt hn]; exact h _ (List.getElem_mem hn)
  · rw [cf_ge (Nat.le_of_not_lt hn)]; exact Bits.zero
theorem mut_same {H H2 : Hp} {p : Addr} {o : HO} (s : Same H H2) (hp : H p = none) : Same H (upd H2 p o) := fun b u e => by rw [upd_ne (ne_of_none e hp)]; exact s b u e
theorem map_snoc (l : List Int) (x : Int) : l.map V.int ++ [V.int x] = (l ++ [x]).map V.int := by rw [List.map_append]; rfl
def cutL (ms : List Int) (lo hi : Option Int) : List Int := (ms.drop (HT.sIx ms.length 0 lo)).take (HT.sIx ms.length ms.length hi - HT.sIx ms.length 0 lo)
theorem cutV_map (ms : List Int) (lo hi : Option Int) : cutV (ms.map V.int) lo hi = (cutL ms lo hi).map V.int := by
  unfold cutV cutL
  rw [List.length_map, ← List.map_drop, ← List.map_take]
theorem cutL_mem {ms : List Int} {lo hi : Option Int} {x : Int} (h : x ∈ cutL ms lo hi) : x ∈ ms := List.mem_of_mem_drop (List.mem_of_mem_take h)
theorem cutL_len (ms : List Int) (lo hi : Option Int) : (cutL ms lo hi).length ≤ ms.length := by
  unfold cutL; rw [List.length_take, List.length_drop]; omega
theorem AllB.cut {k : Nat} {ms : List Int} {lo hi : Option Int} (h : AllB k ms) : AllB k (cutL ms lo hi) := fun x hx => h x (cutL_mem hx)
theorem AllB.app {k : Nat} {l r : List Int} (h1 : AllB k l) (h2 : AllB k r) : AllB k (l ++ r) := fun x hx => (List.mem_append.mp hx).elim (h1 x) (h2 x)
theorem AllB.mono {j k : Nat} {l : List Int} (h : AllB j l) (hk : j ≤ k) : AllB k l := fun x hx => (h x hx).mono hk
theorem AllB.nil {k : Nat} : AllB k [] := fun _ h => nomatch h
theorem AllB.snoc {k : Nat} {l : List Int} {x : Int} (h : AllB k l) (hx : Bits k x) : AllB k (l ++ [x]) := h.app fun y hy => by rw [List.mem_singleton.mp hy]; exact hx
theorem mem_trim {l : List Int} {x : Int} (h : x ∈ trim l) : x ∈ l := by
  unfold trim at h
  rw [List.mem_reverse] at h
  exact List.mem_reverse.mp ((List.dropWhile_sublist _).subset h)
theorem AllB.trim {k : Nat} {l : List Int} (h : AllB k l) : AllB k (trim l) := fun x hx => h x (mem_trim hx)
theorem get_int {l : List Int} {i : Nat} {x : V} (h : (l.map V.int)[i]? = some x) : ∃ c, l[i]? = some c ∧ x = .int c ∧ c ∈ l ∧ l.take (i + 1) = l.take i ++ [c] := by
  rw [List.getElem?_map] at h
  cases e : l[i]? with
  | none => rw [e] at h; cases h
  | some c => rw [e] at h; exact ⟨c, rfl, (Option.some.inj h).symm, List.mem_of_getElem? e, by rw [List.take_add_one, e]; rfl⟩
/-- a new list of ints is handed back, all else is as it was -/
def mkL (H : Hp) (Q : VK) (r : List Int) : Prop := ∀ (p : Addr) (H' : Hp), Same H H' → H p = none → H' p = some (.lst (r.map V.int)) → Q (.ref p) H'
def spTrim (K : PySem.W.Frag) : Sp := fun vs H Q _ => ∃ (a : Addr) (ns : List Int), vs = [.ref a] ∧ SqL K H a (ns.map V.int) ∧ mkL H Q (trim ns)
def spCell (K : PySem.W.Frag) : Sp := fun vs H Q _ => ∃ (a : Addr) (ns : List Int) (k : Nat), vs = [.ref a, .int k] ∧ SqL K H a (ns.map V.int) ∧ Q (.int (ns.getD k 0)) H
def sp2L (K : PySem.W.Frag) (g : List Int → List Int → List Int) : Sp := fun vs H Q _ => ∃ (a b : Addr) (xs ys : List Int), vs = [.ref a, .ref b] ∧ SqL K H a (xs.map V.int) ∧ SqL K H b (ys.map V.int) ∧ xs.length ≤ 1000000 ∧ ys.length ≤ 1000000 ∧ mkL H Q (g xs ys)
theorem max_eq (i j : Nat) : (if ((j : Nat) : Int) > ((i : Nat) : Int) then ((j : Nat) : Int) else ((i : Nat) : Int)) = ((max i j : Nat) : Int) := by split <;> omega
theorem small62 {n : Nat} (h : n ≤ sizeLine) : -(2 ^ 62) ≤ ((n : Nat) : Int) ∧ ((n : Nat) : Int) < 2 ^ 62 := by have := sizeLine_eq; omega
/-- at ps stand the lists of xss -/
def RwH (H : Hp) (ps : List Addr) (xss : List (List Int)) : Prop := ps.length = xss.length ∧ ∀ (i : Nat) (p : Addr) (xs : List Int), ps[i]? = some p → xss[i]? = some xs → H p = some (.lst (xs.map V.int))
theorem RwH.nil {H : Hp} : RwH H [] [] := ⟨rfl, fun i p xs h => by simp at h⟩
theorem RwH.same {H H' : Hp} {ps : List Addr} {xss : List (List Int)} (h : RwH H ps xss) (s : Same H H') : RwH H' ps xss := ⟨h.1, fun i p xs a b => s _ _ (h.2 i p xs a b)⟩
theorem RwH.snoc {H : Hp} {ps : List Addr} {xss : List (List Int)} {p : Addr} {xs : List Int} (h : RwH H ps xss) (hp : H p = some (.lst (xs.map V.int))) : RwH H (ps ++ [p]) (xss ++ [xs]) := by
  refine ⟨by rw [List.length_append, List.length_append, h.1]; rfl, fun i q ys a b => ?_⟩
  by_cases hi : i < ps.length
  · rw [List.getElem?_append_left hi] at a
    rw [List.getElem?_append_left (by rw [← h.1]; exact hi)] at b
    exact h.2 i q ys a b
  · rw [List.getElem?_append_right (by omega)] at a
    rw [List.getElem?_append_right (by rw [← h.1]; omega), ← h.1] at b
    by_cases h0 : i - ps.length = 0
    · rw [h0] at a b
      obtain rfl : p = q := by simpa using a
      obtain rfl : xs = ys := by simpa using b
      exact hp
    · rw [List.getElem?_eq_none_iff.mpr (by simp; omega)] at a
      cases a
theorem RwH.get {H : Hp} {ps : List Addr} {xss : List (List Int)} {i : Nat} (h : RwH H ps xss) (hi : i < xss.length) : ∃ p, ps[i]? = some p ∧ H p = some (.lst ((xss.getD i []).map V.int)) := by
  have hi' : i < ps.length := by rw [h.1]; exact hi
  refine ⟨ps[i], List.getElem?_eq_getElem hi', h.2 i _ _ (List.getElem?_eq_getElem hi') ?_⟩
  rw [List.getElem?_eq_getElem hi]; simp [List.getD, hi]
theorem RwH.of_get {H : Hp} {ps : List Addr} {xss : List (List Int)} {i : Nat} {x : V} (h : RwH H ps xss) (hx : (ps.map V.ref)[i]? = some x) : ∃ p xs, x = .ref p ∧ ps[i]? = some p ∧ xss[i]? = some xs ∧ H p = some (.lst (xs.map V.int)) ∧ i < xss.length := by
  rw [List.getElem?_map] at hx
  cases e : ps[i]? with
  | none => rw [e] at hx; cases hx
  | some p =>
    rw [e] at hx
    have hi : i < ps.length := (List.getElem?_eq_some_iff.mp e).1
    have hi' : i < xss.length := by rw [← h.1]; exact hi
    exact ⟨p, xss[i], (Option.some.inj hx).symm, rfl, List.getElem?_eq_getElem hi', h.2 i p _ e (List.getElem?_eq_getElem hi'), hi'⟩
theorem map_ref_snoc (ps : List Addr) (p : Addr) : ps.map V.ref ++ [V.ref p] = (ps ++ [p]).map V.ref := by rw [List.map_append]; rfl
theorem rd_name {i : Nat} {v : V} {σ : St} {H : Hp} {Q : St → Hp → Prop} (h : Q (σ.set i (some v)) H) : gName i v σ H Q := h
/-- at ps stand the tuples of xss -/
def TuH (H : Hp) (ps : List Addr) (xss : List (List Int)) : Prop := ps.length = xss.length ∧ ∀ (i : Nat) (p : Addr) (xs : List Int), ps[i]? = some p → xss[i]? = some xs → H p = some (.tup (xs.map V.int))
theorem TuH.nil {H : Hp} : TuH H [] [] := ⟨rfl, fun i p xs h => by simp at h⟩
theorem TuH.same {H H' : Hp} {ps : List Addr} {xss : List (List Int)} (h : TuH H ps xss) (s : Same H H') : TuH H' ps xss := ⟨h.1, fun i p xs a b => s _ _ (h.2 i p xs a b)⟩
theorem TuH.snoc {H : Hp} {ps : List Addr} {xss : List (List Int)} {p : Addr} {xs : List Int} (h : TuH H ps xss) (hp : H p = some (.tup (xs.map V.int))) : TuH H (ps ++ [p]) (xss ++ [xs]) := by
  refine ⟨by rw [List.length_append, List.length_append, h.1]; rfl, fun i q ys a b => ?_⟩
  by_cases hi : i < ps.length
  · rw [List.getElem?_append_left hi] at a
    rw [List.getElem?_append_left (by rw [← h.1]; exact hi)] at b
    exact h.2 i q ys a b
  · rw [List.getElem?_append_right (by omega)] at a
    rw [List.getElem?_append_right (by rw [← h.1]; omega), ← h.1] at b
    by_cases h0 : i - ps.length = 0
    · rw [h0] at a b
      obtain rfl : p = q := by simpa using a
      obtain rfl : xs = ys := by simpa using b
      exact hp
    · rw [List.getElem?_eq_none_iff.mpr (by simp; omega)] at a
      cases a
theorem TuH.of_get {H : Hp} {ps : List Addr} {xss : List (List Int)} {i : Nat} {x : V} (h : TuH H ps xss) (hx : (ps.map V.ref)[i]? = some x) : ∃ p xs, x = .ref p ∧ ps[i]? = some p ∧ xss[i]? = some xs ∧ H p = some (.tup (xs.map V.int)) ∧ i < xss.length := by
  rw [List.getElem?_map] at hx
  cases e : ps[i]? with
  | none => rw [e] at hx; cases hx
  | some p =>
    rw [e] at hx
    have hi : i < ps.length := (List.getElem?_eq_some_iff.mp e).1
    have hi' : i < xss.length := by rw [← h.1]; exact hi
    exact ⟨p, xss[i], (Option.some.inj hx).symm, rfl, List.getElem?_eq_getElem hi', h.2 i p _ e (List.getElem?_eq_getElem hi'), hi'⟩
theorem TuH.upd_lst {H : Hp} {ps : List Addr} {xss : List (List Int)} {a : Addr} {vs : List V} {o : HO} (h : TuH H ps xss) (ha : H a = some (.lst vs)) : TuH (upd H a o) ps xss := ⟨h.1, fun i p xs e1 e2 => by
  have e3 := h.2 i p xs e1 e2
  rw [L2.upd_ne (fun z => by rw [z, ha] at e3; cases e3)]; exact e3⟩
theorem RwH.upd_no {H : Hp} {ps : List Addr} {xss : List (List Int)} {a : Addr} {o : HO} (h : RwH H ps xss) (hn : ∀ p ∈ ps, p ≠ a) : RwH (upd H a o) ps xss := ⟨h.1, fun i p xs e1 e2 => by rw [L2.upd_ne (hn p (List.mem_of_getElem? e1))]; exact h.2 i p xs e1 e2⟩
def sp2 : Sp := fun vs H Q _ => ∃ a b : Int, vs = [.int a, .int b] ∧ Q (.int (Nat.gcd a.natAbs b.natAbs : Nat)) H
theorem abs_eq (i : Int) : (if i < 0 then -i else i) = (i.natAbs : Int) := by split <;> omega
theorem ok_shared_by_two {f : Addr} {fd : FuncData} (F : Fun K "shared_by_two" "shared_by_two" s_shared_by_two f fd) (T : Txt K mg) : FnOk P w K mg base CX0 1 f fd ["one", "other"] sp2 := by
  refine F.ok sc_shared_by_two (fun vs H Q E h => ?_) (fun cdv A outer s H vs Q E hr h => ?_)
  · obtain ⟨a, b, rfl, _⟩ := h
    rfl
  · obtain ⟨a, b, rfl, k⟩ := h
    refine ⟨_, (pss_cons (ps_set (i := 2) sc_shared_by_two.nd rfl (Or.inl rfl) (pe_callB call_abs (by rfl) T.abs_ PyProof.Rows.boot_abs (pa_cons (pv 0) pa_nil)))
      (pss_cons (ps_set (i := 3) sc_shared_by_two.nd rfl (Or.inl rfl) (pe_callB call_abs (by rfl) T.abs_ PyProof.Rows.boot_abs (pa_cons (pv 1) pa_nil)))
      (pss_cons (ps_while PassesOwn.never (pt_cmpR op_neI (pv 3) pe_int (nomark _))
        (pss_cons (ps_set (i := 4) sc_shared_by_two.nd rfl (Or.inl rfl) (pe_op op_modP (pv 2) (pv 3)))
          (pss_cons (ps_set (i := 2) sc_shared_by_two.nd rfl (Or.inl rfl) (pv 3))
          (pss_one (ps_set (i := 3) sc_shared_by_two.nd rfl (Or.inl rfl) (pv 4))))))
      (pss_one (ps_ret (pv 2)))))), ?_⟩
    refine ⟨_, rfl, _, rfl, ?_⟩
    refine ⟨_, rfl, _, rfl, ?_⟩
    refine ⟨fun m σ' H' => ∃ (x y : Int) (z : Option V), σ' = [some (.int a), some (.int b), some (.int x), some (.int y), z] ∧ H = H' ∧ 0 ≤ x ∧ 0 ≤ y ∧ y.natAbs = m ∧ Nat.gcd x.natAbs y.natAbs = Nat.gcd a.natAbs b.natAbs, ⟨_, _, _, none, rfl, rfl, ?_, ?_, rfl, ?_⟩, ?_⟩
    · rw [abs_eq]; exact Int.natCast_nonneg _
    · rw [abs_eq]; exact Int.natCast_nonneg _
    · rw [abs_eq, abs_eq, Int.natAbs_natCast, Int.natAbs_natCast]
    · rintro m σ' H' ⟨x, y, z, rfl, rfl, hx, hy, rfl, hg⟩
      refine ⟨_, rfl, _, _, rfl, rfl, _, rfl, ?_⟩
      refine rd_ndec (fun hn => ?_) (fun h0 => ?_)
      · have hp : 0 < y := by have : y ≠ 0 := hn; omega
        refine ⟨fun σ'' H'' => ∃ m', m' < y.natAbs ∧ ∃ (x' y' : Int) (z : Option V), σ'' = [some (.int a), some (.int b), some (.int x'), some (.int y'), z] ∧ H = H'' ∧ 0 ≤ x' ∧ 0 ≤ y' ∧ y'.natAbs = m' ∧ Nat.gcd x'.natAbs y'.natAbs = Nat.gcd a.natAbs b.natAbs, fun _ _ h => h, ?_⟩
        refine ⟨_, rfl, _, rfl, _, _, rfl, rfl, hp, ?_⟩
        refine ⟨_, rfl, ?_⟩
        refine ⟨_, rfl, ?_⟩
        have h1 := Int.emod_nonneg x (Int.ne_of_gt hp)
        have h2 := Int.emod_lt_of_pos x hp
        exact ⟨(x % y).natAbs, by omega, y, x % y, _, rfl, rfl, hy, h1, rfl, by rw [gcd_turn hx hp]; exact hg⟩
      · refine ⟨_, rfl, ?_⟩
        have e : (y : Int) = 0 := h0
        subst e
        have e2 : (x : Int) = ((Nat.gcd a.natAbs b.natAbs : Nat) : Int) := by
          rw [← hg]
          show x = ((Nat.gcd x.natAbs 0 : Nat) : Int)
          rw [Nat.gcd_zero_right]; omega
        rw [e2]
        exact k
def spShared (K : PySem.W.Frag) : Sp := fun vs H Q _ => ∃ (a : Addr) (ns : List Int), vs = [.ref a] ∧ SqL K H a (ns.map V.int) ∧ Q (.int (gcdL ns : Nat)) H
theorem ok_shared {f : Addr} {fd : FuncData} (F : Fun K "shared" "shared" s_shared f fd) (T : Txt K mg) {f_shared_by_two : Addr} {fd_shared_by_two : FuncData} (C_shared_by_two : Cal P w K mg base 1 "shared_by_two" ["one", "other"] sp2 f_shared_by_two fd_shared_by_two) : FnOk P w K mg base CX0 2 f fd ["row"] (spShared K) := by
  obtain ⟨G_shared_by_two, m_shared_by_two, k_shared_by_two, b_shared_by_two⟩ := C_shared_by_two
  refine F.ok sc_shared (fun vs H Q E h => ?_) (fun cdv A outer s H vs Q E hr h => ?_)
  · obtain ⟨a, ns, rfl, _⟩ := h
    rfl
  · obtain ⟨a, ns, rfl, hS, k⟩ := h
    refine ⟨_, (pss_cons (ps_set (i := 1) sc_shared.nd rfl (Or.inl rfl) pe_int)
      (pss_cons (ps_for PassesOwn.never rfl (pi_listK (K := K) rfl (pv 0)) (pg_name (i := 2) sc_shared.nd rfl (Or.inl rfl))
        (pss_one (ps_set (i := 1) sc_shared.nd rfl (Or.inl rfl) (pe_call G_shared_by_two (hr.mono (by decide)) rfl m_shared_by_two k_shared_by_two b_shared_by_two .nil pass0 (pa_cons (pv 1) (pa_cons (pv 2) pa_nil))))))
      (pss_one (ps_ret (pv 1))))), ?_⟩
    refine ⟨_, rfl, a, rfl, ⟨_, hS⟩, for_list (K := K) (a := a) (xs := ns.map V.int) (fun i σ' H' => ∃ z : Option V, σ' = [some (.ref a), some (.int (gcdL (ns.take i) : Nat)), z] ∧ H = H') ⟨none, rfl, rfl⟩ (fun i σ' H' _ ⟨z, _, e⟩ => by rw [← e]; exact hS) ?_ ?_⟩
    · rintro i y σ' H' hi ⟨z, rfl, rfl⟩
      rw [List.getElem?_map] at hi
      cases e : ns[i]? with
      | none => rw [e] at hi; cases hi
      | some n =>
        rw [e] at hi
        obtain rfl := Option.some.inj hi
        refine ⟨_, rfl, _, rfl, _, _, rfl, ?_⟩
        have e3 : ns.take (i + 1) = ns.take i ++ [n] := by rw [List.take_add_one, e]; rfl
        refine ⟨some (.int n), ?_, rfl⟩
        rw [e3, gcdL_snoc, Int.natAbs_natCast]
        rfl
    · rintro σ' H' ⟨z, rfl, rfl⟩
      refine ⟨_, rfl, ?_⟩
      rw [List.length_map, List.take_length]
      exact k
def spShr : Sp := fun vs H Q _ => ∃ (a : Addr) (ns : List Int), vs = [.ref a] ∧ H a = some (.lst (ns.map V.int)) ∧ Tr ns ∧ ns.length ≤ 1000000 ∧ AllB 9000 ns ∧ mkL H Q (shrL ns)
theorem gcdL_bits {ns : List Int} (ht : Tr ns) (hb : AllB 9000 ns) (hne : ns ≠ []) : 0 < (gcdL ns : Int) ∧ Bits 9000 (gcdL ns : Int) := by
  obtain ⟨r, x, rfl⟩ := (snoc_cases ns).resolve_left hne
  have hx : x ≠ 0 := tr_snoc.mp ht
  have hm : x ∈ r ++ [x] := by simp
  have hd := gcdL_dvd hm
  have hp : 0 < x.natAbs := Int.natAbs_pos.mpr hx
  have h1 : 0 < gcdL (r ++ [x]) := Nat.pos_of_dvd_of_pos hd hp
  exact ⟨by omega, (hb x hm).of_le (by rw [Int.natAbs_natCast]; exact Nat.le_of_dvd hp hd)⟩
def spPlain : Sp := fun vs H Q _ => ∃ (a : Addr) (ns : List Int), vs = [.ref a] ∧ H a = some (.lst (ns.map V.int)) ∧ Tr ns ∧ ns.length ≤ 1000000 ∧ AllB 9000 ns ∧ mkL H Q (plainL ns)
theorem at_last (r : List Int) (x : Int) : atI ((r ++ [x]).map V.int) (-1) = some (.int x) := by
  rw [List.map_append]; exact atI_last _ _
theorem AllB.of_cf {k : Nat} {l : List Int} (h : ∀ n, Bits k (RM.cf l n)) : AllB k l := fun x hx => by
  obtain ⟨i, hi, rfl⟩ := List.mem_iff_getElem.mp hx
  have := h i
  rwa [cf_lt hi] at this
/-! a Ratio: its fields, its making -/
def flds (t b : Int) : List (Str × V) := putF "bottom" (.int b) (putF "top" (.int t) [])
theorem tb_ne : ¬ (("top" : Str) = "bottom") := by decide +kernel
theorem flds_bottom (t b : Int) : (flds t b).lookup ("bottom" : Str) = some (.int b) := by
  unfold flds; rw [lookup_putF, if_pos rfl]
theorem flds_top (t b : Int) : (flds t b).lookup ("top" : Str) = some (.int t) := by
  unfold flds; rw [lookup_putF, if_neg tb_ne, lookup_putF, if_pos rfl]
theorem flds_no (t b : Int) {m : Str} (h1 : ¬ m = "bottom") (h2 : ¬ m = "top") : (flds t b).lookup m = none := by
  unfold flds; rw [lookup_putF, if_neg h1, lookup_putF, if_neg h2]; rfl
structure RCI (K : PySem.W.Frag) (mg : Str → Option Value) (C : Addr) : Prop where
  cl : Cls K C
  nT : NoAttr K C "top"
  nB : NoAttr K C "bottom"
  mg : mg "Ratio" = some (.ref C)
  ha : PySem.W.findIn K (.ref C) "__class__" = some (some (.builtin "object.__class__"))
  hn : PySem.W.specialIn K (.builtin "object.__class__") "__get__" = some (some (.builtin "getset_descriptor.__get__"))
  ht : PySem.W.takesIn K (.builtin "object.__class__") = some true
  hm : PySem.W.mroIn K C (.type "object") = some true
/-- a Ratio with top t and bottom b stands at p -/
def RA (C : Addr) (H : Hp) (p : Addr) (t b : Int) : Prop := ∃ dx, H p = some (.ins C dx (flds t b))
theorem RA.same {C : Addr} {H H' : Hp} {p : Addr} {t b : Int} (h : RA C H p t b) (s : Same H H') : RA C H' p t b := let ⟨dx, e⟩ := h; ⟨dx, s _ _ e⟩
/-- a new Ratio of t and b is handed back -/
def mkR (C : Addr) (H : Hp) (Q : VK) (t b : Int) : Prop := ∀ (x : Addr) (H' : Hp), Same H H' → H x = none → RA C H' x (rt t b) (rb t b) → Q (.ref x) H'
def spInit (C : Addr) : Sp := fun vs H Q _ => ∃ (p dx : Addr) (t b : Int), vs = [.ref p, .int t, .int b] ∧ H p = some (.ins C dx []) ∧ b ≠ 0 ∧ Bits 9000 b ∧ Q .non (upd H p (.ins C dx (flds (rt t b) (rb t b))))
theorem make_R {C : Addr} {H1 : Hp} {q : Addr → Hp → Prop} {E : XK} {t b : Int} (hb : b ≠ 0) (bb : Bits 9000 b) (h : ∀ (x : Addr) (H' : Hp), Same H1 H' → H1 x = none → RA C H' x (rt t b) (rb t b) → q x H') : ∀ x dx : Addr, H1 x = none → H1 dx = none → dx ≠ x → spInit C (.ref x :: ([.int t, .int b] ++ [])) (upd (upd H1 dx (.own x)) x (.ins C dx [])) (fun v H2 => v = .non ∧ q x H2) E := fun x dx nx ndx ne => by
  refine ⟨x, dx, t, b, rfl, upd_same, hb, bb, rfl, ?_⟩
  rw [upd_upd]
  have s0 : Same H1 (upd (upd H1 dx (.own x)) x (.ins C dx (flds (rt t b) (rb t b)))) := fun c o e => by
    rw [upd_ne (ne_of_none e nx), upd_ne (ne_of_none e ndx)]; exact e
  exact h x _ s0 nx ⟨dx, upd_same⟩
theorem dv_bits {t b : Int} (hb : b ≠ 0) (bb : Bits 9000 b) : Bits 9000 (dv t b) := bb.of_le (by rw [dv_abs]; exact Nat.le_of_dvd (Int.natAbs_pos.mpr hb) (Nat.gcd_dvd_right _ _))
theorem ok_Ratio___init__ {C f : Addr} {dV : Value} {fd : FuncData} (F : FunD K "__init__" "Ratio.__init__" s_Ratio___init__ dV f fd) (T : Txt K mg) (R : RCI K mg C) {f_shared_by_two : Addr} {fd_shared_by_two : FuncData} (C_shared_by_two : Cal P w K mg base 1 "shared_by_two" ["one", "other"] sp2 f_shared_by_two fd_shared_by_two) : FnOk P w K mg base CX0 2 f fd ["self", "top", "bottom"] (spInit C) := by
  obtain ⟨G_shared_by_two, m_shared_by_two, k_shared_by_two, b_shared_by_two⟩ := C_shared_by_two
  refine F.ok sc_Ratio___init__ (fun vs H Q E h => ?_) (fun cdv A outer s H vs Q E hr h => ?_)
  · obtain ⟨p, dx, t, b, rfl, _⟩ := h
    rfl
  · obtain ⟨p, dx, t, b, rfl, hp, hb, bb, k⟩ := h
    refine ⟨_, (pss_cons (ps_if (pt_cmpR op_eqI (pv 2) pe_int (nomark _))
        (pss_one ps_never)
        pss_nil)
      (pss_cons (ps_set (i := 3) sc_Ratio___init__.nd rfl (Or.inl rfl) (pe_call G_shared_by_two (hr.mono (by decide)) rfl m_shared_by_two k_shared_by_two b_shared_by_two .nil pass0 (pa_cons (pv 1) (pa_cons (pv 2) pa_nil))))
      (pss_cons (ps_if (pt_cmpR op_lt (pv 2) pe_int (nomark _))
        (pss_one (ps_set (i := 3) sc_Ratio___init__.nd rfl (Or.inl rfl) (pe_un un_neg (pv 3))))
        pss_nil)
      (pss_cons (ps_fld (pv 0) (pe_op op_fdivB (pv 1) (pv 3)) rfl)
      (pss_one (ps_fld (pv 0) (pe_op op_fdivB (pv 2) (pv 3)) rfl)))))), ?_⟩
    refine rd_sr ⟨_, rfl, _, _, rfl, rfl, _, rfl, rd_dec (fun h => absurd h hb) (fun _ => ?_)⟩
    refine rd_sa ⟨_, rfl, _, rfl, t, b, rfl, ?_⟩
    refine rd_cutIf (fun σ' H' => H = H' ∧ σ' = [some (.ref p), some (.int t), some (.int b), some (.int (dv t b))]) ?_ ?_
    · rintro σ' H' ⟨rfl, rfl⟩
      refine ⟨_, rfl, _, rfl, _, _, rfl, rfl, ⟨dv_ne hb, dv_bits hb bb⟩, _, rfl, p, C, dx, _, rfl, hp, R.cl, R.nT, by show 0 < 1000; decide, ?_⟩
      refine ⟨_, rfl, _, rfl, _, _, rfl, rfl, ⟨dv_ne hb, dv_bits hb bb⟩, _, rfl, p, C, dx, _, rfl, upd_same, R.cl, R.nB, by show 1 < 1000; decide, ?_⟩
      show Q .non (upd (upd H p _) p _)
      rw [upd_upd]
      exact k
    · intro rest
      refine ⟨_, rfl, _, _, rfl, rfl, _, rfl, ?_⟩
      refine rd_dec (fun h => ?_) (fun h => ?_)
      · refine ⟨_, rfl, _, rfl, rest _ _ ⟨rfl, ?_⟩⟩
        have e : dv t b = -((Nat.gcd t.natAbs b.natAbs : Nat) : Int) := by unfold dv; rw [if_pos h]
        rw [e]; rfl
      · refine rest _ _ ⟨rfl, ?_⟩
        have e : dv t b = ((Nat.gcd t.natAbs b.natAbs : Nat) : Int) := by unfold dv; rw [if_neg h]
        rw [e]; rfl
def spSg : Sp := fun vs H Q _ => ∃ x : Int, vs = [.int x] ∧ Q (.int (sg x)) H
theorem ok_whole_sign {f : Addr} {fd : FuncData} (F : Fun K "whole_sign" "whole_sign" s_whole_sign f fd) (T : Txt K mg) : FnOk P w K mg base CX0 1 f fd ["value"] spSg := by
  refine F.ok sc_whole_sign (fun vs H Q E h => ?_) (fun cdv A outer s H vs Q E hr h => ?_)
  · obtain ⟨x, rfl, _⟩ := h
    rfl
  · obtain ⟨x, rfl, k⟩ := h
    refine ⟨_, (pss_cons (ps_if (pt_cmpR op_lt (pv 0) pe_int (nomark _))
        (pss_one (ps_ret (pe_un un_neg pe_int)))
        pss_nil)
      (pss_cons (ps_if (pt_cmpR op_gt (pv 0) pe_int (nomark _))
        (pss_one (ps_ret pe_int))
        pss_nil)
      (pss_one (ps_ret pe_int)))), ?_⟩
    refine rd_sr ⟨_, rfl, _, _, rfl, rfl, _, rfl, rd_dec (fun h => ?_) (fun h => ?_)⟩
    · have e : sg x = -1 := by unfold sg; rw [if_pos h]
      rw [e] at k
      exact ⟨_, rfl, k⟩
    refine rd_sr ⟨_, rfl, _, _, rfl, rfl, _, rfl, rd_dec (fun h' => ?_) (fun h' => ?_)⟩
    · have e : sg x = 1 := by unfold sg; rw [if_neg h, if_pos h']
      rw [e] at k
      exact k
    · have e : sg x = 0 := by unfold sg; rw [if_neg h, if_neg h']
      rw [e] at k
      exact k
theorem ok_poly {f : Addr} {fd : FuncData} (F : Fun K "poly" "poly" s_poly f fd) (T : Txt K mg) : FnOk P w K mg base CX0 1 f fd ["row"] (spTrim K) := by
  refine F.ok sc_poly (fun vs H Q E h => ?_) (fun cdv A outer s H vs Q E hr h => ?_)
  · obtain ⟨a, ns, rfl, _⟩ := h
    rfl
  · obtain ⟨a, ns, rfl, hS, k⟩ := h
    refine ⟨_, (pss_cons (ps_set (i := 1) sc_poly.nd rfl (Or.inl rfl) (pe_callB (call_lenK (K := K) rfl) (by rfl) T.len_ PySem.boot_len (pa_cons (pv 0) pa_nil)))
      (pss_cons (ps_while PassesOwn.never (PW.pt (pw_and (pt_cmpR op_gt (pv 1) pe_int (nomark _)) (pw_and1 (pt_cmpR op_eqI (pe_ix (ix_listK (K := K) rfl) (pv 0) (pe_op op_sub (pv 1) pe_int) (fun _ _ => rfl)) pe_int (nomark _)))))
        (pss_one (ps_set (i := 1) sc_poly.nd rfl (Or.inl rfl) (pe_op op_sub (pv 1) pe_int))))
      (pss_one (ps_ret (pe_slice (sl_listK (K := K) rfl) (pv 0) po_none (po_some (pv 1))))))), ?_⟩
    refine ⟨_, rfl, a, _, rfl, .inl hS, ?_⟩
    refine ⟨fun m σ' H' => ∃ n : Nat, n ≤ ns.length ∧ σ' = [some (.ref a), some (.int n)] ∧ H = H' ∧ n = m ∧ trim (ns.take n) = trim ns, ⟨_, ns.length, Nat.le_refl _, ?_, rfl, rfl, ?_⟩, ?_⟩
    · rw [List.length_map]; rfl
    · rw [List.take_length]
    · rintro m σ' H' ⟨n, hn, rfl, rfl, rfl, ht⟩
      have fin : trim (ns.take n) = ns.take n → ∃ v, ([some (V.ref a), some (V.int n)] : St)[0]? = some (some v) ∧ ∃ v_1, ([some (V.ref a), some (V.int n)] : St)[1]? = some (some v_1) ∧ ∃ i, v_1 = V.int i ∧ rSlL K v none (some i) H Q := fun h => by
        refine ⟨_, rfl, _, rfl, n, rfl, a, _, rfl, hS, fun p hp => k p _ (Same.upd_new hp) hp ?_⟩
        rw [upd_same, ← ht, h]
        have e : cutV (ns.map V.int) none (some (n : Int)) = (ns.take n).map V.int := by
          unfold cutV
          rw [HT.sIx_none, HT.sIx_nat, List.drop_zero, Nat.sub_zero, List.length_map, Nat.min_eq_left hn, List.map_take]
        rw [e]
      refine ⟨_, rfl, _, _, rfl, rfl, _, rfl, ?_⟩
      refine rd_dec (fun hp => ?_) (fun hp => ?_)
      · obtain ⟨j, rfl⟩ : ∃ j, n = j + 1 := ⟨n - 1, by have : (0 : Int) < n := hp; omega⟩
        have hj : j < ns.length := hn
        refine ⟨_, rfl, _, rfl, _, _, rfl, rfl, a, _, j, .int (cf ns j), rfl, ?_, hS, atI_nat ?_, _, _, rfl, rfl, _, rfl, ?_⟩
        · show V.int (((j + 1 : Nat) : Int) - 1) = V.int j
          congr 1; omega
        · rw [List.getElem?_map, get_cf hj]; rfl
        refine rd_dec (fun h0 => ?_) (fun h0 => ?_)
        · refine ⟨fun σ'' H'' => ∃ m', m' < j + 1 ∧ ∃ n : Nat, n ≤ ns.length ∧ σ'' = [some (.ref a), some (.int n)] ∧ H = H'' ∧ n = m' ∧ trim (ns.take n) = trim ns, fun _ _ h => h, ?_⟩
          refine ⟨_, rfl, _, _, rfl, rfl, j, Nat.lt_succ_self _, j, Nat.le_of_lt hj, ?_, rfl, rfl, ?_⟩
          · show [some (V.ref a), some (V.int (((j + 1 : Nat) : Int) - 1))] = [some (V.ref a), some (V.int j)]
            congr 4; omega
          · rw [← ht, trim_take_zero hj h0]
        · exact fin (trim_take_ne hj h0)
      · obtain rfl : n = 0 := by have : ¬ (0 : Int) < n := hp; omega
        exact fin (by rw [List.take_zero]; rfl)
def spDeg : Sp := fun vs H Q _ => ∃ (a : Addr) (xs : List V), vs = [.ref a] ∧ H a = some (.lst xs) ∧ Q (.int ((xs.length : Int) - 1)) H
theorem ok_degree {f : Addr} {fd : FuncData} (F : Fun K "degree" "degree" s_degree f fd) (T : Txt K mg) : FnOk P w K mg base CX0 1 f fd ["row"] spDeg := by
  refine F.ok sc_degree (fun vs H Q E h => ?_) (fun cdv A outer s H vs Q E hr h => ?_)
  · obtain ⟨a, xs, rfl, _⟩ := h
    rfl
  · obtain ⟨a, xs, rfl, hA, k⟩ := h
    refine ⟨_, (pss_one (ps_ret (pe_op op_sub (pe_callB (call_lenK (K := K) rfl) (by rfl) T.len_ PySem.boot_len (pa_cons (pv 0) pa_nil)) pe_int))), ?_⟩
    exact ⟨_, rfl, a, _, rfl, .inl (SqL.of hA), _, _, rfl, rfl, k⟩
theorem ok_coefficient {f : Addr} {fd : FuncData} (F : Fun K "coefficient" "coefficient" s_coefficient f fd) (T : Txt K mg) : FnOk P w K mg base CX0 1 f fd ["row", "place"] (spCell K) := by
  refine F.ok sc_coefficient (fun vs H Q E h => ?_) (fun cdv A outer s H vs Q E hr h => ?_)
  · obtain ⟨a, ns, k, rfl, _⟩ := h
    rfl
  · obtain ⟨a, ns, n, rfl, hS, k⟩ := h
    refine ⟨_, (pss_cons (ps_if (pt_cmpR op_lt (pv 1) (pe_callB (call_lenK (K := K) rfl) (by rfl) T.len_ PySem.boot_len (pa_cons (pv 0) pa_nil)) (nomark _))
        (pss_one (ps_ret (pe_ix (ix_listK (K := K) rfl) (pv 0) (pv 1) (fun _ _ => rfl))))
        pss_nil)
      (pss_one (ps_ret pe_int))), ?_⟩
    refine ⟨_, rfl, _, rfl, a, _, rfl, .inl hS, _, _, rfl, rfl, _, rfl, ?_⟩
    refine rd_dec (fun h1 => ?_) (fun h1 => ?_)
    · rw [List.length_map] at h1
      have h2 : n < ns.length := by omega
      refine ⟨_, rfl, _, rfl, a, _, _, _, rfl, rfl, hS, atI_nat (v := .int (ns.getD n 0)) ?_, k⟩
      rw [List.getElem?_map, List.getElem?_eq_getElem h2]
      simp [List.getD, h2]
    · rw [List.length_map] at h1
      have h2 : ns.length ≤ n := by omega
      have e : ns.getD n 0 = 0 := by simp [List.getD, List.getElem?_eq_none_iff.mpr h2]
      rw [e] at k
      exact k
theorem bits_pow {k : Nat} {b : Int} (h : Bits k b) : ∀ n, Bits (k * n + 1) (b ^ n)
  | 0 => by rw [Int.pow_zero]; show (1 : Int).natAbs < 2 ^ 1; decide
  | n + 1 => by rw [Int.pow_succ]; exact ((bits_pow h n).mul h).mono (by rw [Nat.mul_succ]; omega)
def Vp (C : Addr) (H : Hp) (vs : List V) (a r : Addr) (ns : List Int) (t b : Int) : Prop := vs = [.ref a, .ref r] ∧ H a = some (.lst (ns.map V.int)) ∧ RA C H r t b ∧ ns.length ≤ 20 ∧ AllB 1000 ns ∧ Bits 3000 t ∧ Bits 3000 b
def VpI (H : Hp) (vs : List V) (a : Addr) (ns : List Int) (t b : Int) : Prop := vs = [.ref a, .int t, .int b] ∧ H a = some (.lst (ns.map V.int)) ∧ ns.length ≤ 20 ∧ AllB 1000 ns ∧ Bits 3000 t ∧ Bits 3000 b
def spVp : Sp := fun vs H Q _ => ∃ (a : Addr) (ns : List Int) (t b : Int), VpI H vs a ns t b ∧ ∀ (p : Addr) (H' : Hp), Same H H' → H p = none → H' p = some (.tup [.int (hv t b ns), .int (b ^ ns.length)]) → Q (.ref p) H'
theorem hv_bits {t b : Int} (bt : Bits 3000 t) (bb : Bits 3000 b) : ∀ {l : List Int}, AllB 1000 l → Bits (1001 + 3001 * l.length) (hv t b l)
  | [], _ => by refine Bits.mono (j := 1) ?_ (by omega); show (0 : Int).natAbs < 2 ^ 1; decide
  | v :: l, h => by
    rw [hv_cons]
    have h1 := h v (List.mem_cons_self ..)
    have h2 := hv_bits bt bb (l := l) fun x hx => h x (List.mem_cons_of_mem _ hx)
    have e1 := (h1.mul (bits_pow bb (l.length + 1))).mono (k := 1001 + 3001 * l.length + 3000) (by omega)
    have e2 := (bt.mul h2).mono (k := 1001 + 3001 * l.length + 3000) (by omega)
    exact (e1.add e2).mono (by rw [List.length_cons]; omega)
theorem ok_value_parts {f : Addr} {fd : FuncData} (F : Fun K "value_parts" "value_parts" s_value_parts f fd) (T : Txt K mg) : FnOk P w K mg base CX0 1 f fd ["row", "top", "bottom"] spVp := by
  refine F.ok sc_value_parts (fun vs H Q E h => ?_) (fun cdv A outer s H vs Q E hr h => ?_)
  · obtain ⟨a, ns, t, b, ⟨rfl, _⟩, _⟩ := h
    rfl
  · obtain ⟨a, ns, t, b, ⟨rfl, hA, hn, hb, bt, bb⟩, k⟩ := h
    refine ⟨_, (pss_cons (ps_set (i := 3) sc_value_parts.nd rfl (Or.inl rfl) pe_int)
      (pss_cons (ps_set (i := 4) sc_value_parts.nd rfl (Or.inl rfl) pe_int)
      (pss_cons (ps_for PassesOwn.never rfl (pi_rev rfl T.reversed_ (pa_cons (pv 0) pa_nil)) (pg_name (i := 5) sc_value_parts.nd rfl (Or.inl rfl))
        (pss_cons (ps_set (i := 4) sc_value_parts.nd rfl (Or.inl rfl) (pe_op op_mulB (pv 4) (pv 2)))
          (pss_one (ps_set (i := 3) sc_value_parts.nd rfl (Or.inl rfl) (pe_op op_add (pe_op op_mulB (pv 3) (pv 1)) (pe_op op_mulB (pv 5) (pv 4)))))))
      (pss_one (ps_ret (pe_tup (pa_cons (pv 3) (pa_cons (pv 4) pa_nil)))))))), ?_⟩
    have hl : (ns.map V.int).length = ns.length := List.length_map _
    refine rd_sa ?_
    refine rd_sa ?_
    refine ⟨_, rfl, a, _, rfl, SqL.of hA, for_rev (K := K) (a := a) (xs := ns.map V.int) (fun i σ' H' => ∃ z : Option V, σ' = [some (.ref a), some (.int t), some (.int b), some (.int (hv t b (ns.drop (ns.length - i)))), some (.int (b ^ i)), z] ∧ H = H') ⟨none, ?_, rfl⟩ ?_ ?_ ?_⟩
    · rw [Nat.sub_zero, List.drop_length, Int.pow_zero]; rfl
    · rintro i σ' H' _ ⟨z, rfl, rfl⟩
      exact SqL.of hA
    · rintro i x σ' H' hi hx ⟨z, rfl, rfl⟩
      rw [hl] at hi hx
      obtain ⟨c, ec, rfl, hc, _⟩ := get_int hx
      have hi' : i < ns.length := hi
      have e1 : ns.length - (i + 1) = ns.length - 1 - i := by omega
      have hd := drop_hv t b (l := ns) (n := ns.length - 1 - i) (by omega)
      have e2 : ns.length - 1 - i + 1 = ns.length - i := by omega
      have e3 : ns.length - (ns.length - 1 - i) = i + 1 := by omega
      rw [e2, e3, cf_some ec] at hd
      have bs := hv_bits bt bb (l := ns.drop (ns.length - i)) fun x hx => hb x (List.mem_of_mem_drop hx)
      rw [List.length_drop] at bs
      have bp := bits_pow bb i
      have bq := bits_pow bb (i + 1)
      refine ⟨_, rfl, _, rfl, _, _, rfl, rfl, ⟨bp.mono (by omega), bb.mono (by decide)⟩, ?_⟩
      refine ⟨_, rfl, _, rfl, _, _, rfl, rfl, ⟨bs.mono (by omega), bt.mono (by decide)⟩, _, rfl, _, rfl, _, _, rfl, rfl, ⟨(hb c hc).mono (by decide), ?_⟩, _, _, rfl, rfl, ?_⟩
      · show Bits 1000000 (b ^ i * b)
        rw [← Int.pow_succ]; exact bq.mono (by omega)
      refine ⟨some (.int c), ?_, rfl⟩
      rw [e1, hd, Int.pow_succ b i, Int.add_comm, Int.mul_comm t]
      rfl
    · rintro σ' H' ⟨z, rfl, rfl⟩
      rw [hl, Nat.sub_self, List.drop_zero]
      exact ⟨_, rfl, _, rfl, by show 2 ≤ sizeLine; decide, fun p hp => k p _ (Same.upd_new hp) hp upd_same⟩
def spSa (C : Addr) : Sp := fun vs H Q _ => ∃ (a r : Addr) (ns : List Int) (t b : Int), Vp C H vs a r ns t b ∧ ∀ H', Same H H' → Q (.int (sg (hv t b ns))) H'
theorem ok_sign_at {C f : Addr} {fd : FuncData} (F : Fun K "sign_at" "sign_at" s_sign_at f fd) (T : Txt K mg) (R : RCI K mg C) {f_value_parts : Addr} {fd_value_parts : FuncData} (C_value_parts : Cal P w K mg base 1 "value_parts" ["row", "top", "bottom"] spVp f_value_parts fd_value_parts) {f_whole_sign : Addr} {fd_whole_sign : FuncData} (C_whole_sign : Cal P w K mg base 1 "whole_sign" ["value"] spSg f_whole_sign fd_whole_sign) : FnOk P w K mg base CX0 2 f fd ["row", "ratio"] (spSa C) := by
  obtain ⟨G_value_parts, m_value_parts, k_value_parts, b_value_parts⟩ := C_value_parts
  obtain ⟨G_whole_sign, m_whole_sign, k_whole_sign, b_whole_sign⟩ := C_whole_sign
  refine F.ok sc_sign_at (fun vs H Q E h => ?_) (fun cdv A outer s H vs Q E hr h => ?_)
  · obtain ⟨a, r, ns, t, b, ⟨rfl, _⟩, _⟩ := h
    rfl
  · obtain ⟨a, r, ns, t, b, hV, k⟩ := h
    obtain ⟨rfl, hA, ⟨dx, hR⟩, hn, hbs, bt, bb⟩ := hV
    refine ⟨_, (pss_one (ps_ret (pe_call G_whole_sign (hr.mono (by decide)) rfl m_whole_sign k_whole_sign b_whole_sign .nil pass0 (pa_cons (pe_ix (ix_tupK (K := K) rfl) (pe_call G_value_parts (hr.mono (by decide)) rfl m_value_parts k_value_parts b_value_parts .nil pass0 (pa_cons (pv 0) (pa_cons (pe_fldK (K := K) rfl (pv 1) rfl) (pa_cons (pe_fldK (K := K) rfl (pv 1) rfl) pa_nil)))) pe_int (fun _ _ => rfl)) pa_nil)))), ?_⟩
    refine ⟨_, rfl, _, rfl, r, C, dx, _, _, rfl, hR, R.cl, R.nT, flds_top _ _, _, rfl, r, C, dx, _, _, rfl, hR, R.cl, R.nB, flds_bottom _ _, a, ns, t, b, ⟨rfl, hA, hn, hbs, bt, bb⟩, fun p H1 s1 hp e1 => ?_⟩
    exact ⟨p, _, _, _, rfl, rfl, SqT.of e1, rfl, _, rfl, k H1 s1⟩
theorem bits_le {k : Nat} {z B : Int} (h0 : 0 ≤ z) (h : z ≤ B) (hb : Bits k B) : Bits k z := hb.of_le (by omega)
theorem b30 : Bits 100 (10 ^ 30) := by show ((10 : Int) ^ 30).natAbs < 2 ^ 100; decide +kernel
/-- an item of a written list at a remainder -/
theorem atI_mod {xs : List V} {n : Int} (hn : n = xs.length) (h : 0 < n) (c : Int) : ∃ v, v ∈ xs ∧ atI xs (c % n) = some v := by
  have h1 := Int.emod_nonneg c (Int.ne_of_gt h)
  have h2 := Int.emod_lt_of_pos c h
  obtain ⟨j, hj⟩ := Int.eq_ofNat_of_zero_le h1
  have hl : j < xs.length := by omega
  refine ⟨xs[j], List.getElem_mem hl, ?_⟩
  rw [hj]
  exact atI_nat (by simp [hl])
theorem ok_added {f : Addr} {fd : FuncData} (F : Fun K "added" "added" s_added f fd) (T : Txt K mg) {f_poly : Addr} {fd_poly : FuncData} (C_poly : Cal P w K mg base 1 "poly" ["row"] (spTrim K) f_poly fd_poly) {f_coefficient : Addr} {fd_coefficient : FuncData} (C_coefficient : Cal P w K mg base 1 "coefficient" ["row", "place"] (spCell K) f_coefficient fd_coefficient) : FnOk P w K mg base CX0 2 f fd ["first", "second"] (sp2L K addL) := by
  obtain ⟨G_poly, m_poly, k_poly, b_poly⟩ := C_poly
  obtain ⟨G_coefficient, m_coefficient, k_coefficient, b_coefficient⟩ := C_coefficient
  refine F.ok sc_added (fun vs H Q E h => ?_) (fun cdv A outer s H vs Q E hr h => ?_)
  · obtain ⟨a, b, xs, ys, rfl, _⟩ := h
    rfl
  · obtain ⟨a, b, xs, ys, rfl, hA, hB, hx, hy, k⟩ := h
    refine ⟨_, (pss_cons (ps_set (i := 2) sc_added.nd rfl (Or.inl rfl) (pe_callB (call_max2 rfl) (by rfl) T.max_ PyProof.Rows.boot_max (pa_cons (pe_callB (call_lenK (K := K) rfl) (by rfl) T.len_ PySem.boot_len (pa_cons (pv 0) pa_nil)) (pa_cons (pe_callB (call_lenK (K := K) rfl) (by rfl) T.len_ PySem.boot_len (pa_cons (pv 1) pa_nil)) pa_nil))))
      (pss_one (ps_ret (pe_call G_poly (hr.mono (by decide)) rfl m_poly k_poly b_poly .nil pass0 (pa_cons (pe_comp (own := ["k"]) (fr := ["first", "second"]) (js := [0, 1]) (by walk_at "comp_ok") rfl (pi_range1 rfl T.range_ (pa_cons (pv 2) pa_nil)) (fun _ _ _ _ => (pg_name (i := 0) (show List.Nodup (["k", "first", "second"] : List Str) from by decide +kernel) rfl (Or.inl rfl))) (fun _ _ _ _ => (pe_op op_add (pe_call G_coefficient (hr.mono (by decide)) rfl m_coefficient k_coefficient b_coefficient .nil pass0 (pa_cons (pv 1) (pa_cons (pv 0) pa_nil))) (pe_call G_coefficient (hr.mono (by decide)) rfl m_coefficient k_coefficient b_coefficient .nil pass0 (pa_cons (pv 2) (pa_cons (pv 0) pa_nil)))))) pa_nil))))), ?_⟩
    refine ⟨_, rfl, a, _, rfl, .inl hA, _, rfl, b, _, rfl, .inl hB, _, _, rfl, ?_⟩
    rw [max_eq, List.length_map, List.length_map]
    have hz : max xs.length ys.length ≤ sizeLine := by have := sizeLine_eq; omega
    refine ⟨_, rfl, _, rfl, (small62 hz).1, (small62 hz).2, comp_range (lo := 0) (n := max xs.length ys.length) (fun i zs σ' H' => ∃ z : Option V, σ' = [z, some (.ref a), some (.ref b)] ∧ zs = ((List.range i).map fun k => V.int (cf xs k + cf ys k)) ∧ H = H') hz ⟨none, rfl, rfl, rfl⟩ ?_ ?_ ?_⟩
    · rintro i zs σ' H' _ ⟨z, rfl, rfl, rfl⟩
      simp
    · rintro i zs σ' H' hi ⟨z, rfl, rfl, rfl⟩
      refine ⟨_, rfl, _, rfl, a, xs, i, ?_, hA, _, rfl, _, rfl, b, ys, i, ?_, hB, _, _, rfl, rfl, _, rfl, ?_, rfl⟩
      · show [V.ref a, V.int (0 + (i : Int))] = _
        rw [Int.zero_add]
      · show [V.ref b, V.int (0 + (i : Int))] = _
        rw [Int.zero_add]
      · rw [List.range_succ, List.map_append]; rfl
    · rintro zs σ' H' p ⟨z, rfl, rfl, rfl⟩ hp
      refine ⟨p, (List.range (max xs.length ys.length)).map fun k => cf xs k + cf ys k, rfl, SqL.of ?_, ?_⟩
      · rw [upd_same, List.map_map]; rfl
      · intro p' H' sm hp' e
        refine k p' H' ((Same.upd_new hp).trans sm) ((Same.upd_new hp).free hp') ?_
        rw [e, addL_eq]
def spMul : Sp := fun vs H Q _ => ∃ (a b : Addr) (xs ys : List Int), vs = [.ref a, .ref b] ∧ H a = some (.lst (xs.map V.int)) ∧ H b = some (.lst (ys.map V.int)) ∧ xs.length ≤ 1000000 ∧ ys.length ≤ 1000000 ∧ AllB 1000000 xs ∧ AllB 1000000 ys ∧ mkL H Q (mulL xs ys)
theorem ok_multiplied {f : Addr} {fd : FuncData} (F : Fun K "multiplied" "multiplied" s_multiplied f fd) (T : Txt K mg) : FnOk P w K mg base CX0 1 f fd ["first", "second"] spMul := by
  refine F.ok sc_multiplied (fun vs H Q E h => ?_) (fun cdv A outer s H vs Q E hr h => ?_)
  · obtain ⟨a, b, xs, ys, rfl, _⟩ := h
    rfl
  · obtain ⟨a, b, xs, ys, rfl, hA, hB, hx, hy, bx, by', k⟩ := h
    have hu := hr.units
    refine ⟨_, (pss_cons (ps_if (PW.pt (pw_or (pt_cmpR (op_eqLK (K := K) rfl hu) (pv 0) (pe_lst pa_nil) (nomark _)) (pw_or1 (pt_cmpR (op_eqLK (K := K) rfl hu) (pv 1) (pe_lst pa_nil) (nomark _)))))
        (pss_one (ps_ret (pe_lst pa_nil)))
        pss_nil)
      (pss_cons (ps_set (i := 2) sc_multiplied.nd rfl (Or.inl rfl) (pe_op op_rep (pe_lst (pa_cons pe_int pa_nil)) (pe_op op_sub (pe_op op_add (pe_callB (call_lenK (K := K) rfl) (by rfl) T.len_ PySem.boot_len (pa_cons (pv 0) pa_nil)) (pe_callB (call_lenK (K := K) rfl) (by rfl) T.len_ PySem.boot_len (pa_cons (pv 1) pa_nil))) pe_int)))
      (pss_cons (ps_for PassesOwn.never rfl (pi_enum rfl T.enumerate_ (pa_cons (pv 0) pa_nil)) (pg_tup rfl (pgs_cons (pg_name (i := 3) sc_multiplied.nd rfl (Or.inl rfl)) (pgs_cons (pg_name (i := 4) sc_multiplied.nd rfl (Or.inl rfl)) pgs_nil)))
        (pss_one (ps_for PassesOwn.never rfl (pi_enum rfl T.enumerate_ (pa_cons (pv 1) pa_nil)) (pg_tup rfl (pgs_cons (pg_name (i := 5) sc_multiplied.nd rfl (Or.inl rfl)) (pgs_cons (pg_name (i := 6) sc_multiplied.nd rfl (Or.inl rfl)) pgs_nil)))
            (pss_one (ps_asg (pe_op op_add (pe_ix (ix_listK (K := K) rfl) (pv 2) (pe_op op_add (pv 3) (pv 5)) (fun _ _ => rfl)) (pe_op op_mulB (pv 4) (pv 6))) (pg_sub (pv 2) (pe_op op_add (pv 3) (pv 5)) set_list))))))
      (pss_one (ps_ret (pv 2)))))), ?_⟩
    refine ⟨_, rfl, Nat.zero_le _, fun p1 hp1 => ?_⟩
    have s1 : Same H (upd H p1 (.lst [])) := Same.upd_new hp1
    refine ⟨a, p1, xs, [], rfl, rfl, SqL.of (s1 _ _ hA), SqL.of upd_same, _, rfl, ?_⟩
    refine rd_dec (fun h0 => ?_) (fun h0 => ?_)
    · refine rd_true ⟨Nat.zero_le _, fun p2 hp2 => k p2 _ (s1.then_new hp2) (s1.free hp2) ?_⟩
      rw [upd_same]; unfold mulL; rw [if_pos (.inl h0)]; rfl
    refine ⟨_, rfl, Nat.zero_le _, fun p2 hp2 => ?_⟩
    have s2 : Same H (upd (upd H p1 (.lst [])) p2 (.lst [])) := s1.then_new hp2
    refine ⟨b, p2, ys, [], rfl, rfl, SqL.of (s2 _ _ hB), SqL.of upd_same, _, rfl, ?_⟩
    refine rd_dec (fun h1 => ?_) (fun h1 => ?_)
    · refine ⟨Nat.zero_le _, fun p3 hp3 => k p3 _ (s2.then_new hp3) (s2.free hp3) ?_⟩
      rw [upd_same]; unfold mulL; rw [if_pos (.inr h1)]; rfl
    generalize upd (upd H p1 (.lst [])) p2 (.lst []) = H2 at s2 ⊢
    obtain ⟨la, ea⟩ : ∃ la, xs.length = la + 1 := ⟨xs.length - 1, by have := List.length_pos_iff.mpr h0; omega⟩
    obtain ⟨lb, eb⟩ : ∃ lb, ys.length = lb + 1 := ⟨ys.length - 1, by have := List.length_pos_iff.mpr h1; omega⟩
    refine ⟨(by show 1 ≤ sizeLine; decide), fun p3 hp3 => ?_⟩
    have s3 := s2.then_new (o := .lst [V.int 0]) hp3
    have big := sizeLine_eq
    refine ⟨_, rfl, a, _, rfl, .inl (SqL.of (s3 _ _ hA)), _, rfl, b, _, rfl, .inl (SqL.of (s3 _ _ hB)), _, _, rfl, rfl, _, _, rfl, rfl, p3, _, _, rfl, rfl, upd_same, ?_, ?_, ?_, fun p hp => ?_⟩
    · rw [List.length_map, List.length_map]; omega
    · rw [List.length_map, List.length_map]; omega
    · rw [List.length_map, List.length_map]; show 1 * _ ≤ _; omega
    have en : (((xs.map V.int).length : Int) + ((ys.map V.int).length : Int) - 1).toNat = la + lb + 1 := by rw [List.length_map, List.length_map]; omega
    rw [en, rep_zero]
    have s4 := s3.then_new (o := .lst ((List.replicate (la + lb + 1) (0 : Int)).map V.int)) hp
    have npa : a ≠ p := s3.ne hA hp
    have npb : b ≠ p := s3.ne hB hp
    generalize hH4 : upd (upd H2 p3 (.lst [V.int 0])) p (.lst ((List.replicate (la + lb + 1) (0 : Int)).map V.int)) = H4 at s4 ⊢
    have hp4 : H4 p = some (.lst ((List.replicate (la + lb + 1) (0 : Int)).map V.int)) := by rw [← hH4, upd_same]
    refine ⟨_, rfl, a, rfl, ⟨_, SqL.of (s4 _ _ hA)⟩, for_enum (K := K) (a := a) (xs := xs.map V.int) (fun j σ' H' => ∃ (acc : List Int) (z3 z4 z5 z6 : Option V), σ' = [some (.ref a), some (.ref b), some (.ref p), z3, z4, z5, z6] ∧ SameB p H4 H' ∧ H' p = some (.lst (acc.map V.int)) ∧ acc.length = la + lb + 1 ∧ ∀ n, n < acc.length → cf acc n = sm xs ys n j)
      ⟨List.replicate (la + lb + 1) 0, none, none, none, none, rfl, SameB.refl _ _, hp4, by simp, fun n _ => by rw [cf_replicate]; rfl⟩ ?_ ?_ ?_⟩
    · rintro j σ' H' _ ⟨acc, z3, z4, z5, z6, rfl, sb, _⟩
      exact SqL.of (sb _ _ npa (s4 _ _ hA))
    · rintro j x σ' H' q hj ⟨acc, z3, z4, z5, z6, rfl, sb, hpa, hal, hac⟩ hq
      rw [List.getElem?_map] at hj
      have hjl : j < xs.length := by
        apply Classical.byContradiction
        intro hn
        rw [List.getElem?_eq_none_iff.mpr (Nat.le_of_not_lt hn)] at hj
        cases hj
      rw [get_cf hjl] at hj
      obtain rfl := Option.some.inj hj
      refine ⟨q, _, rfl, SqT.of upd_same, rfl, _, _, rfl, _, _, rfl, rfl, ?_⟩
      have nqp : p ≠ q := ne_of_none hpa hq
      have sb1 : SameB p H4 (upd H' q (.tup [.int j, .int (cf xs j)])) := sb.then_new hq
      refine ⟨_, rfl, b, rfl, ⟨_, SqL.of (sb1 _ _ npb (s4 _ _ hB))⟩, for_enum (K := K) (a := b) (xs := ys.map V.int) (fun i σ' H' => ∃ (acc : List Int) (z5 z6 : Option V), σ' = [some (.ref a), some (.ref b), some (.ref p), some (.int j), some (.int (cf xs j)), z5, z6] ∧ SameB p H4 H' ∧ H' p = some (.lst (acc.map V.int)) ∧ acc.length = la + lb + 1 ∧ ∀ n, n < acc.length → cf acc n = sm xs ys n j + (if j ≤ n ∧ n - j < i then tm xs ys n j else 0))
        ⟨acc, z5, z6, rfl, sb1, by rw [upd_ne nqp]; exact hpa, hal, mul_start hac⟩ ?_ ?_ ?_⟩
      · rintro i σ' H' _ ⟨acc, z5, z6, rfl, sb, _⟩
        exact SqL.of (sb _ _ npb (s4 _ _ hB))
      · rintro i x σ' H' q hi ⟨acc, z5, z6, rfl, sb, hpa, hal, hac⟩ hq
        rw [List.getElem?_map] at hi
        have hil : i < ys.length := by
          apply Classical.byContradiction
          intro hn
          rw [List.getElem?_eq_none_iff.mpr (Nat.le_of_not_lt hn)] at hi
          cases hi
        rw [get_cf hil] at hi
        obtain rfl := Option.some.inj hi
        refine ⟨q, _, rfl, SqT.of upd_same, rfl, _, _, rfl, _, _, rfl, rfl, ?_⟩
        have nqp : p ≠ q := ne_of_none hpa hq
        have hpa' : upd H' q (.tup [.int i, .int (cf ys i)]) p = some (.lst (acc.map V.int)) := by rw [upd_ne nqp]; exact hpa
        have hji : j + i < acc.length := by omega
        have eji : ((j : Nat) : Int) + ((i : Nat) : Int) = ((j + i : Nat) : Int) := by omega
        refine ⟨_, rfl, _, rfl, _, rfl, _, _, rfl, rfl, p, _, _, _, rfl, rfl, SqL.of hpa', at_map eji hji, _, rfl, _, rfl, _, _, rfl, rfl, ⟨bx.cf j, by'.cf i⟩, _, _, rfl, rfl, _, rfl, _, rfl, _, rfl, _, _, rfl, rfl, p, _, _, j + i, rfl, rfl, hpa', ixN_nat eji (by rw [List.length_map]; exact hji), ?_⟩
        refine ⟨acc.set (j + i) (cf acc (j + i) + cf xs j * cf ys i), _, _, rfl, (sb.then_new hq).then_upd, by rw [upd_same, map_set_int], by rw [List.length_set]; exact hal, mul_step hjl hil hji hac⟩
      · rintro σ' H' ⟨acc, z5, z6, rfl, sb, hpa, hal, hac⟩
        rw [List.length_map] at hac
        exact ⟨acc, _, _, _, _, rfl, sb, hpa, hal, mul_row hac⟩
    · rintro σ' H' ⟨acc, z3, z4, z5, z6, rfl, sb, hpa, hal, hac⟩
      rw [List.length_map] at hac
      refine ⟨_, rfl, k p H' (fun b' o e => sb b' o (s3.ne e hp) (s4 b' o e)) (s3.free hp) ?_⟩
      rw [hpa]
      have e : acc = mulL xs ys := by
        apply ext_cf
        · rw [hal]; unfold mulL; rw [if_neg (by intro z; exact z.elim h0 h1), List.length_map, List.length_range]; omega
        · intro n _
          rw [cf_mulL, mul_end (by omega) hac]
      rw [e]
def spPlus (C : Addr) : Sp := fun vs H Q _ => ∃ (p q : Addr) (t b u d : Int) (i j : Nat), vs = [.ref p, .ref q] ∧ RA C H p t b ∧ RA C H q u d ∧ Bits 100000 t ∧ Bits i b ∧ Bits 100000 u ∧ Bits j d ∧ i + j ≤ 9000 ∧ 0 < b ∧ 0 < d ∧ mkR C H Q (t * d + u * b) (b * d)
theorem ok_Ratio_plus {C f : Addr} {fd : FuncData} (F : Fun K "plus" "Ratio.plus" s_Ratio_plus f fd) (T : Txt K mg) (R : RCI K mg C) {f_Ratio : Addr} {fd_Ratio : FuncData} {ds_Ratio : List Value} (C_Ratio : KCal P w K mg base 2 C "Ratio" ["self", "top", "bottom"] (spInit C) f_Ratio fd_Ratio ds_Ratio [.int 1]) : FnOk P w K mg base CX0 4 f fd ["self", "other"] (spPlus C) := by
  obtain ⟨G_Ratio, M_Ratio, m_Ratio, b_Ratio, bD_Ratio, d_Ratio⟩ := C_Ratio
  refine F.ok sc_Ratio_plus (fun vs H Q E h => ?_) (fun cdv A outer s H vs Q E hr h => ?_)
  · obtain ⟨p, q, t, b, u, d, i, j, rfl, _⟩ := h
    rfl
  · obtain ⟨p, q, t, b, u, d, i, j, rfl, ⟨dx, hp⟩, ⟨dy, hq⟩, bt, bb, bu, bd, hij, hb, hd, k⟩ := h
    have bb' : Bits 1000000 b := bb.mono (by omega)
    have bd' : Bits 1000000 d := bd.mono (by omega)
    refine ⟨_, (pss_one (ps_ret (pe_make M_Ratio G_Ratio (hr.mono (by decide)) rfl m_Ratio b_Ratio .nil pass0 (pa_cons (pe_op op_add (pe_op op_mulB (pe_fldK (K := K) rfl (pv 0) rfl) (pe_fldK (K := K) rfl (pv 1) rfl)) (pe_op op_mulB (pe_fldK (K := K) rfl (pv 1) rfl) (pe_fldK (K := K) rfl (pv 0) rfl))) (pa_cons (pe_op op_mulB (pe_fldK (K := K) rfl (pv 0) rfl) (pe_fldK (K := K) rfl (pv 1) rfl)) pa_nil))))), ?_⟩
    refine ⟨_, rfl, p, C, dx, _, _, rfl, hp, R.cl, R.nT, flds_top _ _, _, rfl, q, C, dy, _, _, rfl, hq, R.cl, R.nB, flds_bottom _ _, _, _, rfl, rfl, ⟨bt.mono (by decide), bd'⟩, ?_⟩
    refine ⟨_, rfl, q, C, dy, _, _, rfl, hq, R.cl, R.nT, flds_top _ _, _, rfl, p, C, dx, _, _, rfl, hp, R.cl, R.nB, flds_bottom _ _, _, _, rfl, rfl, ⟨bu.mono (by decide), bb'⟩, _, _, rfl, rfl, ?_⟩
    refine ⟨_, rfl, p, C, dx, _, _, rfl, hp, R.cl, R.nB, flds_bottom _ _, _, rfl, q, C, dy, _, _, rfl, hq, R.cl, R.nB, flds_bottom _ _, _, _, rfl, rfl, ⟨bb', bd'⟩, ?_⟩
    exact make_R (Int.ne_of_gt (Int.mul_pos hb hd)) ((bb.mul bd).mono hij) k
def spMinus (C : Addr) : Sp := fun vs H Q _ => ∃ (p q : Addr) (t b u d : Int) (i j : Nat), vs = [.ref p, .ref q] ∧ RA C H p t b ∧ RA C H q u d ∧ Bits 100000 t ∧ Bits i b ∧ Bits 100000 u ∧ Bits j d ∧ i + j ≤ 9000 ∧ 0 < b ∧ 0 < d ∧ mkR C H Q (t * d - u * b) (b * d)
theorem ok_Ratio_minus {C f : Addr} {fd : FuncData} (F : Fun K "minus" "Ratio.minus" s_Ratio_minus f fd) (T : Txt K mg) (R : RCI K mg C) {f_Ratio : Addr} {fd_Ratio : FuncData} {ds_Ratio : List Value} (C_Ratio : KCal P w K mg base 2 C "Ratio" ["self", "top", "bottom"] (spInit C) f_Ratio fd_Ratio ds_Ratio [.int 1]) : FnOk P w K mg base CX0 4 f fd ["self", "other"] (spMinus C) := by
  obtain ⟨G_Ratio, M_Ratio, m_Ratio, b_Ratio, bD_Ratio, d_Ratio⟩ := C_Ratio
  refine F.ok sc_Ratio_minus (fun vs H Q E h => ?_) (fun cdv A outer s H vs Q E hr h => ?_)
  · obtain ⟨p, q, t, b, u, d, i, j, rfl, _⟩ := h
    rfl
  · obtain ⟨p, q, t, b, u, d, i, j, rfl, ⟨dx, hp⟩, ⟨dy, hq⟩, bt, bb, bu, bd, hij, hb, hd, k⟩ := h
    have bb' : Bits 1000000 b := bb.mono (by omega)
    have bd' : Bits 1000000 d := bd.mono (by omega)
    refine ⟨_, (pss_one (ps_ret (pe_make M_Ratio G_Ratio (hr.mono (by decide)) rfl m_Ratio b_Ratio .nil pass0 (pa_cons (pe_op op_sub (pe_op op_mulB (pe_fldK (K := K) rfl (pv 0) rfl) (pe_fldK (K := K) rfl (pv 1) rfl)) (pe_op op_mulB (pe_fldK (K := K) rfl (pv 1) rfl) (pe_fldK (K := K) rfl (pv 0) rfl))) (pa_cons (pe_op op_mulB (pe_fldK (K := K) rfl (pv 0) rfl) (pe_fldK (K := K) rfl (pv 1) rfl)) pa_nil))))), ?_⟩
    refine ⟨_, rfl, p, C, dx, _, _, rfl, hp, R.cl, R.nT, flds_top _ _, _, rfl, q, C, dy, _, _, rfl, hq, R.cl, R.nB, flds_bottom _ _, _, _, rfl, rfl, ⟨bt.mono (by decide), bd'⟩, ?_⟩
    refine ⟨_, rfl, q, C, dy, _, _, rfl, hq, R.cl, R.nT, flds_top _ _, _, rfl, p, C, dx, _, _, rfl, hp, R.cl, R.nB, flds_bottom _ _, _, _, rfl, rfl, ⟨bu.mono (by decide), bb'⟩, _, _, rfl, rfl, ?_⟩
    refine ⟨_, rfl, p, C, dx, _, _, rfl, hp, R.cl, R.nB, flds_bottom _ _, _, rfl, q, C, dy, _, _, rfl, hq, R.cl, R.nB, flds_bottom _ _, _, _, rfl, rfl, ⟨bb', bd'⟩, ?_⟩
    exact make_R (Int.ne_of_gt (Int.mul_pos hb hd)) ((bb.mul bd).mono hij) k
def spTimes (C : Addr) : Sp := fun vs H Q _ => ∃ (p q : Addr) (t b u d : Int) (i j : Nat), vs = [.ref p, .ref q] ∧ RA C H p t b ∧ RA C H q u d ∧ Bits 100000 t ∧ Bits i b ∧ Bits 100000 u ∧ Bits j d ∧ i + j ≤ 9000 ∧ 0 < b ∧ 0 < d ∧ mkR C H Q (t * u) (b * d)
theorem ok_Ratio_times {C f : Addr} {fd : FuncData} (F : Fun K "times" "Ratio.times" s_Ratio_times f fd) (T : Txt K mg) (R : RCI K mg C) {f_Ratio : Addr} {fd_Ratio : FuncData} {ds_Ratio : List Value} (C_Ratio : KCal P w K mg base 2 C "Ratio" ["self", "top", "bottom"] (spInit C) f_Ratio fd_Ratio ds_Ratio [.int 1]) : FnOk P w K mg base CX0 4 f fd ["self", "other"] (spTimes C) := by
  obtain ⟨G_Ratio, M_Ratio, m_Ratio, b_Ratio, bD_Ratio, d_Ratio⟩ := C_Ratio
  refine F.ok sc_Ratio_times (fun vs H Q E h => ?_) (fun cdv A outer s H vs Q E hr h => ?_)
  · obtain ⟨p, q, t, b, u, d, i, j, rfl, _⟩ := h
    rfl
  · obtain ⟨p, q, t, b, u, d, i, j, rfl, ⟨dx, hp⟩, ⟨dy, hq⟩, bt, bb, bu, bd, hij, hb, hd, k⟩ := h
    refine ⟨_, (pss_one (ps_ret (pe_make M_Ratio G_Ratio (hr.mono (by decide)) rfl m_Ratio b_Ratio .nil pass0 (pa_cons (pe_op op_mulB (pe_fldK (K := K) rfl (pv 0) rfl) (pe_fldK (K := K) rfl (pv 1) rfl)) (pa_cons (pe_op op_mulB (pe_fldK (K := K) rfl (pv 0) rfl) (pe_fldK (K := K) rfl (pv 1) rfl)) pa_nil))))), ?_⟩
    refine ⟨_, rfl, p, C, dx, _, _, rfl, hp, R.cl, R.nT, flds_top _ _, _, rfl, q, C, dy, _, _, rfl, hq, R.cl, R.nT, flds_top _ _, _, _, rfl, rfl, ⟨bt.mono (by decide), bu.mono (by decide)⟩, ?_⟩
    refine ⟨_, rfl, p, C, dx, _, _, rfl, hp, R.cl, R.nB, flds_bottom _ _, _, rfl, q, C, dy, _, _, rfl, hq, R.cl, R.nB, flds_bottom _ _, _, _, rfl, rfl, ⟨bb.mono (by omega), bd.mono (by omega)⟩, ?_⟩
    exact make_R (Int.ne_of_gt (Int.mul_pos hb hd)) ((bb.mul bd).mono hij) k
--SPLIT
theorem drop_cons {l : List Int} {i : Nat} {c : Int} (hi : i < l.length) (e : l[l.length - 1 - i]? = some c) : l.drop (l.length - (i + 1)) = c :: l.drop (l.length - i) := by
  have h : l.length - (i + 1) = l.length - 1 - i := by omega
  rw [h, List.drop_eq_getElem_cons (by omega)]
  have h2 : l.length - 1 - i + 1 = l.length - i := by omega
  rw [h2]
  have h3 := List.getElem?_eq_getElem (l := l) (i := l.length - 1 - i) (by omega)
  rw [h3] at e
  rw [Option.some.inj e]
theorem pow2_pos (n : Nat) : (0 : Int) < 2 ^ n := Int.pow_pos (by decide)
theorem pow2_cast (n : Nat) : (2 : Int) ^ n = ((2 ^ n : Nat) : Int) := by rw [Int.natCast_pow]; rfl
theorem pow2_bits {n k : Nat} (h : n < k) : Bits k ((2 : Int) ^ n) := by
  rw [pow2_cast]
  show (((2 ^ n : Nat) : Int)).natAbs < 2 ^ k
  rw [Int.natAbs_natCast]
  exact (Nat.pow_lt_pow_iff_right (by decide)).mpr h
theorem two6 : Bits 1000000 (2 : Int) := Bits.mono (j := 2) (by show (2 : Int).natAbs < 2 ^ 2; decide) (by decide)
def spHvs (C : Addr) : Sp := fun vs H Q _ => ∃ (r wd : Addr) (r1 r2 w1 w2 : Int) (kr kw : Nat), vs = [.ref r, .ref wd] ∧ RA C H r r1 r2 ∧ RA C H wd w1 w2 ∧ 0 < r2 ∧ 0 < w1 ∧ Bits kr r1 ∧ Bits 100000 r2 ∧ Bits 100000 w1 ∧ Bits kw w2 ∧ kr + kw ≤ 100000 ∧ ∀ n : Nat, n ≤ kr + kw → r1 * w2 ≤ w1 * r2 * 2 ^ n → (∀ j : Nat, j < n → w1 * r2 * 2 ^ j < r1 * w2) → Q (.int n) H
theorem ok_halvings {C f : Addr} {fd : FuncData} (F : Fun K "halvings" "halvings" s_halvings f fd) (T : Txt K mg) (R : RCI K mg C) : FnOk P w K mg base CX0 1 f fd ["reach", "width"] (spHvs C) := by
  refine F.ok sc_halvings (fun vs H Q E h => ?_) (fun cdv A outer s H vs Q E hr h => ?_)
  · obtain ⟨r, wd, r1, r2, w1, w2, kr, kw, rfl, _⟩ := h
    rfl
  · obtain ⟨r, wd, r1, r2, w1, w2, kr, kw, rfl, ⟨dr, hR⟩, ⟨dw, hW⟩, hr2, hw1, br1, br2, bw1, bw2, hkk, k⟩ := h
    refine ⟨_, (pss_cons (ps_set (i := 2) sc_halvings.nd rfl (Or.inl rfl) (pe_op op_mulB (pe_fldK (K := K) rfl (pv 0) rfl) (pe_fldK (K := K) rfl (pv 1) rfl)))
      (pss_cons (ps_set (i := 3) sc_halvings.nd rfl (Or.inl rfl) (pe_op op_mulB (pe_fldK (K := K) rfl (pv 1) rfl) (pe_fldK (K := K) rfl (pv 0) rfl)))
      (pss_cons (ps_set (i := 4) sc_halvings.nd rfl (Or.inl rfl) pe_int)
      (pss_cons (ps_while PassesOwn.never (pt_cmpR op_gt (pv 2) (pv 3) (nomark _))
        (pss_cons (ps_set (i := 3) sc_halvings.nd rfl (Or.inl rfl) (pe_op op_mulB pe_int (pv 3)))
          (pss_one (ps_set (i := 4) sc_halvings.nd rfl (Or.inl rfl) (pe_op op_add (pv 4) pe_int)))))
      (pss_one (ps_ret (pv 4))))))), ?_⟩
    refine rd_sa ⟨_, rfl, r, C, dr, _, _, rfl, hR, R.cl, R.nT, flds_top _ _, _, rfl, wd, C, dw, _, _, rfl, hW, R.cl, R.nB, flds_bottom _ _, _, _, rfl, rfl, ⟨br1.mono (by omega), bw2.mono (by omega)⟩, ?_⟩
    refine rd_sa ⟨_, rfl, wd, C, dw, _, _, rfl, hW, R.cl, R.nT, flds_top _ _, _, rfl, r, C, dr, _, _, rfl, hR, R.cl, R.nB, flds_bottom _ _, _, _, rfl, rfl, ⟨bw1.mono (by decide), br2.mono (by decide)⟩, ?_⟩
    have bW : Bits (kr + kw) (r1 * w2) := br1.mul bw2
    have g0 : 0 < w1 * r2 := Int.mul_pos hw1 hr2
    refine rd_sa ?_
    dsimp only
    generalize r1 * w2 = W at *
    generalize w1 * r2 = g at *
    show tSeq _ _ _ _ _
    have b0 : ∀ n : Nat, (∀ j : Nat, j < n → g * 2 ^ j < W) → n ≤ kr + kw := fun n hn => by
      rcases Nat.lt_or_ge (kr + kw) n with z | z
      · have h1 := hn (kr + kw) z
        have h2 : (2 : Int) ^ (kr + kw) ≤ g * 2 ^ (kr + kw) := by
          have := Int.mul_le_mul_of_nonneg_right (show (1 : Int) ≤ g by omega) (Int.le_of_lt (pow2_pos (kr + kw)))
          omega
        have h3 : W.natAbs < 2 ^ (kr + kw) := bW
        have h5 : (W.natAbs : Int) < ((2 ^ (kr + kw) : Nat) : Int) := Int.ofNat_lt.mpr h3
        rw [← pow2_cast] at h5
        generalize (2 : Int) ^ (kr + kw) = Y at *
        omega
      · exact z
    refine ⟨fun m σ' H' => ∃ n : Nat, σ' = [some (.ref r), some (.ref wd), some (.int W), some (.int (g * 2 ^ n)), some (.int n)] ∧ H = H' ∧ m = (W - g * 2 ^ n).toNat ∧ ∀ j : Nat, j < n → g * 2 ^ j < W, ⟨_, 0, by rw [Int.pow_zero, Int.mul_one]; rfl, rfl, rfl, fun j hj => absurd hj (Nat.not_lt_zero _)⟩, ?_⟩
    rintro m σ' H' ⟨n, rfl, rfl, rfl, hj⟩
    refine ⟨_, rfl, _, rfl, _, _, rfl, rfl, _, rfl, rd_dec (fun hgt => ?_) (fun hle => ?_)⟩
    · have hgt' : g * 2 ^ n < W := hgt
      have gp : 0 < g * 2 ^ n := Int.mul_pos g0 (pow2_pos n)
      have bg : Bits (kr + kw) (g * 2 ^ n) := bW.of_le (by omega)
      refine ⟨fun σ'' H'' => ∃ m', m' < (W - g * 2 ^ n).toNat ∧ ∃ n : Nat, σ'' = [some (.ref r), some (.ref wd), some (.int W), some (.int (g * 2 ^ n)), some (.int n)] ∧ H = H'' ∧ m' = (W - g * 2 ^ n).toNat ∧ ∀ j : Nat, j < n → g * 2 ^ j < W, fun _ _ h => h, ?_⟩
      have e2 : 2 * (g * 2 ^ n) = g * 2 ^ (n + 1) := by rw [Int.pow_succ]; grind
      refine rd_sa ⟨_, rfl, _, _, rfl, rfl, ⟨two6, bg.mono (by omega)⟩, ?_⟩
      refine rd_asg ⟨_, rfl, _, _, rfl, rfl, ?_⟩
      refine ⟨(W - g * 2 ^ (n + 1)).toNat, by rw [← e2]; omega, n + 1, by rw [← e2]; rfl, rfl, rfl, fun j h' => ?_⟩
      by_cases ej : j = n
      · subst ej; exact hgt'
      · exact hj j (by omega)
    · refine ⟨_, rfl, k n (b0 n hj) ?_ hj⟩
      have : ¬ g * 2 ^ n < W := hle
      omega
theorem rt_bits {k : Nat} {t b : Int} (hb : b ≠ 0) (h : Bits k t) : Bits k (rt t b) := h.of_le (rt_abs hb)
theorem rb_bits {k : Nat} {t b : Int} (hb : b ≠ 0) (h : Bits k b) : Bits k (rb t b) := h.of_le (rb_abs hb)
theorem no_plus : ¬ (("plus" : Str) = "bottom") ∧ ¬ (("plus" : Str) = "top") := ⟨by decide +kernel, by decide +kernel⟩
theorem no_minus : ¬ (("minus" : Str) = "bottom") ∧ ¬ (("minus" : Str) = "top") := ⟨by decide +kernel, by decide +kernel⟩
theorem no_times : ¬ (("times" : Str) = "bottom") ∧ ¬ (("times" : Str) = "top") := ⟨by decide +kernel, by decide +kernel⟩
def spAlo (C : Addr) : Sp := fun vs H Q _ => ∃ (l r : Addr) (l1 l2 r1 r2 pl pc : Int) (i j n : Nat), vs = [.ref l, .ref r, .int pl, .int pc] ∧ RA C H l l1 l2 ∧ RA C H r r1 r2 ∧ 0 < l2 ∧ 0 < r2 ∧ 0 < pc ∧ Bits i l1 ∧ Bits i l2 ∧ Bits j r1 ∧ Bits j r2 ∧ Bits n pl ∧ Bits n pc ∧ i + (j + n) ≤ 9000 ∧
  ∀ (x : Addr) (H' : Hp) (x1 x2 : Int), Same H H' → H x = none → RA C H' x x1 x2 → 0 < x2 → x1 * (l2 * r2 * pc) = (l1 * r2 * pc + r1 * l2 * pl) * x2 → Bits (i + (j + n) + 1) x1 → Bits (i + (j + n) + 1) x2 → Nat.gcd x1.natAbs x2.natAbs = 1 → Q (.ref x) H'
theorem ok_along {C f : Addr} {fd : FuncData} (F : Fun K "along" "along" s_along f fd) (T : Txt K mg) (R : RCI K mg C) {f_Ratio_plus : Addr} {fd_Ratio_plus : FuncData} (C_Ratio_plus : MCal P w K mg base 4 C "plus" ["self", "other"] (spPlus C) f_Ratio_plus fd_Ratio_plus) {f_Ratio_times : Addr} {fd_Ratio_times : FuncData} (C_Ratio_times : MCal P w K mg base 4 C "times" ["self", "other"] (spTimes C) f_Ratio_times fd_Ratio_times) {f_Ratio : Addr} {fd_Ratio : FuncData} {ds_Ratio : List Value} (C_Ratio : KCal P w K mg base 2 C "Ratio" ["self", "top", "bottom"] (spInit C) f_Ratio fd_Ratio ds_Ratio [.int 1]) : FnOk P w K mg base CX0 5 f fd ["low", "reach", "place", "pieces"] (spAlo C) := by
  obtain ⟨G_Ratio_plus, mt_Ratio_plus, b_Ratio_plus⟩ := C_Ratio_plus
  obtain ⟨G_Ratio_times, mt_Ratio_times, b_Ratio_times⟩ := C_Ratio_times
  obtain ⟨G_Ratio, M_Ratio, m_Ratio, b_Ratio, bD_Ratio, d_Ratio⟩ := C_Ratio
  refine F.ok sc_along (fun vs H Q E h => ?_) (fun cdv A outer s H vs Q E hr h => ?_)
  · obtain ⟨l, r, l1, l2, r1, r2, pl, pc, i, j, n, rfl, _⟩ := h
    rfl
  · obtain ⟨l, r, l1, l2, r1, r2, pl, pc, i, j, n, rfl, hL, hR, hl2, hr2, hpc, bl1, bl2, br1, br2, bpl, bpc, hijn, k⟩ := h
    refine ⟨_, (pss_one (ps_ret (pe_meth (pv 0) R.cl mt_Ratio_plus G_Ratio_plus (hr.mono (by decide)) b_Ratio_plus .nil pass0 (pa_cons (pe_meth (pv 1) R.cl mt_Ratio_times G_Ratio_times (hr.mono (by decide)) b_Ratio_times .nil pass0 (pa_cons (pe_make M_Ratio G_Ratio (hr.mono (by decide)) rfl m_Ratio b_Ratio .nil pass0 (pa_cons (pv 2) (pa_cons (pv 3) pa_nil))) pa_nil)) pa_nil)))), ?_⟩
    obtain ⟨dl, hl⟩ := id hL
    obtain ⟨dr, hrr⟩ := id hR
    have pc0 : pc ≠ 0 := Int.ne_of_gt hpc
    refine rd_ret ⟨_, rfl, l, dl, _, rfl, hl, flds_no _ _ no_plus.1 no_plus.2, _, rfl, r, dr, _, rfl, hrr, flds_no _ _ no_times.1 no_times.2, _, rfl, _, rfl, make_R pc0 (bpc.mono (by omega)) fun xa H1 s1 ha hRa => ?_⟩
    have a0 : 0 < rb pl pc := rb_pos pc0
    have ba1 : Bits n (rt pl pc) := rt_bits pc0 bpl
    have ba2 : Bits n (rb pl pc) := rb_bits pc0 bpc
    have ea := r_cross (t := pl) pc0
    generalize rt pl pc = a1 at *
    generalize rb pl pc = a2 at *
    refine ⟨r, xa, r1, r2, a1, a2, j, n, rfl, hR.same s1, hRa, br1.mono (by omega), br2, ba1.mono (by omega), ba2, by omega, hr2, a0, fun xc H2 s2 hc hRc => ?_⟩
    have d0 : r2 * a2 ≠ 0 := Int.ne_of_gt (Int.mul_pos hr2 a0)
    have c0 : 0 < rb (r1 * a1) (r2 * a2) := rb_pos d0
    have bc1 : Bits (j + n) (rt (r1 * a1) (r2 * a2)) := rt_bits d0 (br1.mul ba1)
    have bc2 : Bits (j + n) (rb (r1 * a1) (r2 * a2)) := rb_bits d0 (br2.mul ba2)
    have ec := r_cross (t := r1 * a1) d0
    generalize rt (r1 * a1) (r2 * a2) = c1 at *
    generalize rb (r1 * a1) (r2 * a2) = c2 at *
    have t2 := s1.trans s2
    refine ⟨l, xc, l1, l2, c1, c2, i, j + n, rfl, hL.same t2, hRc, bl1.mono (by omega), bl2, bc1.mono (by omega), bc2, hijn, hl2, c0, fun xx H3 s3 hx hRx => ?_⟩
    have x0 : l2 * c2 ≠ 0 := Int.ne_of_gt (Int.mul_pos hl2 c0)
    refine k xx H3 _ _ (t2.trans s3) (t2.free hx) hRx (rb_pos x0) (along_eq a0 c0 ea ec (r_cross x0)) ?_ ?_ (r_gcd x0)
    · refine (rt_bits x0 ?_)
      exact Bits.add (bl1.mul bc2) ((bc1.mul bl2).mono (by omega))
    · exact (rb_bits x0 (bl2.mul bc2)).mono (by omega)
/-! stretched -/
theorem mb_bits {i j : Nat} {a b c : Int} {l : List Int} (hl : AllB i l) (ha : Bits j a) (hb : Bits j b) (hc : Bits (i + j) c) : AllB (i + j + 1) (mb a b c l) := AllB.of_cf fun n => by
  rw [cf_mb]
  refine Bits.add ?_ ?_
  · exact (ha.neg.mul (hl.cf n)).mono (by omega)
  · split
    · exact hc
    · exact (hb.mul (hl.cf (n - 1))).mono (by omega)
theorem strG_bits {kv j : Nat} {m s0 s1 : Int} (hm : Bits j m) (h0 : Bits j s0) (h1 : Bits j s1) : ∀ {l : List Int}, AllB kv l → AllB (kv + (j + 1) * l.length + 1) (strG m s0 s1 l)
  | [], _ => AllB.nil
  | v :: l, h => by
    have ih := strG_bits hm h0 h1 (l := l) fun x hx => h x (List.mem_cons_of_mem _ hx)
    have hv := h v (List.mem_cons_self ..)
    have := mb_bits (c := v * m ^ l.length) ih h0.neg h1 ((hv.mul (bits_pow hm l.length)).mono (by
      have : (j + 1) * l.length = j * l.length + l.length := by rw [Nat.add_mul, Nat.one_mul]
      omega))
    refine AllB.mono this ?_
    rw [List.length_cons, Nat.mul_add, Nat.mul_one]; omega
theorem str_add {a b c : Int} {l : List Int} (hne : l ≠ []) (hT : Tr (mb a b c l)) : addL (mulL l [-a, b]) (trim [c]) = mb a b c l := by
  refine eq_of_cf (tr_trim _) hT fun k => ?_
  unfold addL
  rw [cf_trim, cf_linL, cf_trim, Int.one_mul, mul_two hne, cf_mb, cf_mb]
  rcases k with _ | k
  · show _ + 0 + c = _ + c
    omega
  · rw [if_neg (by omega), if_neg (by omega)]
    show _ + cf [] k = _
    rw [cf_nil]; omega
theorem tr_str {m s0 s1 : Int} (hs : 0 < s1) {l : List Int} (hne : l ≠ []) (hl : Tr l) : Tr (strG m s0 s1 l) := by
  have h1 := strG_last m s0 s1 l
  have hlen := strG_len m s0 s1 l
  have hp : 0 < l.length := List.length_pos_iff.mpr hne
  have h2 : cf l (l.length - 1) ≠ 0 := hl _ (by omega)
  intro n hn
  have : n = l.length - 1 := by omega
  subst this
  rw [h1]
  exact Int.mul_ne_zero h2 (Int.ne_of_gt (Int.pow_pos hs))
theorem tr_drop {l : List Int} (hl : Tr l) {i : Nat} (h : i < l.length) : Tr (l.drop i) := by
  intro n hn
  rw [List.length_drop] at hn
  have e : cf (l.drop i) n = cf l (i + n) := by
    unfold cf
    simp [List.getD]
  rw [e]
  exact hl _ (by omega)
def spStr (C : Addr) : Sp := fun vs H Q _ => ∃ (a l r : Addr) (ns : List Int) (l1 l2 r1 r2 : Int), vs = [.ref a, .ref l, .ref r] ∧ H a = some (.lst (ns.map V.int)) ∧ RA C H l l1 l2 ∧ RA C H r r1 r2 ∧ Tr ns ∧ ns ≠ [] ∧ ns.length ≤ 12 ∧ AllB 1000 ns ∧ 0 < l2 ∧ 0 < r1 ∧ 0 < r2 ∧ Bits 1400 l1 ∧ Bits 1400 l2 ∧ Bits 2900 r1 ∧ Bits 2900 r2 ∧
  ∀ m s0 s1 : Int, 0 < m → s0 * l2 = l1 * m → s1 * r2 = r1 * m → 0 < s1 → AllB 60000 (strG m s0 s1 ns) → mkL H Q (strG m s0 s1 ns)
theorem ok_stretched {C f : Addr} {fd : FuncData} (F : Fun K "stretched" "stretched" s_stretched f fd) (T : Txt K mg) (R : RCI K mg C) {f_shared : Addr} {fd_shared : FuncData} (C_shared : Cal P w K mg base 2 "shared" ["row"] (spShared K) f_shared fd_shared) {f_added : Addr} {fd_added : FuncData} (C_added : Cal P w K mg base 2 "added" ["first", "second"] (sp2L K addL) f_added fd_added) {f_multiplied : Addr} {fd_multiplied : FuncData} (C_multiplied : Cal P w K mg base 1 "multiplied" ["first", "second"] spMul f_multiplied fd_multiplied) {f_poly : Addr} {fd_poly : FuncData} (C_poly : Cal P w K mg base 1 "poly" ["row"] (spTrim K) f_poly fd_poly) : FnOk P w K mg base CX0 3 f fd ["row", "low", "reach"] (spStr C) := by
  obtain ⟨G_shared, m_shared, k_shared, b_shared⟩ := C_shared
  obtain ⟨G_added, m_added, k_added, b_added⟩ := C_added
  obtain ⟨G_multiplied, m_multiplied, k_multiplied, b_multiplied⟩ := C_multiplied
  obtain ⟨G_poly, m_poly, k_poly, b_poly⟩ := C_poly
  refine F.ok sc_stretched (fun vs H Q E h => ?_) (fun cdv A outer s H vs Q E hr h => ?_)
  · obtain ⟨a, l, r, ns, l1, l2, r1, r2, rfl, _⟩ := h
    rfl
  · obtain ⟨a, l, r, ns, l1, l2, r1, r2, rfl, hA, ⟨dl, hL⟩, ⟨dr, hR⟩, hT, hne, hln, hbn, hl2, hr1, hr2, bl1, bl2, br1, br2, k⟩ := h
    refine ⟨_, (pss_cons (ps_set (i := 3) sc_stretched.nd rfl (Or.inl rfl) (pe_op op_fdivP (pe_op op_mulB (pe_fldK (K := K) rfl (pv 1) rfl) (pe_fldK (K := K) rfl (pv 2) rfl)) (pe_call G_shared (hr.mono (by decide)) rfl m_shared k_shared b_shared .nil pass0 (pa_cons (pe_lst (pa_cons (pe_fldK (K := K) rfl (pv 1) rfl) (pa_cons (pe_fldK (K := K) rfl (pv 2) rfl) pa_nil))) pa_nil))))
      (pss_cons (ps_set (i := 4) sc_stretched.nd rfl (Or.inl rfl) (pe_op op_mulB (pe_fldK (K := K) rfl (pv 1) rfl) (pe_op op_fdivP (pv 3) (pe_fldK (K := K) rfl (pv 1) rfl))))
      (pss_cons (ps_set (i := 5) sc_stretched.nd rfl (Or.inl rfl) (pe_op op_mulB (pe_fldK (K := K) rfl (pv 2) rfl) (pe_op op_fdivP (pv 3) (pe_fldK (K := K) rfl (pv 2) rfl))))
      (pss_cons (ps_set (i := 6) sc_stretched.nd rfl (Or.inl rfl) (pe_lst pa_nil))
      (pss_cons (ps_set (i := 7) sc_stretched.nd rfl (Or.inl rfl) pe_int)
      (pss_cons (ps_for PassesOwn.never rfl (pi_rev rfl T.reversed_ (pa_cons (pv 0) pa_nil)) (pg_name (i := 8) sc_stretched.nd rfl (Or.inl rfl))
        (pss_cons (ps_set (i := 6) sc_stretched.nd rfl (Or.inl rfl) (pe_call G_added (hr.mono (by decide)) rfl m_added k_added b_added .nil pass0 (pa_cons (pe_call G_multiplied (hr.mono (by decide)) rfl m_multiplied k_multiplied b_multiplied .nil pass0 (pa_cons (pv 6) (pa_cons (pe_lst (pa_cons (pv 4) (pa_cons (pv 5) pa_nil))) pa_nil))) (pa_cons (pe_call G_poly (hr.mono (by decide)) rfl m_poly k_poly b_poly .nil pass0 (pa_cons (pe_lst (pa_cons (pe_op op_mulB (pv 8) (pv 7)) pa_nil)) pa_nil)) pa_nil))))
          (pss_one (ps_set (i := 7) sc_stretched.nd rfl (Or.inl rfl) (pe_op op_mulB (pv 7) (pv 3))))))
      (pss_one (ps_ret (pv 6))))))))), ?_⟩
    obtain ⟨l', r', pl', pr', pg, el, er, em, e1, e2, pm⟩ := both_of hl2 hr2 (g := gcdL [l2, r2]) (by show Nat.gcd (Nat.gcd 0 l2.natAbs) r2.natAbs = _; rw [Nat.gcd_zero_left])
    have bg : Bits 9000 ((gcdL [l2, r2] : Nat) : Int) := Bits.mono (j := 1400) (bl2.of_le (by rw [Int.natAbs_natCast]; exact Nat.le_of_dvd (by omega) (by show Nat.gcd (Nat.gcd 0 l2.natAbs) r2.natAbs ∣ _; rw [Nat.gcd_zero_left]; exact Nat.gcd_dvd_left _ _))) (by decide)
    have bl' : Bits 1400 l' := bl2.of_le (by
      rw [el, Int.natAbs_mul]
      exact Nat.le_mul_of_pos_left _ (by omega))
    have br' : Bits 2900 r' := br2.of_le (by
      rw [er, Int.natAbs_mul]
      exact Nat.le_mul_of_pos_left _ (by omega))
    refine rd_sa ⟨_, rfl, l, C, dl, _, _, rfl, hL, R.cl, R.nB, flds_bottom _ _, _, rfl, r, C, dr, _, _, rfl, hR, R.cl, R.nB, flds_bottom _ _, _, _, rfl, rfl, ⟨bl2.mono (by decide), br2.mono (by decide)⟩, ?_⟩
    refine ⟨_, rfl, l, C, dl, _, _, rfl, hL, R.cl, R.nB, flds_bottom _ _, _, rfl, r, C, dr, _, _, rfl, hR, R.cl, R.nB, flds_bottom _ _, by show 2 ≤ sizeLine; decide, fun p0 hp0 => ?_⟩
    have s0' := Same.upd_new (o := .lst [V.int l2, V.int r2]) hp0
    refine ⟨p0, [l2, r2], rfl, SqL.of upd_same, _, _, rfl, rfl, ⟨pg, bg⟩, ?_⟩
    generalize upd H p0 (.lst [V.int l2, V.int r2]) = H0 at s0' ⊢
    dsimp only
    rw [em]
    refine rd_sa ⟨_, rfl, l, C, dl, _, _, rfl, s0' _ _ hL, R.cl, R.nT, flds_top _ _, _, rfl, _, rfl, l, C, dl, _, _, rfl, s0' _ _ hL, R.cl, R.nB, flds_bottom _ _, _, _, rfl, rfl, ⟨hl2, bl2.mono (by decide)⟩, ?_⟩
    dsimp only
    rw [e1]
    refine ⟨_, _, rfl, rfl, ⟨bl1.mono (by decide), br'.mono (by decide)⟩, ?_⟩
    refine rd_sa ⟨_, rfl, r, C, dr, _, _, rfl, s0' _ _ hR, R.cl, R.nT, flds_top _ _, _, rfl, _, rfl, r, C, dr, _, _, rfl, s0' _ _ hR, R.cl, R.nB, flds_bottom _ _, _, _, rfl, rfl, ⟨hr2, br2.mono (by decide)⟩, ?_⟩
    dsimp only
    rw [e2]
    refine ⟨_, _, rfl, rfl, ⟨br1.mono (by decide), bl'.mono (by decide)⟩, ?_⟩
    have q0 : l1 * r' * l2 = l1 * (l2 * r') := by grind
    have q1 : r1 * l' * r2 = r1 * (l2 * r') := by
      calc r1 * l' * r2 = r1 * l' * (((gcdL [l2, r2] : Nat) : Int) * r') := by rw [← er]
        _ = r1 * ((((gcdL [l2, r2] : Nat) : Int) * l') * r') := by grind
        _ = r1 * (l2 * r') := by rw [← el]
    have q2 : 0 < r1 * l' := Int.mul_pos hr1 pl'
    have bm : Bits 4300 (l2 * r') := bl2.mul br'
    have bs0 : Bits 4300 (l1 * r') := bl1.mul br'
    have bs1 : Bits 4300 (r1 * l') := br1.mul bl'
    dsimp only
    generalize l2 * r' = m at *
    generalize l1 * r' = s0 at *
    generalize r1 * l' = s1 at *
    have sb : ∀ {l : List Int}, AllB 1000 l → l.length ≤ 12 → AllB 60000 (strG m s0 s1 l) := fun {l} h hl => (strG_bits bm bs0 bs1 h).mono (by omega)
    refine rd_sa ⟨Nat.zero_le _, fun p1 hp1 => ?_⟩
    have s1' := s0'.then_new (o := .lst []) hp1
    have h1 : upd H0 p1 (.lst []) p1 = some (.lst []) := upd_same
    have f1 : H p1 = none := s0'.free hp1
    generalize upd H0 p1 (.lst []) = H1 at s1' h1 ⊢
    refine rd_sa ?_
    have hl : (ns.map V.int).length = ns.length := List.length_map _
    refine ⟨_, rfl, a, _, rfl, SqL.of (s1' _ _ hA), for_rev (K := K) (a := a) (xs := ns.map V.int) (fun i σ' H' => ∃ (p : Addr) (z : Option V), σ' = [some (.ref a), some (.ref l), some (.ref r), some (.int m), some (.int s0), some (.int s1), some (.ref p), some (.int (m ^ i)), z] ∧ Same H H' ∧ H p = none ∧ H' p = some (.lst ((strG m s0 s1 (ns.drop (ns.length - i))).map V.int))) ⟨p1, none, by rw [Int.pow_zero]; rfl, s1', f1, by rw [Nat.sub_zero, List.drop_length]; exact h1⟩ ?_ ?_ ?_⟩
    · rintro i σ' H' _ ⟨p, z, rfl, sm, _⟩
      exact SqL.of (sm _ _ hA)
    · rintro i x σ' H2 hi hx ⟨p, z, rfl, s2, fp, e2'⟩
      rw [hl] at hi hx
      obtain ⟨c, ec, rfl, hc, _⟩ := get_int hx
      have bc := hbn c hc
      have hd := drop_cons hi ec
      have len : (ns.drop (ns.length - i)).length = i := by rw [List.length_drop]; omega
      have hbd : AllB 1000 (ns.drop (ns.length - i)) := fun x hx => hbn x (List.mem_of_mem_drop hx)
      have aF := sb hbd (by omega)
      have lF : (strG m s0 s1 (ns.drop (ns.length - i))).length = i := by rw [strG_len, len]
      have bP : Bits 60000 (m ^ i) := (bits_pow bm i).mono (by omega)
      have eF : addL (mulL (strG m s0 s1 (ns.drop (ns.length - i))) [s0, s1]) (trim [c * m ^ i]) = strG m s0 s1 (ns.drop (ns.length - (i + 1))) := by
        have hT' : Tr (strG m s0 s1 (ns.drop (ns.length - (i + 1)))) := tr_str q2 (by rw [hd]; simp) (tr_drop hT (by omega))
        rw [hd] at hT' ⊢
        have hT2 : Tr (mb (-s0) s1 (c * m ^ i) (strG m s0 s1 (ns.drop (ns.length - i)))) := by
          have : strG m s0 s1 (c :: ns.drop (ns.length - i)) = mb (-s0) s1 (c * m ^ (ns.drop (ns.length - i)).length) (strG m s0 s1 (ns.drop (ns.length - i))) := rfl
          rw [this, len] at hT'
          exact hT'
        show _ = mb (-s0) s1 (c * m ^ (ns.drop (ns.length - i)).length) (strG m s0 s1 (ns.drop (ns.length - i)))
        rw [len]
        by_cases hi0 : i = 0
        · subst hi0
          have e0 : strG m s0 s1 (ns.drop (ns.length - 0)) = [] := by rw [Nat.sub_zero, List.drop_length]; rfl
          rw [e0] at hT2 ⊢
          refine eq_of_cf (tr_trim _) hT2 fun k => ?_
          unfold addL
          rw [cf_trim, cf_linL, cf_mulL, cf_trim, Int.one_mul]
          show 0 + _ = _
          rw [Int.zero_add]; rfl
        · have hn' : strG m s0 s1 (ns.drop (ns.length - i)) ≠ [] := fun z => by rw [z] at lF; exact hi0 lF.symm
          have := str_add (a := -s0) (b := s1) (c := c * m ^ i) hn' hT2
          rw [Int.neg_neg] at this
          exact this
      show tSeq (tAsg _ (gName 6)) _ _ _ _
      have bs : AllB 4300 [s0, s1] := fun x hx => by
        simp only [List.mem_cons, List.not_mem_nil, or_false] at hx
        rcases hx with rfl | rfl
        · exact bs0
        · exact bs1
      generalize strG m s0 s1 (ns.drop (ns.length - i)) = Fs at *
      refine rd_sa ⟨_, rfl, _, rfl, _, rfl, by show 2 ≤ sizeLine; decide, fun p3 hp3 => ?_⟩
      have s3 := s2.then_new (o := .lst ([s0, s1].map V.int)) hp3
      have e3 : upd H2 p3 (.lst ([s0, s1].map V.int)) p = some (.lst (Fs.map V.int)) := (Same.upd_new hp3) _ _ e2'
      have h3 : upd H2 p3 (.lst ([s0, s1].map V.int)) p3 = some (.lst ([s0, s1].map V.int)) := upd_same
      refine ⟨p, p3, Fs, [s0, s1], rfl, e3, h3, by omega, by show 2 ≤ 1000000; decide, aF.mono (by decide), bs.mono (by decide), fun p4 H4 s4 hp4 e4 => ?_⟩
      have t4 := s3.trans s4
      refine ⟨_, rfl, _, rfl, _, _, rfl, rfl, ⟨bc.mono (by decide), bP.mono (by decide)⟩, by show 1 ≤ sizeLine; decide, fun p5 hp5 => ?_⟩
      have s5 := t4.then_new (o := .lst ([c * m ^ i].map V.int)) hp5
      have e5 : upd H4 p5 (.lst ([c * m ^ i].map V.int)) p4 = some (.lst ((mulL Fs [s0, s1]).map V.int)) := (Same.upd_new hp5) _ _ e4
      have h5 : upd H4 p5 (.lst ([c * m ^ i].map V.int)) p5 = some (.lst ([c * m ^ i].map V.int)) := upd_same
      refine ⟨p5, [c * m ^ i], rfl, SqL.of h5, fun p6 H6 s6 hp6 e6 => ?_⟩
      have t6 := s5.trans s6
      refine ⟨p4, p6, mulL Fs [s0, s1], trim [c * m ^ i], rfl, SqL.of (s6 _ _ e5), SqL.of e6, ?_, ?_, fun p7 H7 s7 hp7 e7 => ?_⟩
      · have : (mulL Fs [s0, s1]).length ≤ 1000 := by
          unfold mulL
          split
          · exact Nat.zero_le _
          · rw [List.length_map, List.length_range]; show _ + 2 - 1 ≤ _; omega
        omega
      · have := length_trim [c * m ^ i]
        have : (trim [c * m ^ i]).length ≤ 1 := this
        omega
      rw [eF] at e7
      refine rd_asg ⟨_, rfl, _, rfl, _, _, rfl, rfl, ⟨bP.mono (by decide), bm.mono (by decide)⟩, ?_⟩
      refine ⟨p7, some (.int c), ?_, t6.trans s7, t6.free hp7, e7⟩
      rw [Int.pow_succ]; rfl
    · rintro σ' H' ⟨p, z, rfl, sm, fp, e⟩
      rw [hl, Nat.sub_self, List.drop_zero] at e
      exact ⟨_, rfl, k m s0 s1 pm q0 q1 q2 (sb hbn hln) p H' sm fp e⟩
--SPLIT
def spSpr : Sp := fun vs H Q _ => ∃ (a : Addr) (ns : List Int), vs = [.ref a] ∧ H a = some (.lst (ns.map V.int)) ∧ ns.length ≤ 1000 ∧ AllB 500000 ns ∧ mkL H Q (sprG ns)
theorem ok_spread {f : Addr} {fd : FuncData} (F : Fun K "spread" "spread" s_spread f fd) (T : Txt K mg) : FnOk P w K mg base CX0 1 f fd ["row"] spSpr := by
  refine F.ok sc_spread (fun vs H Q E h => ?_) (fun cdv A outer s H vs Q E hr h => ?_)
  · obtain ⟨a, ns, rfl, _⟩ := h
    rfl
  · obtain ⟨a, ns, rfl, hA, hn, hb, k⟩ := h
    have big := sizeLine_eq
    refine ⟨_, (pss_cons (ps_set (i := 1) sc_spread.nd rfl (Or.inl rfl) (pe_lst pa_nil))
      (pss_cons (ps_set (i := 2) sc_spread.nd rfl (Or.inl rfl) pe_int)
      (pss_cons (ps_for PassesOwn.never rfl (pi_rev rfl T.reversed_ (pa_cons (pv 0) pa_nil)) (pg_name (i := 3) sc_spread.nd rfl (Or.inl rfl))
        (pss_cons (ps_expr (pe_bm PySem.F.plainAttrs_list PySem.F.slot_list_append PySem.F.type_list_append mt_append (pv 1) (pa_cons (pe_op op_mulB (pv 2) (pv 3)) pa_nil)))
          (pss_one (ps_set (i := 2) sc_spread.nd rfl (Or.inl rfl) (pe_op op_mulB pe_int (pv 2))))))
      (pss_cons (ps_expr (pe_bm0 PySem.F.plainAttrs_list PySem.F.slot_list_reverse PySem.F.type_list_reverse mt_reverse (pv 1)))
      (pss_one (ps_ret (pv 1))))))), ?_⟩
    refine rd_sa ⟨Nat.zero_le _, fun p1 hp1 => ?_⟩
    have s1' := Same.upd_new (o := .lst []) hp1
    have h1 : upd H p1 (.lst []) p1 = some (.lst []) := upd_same
    generalize upd H p1 (.lst []) = H1 at s1' h1 ⊢
    refine rd_sa ?_
    have hl : (ns.map V.int).length = ns.length := List.length_map _
    refine ⟨_, rfl, a, _, rfl, SqL.of (s1' _ _ hA), for_rev (K := K) (a := a) (xs := ns.map V.int) (fun i σ' H' => ∃ z : Option V, σ' = [some (.ref a), some (.ref p1), some (.int (2 ^ i)), z] ∧ Same H H' ∧ H' p1 = some (.lst ((sprG (ns.drop (ns.length - i))).reverse.map V.int))) ⟨none, rfl, s1', by rw [Nat.sub_zero, List.drop_length]; exact h1⟩ ?_ ?_ ?_⟩
    · rintro i σ' H' _ ⟨z, rfl, sm, _⟩
      exact SqL.of (sm _ _ hA)
    · rintro i x σ' H2 hi hx ⟨z, rfl, s2, h2⟩
      rw [hl] at hi hx
      obtain ⟨c, ec, rfl, hc, _⟩ := get_int hx
      have hd := drop_cons hi ec
      have len : (ns.drop (ns.length - i)).length = i := by rw [List.length_drop]; omega
      show tSeq (tDrop _) _ _ _ _
      refine rd_sd ⟨_, rfl, .inl ⟨rfl, _, SqL.of h2⟩, _, rfl, _, rfl, _, _, rfl, rfl, ⟨(pow2_bits (n := i) (k := 1001) (by omega)).mono (by decide), (hb c hc).mono (by decide)⟩, p1, _, _, rfl, rfl, h2, by rw [List.length_map, List.length_reverse, sprG_len, len]; omega, ?_⟩
      refine rd_asg ⟨_, rfl, _, _, rfl, rfl, ⟨two6, (pow2_bits (n := i) (k := 1001) (by omega)).mono (by decide)⟩, ?_⟩
      refine ⟨some (.int c), ?_, mut_same s2 hp1, ?_⟩
      · show [some (V.ref a), some (V.ref p1), some (V.int (2 * 2 ^ i)), some (V.int c)] = _
        rw [Int.pow_succ, Int.mul_comm]
      · rw [upd_same, hd, map_snoc]
        show some (HO.lst (((sprG (ns.drop (ns.length - i))).reverse ++ [2 ^ i * c]).map V.int)) = some (HO.lst ((2 ^ (ns.drop (ns.length - i)).length * c :: sprG (ns.drop (ns.length - i))).reverse.map V.int))
        rw [List.reverse_cons, len]
    · rintro σ' H2 ⟨z, rfl, s2, h2⟩
      rw [hl, Nat.sub_self, List.drop_zero] at h2
      dsimp only
      refine rd_sd ⟨_, rfl, .inl ⟨rfl, _, SqL.of h2⟩, p1, _, rfl, rfl, h2, ?_⟩
      refine ⟨_, rfl, k p1 _ (mut_same s2 hp1) hp1 ?_⟩
      rw [upd_same, ← List.map_reverse, List.reverse_reverse]
/-! moved: in a pass from the end on -/
def half_ (m : List Int) (j : Nat) : List Int := m.take (m.length - 1 - j) ++ suf (m.drop (m.length - 1 - j))
theorem pass_eq : ∀ (i : Nat) (m : List Int), pass i m = m.take i ++ suf (m.drop i)
  | 0, m => by rw [List.take_zero, List.drop_zero]; rfl
  | i + 1, [] => rfl
  | i + 1, c :: m => by show c :: pass i m = c :: (m.take i ++ suf (m.drop i)); rw [pass_eq i m]
theorem half_len (m : List Int) (j : Nat) : (half_ m j).length = m.length := by
  unfold half_
  rw [List.length_append, suf_len, ← List.length_append, List.take_append_drop]
theorem half_zero (m : List Int) : half_ m 0 = m := by
  unfold half_
  rw [Nat.sub_zero]
  cases hd : m.drop (m.length - 1) with
  | nil =>
    have : m.length - 1 = m.length ∨ True := .inr trivial
    have h1 : m.length ≤ m.length - 1 := List.drop_eq_nil_iff.mp hd
    have : m = [] := List.eq_nil_of_length_eq_zero (by omega)
    subst this; rfl
  | cons c r =>
    have hl := congrArg List.length hd
    rw [List.length_drop, List.length_cons] at hl
    have : r = [] := List.eq_nil_of_length_eq_zero (by omega)
    subst this
    show _ ++ [c + 0] = _
    rw [Int.add_zero, ← hd, List.take_append_drop]
theorem half_last (m : List Int) {i : Nat} (h : i + 1 ≤ m.length) : half_ m (m.length - 1 - i) = pass i m := by
  unfold half_
  rw [pass_eq]
  have : m.length - 1 - (m.length - 1 - i) = i := by omega
  rw [this]
/-- one turn of the pass -/
theorem half_step' (m : List Int) {j : Nat} (h : j + 2 ≤ m.length) : (half_ m j).set (m.length - 2 - j) (cf (half_ m j) (m.length - 2 - j) + cf (half_ m j) (m.length - 1 - j)) = half_ m (j + 1) := by
  have e1 : m.length - 1 - (j + 1) = m.length - 2 - j := by omega
  have e2 : m.length - 1 - j = m.length - 2 - j + 1 := by omega
  have hk : m.length - 2 - j < m.length := by omega
  unfold half_
  rw [e1, e2]
  generalize m.length - 2 - j = k at hk e2
  have hd : m.drop k = m[k] :: m.drop (k + 1) := List.drop_eq_getElem_cons hk
  have ht : m.take (k + 1) = m.take k ++ [m[k]] := by rw [List.take_add_one, List.getElem?_eq_getElem hk]; rfl
  rw [hd, ht]
  have lt : (m.take k).length = k := by rw [List.length_take]; omega
  have c1 : cf (m.take k ++ [m[k]] ++ suf (m.drop (k + 1))) k = m[k] := by
    rw [List.append_assoc, cf_append_right (by omega), lt, Nat.sub_self]; rfl
  have c2 : cf (m.take k ++ [m[k]] ++ suf (m.drop (k + 1))) (k + 1) = (suf (m.drop (k + 1))).headD 0 := by
    rw [cf_append_right (by rw [List.length_append, lt]; exact Nat.le_refl _), List.length_append, lt]
    show cf _ (k + 1 - (k + 1)) = _
    rw [Nat.sub_self]
    cases suf (m.drop (k + 1)) with
    | nil => rfl
    | cons _ _ => rfl
  rw [c1, c2]
  show _ = m.take k ++ ((m[k] + (suf (m.drop (k + 1))).headD 0) :: suf (m.drop (k + 1)))
  rw [List.append_assoc, List.set_append_right _ _ (by omega), lt, Nat.sub_self]
  rfl
theorem suf_le {M : Nat} : ∀ {l : List Int}, (∀ x ∈ l, x.natAbs ≤ M) → ∀ x ∈ suf l, x.natAbs ≤ l.length * M
  | [], _, x, hx => nomatch hx
  | v :: l, h, x, hx => by
    have ih := suf_le (l := l) fun x hx => h x (List.mem_cons_of_mem _ hx)
    have hv := h v (List.mem_cons_self ..)
    have hh : ((suf l).headD 0).natAbs ≤ l.length * M := by
      cases hs : suf l with
      | nil => show (0 : Int).natAbs ≤ _; exact Nat.zero_le _
      | cons g r => exact ih g (by rw [hs]; exact List.mem_cons_self ..)
    rw [List.length_cons, Nat.add_mul, Nat.one_mul]
    rcases List.mem_cons.mp hx with e | e
    · subst e; omega
    · have := ih x e; omega
theorem pass_bits {i k : Nat} {m : List Int} (h : AllB i m) (hl : m.length ≤ 16) : AllB (i + 4) (pass k m) := by
  rw [pass_eq]
  refine AllB.app (fun x hx => (h x (List.mem_of_mem_take hx)).mono (by omega)) fun x hx => ?_
  have h1 := suf_le (M := 2 ^ i - 1) (l := m.drop k) (fun y hy => by have : y.natAbs < 2 ^ i := h y (List.mem_of_mem_drop hy); omega) x hx
  have h2 : (m.drop k).length * (2 ^ i - 1) ≤ 16 * (2 ^ i - 1) := Nat.mul_le_mul_right _ (by rw [List.length_drop]; omega)
  have h3 : 0 < 2 ^ i := Nat.pow_pos (by decide)
  show x.natAbs < 2 ^ (i + 4)
  have h4 : 2 ^ (i + 4) = 2 ^ i * 16 := by rw [Nat.pow_add]
  omega
theorem movT_bits {i : Nat} {m : List Int} (h : AllB i m) (hl : m.length ≤ 16) : ∀ n, AllB (i + 4 * n) (movT n m)
  | 0 => h
  | n + 1 => by
    have := pass_bits (k := n) (movT_bits h hl n) (by rw [movT_len]; exact hl)
    exact this.mono (by omega)
theorem movG_bits {i : Nat} {m : List Int} (h : AllB i m) (hl : m.length ≤ 12) : AllB (i + 44) (movG m) := (movT_bits h (by omega) _).mono (by omega)
theorem sprG_bits {i : Nat} : ∀ {m : List Int}, AllB i m → m.length ≤ 12 → AllB (i + 13) (sprG m)
  | [], _, _ => AllB.nil
  | v :: m, h, hl => by
    have ih := sprG_bits (m := m) (fun x hx => h x (List.mem_cons_of_mem _ hx)) (by rw [List.length_cons] at hl; omega)
    intro x hx
    rcases List.mem_cons.mp hx with e | e
    · subst e
      have := (pow2_bits (n := m.length) (k := 13) (by rw [List.length_cons] at hl; omega)).mul (h v (List.mem_cons_self ..))
      exact this.mono (by omega)
    · exact ih x e
def spMov : Sp := fun vs H Q _ => ∃ (a : Addr) (ns : List Int), vs = [.ref a] ∧ H a = some (.lst (ns.map V.int)) ∧ 1 ≤ ns.length ∧ ns.length ≤ 1000 ∧ mkL H Q (movG ns)
theorem set_map (l : List Int) (k : Nat) (v : Int) : (l.map V.int).set k (.int v) = (l.set k v).map V.int := by rw [List.map_set]
theorem at_cf {l : List Int} {k : Nat} {j : Int} (e : j = (k : Int)) (h : k < l.length) : atI (l.map V.int) j = some (.int (cf l k)) := by
  subst e
  refine atI_nat ?_
  rw [List.getElem?_map, List.getElem?_eq_getElem h]
  show some (V.int l[k]) = _
  rw [cf_some (List.getElem?_eq_getElem h)]
theorem ok_moved {f : Addr} {fd : FuncData} (F : Fun K "moved" "moved" s_moved f fd) (T : Txt K mg) {f_degree : Addr} {fd_degree : FuncData} (C_degree : Cal P w K mg base 1 "degree" ["row"] spDeg f_degree fd_degree) : FnOk P w K mg base CX0 2 f fd ["row"] spMov := by
  obtain ⟨G_degree, m_degree, k_degree, b_degree⟩ := C_degree
  refine F.ok sc_moved (fun vs H Q E h => ?_) (fun cdv A outer s H vs Q E hr h => ?_)
  · obtain ⟨a, ns, rfl, _⟩ := h
    rfl
  · obtain ⟨a, ns, rfl, hA, hn1, hn, k⟩ := h
    have big := sizeLine_eq
    refine ⟨_, (pss_cons (ps_set (i := 1) sc_moved.nd rfl (Or.inl rfl) (pe_callTy (call_listK (K := K) rfl) (by rfl) T.list_ PyProof.Rows.boot_list (pa_cons (pv 0) pa_nil)))
      (pss_cons (ps_for PassesOwn.never rfl (pi_range1 rfl T.range_ (pa_cons (pe_call G_degree (hr.mono (by decide)) rfl m_degree k_degree b_degree .nil pass0 (pa_cons (pv 0) pa_nil)) pa_nil)) (pg_name (i := 2) sc_moved.nd rfl (Or.inl rfl))
        (pss_one (ps_for PassesOwn.never rfl (pi_rangeD rfl T.range_ (pa_cons (pe_op op_sub (pe_call G_degree (hr.mono (by decide)) rfl m_degree k_degree b_degree .nil pass0 (pa_cons (pv 0) pa_nil)) pe_int) (pa_cons (pe_op op_sub (pv 2) pe_int) (pa_cons (pe_un un_neg pe_int) pa_nil)))) (pg_name (i := 3) sc_moved.nd rfl (Or.inl rfl))
            (pss_one (ps_asg (pe_op op_add (pe_ix (ix_listK (K := K) rfl) (pv 1) (pv 3) (fun _ _ => rfl)) (pe_ix (ix_listK (K := K) rfl) (pv 1) (pe_op op_add (pv 3) pe_int) (fun _ _ => rfl))) (pg_sub (pv 1) (pv 3) set_list))))))
      (pss_one (ps_ret (pv 1))))), ?_⟩
    refine rd_sa ⟨_, rfl, a, _, rfl, .inl (SqL.of hA), fun p hp => ?_⟩
    have s1' := Same.upd_new (o := .lst (ns.map V.int)) hp
    have h1 : upd H p (.lst (ns.map V.int)) p = some (.lst (ns.map V.int)) := upd_same
    generalize upd H p (.lst (ns.map V.int)) = H1 at s1' h1 ⊢
    have hl : (ns.map V.int).length = ns.length := List.length_map _
    have ed : ((ns.map V.int).length : Int) - 1 = ((ns.length - 1 : Nat) : Int) := by rw [hl]; omega
    refine ⟨_, rfl, a, _, rfl, s1' _ _ hA, _, rfl, (by rw [ed]; omega), (by rw [ed]; omega), ?_⟩
    rw [ed]
    refine for_range (lo := 0) (n := ns.length - 1) (fun i σ' H' => ∃ z2 z3 : Option V, σ' = [some (.ref a), some (.ref p), z2, z3] ∧ Same H H' ∧ H' p = some (.lst ((movT i ns).map V.int))) ⟨none, none, rfl, s1', h1⟩ ?_ ?_
    · rintro i σ' H2 hi ⟨z2, z3, rfl, s2, h2⟩
      have lm : (movT i ns).length = ns.length := movT_len _ _
      generalize hM : movT i ns = M at h2 lm
      refine ⟨_, rfl, a, _, rfl, s2 _ _ hA, _, _, rfl, rfl, _, rfl, _, _, rfl, rfl, _, rfl, ((ns.length - 2 : Nat) : Int), (i : Int) - 1, ?_, ⟨by omega, by omega, by omega, by omega⟩, ?_⟩
      · rw [ed]
        have e1 : ((ns.length - 1 : Nat) : Int) - 1 = ((ns.length - 2 : Nat) : Int) := by omega
        have e2 : (0 : Int) + (i : Int) - 1 = (i : Int) - 1 := by omega
        dsimp only
        rw [e1, e2]
      have en : (((ns.length - 2 : Nat) : Int) - ((i : Int) - 1)).toNat = ns.length - 1 - i := by omega
      rw [en]
      refine for_rangeD (fun j σ' H' => ∃ z3 : Option V, σ' = [some (.ref a), some (.ref p), some (.int (0 + (i : Int))), z3] ∧ Same H H' ∧ H' p = some (.lst ((half_ M j).map V.int))) ⟨z3, rfl, s2, by rw [half_zero]; exact h2⟩ ?_ ?_
      · rintro j σ' H3 hj ⟨z3, rfl, s3, h3⟩
        have lh : (half_ M j).length = ns.length := by rw [half_len, lm]
        have hs := half_step' M (j := j) (by omega)
        rw [lm] at hs
        have k1 : ((ns.length - 2 : Nat) : Int) + (j : Int) * -1 = ((ns.length - 2 - j : Nat) : Int) := by omega
        have k2 : ((ns.length - 2 : Nat) : Int) + (j : Int) * -1 + 1 = ((ns.length - 1 - j : Nat) : Int) := by omega
        refine ⟨_, rfl, _, rfl, p, _, _, _, rfl, rfl, SqL.of h3, at_cf k1 (by omega), _, rfl, _, rfl, _, _, rfl, rfl, p, _, _, _, rfl, rfl, SqL.of h3, at_cf k2 (by omega), _, _, rfl, rfl, _, rfl, _, rfl, p, _, _, ns.length - 2 - j, rfl, rfl, h3, ?_, ?_⟩
        · exact ixN_nat k1 (by rw [List.length_map]; omega)
        refine ⟨_, rfl, mut_same s3 hp, ?_⟩
        rw [upd_same, set_map, hs]
      · rintro σ' H3 ⟨z3, rfl, s3, h3⟩
        refine ⟨_, _, rfl, s3, ?_⟩
        have : half_ M (ns.length - 1 - i) = movT (i + 1) ns := by
          rw [← lm, half_last M (by omega), ← hM]; rfl
        rw [← this]; exact h3
    · rintro σ' H2 ⟨z2, z3, rfl, s2, h2⟩
      exact ⟨_, rfl, k p H2 s2 hp h2⟩
--SPLIT
/-- the one root within (0, 1]: up p c says that it is above p / c -/
structure RootB (ns : List Int) (ε : Int) (up : Int → Int → Prop) : Prop where
  e1 : ε = 1 ∨ ε = -1
  r1 : ∀ p c, 0 < p → p ≤ c → up p c → sg (hv p c ns) = -ε
  r2 : ∀ p c, 0 < p → p ≤ c → ¬ up p c → sg (hv p c ns) = ε ∨ sg (hv p c ns) = 0
  r3 : ∀ p c p' c', 0 < p → p ≤ c → 0 < p' → p' ≤ c' → ¬ up p c → p * c' < p' * c → sg (hv p' c' ns) = ε
  sc : ∀ p c, 0 < c → (up (2 * p) (2 * c) ↔ up p c)
  top : ¬ up 1 1
theorem hv_two_sg (p c : Int) (l : List Int) : sg (hv (2 * p) (2 * c) l) = sg (hv p c l) := by
  rw [hv_scale]; exact sg_pos_mul (Int.pow_pos (by decide))
def spHlv : Sp := fun vs H Q _ => ∃ (a : Addr) (ns : List Int) (e : Int) (n : Nat) (ε : Int) (up : Int → Int → Prop), vs = [.ref a, .int e, .int n] ∧ H a = some (.lst (ns.map V.int)) ∧ 1 ≤ ns.length ∧ ns.length ≤ 12 ∧ AllB 60000 ns ∧ n ≤ 4000 ∧ RootB ns ε up ∧ e = sg (hv 1 1 ns) ∧
  ∀ (p : Addr) (H' : Hp) (pl : Nat), Same H H' → H p = none → H' p = some (.tup [.int pl, .int (2 ^ n)]) → pl < 2 ^ n → (pl = 0 ∨ up pl (2 ^ n)) → ¬ up ((pl : Int) + 1) (2 ^ n) → Q (.ref p) H'
theorem ok_halved {f : Addr} {fd : FuncData} (F : Fun K "halved" "halved" s_halved f fd) (T : Txt K mg) {f_spread : Addr} {fd_spread : FuncData} (C_spread : Cal P w K mg base 1 "spread" ["row"] spSpr f_spread fd_spread) {f_whole_sign : Addr} {fd_whole_sign : FuncData} (C_whole_sign : Cal P w K mg base 1 "whole_sign" ["value"] spSg f_whole_sign fd_whole_sign) {f_moved : Addr} {fd_moved : FuncData} (C_moved : Cal P w K mg base 2 "moved" ["row"] spMov f_moved fd_moved) : FnOk P w K mg base CX0 3 f fd ["row", "end", "steps"] spHlv := by
  obtain ⟨G_spread, m_spread, k_spread, b_spread⟩ := C_spread
  obtain ⟨G_whole_sign, m_whole_sign, k_whole_sign, b_whole_sign⟩ := C_whole_sign
  obtain ⟨G_moved, m_moved, k_moved, b_moved⟩ := C_moved
  refine F.ok sc_halved (fun vs H Q E h => ?_) (fun cdv A outer s H vs Q E hr h => ?_)
  · obtain ⟨a, ns, e, n, ε, up, rfl, _⟩ := h
    rfl
  · obtain ⟨a, ns, e, n, ε, up, rfl, hA, h1n, hln, hbn, hn, hB, he, k⟩ := h
    refine ⟨_, (pss_cons (ps_set (i := 3) sc_halved.nd rfl (Or.inl rfl) pe_int)
      (pss_cons (ps_set (i := 4) sc_halved.nd rfl (Or.inl rfl) pe_int)
      (pss_cons (ps_set (i := 5) sc_halved.nd rfl (Or.inl rfl) (pv 1))
      (pss_cons (ps_set (i := 6) sc_halved.nd rfl (Or.inl rfl) (pv 0))
      (pss_cons (ps_for PassesOwn.never rfl (pi_range1 rfl T.range_ (pa_cons (pv 2) pa_nil)) (pg_name (i := 7) sc_halved.nd rfl (Or.inl rfl))
        (pss_cons (ps_set (i := 3) sc_halved.nd rfl (Or.inl rfl) (pe_op op_mulB pe_int (pv 3)))
          (pss_cons (ps_set (i := 4) sc_halved.nd rfl (Or.inl rfl) (pe_op op_mulB pe_int (pv 4)))
          (pss_cons (ps_set (i := 6) sc_halved.nd rfl (Or.inl rfl) (pe_call G_spread (hr.mono (by decide)) rfl m_spread k_spread b_spread .nil pass0 (pa_cons (pv 6) pa_nil)))
          (pss_cons (ps_set (i := 8) sc_halved.nd rfl (Or.inl rfl) (pe_call G_whole_sign (hr.mono (by decide)) rfl m_whole_sign k_whole_sign b_whole_sign .nil pass0 (pa_cons (pe_callB (call_sumK (K := K) rfl rfl) (by rfl) T.sum_ PyProof.Rows.boot_sum (pa_cons (pv 6) pa_nil)) pa_nil)))
          (pss_one (ps_if (PW.pt (pw_and (pt_cmpR op_neI (pv 8) pe_int (nomark _)) (pw_and1 (pt_cmpR op_neI (pv 8) (pv 5) (nomark _)))))
            (pss_cons (ps_set (i := 3) sc_halved.nd rfl (Or.inl rfl) (pe_op op_add (pv 3) pe_int))
              (pss_one (ps_set (i := 6) sc_halved.nd rfl (Or.inl rfl) (pe_call G_moved (hr.mono (by decide)) rfl m_moved k_moved b_moved .nil pass0 (pa_cons (pv 6) pa_nil)))))
            (pss_one (ps_set (i := 5) sc_halved.nd rfl (Or.inl rfl) (pv 8))))))))))
      (pss_one (ps_ret (pe_tup (pa_cons (pv 3) (pa_cons (pv 4) pa_nil)))))))))), ?_⟩
    refine rd_sa ?_
    refine rd_sa ?_
    refine rd_sa ⟨_, rfl, ?_⟩
    refine rd_sa ⟨_, rfl, ?_⟩
    refine ⟨_, rfl, n, rfl, by omega, by omega, for_range (lo := 0) (n := n) (fun i σ' H' => ∃ (p : Addr) (pl : Nat) (L : List Int) (z7 z8 : Option V), σ' = [some (.ref a), some (.int e), some (.int n), some (.int pl), some (.int (2 ^ i)), some (.int (sg (hv ((pl : Int) + 1) (2 ^ i) ns))), some (.ref p), z7, z8] ∧ Same H H' ∧ H' p = some (.lst (L.map V.int)) ∧ L.length = ns.length ∧ AllB (60000 + 60 * i) L ∧ (∀ p q : Int, 2 ^ i * hv p q L = hv (pl * q + p) (2 ^ i * q) ns) ∧ pl < 2 ^ i ∧ (pl = 0 ∨ up pl (2 ^ i)) ∧ ¬ up ((pl : Int) + 1) (2 ^ i)) ⟨a, 0, ns, none, none, by rw [he]; rfl, Same.refl _, hA, rfl, hbn, fun p q => by rw [Int.pow_zero, Int.one_mul, Int.one_mul]; show _ = hv (0 * q + p) q ns; rw [Int.zero_mul, Int.zero_add], by decide, .inl rfl, by rw [Int.pow_zero]; exact hB.top⟩ ?_ ?_⟩
    · rintro i σ' H1 hi ⟨p, pl, L, z7, z8, rfl, s1, h1, lL, bL, hval, hpl, hup, hnup⟩
      show tSeq (tAsg _ (gName 3)) _ _ _ _
      have b2i : Bits 4002 ((2 : Int) ^ i) := pow2_bits (by omega)
      have p2i := pow2_pos i
      have cpl : (pl : Int) < 2 ^ i := by rw [pow2_cast]; exact Int.ofNat_lt.mpr hpl
      have bpl : Bits 4002 (pl : Int) := b2i.of_le (by rw [pow2_cast]; omega)
      refine rd_sa ⟨_, rfl, _, _, rfl, rfl, ⟨two6, bpl.mono (by decide)⟩, ?_⟩
      refine rd_sa ⟨_, rfl, _, _, rfl, rfl, ⟨two6, b2i.mono (by decide)⟩, ?_⟩
      refine rd_sa ⟨_, rfl, p, L, rfl, h1, by omega, bL.mono (by omega), fun p2 H2 s2 hp2 e2 => ?_⟩
      have t2 := s1.trans s2
      have lS : (sprG L).length = ns.length := by rw [sprG_len, lL]
      have bS : AllB (60000 + 60 * i + 13) (sprG L) := sprG_bits bL (by omega)
      have e2i : (2 : Int) * 2 ^ i = 2 ^ (i + 1) := by rw [Int.pow_succ, Int.mul_comm]
      have vS : ∀ p q : Int, 2 ^ (i + 1) * hv p q (sprG L) = hv (((2 * pl : Nat) : Int) * q + p) (2 ^ (i + 1) * q) ns := fun p q => by
        have h3 := hval p (2 * q)
        rw [← hv_spr] at h3
        have h4 : (2 : Int) ^ (i + 1) * hv p q (sprG L) = 2 ^ i * (2 * hv p q (sprG L)) := by rw [Int.pow_succ]; grind
        rw [h4, h3]
        have h5 : (pl : Int) * (2 * q) + p = ((2 * pl : Nat) : Int) * q + p := by
          have : ((2 * pl : Nat) : Int) = 2 * (pl : Int) := by omega
          rw [this]; grind
        have h6 : (2 : Int) ^ i * (2 * q) = 2 ^ (i + 1) * q := by rw [Int.pow_succ]; grind
        rw [h5, h6]
      refine rd_sa ⟨_, rfl, p2, sprG L, rfl, SqL.of e2, _, rfl, ?_⟩
      have p2i1 := pow2_pos (i + 1)
      have ethere : sg (sprG L).sum = sg (hv (((2 * pl : Nat) : Int) + 1) (2 ^ (i + 1)) ns) := by
        have h3 := vS 1 1
        rw [Int.mul_one, Int.mul_one] at h3
        rw [← hv_sum, ← h3, sg_pos_mul p2i1]
      have c2pl : (((2 * pl : Nat) : Int) + 1) ≤ 2 ^ (i + 1) := by rw [← e2i]; omega
      have hold : sg (hv ((pl : Int) + 1) (2 ^ i) ns) = sg (hv (2 * ((pl : Int) + 1)) (2 ^ (i + 1)) ns) := by rw [← e2i, hv_two_sg]
      have plc : (pl : Int) + 1 ≤ 2 ^ i := by omega
      generalize hth : sg (sprG L).sum = th at ethere
      show tIfS _ _ _ _ _ _
      have epl : (2 : Int) * (pl : Int) = ((2 * pl : Nat) : Int) := by omega
      have n2i : 2 ^ (i + 1) = 2 * 2 ^ i := by rw [Nat.pow_succ, Nat.mul_comm]
      refine rd_gen (fun σ' H' => σ' = [some (.ref a), some (.int e), some (.int n), some (.int (2 * (pl : Int))), some (.int (2 * 2 ^ i)), some (.int (sg (hv ((pl : Int) + 1) (2 ^ i) ns))), some (.ref p2), some (.int (0 + (i : Int))), some (.int th)] ∧ H2 = H') ⟨by rw [← hth]; rfl, rfl⟩ ?_
      rintro σ' H' ⟨rfl, rfl⟩
      by_cases hu : up (((2 * pl : Nat) : Int) + 1) (2 ^ (i + 1))
      · -- above the cut
        have r1 := hB.r1 _ _ (by omega) c2pl hu
        rw [← ethere] at r1
        have r2 := hB.r2 _ _ (by omega) plc hnup
        have n0 : th ≠ 0 := by rcases hB.e1 with z | z <;> omega
        have n1 : th ≠ sg (hv ((pl : Int) + 1) (2 ^ i) ns) := by rcases hB.e1 with z | z <;> rcases r2 with y | y <;> omega
        refine rd_if (rd_and ⟨_, rfl, _, _, rfl, rfl, _, rfl, rd_ndec (fun _ => ?_) (fun h0 => absurd h0 n0)⟩)
        refine ⟨_, rfl, _, rfl, _, _, rfl, rfl, _, rfl, rd_ndec (fun _ => ?_) (fun h0 => absurd h0 n1)⟩
        refine rd_sa ⟨_, rfl, _, _, rfl, rfl, ?_⟩
        refine rd_asg ⟨_, rfl, p2, sprG L, rfl, e2, by omega, by omega, fun p3 H3 s3 hp3 e3 => ?_⟩
        refine ⟨p3, 2 * pl + 1, movG (sprG L), some (.int (0 + (i : Int))), some (.int th), ?_, t2.trans s3, e3, by rw [movG_len, lS], (movG_bits bS (by omega)).mono (by omega), fun p q => ?_, by omega, .inr ?_, ?_⟩
        · have q1 : (2 : Int) * (pl : Int) + 1 = ((2 * pl + 1 : Nat) : Int) := by omega
          have q2 : ((2 * pl + 1 : Nat) : Int) + 1 = 2 * ((pl : Int) + 1) := by omega
          rw [q2, ← hold, ← q1, ← e2i]; rfl
        · rw [hv_mov, vS]
          have : ((2 * pl : Nat) : Int) * q + (p + q) = ((2 * pl + 1 : Nat) : Int) * q + p := by
            have : ((2 * pl + 1 : Nat) : Int) = ((2 * pl : Nat) : Int) + 1 := by omega
            rw [this]; grind
          rw [this]
        · exact hu
        · have q2 : ((2 * pl + 1 : Nat) : Int) + 1 = 2 * ((pl : Int) + 1) := by omega
          rw [q2, ← e2i, hB.sc _ _ p2i]
          exact hnup
      · -- not above it
        have r2 := hB.r2 _ _ (by omega) c2pl hu
        rw [← ethere] at r2
        have r3 := hB.r3 _ _ ((pl : Int) + 1) (2 ^ i) (by omega) c2pl (by omega) plc hu (by
          have h7 : (((2 * pl : Nat) : Int) + 1) * 2 ^ i < (2 * (pl : Int) + 2) * 2 ^ i := Int.mul_lt_mul_of_pos_right (by omega) p2i
          have h8 : ((pl : Int) + 1) * 2 ^ (i + 1) = (2 * (pl : Int) + 2) * 2 ^ i := by rw [Int.pow_succ]; grind
          omega)
        have low : ∃ (p : Addr) (q : Nat) (L' : List Int) (z7 z8 : Option V), [some (V.ref a), some (V.int e), some (V.int n), some (V.int (2 * (pl : Int))), some (V.int (2 * 2 ^ i)), some (V.int th), some (V.ref p2), some (V.int (0 + (i : Int))), some (V.int th)] = [some (.ref a), some (.int e), some (.int n), some (.int q), some (.int (2 ^ (i + 1))), some (.int (sg (hv ((q : Int) + 1) (2 ^ (i + 1)) ns))), some (.ref p), z7, z8] ∧ Same H H2 ∧ H2 p = some (.lst (L'.map V.int)) ∧ L'.length = ns.length ∧ AllB (60000 + 60 * (i + 1)) L' ∧ (∀ p q' : Int, 2 ^ (i + 1) * hv p q' L' = hv (q * q' + p) (2 ^ (i + 1) * q') ns) ∧ q < 2 ^ (i + 1) ∧ (q = 0 ∨ up q (2 ^ (i + 1))) ∧ ¬ up ((q : Int) + 1) (2 ^ (i + 1)) := by
          refine ⟨p2, 2 * pl, sprG L, some (.int (0 + (i : Int))), some (.int th), by rw [e2i, epl, ethere], t2, e2, lS, bS.mono (by omega), vS, by omega, ?_, hu⟩
          rcases hup with z | z
          · exact .inl (by omega)
          · refine .inr ?_
            rw [← epl, ← e2i, hB.sc _ _ p2i]
            exact z
        by_cases n0 : th = 0
        · refine rd_if (rd_and ⟨_, rfl, _, _, rfl, rfl, _, rfl, rd_ndec (fun h0 => absurd n0 h0) (fun _ => ?_)⟩)
          exact rd_false (rd_asg ⟨_, rfl, low⟩)
        · have n1 : th = sg (hv ((pl : Int) + 1) (2 ^ i) ns) := by
            rcases r2 with z | z
            · rw [z, r3]
            · exact absurd z n0
          refine rd_if (rd_and ⟨_, rfl, _, _, rfl, rfl, _, rfl, rd_ndec (fun _ => ?_) (fun h0 => absurd h0 n0)⟩)
          refine ⟨_, rfl, _, rfl, _, _, rfl, rfl, _, rfl, rd_ndec (fun h0 => absurd n1 h0) (fun _ => ?_)⟩
          exact rd_asg ⟨_, rfl, low⟩
    · rintro σ' H1 ⟨p, pl, L, z7, z8, rfl, s1, h1, lL, bL, hval, hpl, hup, hnup⟩
      dsimp only
      refine rd_ret ⟨_, rfl, _, rfl, by show 2 ≤ sizeLine; decide, fun p' hp' => ?_⟩
      exact k p' _ pl (s1.then_new hp') (s1.free hp') upd_same hpl hup hnup
/-- the one root of a row within (l, h]: Up x1 x2 says that it is above x1 / x2 -/
structure RootU (ns : List Int) (l1 l2 h1 h2 ε : Int) (Up : Int → Int → Prop) : Prop where
  e1 : ε = 1 ∨ ε = -1
  r1 : ∀ x1 x2, 0 < x2 → l1 * x2 < x1 * l2 → x1 * h2 ≤ h1 * x2 → Up x1 x2 → sg (hv x1 x2 ns) = -ε
  r2 : ∀ x1 x2, 0 < x2 → l1 * x2 < x1 * l2 → x1 * h2 ≤ h1 * x2 → ¬ Up x1 x2 → sg (hv x1 x2 ns) = ε ∨ sg (hv x1 x2 ns) = 0
  r3 : ∀ x1 x2 y1 y2, 0 < x2 → 0 < y2 → l1 * x2 < x1 * l2 → y1 * h2 ≤ h1 * y2 → ¬ Up x1 x2 → x1 * y2 < y1 * x2 → sg (hv y1 y2 ns) = ε
  sc : ∀ x1 x2 y1 y2, 0 < x2 → 0 < y2 → x1 * y2 = y1 * x2 → Up x1 x2 → Up y1 y2
  low : Up l1 l2
  top : ¬ Up h1 h2
structure EndsG (k : Nat) (l1 l2 h1 h2 : Int) : Prop where
  l2p : 0 < l2
  h2p : 0 < h2
  bl1 : Bits k l1
  bl2 : Bits k l2
  bh1 : Bits k h1
  bh2 : Bits k h2
  lt : l1 * h2 < h1 * l2
  gl : Nat.gcd l1.natAbs l2.natAbs = 1
  gh : Nat.gcd h1.natAbs h2.natAbs = 1
theorem EndsG.mono {j k : Nat} {l1 l2 h1 h2 : Int} (e : EndsG j l1 l2 h1 h2) (h : j ≤ k) : EndsG k l1 l2 h1 h2 := ⟨e.l2p, e.h2p, e.bl1.mono h, e.bl2.mono h, e.bh1.mono h, e.bh2.mono h, e.lt, e.gl, e.gh⟩
/-- what narrowed tells: the place among the 2 ^ n pieces -/
structure NarP (l1 l2 h1 h2 w1 w2 : Int) (Up : Int → Int → Prop) (kb : Nat) (n pl : Nat) (x1 x2 y1 y2 : Int) : Prop where
  ends : EndsG kb x1 x2 y1 y2
  ux : Up x1 x2
  uy : ¬ Up y1 y2
  lo : l1 * x2 ≤ x1 * l2
  hi : y1 * h2 ≤ h1 * y2
  wide : (y1 * x2 - x1 * y2) * w2 ≤ w1 * (x2 * y2)
  pls : pl < 2 ^ n
  ex : x1 * (l2 * h2 * 2 ^ n) = (l1 * h2 * 2 ^ n + (h1 * l2 - l1 * h2) * pl) * x2
  ey : y1 * (l2 * h2 * 2 ^ n) = (l1 * h2 * 2 ^ n + (h1 * l2 - l1 * h2) * (pl + 1)) * y2
  big : ∀ j : Nat, j < n → w1 * (h2 * l2) * 2 ^ j < (h1 * l2 - l1 * h2) * w2
  fit : (h1 * l2 - l1 * h2) * w2 ≤ w1 * (h2 * l2) * 2 ^ n
--SPLIT
theorem sg_hv_cross {x1 x2 y1 y2 : Int} (hx : 0 < x2) (hy : 0 < y2) (e : x1 * y2 = y1 * x2) (l : List Int) : sg (hv x1 x2 l) = sg (hv y1 y2 l) := by
  have h1 := hv_scale y2 x1 x2 l
  have h2 := hv_scale x2 y1 y2 l
  have e1 : y2 * x1 = x2 * y1 := by rw [Int.mul_comm y2, e, Int.mul_comm]
  rw [e1, Int.mul_comm y2 x2] at h1
  rw [h1] at h2
  have h3 := congrArg sg h2
  rw [sg_pos_mul (Int.pow_pos hy), sg_pos_mul (Int.pow_pos hx)] at h3
  exact h3
theorem cancel {a b c : Int} (hc : 0 < c) (h : a * c = b * c) : a = b := Int.eq_of_mul_eq_mul_right (Int.ne_of_gt hc) h
theorem cancel_le {a b c : Int} (hc : 0 < c) (h : a * c ≤ b * c) : a ≤ b := Int.le_of_mul_le_mul_right h hc
theorem cancel_lt {a b c : Int} (hc : 0 < c) (h : a * c < b * c) : a < b := Int.lt_of_mul_lt_mul_right h (Int.le_of_lt hc)
/-- along the span, without the reach -/
theorem along_un {l1 l2 h1 h2 r1 r2 x1 x2 pc pl : Int} (hr : 0 < r2) (er : r1 * (h2 * l2) = (h1 * l2 - l1 * h2) * r2) (e : x1 * (l2 * r2 * pc) = (l1 * r2 * pc + r1 * l2 * pl) * x2) : x1 * (l2 * h2 * pc) = (l1 * h2 * pc + (h1 * l2 - l1 * h2) * pl) * x2 := by
  refine cancel hr ?_
  calc x1 * (l2 * h2 * pc) * r2 = (x1 * (l2 * r2 * pc)) * h2 := by grind
    _ = (l1 * r2 * pc + r1 * l2 * pl) * x2 * h2 := by rw [e]
    _ = (l1 * h2 * pc * r2 + (r1 * (h2 * l2)) * pl) * x2 := by grind
    _ = (l1 * h2 * pc * r2 + ((h1 * l2 - l1 * h2) * r2) * pl) * x2 := by rw [er]
    _ = (l1 * h2 * pc + (h1 * l2 - l1 * h2) * pl) * x2 * r2 := by grind
theorem nar_facts {l1 l2 h1 h2 w1 w2 x1 x2 y1 y2 pc pl : Int} (hl : 0 < l2) (hh : 0 < h2) (hx : 0 < x2) (hy : 0 < y2) (hpc : 0 < pc) (hp0 : 0 ≤ pl) (hp1 : pl + 1 ≤ pc) (hD : 0 < h1 * l2 - l1 * h2) (ex : x1 * (l2 * h2 * pc) = (l1 * h2 * pc + (h1 * l2 - l1 * h2) * pl) * x2) (ey : y1 * (l2 * h2 * pc) = (l1 * h2 * pc + (h1 * l2 - l1 * h2) * (pl + 1)) * y2) (fit : (h1 * l2 - l1 * h2) * w2 ≤ w1 * (h2 * l2) * pc) : x1 * y2 < y1 * x2 ∧ l1 * x2 ≤ x1 * l2 ∧ y1 * h2 ≤ h1 * y2 ∧ (y1 * x2 - x1 * y2) * w2 ≤ w1 * (x2 * y2) := by
  have hlh : 0 < l2 * h2 := Int.mul_pos hl hh
  have hM : 0 < l2 * h2 * pc := Int.mul_pos hlh hpc
  have hxy : 0 < x2 * y2 := Int.mul_pos hx hy
  have hd : (y1 * x2 - x1 * y2) * (l2 * h2 * pc) = (h1 * l2 - l1 * h2) * (x2 * y2) := by
    calc (y1 * x2 - x1 * y2) * (l2 * h2 * pc) = (y1 * (l2 * h2 * pc)) * x2 - (x1 * (l2 * h2 * pc)) * y2 := by grind
      _ = ((l1 * h2 * pc + (h1 * l2 - l1 * h2) * (pl + 1)) * y2) * x2 - ((l1 * h2 * pc + (h1 * l2 - l1 * h2) * pl) * x2) * y2 := by rw [ex, ey]
      _ = (h1 * l2 - l1 * h2) * (x2 * y2) := by grind
  have hi : y1 * h2 ≤ h1 * y2 := by
    refine cancel_le (c := l2 * pc) (Int.mul_pos hl hpc) ?_
    have e1 : y1 * h2 * (l2 * pc) = y1 * (l2 * h2 * pc) := by grind
    have e2 : h1 * y2 * (l2 * pc) = (l1 * h2 * pc + (h1 * l2 - l1 * h2) * pc) * y2 := by grind
    rw [e1, ey, e2]
    refine Int.mul_le_mul_of_nonneg_right ?_ (Int.le_of_lt hy)
    have := Int.mul_le_mul_of_nonneg_left hp1 (Int.le_of_lt hD)
    omega
  generalize h1 * l2 - l1 * h2 = D at *
  refine ⟨?_, ?_, hi, ?_⟩
  · have h3 : 0 < (y1 * x2 - x1 * y2) * (l2 * h2 * pc) := by rw [hd]; exact Int.mul_pos hD hxy
    have h4 : 0 < y1 * x2 - x1 * y2 := cancel_lt hM (by rw [Int.zero_mul]; exact h3)
    omega
  · refine cancel_le (c := h2 * pc) (Int.mul_pos hh hpc) ?_
    have e1 : x1 * l2 * (h2 * pc) = x1 * (l2 * h2 * pc) := by grind
    have e2 : l1 * x2 * (h2 * pc) = l1 * h2 * pc * x2 := by grind
    rw [e1, ex, e2, Int.add_mul]
    have : 0 ≤ D * pl * x2 := Int.mul_nonneg (Int.mul_nonneg (Int.le_of_lt hD) hp0) (Int.le_of_lt hx)
    omega
  · refine cancel_le hM ?_
    have e1 : (y1 * x2 - x1 * y2) * w2 * (l2 * h2 * pc) = ((y1 * x2 - x1 * y2) * (l2 * h2 * pc)) * w2 := by grind
    have e2 : w1 * (x2 * y2) * (l2 * h2 * pc) = w1 * (h2 * l2) * pc * (x2 * y2) := by grind
    have e3 : D * (x2 * y2) * w2 = D * w2 * (x2 * y2) := by grind
    rw [e1, hd, e2, e3]
    exact Int.mul_le_mul_of_nonneg_right fit (Int.le_of_lt hxy)
def spNar (C : Addr) : Sp := fun vs H Q _ => ∃ (a l h wd : Addr) (ns : List Int) (l1 l2 h1 h2 w1 w2 : Int) (k kw : Nat) (ε : Int) (Up : Int → Int → Prop), vs = [.ref a, .ref l, .ref h, .ref wd] ∧ H a = some (.lst (ns.map V.int)) ∧ Tr ns ∧ ns ≠ [] ∧ ns.length ≤ 12 ∧ AllB 1000 ns ∧ RA C H l l1 l2 ∧ RA C H h h1 h2 ∧ RA C H wd w1 w2 ∧ EndsG k l1 l2 h1 h2 ∧ 0 < w1 ∧ 0 < w2 ∧ Bits kw w1 ∧ Bits kw w2 ∧ k ≤ 1400 ∧ 2 * k + kw ≤ 3900 ∧ 5 * k + kw ≤ 8900 ∧ RootU ns l1 l2 h1 h2 ε Up ∧
  ∀ (p x y : Addr) (H' : Hp) (n pl : Nat) (x1 x2 y1 y2 : Int), Same H H' → H p = none → H' p = some (.tup [.ref x, .ref y]) → RA C H' x x1 x2 → RA C H' y y1 y2 → NarP l1 l2 h1 h2 w1 w2 Up (5 * k + kw + 4) n pl x1 x2 y1 y2 → Q (.ref p) H'
theorem ok_narrowed {C f : Addr} {fd : FuncData} (F : Fun K "narrowed" "narrowed" s_narrowed f fd) (T : Txt K mg) (R : RCI K mg C) {f_Ratio_minus : Addr} {fd_Ratio_minus : FuncData} (C_Ratio_minus : MCal P w K mg base 4 C "minus" ["self", "other"] (spMinus C) f_Ratio_minus fd_Ratio_minus) {f_halvings : Addr} {fd_halvings : FuncData} (C_halvings : Cal P w K mg base 1 "halvings" ["reach", "width"] (spHvs C) f_halvings fd_halvings) {f_halved : Addr} {fd_halved : FuncData} (C_halved : Cal P w K mg base 3 "halved" ["row", "end", "steps"] spHlv f_halved fd_halved) {f_stretched : Addr} {fd_stretched : FuncData} (C_stretched : Cal P w K mg base 3 "stretched" ["row", "low", "reach"] (spStr C) f_stretched fd_stretched) {f_sign_at : Addr} {fd_sign_at : FuncData} (C_sign_at : Cal P w K mg base 2 "sign_at" ["row", "ratio"] (spSa C) f_sign_at fd_sign_at) {f_along : Addr} {fd_along : FuncData} (C_along : Cal P w K mg base 5 "along" ["low", "reach", "place", "pieces"] (spAlo C) f_along fd_along) : FnOk P w K mg base CX0 6 f fd ["row", "low", "high", "width"] (spNar C) := by
  obtain ⟨G_Ratio_minus, mt_Ratio_minus, b_Ratio_minus⟩ := C_Ratio_minus
  obtain ⟨G_halvings, m_halvings, k_halvings, b_halvings⟩ := C_halvings
  obtain ⟨G_halved, m_halved, k_halved, b_halved⟩ := C_halved
  obtain ⟨G_stretched, m_stretched, k_stretched, b_stretched⟩ := C_stretched
  obtain ⟨G_sign_at, m_sign_at, k_sign_at, b_sign_at⟩ := C_sign_at
  obtain ⟨G_along, m_along, k_along, b_along⟩ := C_along
  refine F.ok sc_narrowed (fun vs H Q E h => ?_) (fun cdv A outer s H vs Q E hr h => ?_)
  · obtain ⟨a, l, h, wd, ns, l1, l2, h1, h2, w1, w2, k, kw, ε, Up, rfl, _⟩ := h
    rfl
  · obtain ⟨a, l, h, wd, ns, l1, l2, h1, h2, w1, w2, kb, kw, ε, Up, rfl, hA, hT, hne, hln, hbn, hl, hh, hw, en, hw1, hw2, bw1, bw2, hk1, hk2, hk3, hU, k⟩ := h
    refine ⟨_, (pss_cons (ps_set (i := 4) sc_narrowed.nd rfl (Or.inl rfl) (pe_meth (pv 2) R.cl mt_Ratio_minus G_Ratio_minus (hr.mono (by decide)) b_Ratio_minus .nil pass0 (pa_cons (pv 1) pa_nil)))
      (pss_cons (ps_set (i := 5) sc_narrowed.nd rfl (Or.inl rfl) (pe_call G_halvings (hr.mono (by decide)) rfl m_halvings k_halvings b_halvings .nil pass0 (pa_cons (pv 4) (pa_cons (pv 3) pa_nil))))
      (pss_cons (ps_if (pt_cmpR op_eqI (pv 5) pe_int (nomark _))
        (pss_one (ps_ret (pe_tup (pa_cons (pv 1) (pa_cons (pv 2) pa_nil)))))
        pss_nil)
      (pss_cons (ps_set (i := 6) sc_narrowed.nd rfl (Or.inl rfl) (pe_call G_halved (hr.mono (by decide)) rfl m_halved k_halved b_halved .nil pass0 (pa_cons (pe_call G_stretched (hr.mono (by decide)) rfl m_stretched k_stretched b_stretched .nil pass0 (pa_cons (pv 0) (pa_cons (pv 1) (pa_cons (pv 4) pa_nil)))) (pa_cons (pe_call G_sign_at (hr.mono (by decide)) rfl m_sign_at k_sign_at b_sign_at .nil pass0 (pa_cons (pv 0) (pa_cons (pv 2) pa_nil))) (pa_cons (pv 5) pa_nil)))))
      (pss_one (ps_ret (pe_tup (pa_cons (pe_call G_along (hr.mono (by decide)) rfl m_along k_along b_along .nil pass0 (pa_cons (pv 1) (pa_cons (pv 4) (pa_cons (pe_ix (ix_tupK (K := K) rfl) (pv 6) pe_int (fun _ _ => rfl)) (pa_cons (pe_ix (ix_tupK (K := K) rfl) (pv 6) pe_int (fun _ _ => rfl)) pa_nil))))) (pa_cons (pe_call G_along (hr.mono (by decide)) rfl m_along k_along b_along .nil pass0 (pa_cons (pv 1) (pa_cons (pv 4) (pa_cons (pe_op op_add (pe_ix (ix_tupK (K := K) rfl) (pv 6) pe_int (fun _ _ => rfl)) pe_int) (pa_cons (pe_ix (ix_tupK (K := K) rfl) (pv 6) pe_int (fun _ _ => rfl)) pa_nil))))) pa_nil))))))))), ?_⟩
    obtain ⟨dl, hl'⟩ := id hl
    obtain ⟨dh, hh'⟩ := id hh
    obtain ⟨l2p, h2p, bl1, bl2, bh1, bh2, lt, _, _⟩ := id en
    refine rd_sa ⟨_, rfl, h, dh, _, rfl, hh', flds_no _ _ no_minus.1 no_minus.2, _, rfl, h, l, h1, h2, l1, l2, kb, kb, rfl, hh, hl, bh1.mono (by omega), bh2, bl1.mono (by omega), bl2, by omega, h2p, l2p, fun r H1 s1 fr hr1 => ?_⟩
    have d0 : h2 * l2 ≠ 0 := Int.ne_of_gt (Int.mul_pos h2p l2p)
    have er := r_cross (t := h1 * l2 - l1 * h2) d0
    have r2p : 0 < rb (h1 * l2 - l1 * h2) (h2 * l2) := rb_pos d0
    have br1 : Bits (2 * kb + 1) (rt (h1 * l2 - l1 * h2) (h2 * l2)) := rt_bits d0 (Bits.sub ((bh1.mul bl2).mono (by omega)) ((bl1.mul bh2).mono (by omega)))
    have br2 : Bits (2 * kb + 1) (rb (h1 * l2 - l1 * h2) (h2 * l2)) := rb_bits d0 ((bh2.mul bl2).mono (by omega))
    generalize rt (h1 * l2 - l1 * h2) (h2 * l2) = r1 at *
    generalize rb (h1 * l2 - l1 * h2) (h2 * l2) = r2 at *
    have hD : 0 < h1 * l2 - l1 * h2 := by omega
    have hhl : 0 < h2 * l2 := Int.mul_pos h2p l2p
    have r1p : 0 < r1 := cancel_lt hhl (by rw [Int.zero_mul, er]; exact Int.mul_pos hD r2p)
    have hA1 := s1 _ _ hA
    have hl1 := hl.same s1
    have hh1 := hh.same s1
    refine rd_sa ⟨_, rfl, _, rfl, r, wd, r1, r2, w1, w2, 2 * kb + 1, kw, rfl, hr1, hw.same s1, r2p, hw1, br1, br2.mono (by omega), bw1.mono (by omega), bw2, by omega, fun n hn hle hmin => ?_⟩
    have fit : (h1 * l2 - l1 * h2) * w2 ≤ w1 * (h2 * l2) * 2 ^ n := by
      refine cancel_le r2p ?_
      calc (h1 * l2 - l1 * h2) * w2 * r2 = ((h1 * l2 - l1 * h2) * r2) * w2 := by grind
        _ = r1 * (h2 * l2) * w2 := by rw [er]
        _ = r1 * w2 * (h2 * l2) := by grind
        _ ≤ w1 * r2 * 2 ^ n * (h2 * l2) := Int.mul_le_mul_of_nonneg_right hle (Int.le_of_lt hhl)
        _ = w1 * (h2 * l2) * 2 ^ n * r2 := by grind
    have bigg : ∀ j : Nat, j < n → w1 * (h2 * l2) * 2 ^ j < (h1 * l2 - l1 * h2) * w2 := fun j hj => by
      refine cancel_lt r2p ?_
      calc w1 * (h2 * l2) * 2 ^ j * r2 = w1 * r2 * 2 ^ j * (h2 * l2) := by grind
        _ < r1 * w2 * (h2 * l2) := Int.mul_lt_mul_of_pos_right (hmin j hj) hhl
        _ = r1 * (h2 * l2) * w2 := by grind
        _ = (h1 * l2 - l1 * h2) * r2 * w2 := by rw [er]
        _ = (h1 * l2 - l1 * h2) * w2 * r2 := by grind
    refine rd_sr ⟨_, rfl, _, _, rfl, rfl, _, rfl, rd_dec (fun h0 => ?_) (fun _ => ?_)⟩
    · obtain rfl : n = 0 := by have : (n : Int) = 0 := h0; omega
      refine rd_ret ⟨_, rfl, _, rfl, by show 2 ≤ sizeLine; decide, fun p hp => ?_⟩
      have sp := Same.upd_new (o := .tup [V.ref l, V.ref h]) hp
      have ex : l1 * (l2 * h2 * 2 ^ 0) = (l1 * h2 * 2 ^ 0 + (h1 * l2 - l1 * h2) * ((0 : Nat) : Int)) * l2 := by rw [Int.pow_zero]; show _ = (_ + _ * 0) * _; grind
      have ey : h1 * (l2 * h2 * 2 ^ 0) = (l1 * h2 * 2 ^ 0 + (h1 * l2 - l1 * h2) * (((0 : Nat) : Int) + 1)) * h2 := by rw [Int.pow_zero]; show _ = (_ + _ * (0 + 1)) * _; grind
      have nf := nar_facts (w1 := w1) (w2 := w2) (pc := 2 ^ 0) l2p h2p l2p h2p (pow2_pos 0) (Int.le_refl 0) (by decide) hD ex ey fit
      exact k p l h _ 0 0 l1 l2 h1 h2 (s1.then_new hp) (s1.free hp) upd_same (hl1.same sp) (hh1.same sp) ⟨en.mono (by omega), hU.low, hU.top, Int.le_refl _, Int.le_refl _, nf.2.2.2, by decide, ex, ey, bigg, fit⟩
    refine rd_sa ⟨_, rfl, _, rfl, _, rfl, a, l, r, ns, l1, l2, r1, r2, rfl, hA1, hl1, hr1, hT, hne, hln, hbn, l2p, r1p, r2p, bl1.mono hk1, bl2.mono hk1, br1.mono (by omega), br2.mono (by omega), fun m s0 s1' pm e0 e1 hs1 bS p2 H2 s2 hp2 eq2 => ?_⟩
    have t2 := s1.trans s2
    refine ⟨_, rfl, _, rfl, a, h, ns, h1, h2, ⟨rfl, t2 _ _ hA, hh.same t2, by omega, hbn, bh1.mono (by omega), bh2.mono (by omega)⟩, fun H3 s3 => ?_⟩
    have t3 := t2.trans s3
    have lp : 0 < l2 * r2 := Int.mul_pos l2p r2p
    -- the high end is low + reach
    have top : (s0 + s1') * h2 = h1 * m := by
      refine cancel lp ?_
      calc (s0 + s1') * h2 * (l2 * r2) = ((s0 * l2) * r2 + (s1' * r2) * l2) * h2 := by grind
        _ = (l1 * m * r2 + r1 * m * l2) * h2 := by rw [e0, e1]
        _ = m * (l1 * r2 * h2 + r1 * (h2 * l2)) := by grind
        _ = m * (l1 * r2 * h2 + (h1 * l2 - l1 * h2) * r2) := by rw [er]
        _ = h1 * m * (l2 * r2) := by grind
    have pt : ∀ p c : Int, 0 < p → p ≤ c → 0 < m * c ∧ l1 * (m * c) < (s0 * c + s1' * p) * l2 ∧ (s0 * c + s1' * p) * h2 ≤ h1 * (m * c) := fun p c hp hc => by
      refine ⟨Int.mul_pos pm (by omega), ?_, ?_⟩
      · have : (s0 * c + s1' * p) * l2 = l1 * (m * c) + s1' * p * l2 := by
          calc (s0 * c + s1' * p) * l2 = (s0 * l2) * c + s1' * p * l2 := by grind
            _ = l1 * m * c + s1' * p * l2 := by rw [e0]
            _ = l1 * (m * c) + s1' * p * l2 := by grind
        rw [this]
        have := Int.mul_pos (Int.mul_pos hs1 hp) l2p
        omega
      · have h3 : s1' * p ≤ s1' * c := Int.mul_le_mul_of_nonneg_left hc (Int.le_of_lt hs1)
        have h4 : (s0 * c + s1' * p) * h2 ≤ (s0 * c + s1' * c) * h2 := Int.mul_le_mul_of_nonneg_right (by omega) (Int.le_of_lt h2p)
        have h5 : (s0 * c + s1' * c) * h2 = h1 * (m * c) := by
          calc (s0 * c + s1' * c) * h2 = ((s0 + s1') * h2) * c := by grind
            _ = h1 * m * c := by rw [top]
            _ = h1 * (m * c) := by grind
        omega
    have vs : ∀ p c : Int, sg (hv p c (strG m s0 s1' ns)) = sg (hv (s0 * c + s1' * p) (m * c) ns) := fun p c => by
      rw [← hv_str, sg_pos_mul pm]
    have hB : RootB (strG m s0 s1' ns) ε (fun p c => Up (s0 * c + s1' * p) (m * c)) := by
      refine ⟨hU.e1, fun p c hp hc hu => ?_, fun p c hp hc hu => ?_, fun p c p' c' hp hc hp' hc' hu hlt => ?_, fun p c hc => ?_, fun hu => ?_⟩
      · rw [vs]
        obtain ⟨q1, q2, q3⟩ := pt p c hp hc
        exact hU.r1 _ _ q1 q2 q3 hu
      · rw [vs]
        obtain ⟨q1, q2, q3⟩ := pt p c hp hc
        exact hU.r2 _ _ q1 q2 q3 hu
      · rw [vs]
        obtain ⟨q1, q2, q3⟩ := pt p c hp hc
        obtain ⟨q1', q2', q3'⟩ := pt p' c' hp' hc'
        refine hU.r3 _ _ _ _ q1 q1' q2 q3' hu ?_
        have h3 : s1' * m * (p * c') < s1' * m * (p' * c) := Int.mul_lt_mul_of_pos_left hlt (Int.mul_pos hs1 pm)
        have e3 : (s0 * c + s1' * p) * (m * c') = s0 * c * (m * c') + s1' * m * (p * c') := by grind
        have e4 : (s0 * c' + s1' * p') * (m * c) = s0 * c * (m * c') + s1' * m * (p' * c) := by grind
        omega
      · have g1 : 0 < m * c := Int.mul_pos pm hc
        have g2 : 0 < m * (2 * c) := Int.mul_pos pm (by omega)
        constructor
        · exact hU.sc _ _ _ _ g2 g1 (by grind)
        · exact hU.sc _ _ _ _ g1 g2 (by grind)
      · refine hU.top (hU.sc _ _ _ _ (by rw [Int.mul_one]; exact pm) h2p ?_ hu)
        rw [Int.mul_one, Int.mul_one, Int.mul_one]; exact top
    have lstr := strG_len m s0 s1' ns
    have hn1 : 1 ≤ ns.length := List.length_pos_iff.mpr hne
    refine ⟨_, rfl, p2, strG m s0 s1' ns, _, n, ε, _, rfl, s3 _ _ eq2, by omega, by omega, bS, by omega, hB, ?_, fun p4 H4 pl s4 hp4 e4 hpl hup hnup => ?_⟩
    · rw [vs]
      refine sg_hv_cross h2p (by rw [Int.mul_one]; exact pm) ?_ ns
      rw [Int.mul_one, Int.mul_one, Int.mul_one]; exact top.symm
    have t4 := t3.trans s4
    have u4 := (s2.trans s3).trans s4
    have b2n : Bits (n + 1) ((2 : Int) ^ n) := pow2_bits (by omega)
    have cpl : (pl : Int) < 2 ^ n := by rw [pow2_cast]; exact Int.ofNat_lt.mpr hpl
    have bpl : Bits (n + 1) (pl : Int) := b2n.of_le (by rw [pow2_cast]; omega)
    have bpl1 : Bits (n + 1) ((pl : Int) + 1) := b2n.of_le (by rw [pow2_cast]; omega)
    have p2n := pow2_pos n
    refine rd_ret ⟨_, rfl, _, rfl, _, rfl, p4, _, _, _, rfl, rfl, SqT.of e4, rfl, _, rfl, p4, _, _, _, rfl, rfl, SqT.of e4, rfl, l, r, l1, l2, r1, r2, pl, 2 ^ n, kb, 2 * kb + 1, n + 1, rfl, hl.same t4, hr1.same u4, l2p, r2p, p2n, bl1, bl2, br1, br2, bpl, b2n, by omega, fun x H5 x1 x2 s5 hx hRx x2p ex bx1 bx2 gx => ?_⟩
    have e5 := s5 _ _ e4
    have t5 := t4.trans s5
    have u5 := u4.trans s5
    refine ⟨_, rfl, _, rfl, _, rfl, p4, _, _, _, rfl, rfl, SqT.of e5, rfl, _, _, rfl, rfl, _, rfl, p4, _, _, _, rfl, rfl, SqT.of e5, rfl, l, r, l1, l2, r1, r2, pl + 1, 2 ^ n, kb, 2 * kb + 1, n + 1, rfl, hl.same t5, hr1.same u5, l2p, r2p, p2n, bl1, bl2, br1, br2, bpl1, b2n, by omega, fun y H6 y1 y2 s6 hy hRy y2p ey by1 by2 gy => ?_⟩
    refine ⟨by show 2 ≤ sizeLine; decide, fun p hp => ?_⟩
    have sp := Same.upd_new (o := .tup [V.ref x, V.ref y]) hp
    have t6 := t5.trans s6
    have ex' := along_un r2p er ex
    have ey' := along_un r2p er ey
    have nf := nar_facts (w1 := w1) (w2 := w2) l2p h2p x2p y2p p2n (show (0 : Int) ≤ (pl : Int) by omega) (by omega) hD ex' ey' fit
    have cross : ∀ (q z1 z2 : Int), z1 * (l2 * r2 * 2 ^ n) = (l1 * r2 * 2 ^ n + r1 * l2 * q) * z2 → (s0 * 2 ^ n + s1' * q) * z2 = z1 * (m * 2 ^ n) := fun q z1 z2 ez => by
      refine cancel lp ?_
      calc (s0 * 2 ^ n + s1' * q) * z2 * (l2 * r2) = ((s0 * l2) * r2 * 2 ^ n + (s1' * r2) * l2 * q) * z2 := by grind
        _ = (l1 * m * r2 * 2 ^ n + r1 * m * l2 * q) * z2 := by rw [e0, e1]
        _ = m * ((l1 * r2 * 2 ^ n + r1 * l2 * q) * z2) := by grind
        _ = m * (z1 * (l2 * r2 * 2 ^ n)) := by rw [ez]
        _ = z1 * (m * 2 ^ n) * (l2 * r2) := by grind
    have hm2 : 0 < m * 2 ^ n := Int.mul_pos pm p2n
    refine k p x y _ n pl x1 x2 y1 y2 (t6.then_new hp) (t6.free hp) upd_same ((hRx.same s6).same sp) (hRy.same sp) ⟨⟨x2p, y2p, bx1.mono (by omega), bx2.mono (by omega), by1.mono (by omega), by2.mono (by omega), nf.1, gx, gy⟩, ?_, ?_, nf.2.1, nf.2.2.1, nf.2.2.2, hpl, ex', ey', bigg, fit⟩
    · rcases hup with z | z
      · refine hU.sc _ _ _ _ l2p x2p ?_ hU.low
        rw [z] at ex'
        refine cancel (Int.mul_pos h2p p2n) ?_
        calc l1 * x2 * (h2 * 2 ^ n) = (l1 * h2 * 2 ^ n + (h1 * l2 - l1 * h2) * ((0 : Nat) : Int)) * x2 := by show _ = (_ + _ * 0) * _; grind
          _ = x1 * (l2 * h2 * 2 ^ n) := ex'.symm
          _ = x1 * l2 * (h2 * 2 ^ n) := by grind
      · exact hU.sc _ _ _ _ hm2 x2p (cross _ _ _ ex) z
    · intro hu
      exact hnup (hU.sc _ _ _ _ y2p hm2 (cross _ _ _ ey).symm hu)
--SPLIT
theorem ok__law_cell_at {f : Addr} {fd : FuncData} (F : Fun K "_law_cell_at" "_law_cell_at" s__law_cell_at f fd) (T : Txt K mg) : FnOk P w K mg base CX0 1 f fd ["_law_script", "_law_k"] (spCell K) := by
  refine F.ok sc__law_cell_at (fun vs H Q E h => ?_) (fun cdv A outer s H vs Q E hr h => ?_)
  · obtain ⟨a, ns, k, rfl, _⟩ := h
    rfl
  · obtain ⟨a, ns, n, rfl, hS, k⟩ := h
    refine ⟨_, (pss_cons (ps_if (pt_cmpR op_lt (pv 1) (pe_callB (call_lenK (K := K) rfl) (by rfl) T.len_ PySem.boot_len (pa_cons (pv 0) pa_nil)) (nomark _))
        (pss_one (ps_ret (pe_ix (ix_listK (K := K) rfl) (pv 0) (pv 1) (fun _ _ => rfl))))
        pss_nil)
      (pss_one (ps_ret pe_int))), ?_⟩
    refine ⟨_, rfl, _, rfl, a, _, rfl, .inl hS, _, _, rfl, rfl, _, rfl, ?_⟩
    refine rd_dec (fun h1 => ?_) (fun h1 => ?_)
    · rw [List.length_map] at h1
      have h2 : n < ns.length := by omega
      refine ⟨_, rfl, _, rfl, a, _, _, _, rfl, rfl, hS, atI_nat (v := .int (ns.getD n 0)) ?_, k⟩
      rw [List.getElem?_map, List.getElem?_eq_getElem h2]
      simp [List.getD, h2]
    · rw [List.length_map] at h1
      have h2 : ns.length ≤ n := by omega
      have e : ns.getD n 0 = 0 := by simp [List.getD, List.getElem?_eq_none_iff.mpr h2]
      rw [e] at k
      exact k
def spWhole : Sp := fun vs H Q _ => ∃ i : Int, vs = [.int i] ∧ Q (.bl true) H
theorem ok__law_whole {f : Addr} {fd : FuncData} (F : Fun K "_law_whole" "_law_whole" s__law_whole f fd) (T : Txt K mg) : FnOk P w K mg base CX0 1 f fd ["_law_found"] spWhole := by
  refine F.ok sc__law_whole (fun vs H Q E h => ?_) (fun cdv A outer s H vs Q E hr h => ?_)
  · obtain ⟨i, rfl, _⟩ := h
    rfl
  · obtain ⟨i, rfl, k⟩ := h
    refine ⟨_, (pss_one (ps_ret (pe_and (pe_callB (call_isinstK (K := K) rfl) (by rfl) T.isinstance_ PyProof.Rows.boot_isinstance (pa_cons (pv 0) (pa_cons (pe_bltn (v := .ty "int") (by rfl) T.int_ PyProof.Rows.boot_int (by rfl)) pa_nil))) (pe_one (pe_not (pe_callB (call_isinstK (K := K) rfl) (by rfl) T.isinstance_ PyProof.Rows.boot_isinstance (pa_cons (pv 0) (pa_cons (pe_bltn (v := .ty "bool") (by rfl) T.bool_ PyProof.Rows.boot_bool (by rfl)) pa_nil)))))))), ?_⟩
    refine rd_ret (rd_andV (rd_isI ⟨_, rfl, isI_ty (.int i) (k := true) (by rfl) ⟨_, rfl, rd_true ?_⟩⟩))
    refine rd_notV (rd_isI ⟨_, rfl, isI_ty (.int i) (k := false) (by rfl) ⟨_, rfl, ?_⟩⟩)
    exact k
def spSigned : Sp := fun vs H Q _ => ∃ c z : Int, vs = [.int c, .int z] ∧ 0 ≤ z ∧ Bits 1000 z ∧ Q (.int (c % (2 * z + 1) - z)) H
theorem ok__law_within {f : Addr} {fd : FuncData} (F : Fun K "_law_within" "_law_within" s__law_within f fd) (T : Txt K mg) : FnOk P w K mg base CX0 1 f fd ["_law_cell", "_law_most"] spSigned := by
  refine F.ok sc__law_within (fun vs H Q E h => ?_) (fun cdv A outer s H vs Q E hr h => ?_)
  · obtain ⟨c, z, rfl, _⟩ := h
    rfl
  · obtain ⟨c, z, rfl, hz, hb, k⟩ := h
    refine ⟨_, (pss_one (ps_ret (pe_op op_sub (pe_op op_modP (pv 0) (pe_op op_add (pe_op op_mulB pe_int (pv 1)) pe_int)) (pv 1)))), ?_⟩
    refine ⟨_, rfl, _, rfl, _, _, rfl, rfl, ⟨Bits.mono (j := 2) (by show (2 : Int).natAbs < 2 ^ 2; decide) (by decide), hb.mono (by decide)⟩, _, _, rfl, rfl, _, _, rfl, rfl, (by show (0 : Int) < 2 * z + 1; omega), _, rfl, _, _, rfl, rfl, k⟩
theorem ok__law_mul {f : Addr} {fd : FuncData} (F : Fun K "_law_mul" "_law_mul" s__law_mul f fd) (T : Txt K mg) : FnOk P w K mg base CX0 1 f fd ["_law_kp", "_law_kq"] spMul := by
  refine F.ok sc__law_mul (fun vs H Q E h => ?_) (fun cdv A outer s H vs Q E hr h => ?_)
  · obtain ⟨a, b, xs, ys, rfl, _⟩ := h
    rfl
  · obtain ⟨a, b, xs, ys, rfl, hA, hB, hx, hy, bx, by', k⟩ := h
    refine ⟨_, (pss_cons (ps_if (PW.pt (pw_or (pt_cmpR op_eqI (pe_callB (call_lenK (K := K) rfl) (by rfl) T.len_ PySem.boot_len (pa_cons (pv 0) pa_nil)) pe_int (nomark _)) (pw_or1 (pt_cmpR op_eqI (pe_callB (call_lenK (K := K) rfl) (by rfl) T.len_ PySem.boot_len (pa_cons (pv 1) pa_nil)) pe_int (nomark _)))))
        (pss_one (ps_ret (pe_lst pa_nil)))
        pss_nil)
      (pss_cons (ps_setComp (i := 2) sc__law_mul.nd rfl (Or.inl rfl) (own := ["_law_k"]) (fr := []) (js := []) (by walk_at "comp_ok") rfl (pi_range1 rfl T.range_ (pa_cons (pe_op op_sub (pe_op op_add (pe_callB (call_lenK (K := K) rfl) (by rfl) T.len_ PySem.boot_len (pa_cons (pv 0) pa_nil)) (pe_callB (call_lenK (K := K) rfl) (by rfl) T.len_ PySem.boot_len (pa_cons (pv 1) pa_nil))) pe_int) pa_nil)) (fun _ _ _ _ => (pg_name (i := 0) (show List.Nodup (["_law_k"] : List Str) from by decide +kernel) rfl (Or.inl rfl))) (fun _ _ _ _ => pe_int) (by rfl))
      (pss_cons (ps_for PassesOwn.never rfl (pi_enum rfl T.enumerate_ (pa_cons (pv 0) pa_nil)) (pg_tup rfl (pgs_cons (pg_name (i := 3) sc__law_mul.nd rfl (Or.inl rfl)) (pgs_cons (pg_name (i := 4) sc__law_mul.nd rfl (Or.inl rfl)) pgs_nil)))
        (pss_one (ps_for PassesOwn.never rfl (pi_enum rfl T.enumerate_ (pa_cons (pv 1) pa_nil)) (pg_tup rfl (pgs_cons (pg_name (i := 5) sc__law_mul.nd rfl (Or.inl rfl)) (pgs_cons (pg_name (i := 6) sc__law_mul.nd rfl (Or.inl rfl)) pgs_nil)))
            (pss_one (ps_asg (pe_op op_add (pe_ix (ix_listK (K := K) rfl) (pv 2) (pe_op op_add (pv 3) (pv 5)) (fun _ _ => rfl)) (pe_op op_mulB (pv 4) (pv 6))) (pg_sub (pv 2) (pe_op op_add (pv 3) (pv 5)) set_list))))))
      (pss_one (ps_ret (pv 2)))))), ?_⟩
    have none' : (xs = [] ∨ ys = []) → ∀ p, H p = none → Q (.ref p) (upd H p (.lst [])) := fun h p hp => k p _ (Same.upd_new hp) hp (by rw [upd_same]; unfold mulL; rw [if_pos h]; rfl)
    have hlx : (xs.map V.int).length = xs.length := List.length_map _
    have hly : (ys.map V.int).length = ys.length := List.length_map _
    refine rd_sr (rd_or ⟨_, rfl, a, _, rfl, .inl (SqL.of hA), _, _, rfl, rfl, _, rfl, rd_dec (fun h0 => ?_) (fun h0 => ?_)⟩)
    · exact rd_true ⟨Nat.zero_le _, fun p hp => none' (.inl (List.length_eq_zero_iff.mp (by rw [hlx] at h0; omega))) p hp⟩
    refine ⟨_, rfl, b, _, rfl, .inl (SqL.of hB), _, _, rfl, rfl, _, rfl, rd_dec (fun h1 => ?_) (fun h1 => ?_)⟩
    · exact ⟨Nat.zero_le _, fun p hp => none' (.inr (List.length_eq_zero_iff.mp (by rw [hly] at h1; omega))) p hp⟩
    rw [hlx] at h0
    rw [hly] at h1
    have hx0 : xs ≠ [] := fun z => h0 (by rw [z]; rfl)
    have hy0 : ys ≠ [] := fun z => h1 (by rw [z]; rfl)
    obtain ⟨la, ea⟩ : ∃ la, xs.length = la + 1 := ⟨xs.length - 1, by have := List.length_pos_iff.mpr hx0; omega⟩
    obtain ⟨lb, eb⟩ : ∃ lb, ys.length = lb + 1 := ⟨ys.length - 1, by have := List.length_pos_iff.mpr hy0; omega⟩
    have big := sizeLine_eq
    have en : ((xs.map V.int).length : Int) + ((ys.map V.int).length : Int) - 1 = ((la + lb + 1 : Nat) : Int) := by rw [hlx, hly]; omega
    refine ⟨_, rfl, a, _, rfl, .inl (SqL.of hA), _, rfl, b, _, rfl, .inl (SqL.of hB), _, _, rfl, rfl, _, _, rfl, rfl, ?_⟩
    dsimp only
    rw [en]
    refine ⟨_, rfl, by omega, by omega, comp_range (lo := 0) (n := la + lb + 1) (fun i zs σ' H' => ∃ z : Option V, σ' = [z] ∧ zs = (List.replicate i (0 : Int)).map V.int ∧ H = H') (by omega) ⟨none, rfl, rfl, rfl⟩ ?_ ?_ ?_⟩
    · rintro i zs σ' H' _ ⟨z, rfl, rfl, rfl⟩
      simp
    · rintro i zs σ' H' hi ⟨z, rfl, rfl, rfl⟩
      refine ⟨_, rfl, ?_, rfl⟩
      rw [List.replicate_succ', List.map_append]; rfl
    rintro zs σ' H' p ⟨z, rfl, rfl, rfl⟩ hp
    have s4 := Same.upd_new (o := .lst ((List.replicate (la + lb + 1) (0 : Int)).map V.int)) hp
    have npa : a ≠ p := ne_of_none hA hp
    have npb : b ≠ p := ne_of_none hB hp
    have hp4 : upd H p (.lst ((List.replicate (la + lb + 1) (0 : Int)).map V.int)) p = some (.lst ((List.replicate (la + lb + 1) (0 : Int)).map V.int)) := upd_same
    generalize upd H p (.lst ((List.replicate (la + lb + 1) (0 : Int)).map V.int)) = H4 at s4 hp4 ⊢
    refine ⟨_, rfl, a, rfl, ⟨_, SqL.of (s4 _ _ hA)⟩, for_enum (K := K) (a := a) (xs := xs.map V.int) (fun j σ' H' => ∃ (acc : List Int) (z3 z4 z5 z6 : Option V), σ' = [some (.ref a), some (.ref b), some (.ref p), z3, z4, z5, z6] ∧ SameB p H4 H' ∧ H' p = some (.lst (acc.map V.int)) ∧ acc.length = la + lb + 1 ∧ ∀ n, n < acc.length → cf acc n = sm xs ys n j)
      ⟨List.replicate (la + lb + 1) 0, none, none, none, none, rfl, SameB.refl _ _, hp4, by simp, fun n _ => by rw [cf_replicate]; rfl⟩ ?_ ?_ ?_⟩
    · rintro j σ' H' _ ⟨acc, z3, z4, z5, z6, rfl, sb, _⟩
      exact SqL.of (sb _ _ npa (s4 _ _ hA))
    · rintro j x σ' H' q hj ⟨acc, z3, z4, z5, z6, rfl, sb, hpa, hal, hac⟩ hq
      rw [List.getElem?_map] at hj
      have hjl : j < xs.length := by
        apply Classical.byContradiction
        intro hn
        rw [List.getElem?_eq_none_iff.mpr (Nat.le_of_not_lt hn)] at hj
        cases hj
      rw [get_cf hjl] at hj
      obtain rfl := Option.some.inj hj
      refine ⟨q, _, rfl, SqT.of upd_same, rfl, _, _, rfl, _, _, rfl, rfl, ?_⟩
      have nqp : p ≠ q := ne_of_none hpa hq
      have sb1 : SameB p H4 (upd H' q (.tup [.int j, .int (cf xs j)])) := sb.then_new hq
      refine ⟨_, rfl, b, rfl, ⟨_, SqL.of (sb1 _ _ npb (s4 _ _ hB))⟩, for_enum (K := K) (a := b) (xs := ys.map V.int) (fun i σ' H' => ∃ (acc : List Int) (z5 z6 : Option V), σ' = [some (.ref a), some (.ref b), some (.ref p), some (.int j), some (.int (cf xs j)), z5, z6] ∧ SameB p H4 H' ∧ H' p = some (.lst (acc.map V.int)) ∧ acc.length = la + lb + 1 ∧ ∀ n, n < acc.length → cf acc n = sm xs ys n j + (if j ≤ n ∧ n - j < i then tm xs ys n j else 0))
        ⟨acc, z5, z6, rfl, sb1, by rw [upd_ne nqp]; exact hpa, hal, mul_start hac⟩ ?_ ?_ ?_⟩
      · rintro i σ' H' _ ⟨acc, z5, z6, rfl, sb, _⟩
        exact SqL.of (sb _ _ npb (s4 _ _ hB))
      · rintro i x σ' H' q hi ⟨acc, z5, z6, rfl, sb, hpa, hal, hac⟩ hq
        rw [List.getElem?_map] at hi
        have hil : i < ys.length := by
          apply Classical.byContradiction
          intro hn
          rw [List.getElem?_eq_none_iff.mpr (Nat.le_of_not_lt hn)] at hi
          cases hi
        rw [get_cf hil] at hi
        obtain rfl := Option.some.inj hi
        refine ⟨q, _, rfl, SqT.of upd_same, rfl, _, _, rfl, _, _, rfl, rfl, ?_⟩
        have nqp : p ≠ q := ne_of_none hpa hq
        have hpa' : upd H' q (.tup [.int i, .int (cf ys i)]) p = some (.lst (acc.map V.int)) := by rw [upd_ne nqp]; exact hpa
        have hji : j + i < acc.length := by omega
        have eji : ((j : Nat) : Int) + ((i : Nat) : Int) = ((j + i : Nat) : Int) := by omega
        refine ⟨_, rfl, _, rfl, _, rfl, _, _, rfl, rfl, p, _, _, _, rfl, rfl, SqL.of hpa', at_map eji hji, _, rfl, _, rfl, _, _, rfl, rfl, ⟨bx.cf j, by'.cf i⟩, _, _, rfl, rfl, _, rfl, _, rfl, _, rfl, _, _, rfl, rfl, p, _, _, j + i, rfl, rfl, hpa', ixN_nat eji (by rw [List.length_map]; exact hji), ?_⟩
        refine ⟨acc.set (j + i) (cf acc (j + i) + cf xs j * cf ys i), _, _, rfl, (sb.then_new hq).then_upd, by rw [upd_same, map_set_int], by rw [List.length_set]; exact hal, mul_step hjl hil hji hac⟩
      · rintro σ' H' ⟨acc, z5, z6, rfl, sb, hpa, hal, hac⟩
        rw [List.length_map] at hac
        exact ⟨acc, _, _, _, _, rfl, sb, hpa, hal, mul_row hac⟩
    · rintro σ' H' ⟨acc, z3, z4, z5, z6, rfl, sb, hpa, hal, hac⟩
      rw [List.length_map] at hac
      refine ⟨_, rfl, k p H' (fun b' o e => sb b' o (ne_of_none e hp) (s4 b' o e)) hp ?_⟩
      rw [hpa]
      have e : acc = mulL xs ys := by
        apply ext_cf
        · rw [hal]; unfold mulL; rw [if_neg (by intro z; exact z.elim hx0 hy0), List.length_map, List.length_range]; omega
        · intro n _
          rw [cf_mulL, mul_end (by omega) hac]
      rw [e]
theorem ok__law_gcd {f : Addr} {fd : FuncData} (F : Fun K "_law_gcd" "_law_gcd" s__law_gcd f fd) (T : Txt K mg) : FnOk P w K mg base CX0 1 f fd ["_law_a", "_law_b"] sp2 := by
  refine F.ok sc__law_gcd (fun vs H Q E h => ?_) (fun cdv A outer s H vs Q E hr h => ?_)
  · obtain ⟨a, b, rfl, _⟩ := h
    rfl
  · obtain ⟨a, b, rfl, k⟩ := h
    refine ⟨_, (pss_cons (ps_set (i := 0) sc__law_gcd.nd rfl (Or.inl rfl) (pe_callB call_abs (by rfl) T.abs_ PyProof.Rows.boot_abs (pa_cons (pv 0) pa_nil)))
      (pss_cons (ps_set (i := 1) sc__law_gcd.nd rfl (Or.inl rfl) (pe_callB call_abs (by rfl) T.abs_ PyProof.Rows.boot_abs (pa_cons (pv 1) pa_nil)))
      (pss_cons (ps_while PassesOwn.never (pt_cmpR op_gt (pv 1) pe_int (nomark _))
        (pss_cons (ps_set (i := 2) sc__law_gcd.nd rfl (Or.inl rfl) (pe_op op_modP (pv 0) (pv 1)))
          (pss_cons (ps_set (i := 0) sc__law_gcd.nd rfl (Or.inl rfl) (pv 1))
          (pss_one (ps_set (i := 1) sc__law_gcd.nd rfl (Or.inl rfl) (pv 2))))))
      (pss_one (ps_ret (pv 0)))))), ?_⟩
    refine ⟨_, rfl, _, rfl, ?_⟩
    refine ⟨_, rfl, _, rfl, ?_⟩
    refine ⟨fun m σ' H' => ∃ (x y : Int) (z : Option V), σ' = [some (.int x), some (.int y), z] ∧ H = H' ∧ 0 ≤ x ∧ 0 ≤ y ∧ y.natAbs = m ∧ Nat.gcd x.natAbs y.natAbs = Nat.gcd a.natAbs b.natAbs, ⟨_, _, _, none, rfl, rfl, ?_, ?_, rfl, ?_⟩, ?_⟩
    · rw [abs_eq]; exact Int.natCast_nonneg _
    · rw [abs_eq]; exact Int.natCast_nonneg _
    · rw [abs_eq, abs_eq, Int.natAbs_natCast, Int.natAbs_natCast]
    · rintro m σ' H' ⟨x, y, z, rfl, rfl, hx, hy, rfl, hg⟩
      refine ⟨_, rfl, _, _, rfl, rfl, _, rfl, ?_⟩
      refine rd_dec (fun hn => ?_) (fun h0 => ?_)
      · have hp : 0 < y := hn
        refine ⟨fun σ'' H'' => ∃ m', m' < y.natAbs ∧ ∃ (x' y' : Int) (z : Option V), σ'' = [some (.int x'), some (.int y'), z] ∧ H = H'' ∧ 0 ≤ x' ∧ 0 ≤ y' ∧ y'.natAbs = m' ∧ Nat.gcd x'.natAbs y'.natAbs = Nat.gcd a.natAbs b.natAbs, fun _ _ h => h, ?_⟩
        refine ⟨_, rfl, _, rfl, _, _, rfl, rfl, hp, ?_⟩
        refine ⟨_, rfl, ?_⟩
        refine ⟨_, rfl, ?_⟩
        have h1 := Int.emod_nonneg x (Int.ne_of_gt hp)
        have h2 := Int.emod_lt_of_pos x hp
        exact ⟨(x % y).natAbs, by omega, y, x % y, _, rfl, rfl, hy, h1, rfl, by rw [gcd_turn hx hp]; exact hg⟩
      · refine ⟨_, rfl, ?_⟩
        have e : (y : Int) = 0 := by have : ¬ (0 : Int) < y := h0; omega
        subst e
        have e2 : (x : Int) = ((Nat.gcd a.natAbs b.natAbs : Nat) : Int) := by
          rw [← hg]
          show x = ((Nat.gcd x.natAbs 0 : Nat) : Int)
          rw [Nat.gcd_zero_right]; omega
        rw [e2]
        exact k
theorem ok__law_shrunk {f : Addr} {fd : FuncData} (F : Fun K "_law_shrunk" "_law_shrunk" s__law_shrunk f fd) (T : Txt K mg) {f__law_gcd : Addr} {fd__law_gcd : FuncData} (C__law_gcd : Cal P w K mg base 1 "_law_gcd" ["_law_a", "_law_b"] sp2 f__law_gcd fd__law_gcd) : FnOk P w K mg base CX0 2 f fd ["_law_kp"] spShr := by
  obtain ⟨G__law_gcd, m__law_gcd, k__law_gcd, b__law_gcd⟩ := C__law_gcd
  refine F.ok sc__law_shrunk (fun vs H Q E h => ?_) (fun cdv A outer s H vs Q E hr h => ?_)
  · obtain ⟨a, ns, rfl, _⟩ := h
    rfl
  · obtain ⟨a, ns, rfl, hA, ht, hn, hb, k⟩ := h
    have big := sizeLine_eq
    refine ⟨_, (pss_cons (ps_set (i := 1) sc__law_shrunk.nd rfl (Or.inr rfl) pe_int)
      (pss_cons (ps_for PassesOwn.never rfl (pi_listK (K := K) rfl (pv 0)) (pg_name (i := 2) sc__law_shrunk.nd rfl (Or.inl rfl))
        (pss_one (ps_set (i := 1) sc__law_shrunk.nd rfl (Or.inr rfl) (pe_call G__law_gcd (hr.mono (by decide)) rfl m__law_gcd k__law_gcd b__law_gcd .nil pass0 (pa_cons (pv 1) (pa_cons (pv 2) pa_nil))))))
      (pss_cons (ps_if (pt_cmpR op_eqI (pv 1) pe_int (nomark _))
        (pss_one (ps_ret (pe_lst pa_nil)))
        pss_nil)
      (pss_one (ps_ret (pe_comp (own := ["_law_one"]) (fr := ["_law_most"]) (js := [1]) (by walk_at "comp_ok") rfl (pi_listK (K := K) rfl (pv 0)) (fun _ _ _ _ => (pg_name (i := 0) (show List.Nodup (["_law_one", "_law_most"] : List Str) from by decide +kernel) rfl (Or.inl rfl))) (fun _ _ _ _ => (pe_op op_fdivP (pv 0) (pv 1))))))))), ?_⟩
    refine rd_sa ?_
    refine ⟨_, rfl, a, rfl, ⟨_, SqL.of hA⟩, for_list (K := K) (a := a) (xs := ns.map V.int) (fun i σ' H' => ∃ z : Option V, σ' = [some (.ref a), some (.int (gcdL (ns.take i) : Nat)), z] ∧ H = H') ⟨none, rfl, rfl⟩ (fun i σ' H' _ ⟨z, _, e⟩ => by rw [← e]; exact SqL.of hA) ?_ ?_⟩
    · rintro i y σ' H' hi ⟨z, rfl, rfl⟩
      obtain ⟨n, e, rfl, _, et⟩ := get_int hi
      refine ⟨_, rfl, _, rfl, _, _, rfl, ?_⟩
      refine ⟨some (.int n), ?_, rfl⟩
      rw [et, gcdL_snoc, Int.natAbs_natCast]
      rfl
    · rintro σ' H' ⟨z, rfl, rfl⟩
      rw [List.length_map, List.take_length]
      dsimp only
      refine rd_sr ⟨_, rfl, _, _, rfl, rfl, _, rfl, rd_dec (fun h0 => ?_) (fun h0 => ?_)⟩
      · have hnil : ns = [] := Classical.byContradiction fun hne => by
          obtain ⟨g1, _⟩ := gcdL_bits ht hb hne
          have : ((gcdL ns : Nat) : Int) = 0 := h0
          omega
        subst hnil
        exact ⟨Nat.zero_le _, fun p hp => k p _ (Same.upd_new hp) hp (by rw [upd_same]; rfl)⟩
      · have hne : ns ≠ [] := fun z => h0 (by rw [z]; rfl)
        obtain ⟨g1, g2⟩ := gcdL_bits ht hb hne
        refine rd_ret ⟨_, rfl, a, rfl, ⟨_, SqL.of hA⟩, comp_list (K := K) (a := a) (xs := ns.map V.int) (fun i ys σ' H' => ∃ (z0 : Option V), σ' = [z0, some (.int (gcdL ns : Nat))] ∧ ys = ((ns.take i).map fun x => x / (gcdL ns : Int)).map V.int ∧ H = H') (by rw [List.length_map]; omega) ⟨none, rfl, rfl, rfl⟩ ?_ ?_ ?_⟩
        · rintro i ys σ' H' _ ⟨z0, rfl, rfl, rfl⟩
          exact ⟨SqL.of hA, by rw [List.length_map, List.length_map, List.length_take]; exact Nat.min_le_left _ _⟩
        · rintro i x ys σ' H' hi ⟨z0, rfl, rfl, rfl⟩
          obtain ⟨c, e, rfl, _, et⟩ := get_int hi
          refine ⟨_, rfl, _, rfl, _, _, rfl, rfl, ⟨g1, g2⟩, _, rfl, ?_, rfl⟩
          rw [et]
          simp
        · rintro ys σ' H' p ⟨z0, rfl, rfl, rfl⟩ hp
          refine k p _ (Same.upd_new hp) hp ?_
          rw [upd_same, List.length_map, List.take_length]
          rfl
theorem ok__law_plain {f : Addr} {fd : FuncData} (F : Fun K "_law_plain" "_law_plain" s__law_plain f fd) (T : Txt K mg) {f__law_shrunk : Addr} {fd__law_shrunk : FuncData} (C__law_shrunk : Cal P w K mg base 2 "_law_shrunk" ["_law_kp"] spShr f__law_shrunk fd__law_shrunk) : FnOk P w K mg base CX0 3 f fd ["_law_kp"] spPlain := by
  obtain ⟨G__law_shrunk, m__law_shrunk, k__law_shrunk, b__law_shrunk⟩ := C__law_shrunk
  refine F.ok sc__law_plain (fun vs H Q E h => ?_) (fun cdv A outer s H vs Q E hr h => ?_)
  · obtain ⟨a, ns, rfl, _⟩ := h
    rfl
  · obtain ⟨a, ns, rfl, hA, ht, hn, hb, k⟩ := h
    have big := sizeLine_eq
    refine ⟨_, (pss_cons (ps_set (i := 1) sc__law_plain.nd rfl (Or.inl rfl) (pe_call G__law_shrunk (hr.mono (by decide)) rfl m__law_shrunk k__law_shrunk b__law_shrunk .nil pass0 (pa_cons (pv 0) pa_nil)))
      (pss_cons (ps_if (PW.pt (pw_and (pt_cmpR op_gt (pe_callB (call_lenK (K := K) rfl) (by rfl) T.len_ PySem.boot_len (pa_cons (pv 1) pa_nil)) pe_int (nomark _)) (pw_and1 (pt_cmpR op_lt (pe_ix (ix_listK (K := K) rfl) (pv 1) (pe_un un_neg pe_int) (fun _ _ => rfl)) pe_int (nomark _)))))
        (pss_one (ps_ret (pe_comp (own := ["_law_one"]) (fr := []) (js := []) (by walk_at "comp_ok") rfl (pi_listK (K := K) rfl (pv 1)) (fun _ _ _ _ => (pg_name (i := 0) (show List.Nodup (["_law_one"] : List Str) from by decide +kernel) rfl (Or.inl rfl))) (fun _ _ _ _ => (pe_op op_sub pe_int (pv 0))))))
        pss_nil)
      (pss_one (ps_ret (pv 1))))), ?_⟩
    refine rd_sa ⟨_, rfl, a, ns, rfl, hA, ht, hn, hb, fun p H1 s1 hp e1 => ?_⟩
    have hsl : (shrL ns).length = ns.length := List.length_map _
    refine rd_cutIf (fun σ' H' => σ' = [some (.ref a), some (.ref p)] ∧ H1 = H' ∧ posL (shrL ns) = shrL ns) ?_ ?_
    · rintro σ' H' ⟨rfl, rfl, e3⟩
      exact ⟨_, rfl, k p H1 s1 hp (by rw [e1]; show _ = some (HO.lst ((posL (shrL ns)).map V.int)); rw [e3])⟩
    intro rest
    refine rd_and ⟨_, rfl, p, _, rfl, .inl (SqL.of e1), _, _, rfl, rfl, _, rfl, rd_dec (fun h0 => ?_) (fun h0 => ?_)⟩
    · rw [List.length_map] at h0
      have hne : shrL ns ≠ [] := fun z => by rw [z] at h0; exact absurd h0 (by decide)
      obtain ⟨r, x, er⟩ := (snoc_cases (shrL ns)).resolve_left hne
      refine ⟨_, rfl, _, rfl, p, _, _, .int x, rfl, rfl, SqL.of e1, (by rw [er]; exact at_last r x), _, _, rfl, rfl, _, rfl, ?_⟩
      have elast : lastI (shrL ns) = x := by rw [er, lastI_snoc]
      refine rd_dec (fun hx => ?_) (fun hx => ?_)
      · have hx' : x < 0 := hx
        have epos : posL (shrL ns) = (shrL ns).map fun x => -x := by unfold posL; rw [elast, if_pos hx']
        refine rd_ret ⟨_, rfl, p, rfl, ⟨_, SqL.of e1⟩, comp_list (K := K) (a := p) (xs := (shrL ns).map V.int) (fun i ys σ' H' => ∃ (z0 : Option V), σ' = [z0] ∧ ys = (((shrL ns).take i).map fun x => -x).map V.int ∧ H1 = H') (by rw [List.length_map, hsl]; omega) ⟨none, rfl, rfl, rfl⟩ ?_ ?_ ?_⟩
        · rintro i ys σ' H' _ ⟨z0, rfl, rfl, rfl⟩
          exact ⟨SqL.of e1, by rw [List.length_map, List.length_map, List.length_take]; exact Nat.min_le_left _ _⟩
        · rintro i x ys σ' H' hi ⟨z0, rfl, rfl, rfl⟩
          obtain ⟨c, e, rfl, _, et⟩ := get_int hi
          refine ⟨_, rfl, _, _, rfl, rfl, _, rfl, ?_, rfl⟩
          rw [et]
          simp
        · rintro ys σ' H' p' ⟨z0, rfl, rfl, rfl⟩ hp'
          refine k p' _ (s1.then_new hp') (s1.free hp') ?_
          rw [upd_same, List.length_map, List.take_length]
          show _ = some (HO.lst ((posL (shrL ns)).map V.int))
          rw [epos]
      · exact rest _ _ ⟨rfl, rfl, by unfold posL; rw [elast, if_neg hx]⟩
    · rw [List.length_map] at h0
      have he' : shrL ns = [] := List.length_eq_zero_iff.mp (by omega)
      exact rest _ _ ⟨rfl, rfl, by rw [he']; rfl⟩
theorem b40 : Bits 140 (10 ^ 40) := by show ((10 : Int) ^ 40).natAbs < 2 ^ 140; decide +kernel
theorem two9 : Bits 9000 2 := Bits.mono (j := 2) (by show (2 : Int).natAbs < 2 ^ 2; decide) (by decide)
theorem sm_bits {i j : Nat} {a b : List Int} {n : Nat} (ha : AllB i a) (hb : AllB j b) : ∀ m, Bits (i + j + m) (sm a b n m)
  | 0 => Bits.zero
  | m + 1 => by
    rw [sm]
    refine (sm_bits ha hb m).add ?_
    unfold tm
    split
    · exact ((ha.cf m).mul (hb.cf _)).mono (by omega)
    · exact Bits.zero
theorem mulL_bits {i j k : Nat} {a b : List Int} (ha : AllB i a) (hb : AllB j b) (hk : i + j + a.length ≤ k) : AllB k (mulL a b) := AllB.of_cf fun n => by
  rw [cf_mulL]; exact (sm_bits ha hb a.length).mono hk
theorem mulL_one_len {c : Int} {l : List Int} (h : l ≠ []) : (mulL [c] l).length = l.length := by
  unfold mulL
  rw [if_neg (fun z => z.elim (fun y => nomatch y) h), List.length_map, List.length_range]
  show 1 + l.length - 1 = l.length
  omega
def spFb : Sp := fun vs H Q _ => ∃ c : Int, vs = [.int c, .int 11] ∧ ∀ (p : Addr) (l : List Int), H p = none → FacS l → Q (.ref p) (upd H p (.tup (l.map V.int)))
theorem mod3 {x m : Int} (h : 0 < m) : 0 ≤ x % m ∧ x % m < m := ⟨Int.emod_nonneg _ (Int.ne_of_gt h), Int.emod_lt_of_pos _ h⟩
theorem ok__law_factor_by {f : Addr} {fd : FuncData} (F : Fun K "_law_factor_by" "_law_factor_by" s__law_factor_by f fd) (T : Txt K mg) : FnOk P w K mg base CX0 1 f fd ["_law_cell", "_law_most"] spFb := by
  refine F.ok sc__law_factor_by (fun vs H Q E h => ?_) (fun cdv A outer s H vs Q E hr h => ?_)
  · obtain ⟨c, rfl, _⟩ := h
    rfl
  · obtain ⟨c, rfl, k⟩ := h
    refine ⟨_, (pss_cons (ps_set (i := 2) sc__law_factor_by.nd rfl (Or.inl rfl) (pe_op op_sub (pe_op op_modP (pe_op op_fdivP (pv 0) pe_int) (pe_op op_add (pe_op op_mul pe_int (pv 1)) pe_int)) (pv 1)))
      (pss_cons (ps_set (i := 3) sc__law_factor_by.nd rfl (Or.inl rfl) (pe_op op_add pe_int (pe_op op_modP (pe_op op_modP (pe_op op_mul (pv 0) pe_int) pe_int) pe_int)))
      (pss_cons (ps_set (i := 4) sc__law_factor_by.nd rfl (Or.inl rfl) (pe_op op_add pe_int (pe_op op_modP (pe_op op_modP (pe_op op_mul (pv 0) pe_int) pe_int) pe_int)))
      (pss_cons (ps_set (i := 5) sc__law_factor_by.nd rfl (Or.inl rfl) (pe_op op_add (pe_op op_add (pe_op op_mul (pv 4) (pv 4)) pe_int) (pe_op op_modP (pe_op op_modP (pe_op op_mul (pv 0) pe_int) pe_int) (pe_op op_mul pe_int (pv 4)))))
      (pss_cons (ps_if (pt_cmpR op_eqI (pe_op op_modP (pv 0) pe_int) pe_int (nomark _))
        (pss_one (ps_ret (pe_tup (pa_cons (pv 2) (pa_cons (pv 5) (pa_cons (pv 3) pa_nil))))))
        pss_nil)
      (pss_cons (ps_if (pt_cmpR op_eqI (pe_op op_modP (pv 0) pe_int) pe_int (nomark _))
        (pss_one (ps_ret (pe_tup (pa_cons (pv 2) (pa_cons (pe_op op_sub pe_int (pv 5)) (pa_cons (pv 3) pa_nil))))))
        pss_nil)
      (pss_one (ps_ret (pe_tup (pa_cons (pv 2) (pa_cons pe_int (pa_cons (pv 3) pa_nil)))))))))))), ?_⟩
    refine rd_sa ⟨_, rfl, _, _, rfl, rfl, ⟨by decide, Bits.mono (j := 3) (by show (4 : Int).natAbs < 2 ^ 3; decide) (by decide)⟩, _, rfl, _, _, rfl, rfl, .inl ⟨by decide, by decide⟩, _, _, rfl, rfl, _, _, rfl, rfl, (by show (0 : Int) < 2 * 11 + 1; decide), _, rfl, _, _, rfl, rfl, ?_⟩
    obtain ⟨u1, u2⟩ := mod3 (x := c / 4) (m := 2 * 11 + 1) (by omega)
    dsimp only
    generalize hu : c / 4 % (2 * 11 + 1) - 11 = u
    have hu1 : -11 ≤ u := by omega
    have hu2 : u ≤ 11 := by omega
    refine rd_sa ⟨_, rfl, _, _, rfl, rfl, .inr ⟨by decide, by decide⟩, _, _, rfl, rfl, (by show (0 : Int) < 10007; decide), _, _, rfl, rfl, (by show (0 : Int) < 3; decide), _, _, rfl, rfl, ?_⟩
    obtain ⟨b1, b2⟩ := mod3 (x := c * 48271 % 10007) (m := 3) (by omega)
    dsimp only
    generalize hb : 1 + c * 48271 % 10007 % 3 = b
    have hb1 : 1 ≤ b := by omega
    have hb2 : b ≤ 3 := by omega
    refine rd_sa ⟨_, rfl, _, _, rfl, rfl, .inr ⟨by decide, by decide⟩, _, _, rfl, rfl, (by show (0 : Int) < 10009; decide), _, _, rfl, rfl, (by show (0 : Int) < 5; decide), _, _, rfl, rfl, ?_⟩
    obtain ⟨n1, n2⟩ := mod3 (x := c * 69621 % 10009) (m := 5) (by omega)
    dsimp only
    generalize hn : 1 + c * 69621 % 10009 % 5 = n
    have hn1 : 1 ≤ n := by omega
    have hn2 : n ≤ 5 := by omega
    have bn : Bits 3 n := by show n.natAbs < 2 ^ 3; omega
    refine rd_sa ⟨_, rfl, _, rfl, _, _, rfl, rfl, .inl ⟨by show -(2 ^ 64) < n; omega, by show n < 2 ^ 64; omega⟩, _, _, rfl, rfl, _, rfl, _, _, rfl, rfl, .inr ⟨by decide, by decide⟩, _, _, rfl, rfl, (by show (0 : Int) < 10037; decide), _, rfl, _, _, rfl, rfl, .inl ⟨by decide, by decide⟩, _, _, rfl, rfl, (by show (0 : Int) < 2 * n; omega), _, _, rfl, rfl, ?_⟩
    obtain ⟨e1, e2⟩ := mod3 (x := c * 16807 % 10037) (m := 2 * n) (by omega)
    dsimp only
    generalize he : n * n + 1 + c * 16807 % 10037 % (2 * n) = e
    have he0 : n * n < e := by omega
    have he1 : e < (n + 1) * (n + 1) := by
      have : (n + 1) * (n + 1) = n * n + 2 * n + 1 := by rw [Int.add_mul, Int.mul_add]; omega
      omega
    have hnn : 0 ≤ n * n := Int.mul_nonneg (by omega) (by omega)
    have he2 : e < 36 := by
      have h1 : n = 1 ∨ n = 2 ∨ n = 3 ∨ n = 4 ∨ n = 5 := by omega
      rcases h1 with rfl | rfl | rfl | rfl | rfl <;> omega
    refine rd_sr ⟨_, rfl, _, _, rfl, rfl, (by show (0 : Int) < 4; decide), _, _, rfl, rfl, _, rfl, rd_dec (fun _ => ?_) (fun _ => ?_)⟩
    · exact ⟨_, rfl, _, rfl, _, rfl, by show 3 ≤ sizeLine; decide, fun p hp => k p [u, e, b] hp ⟨u, e, b, rfl, hu1, hu2, by omega, he2, hb1, hb2, .inr ⟨n, by omega, he0, he1⟩⟩⟩
    refine rd_sr ⟨_, rfl, _, _, rfl, rfl, (by show (0 : Int) < 4; decide), _, _, rfl, rfl, _, rfl, rd_dec (fun _ => ?_) (fun _ => ?_)⟩
    · exact ⟨_, rfl, _, rfl, _, _, rfl, rfl, _, rfl, by show 3 ≤ sizeLine; decide, fun p hp => k p [u, 0 - e, b] hp ⟨u, 0 - e, b, rfl, hu1, hu2, by omega, by omega, hb1, hb2, .inl (by omega)⟩⟩
    exact ⟨_, rfl, _, rfl, by show 3 ≤ sizeLine; decide, fun p hp => k p [u, 0, b] hp ⟨u, 0, b, rfl, hu1, hu2, by omega, by omega, hb1, hb2, .inl (Int.le_refl _)⟩⟩
def spShape : Sp := fun vs H Q _ => ∃ (p : Addr) (l : List Int), vs = [.ref p] ∧ H p = some (.tup (l.map V.int)) ∧ FacS l ∧ mkL H Q (shpQ l)
theorem tr_rawN {u e b : Int} (hb : 0 < b) : Tr (rawQ u e b) ∧ rawQ u e b ≠ [] := by
  obtain ⟨tr, l2⟩ := tr_rawQ (u := u) (e := e) (b := b) (by omega)
  exact ⟨tr, fun z => by rw [z] at l2; simp at l2⟩
theorem raw_bits {u e b : Int} (h1 : -11 ≤ u) (h2 : u ≤ 11) (h3 : -36 < e) (h4 : e < 36) (h5 : 1 ≤ b) (h6 : b ≤ 3) : AllB 10 (rawQ u e b) := by
  have q1 : (u * u).natAbs ≤ 11 * 11 := abs_mul_le (by omega) (by omega)
  have q2 : (b * u).natAbs ≤ 3 * 11 := abs_mul_le (by omega) (by omega)
  have q3 : (b * b).natAbs ≤ 3 * 3 := abs_mul_le (by omega) (by omega)
  have q4 : -2 * b * u = -2 * (b * u) := by grind
  unfold rawQ
  split
  · intro x hx
    simp only [List.mem_cons, List.not_mem_nil, or_false] at hx
    rcases hx with rfl | rfl
    · show (-u).natAbs < 1024; omega
    · show x.natAbs < 1024; omega
  · intro x hx
    simp only [List.mem_cons, List.not_mem_nil, or_false] at hx
    rcases hx with rfl | rfl | rfl
    · show (u * u - e).natAbs < 1024; omega
    · rw [q4]; show (-2 * (b * u)).natAbs < 1024; omega
    · show (b * b).natAbs < 1024; omega
theorem ok__law_shape {f : Addr} {fd : FuncData} (F : Fun K "_law_shape" "_law_shape" s__law_shape f fd) (T : Txt K mg) {f__law_plain : Addr} {fd__law_plain : FuncData} (C__law_plain : Cal P w K mg base 3 "_law_plain" ["_law_kp"] spPlain f__law_plain fd__law_plain) : FnOk P w K mg base CX0 4 f fd ["_law_factor"] spShape := by
  obtain ⟨G__law_plain, m__law_plain, k__law_plain, b__law_plain⟩ := C__law_plain
  refine F.ok sc__law_shape (fun vs H Q E h => ?_) (fun cdv A outer s H vs Q E hr h => ?_)
  · obtain ⟨p, l, rfl, _⟩ := h
    rfl
  · obtain ⟨p, l, rfl, hP, ⟨u, e, b, rfl, h1, h2, h3, h4, h5, h6, h7⟩, k⟩ := h
    have hb := raw_bits h1 h2 h3 h4 h5 h6
    obtain ⟨tr, hne⟩ := tr_rawN (u := u) (e := e) (b := b) (by omega)
    replace k : mkL H Q (plainL (rawQ u e b)) := k
    have bu : Bits 31 u := by show u.natAbs < 2147483648; omega
    have bb : Bits 2 b := by show b.natAbs < 4; omega
    refine ⟨_, (pss_cons (ps_set (i := 1) sc__law_shape.nd rfl (Or.inl rfl) (pe_ix (ix_tupK (K := K) rfl) (pv 0) pe_int (fun _ _ => rfl)))
      (pss_cons (ps_set (i := 2) sc__law_shape.nd rfl (Or.inl rfl) (pe_ix (ix_tupK (K := K) rfl) (pv 0) pe_int (fun _ _ => rfl)))
      (pss_cons (ps_if (pt_cmpR op_eqI (pe_ix (ix_tupK (K := K) rfl) (pv 0) pe_int (fun _ _ => rfl)) pe_int (nomark _))
        (pss_one (ps_ret (pe_call G__law_plain (hr.mono (by decide)) rfl m__law_plain k__law_plain b__law_plain .nil pass0 (pa_cons (pe_lst (pa_cons (pe_op op_sub pe_int (pv 1)) (pa_cons (pv 2) pa_nil))) pa_nil))))
        pss_nil)
      (pss_one (ps_ret (pe_call G__law_plain (hr.mono (by decide)) rfl m__law_plain k__law_plain b__law_plain .nil pass0 (pa_cons (pe_lst (pa_cons (pe_op op_sub (pe_op op_mulB (pv 1) (pv 1)) (pe_ix (ix_tupK (K := K) rfl) (pv 0) pe_int (fun _ _ => rfl))) (pa_cons (pe_op op_mulB (pe_op op_mulB (pe_un un_neg pe_int) (pv 2)) (pv 1)) (pa_cons (pe_op op_mulB (pv 2) (pv 2)) pa_nil)))) pa_nil))))))), ?_⟩
    refine rd_sa ⟨_, rfl, p, _, _, _, rfl, rfl, SqT.of hP, rfl, ?_⟩
    refine rd_sa ⟨_, rfl, p, _, _, _, rfl, rfl, SqT.of hP, rfl, ?_⟩
    refine rd_sr ⟨_, rfl, p, _, _, _, rfl, rfl, SqT.of hP, rfl, _, _, rfl, rfl, _, rfl, rd_dec (fun h0 => ?_) (fun h0 => ?_)⟩
    · have h0' : e = 0 := h0
      subst h0'
      have er : rawQ u 0 b = [0 - u, b] := by unfold rawQ; rw [if_pos rfl, Int.zero_sub]
      rw [er] at hb tr k
      refine ⟨_, rfl, _, _, rfl, rfl, _, rfl, by show 2 ≤ sizeLine; decide, fun q hq => ?_⟩
      refine ⟨q, [0 - u, b], rfl, upd_same, tr, by show 2 ≤ 1000000; decide, hb.mono (by decide), fun p' H' sm hp' e' => k p' H' ((Same.upd_new hq).trans sm) ((Same.upd_new hq).free hp') e'⟩
    · have h0' : ¬ e = 0 := h0
      have er : rawQ u e b = [u * u - e, -2 * b * u, b * b] := by unfold rawQ; rw [if_neg h0']
      rw [er] at hb tr k
      refine rd_ret ⟨_, rfl, _, rfl, _, _, rfl, rfl, ⟨bu.mono (by decide), bu.mono (by decide)⟩, _, rfl, p, _, _, _, rfl, rfl, SqT.of hP, rfl, _, _, rfl, rfl, ?_⟩
      refine ⟨_, rfl, _, rfl, _, _, rfl, rfl, ⟨Bits.mono (j := 2) (by show (-2 : Int).natAbs < 2 ^ 2; decide) (by decide), bb.mono (by decide)⟩, _, rfl, _, _, rfl, rfl, ⟨Bits.mono (j := 4) (Bits.mul (j := 2) (k := 2) (by show (-2 : Int).natAbs < 2 ^ 2; decide) bb) (by decide), bu.mono (by decide)⟩, ?_⟩
      refine ⟨_, rfl, _, rfl, _, _, rfl, rfl, ⟨bb.mono (by decide), bb.mono (by decide)⟩, by show 3 ≤ sizeLine; decide, fun q hq => ?_⟩
      refine ⟨q, [u * u - e, -2 * b * u, b * b], rfl, upd_same, tr, by show 3 ≤ 1000000; decide, hb.mono (by decide), fun p' H' sm hp' e' => k p' H' ((Same.upd_new hq).trans sm) ((Same.upd_new hq).free hp') e'⟩
theorem shp_ok {l : List Int} (h : FacS l) : Tr (shpQ l) ∧ shpQ l ≠ [] ∧ AllB 10 (shpQ l) ∧ 2 ≤ (shpQ l).length ∧ (shpQ l).length ≤ 3 := by
  obtain ⟨u, e, b, rfl, h1, h2, h3, h4, h5, h6, h7⟩ := h
  have hb := raw_bits h1 h2 h3 h4 h5 h6
  obtain ⟨tr, hne⟩ := tr_rawN (u := u) (e := e) (b := b) (by omega)
  have hl : (rawQ u e b).length = 2 ∨ (rawQ u e b).length = 3 := by unfold rawQ; split; exact .inl rfl; exact .inr rfl
  show Tr (plainL (rawQ u e b)) ∧ plainL (rawQ u e b) ≠ [] ∧ AllB 10 (plainL (rawQ u e b)) ∧ 2 ≤ (plainL (rawQ u e b)).length ∧ (plainL (rawQ u e b)).length ≤ 3
  have pl := RM.plain_len (rawQ u e b)
  refine ⟨tr_plain tr, fun z => by rw [z] at pl; simp at pl; omega, AllB.of_cf fun n => ?_, by omega, by omega⟩
  obtain ⟨g, hg, eg⟩ := plain_scale tr
  have h7 := hb.cf n
  rw [eg n] at h7
  refine h7.of_le ?_
  rw [Int.natAbs_mul]
  exact Nat.le_mul_of_pos_left _ (Int.natAbs_pos.mpr hg)
def degs : List (List Int) → Nat
  | [] => 0
  | s :: ss => (s.length - 1) + degs ss
theorem degs_snoc (s : List Int) : ∀ ss, degs (ss ++ [s]) = degs ss + (s.length - 1)
  | [] => by simp [degs]
  | x :: ss => by rw [List.cons_append, degs, degs, degs_snoc s ss]; omega
def spFs (K : PySem.W.Frag) : Sp := fun vs H Q _ => ∃ (a : Addr) (ns : List Int) (room : Nat), vs = [.ref a, .int 11, .int room] ∧ SqL K H a (ns.map V.int) ∧ ns.length ≤ 100 ∧ ∀ (p : Addr) (H' : Hp) (qs : List Addr) (fs : List (List Int)), Same H H' → H p = none → H' p = some (.lst (qs.map V.ref)) → TuH H' qs fs → (∀ l ∈ fs, FacS l) → (fs.map shpQ).Nodup → degs (fs.map shpQ) ≤ room → Q (.ref p) H'
theorem ok__law_factors_by {f : Addr} {fd : FuncData} (F : Fun K "_law_factors_by" "_law_factors_by" s__law_factors_by f fd) (T : Txt K mg) {f__law_factor_by : Addr} {fd__law_factor_by : FuncData} (C__law_factor_by : Cal P w K mg base 1 "_law_factor_by" ["_law_cell", "_law_most"] spFb f__law_factor_by fd__law_factor_by) {f__law_shape : Addr} {fd__law_shape : FuncData} (C__law_shape : Cal P w K mg base 4 "_law_shape" ["_law_factor"] spShape f__law_shape fd__law_shape) : FnOk P w K mg base CX0 5 f fd ["_law_drawn", "_law_most", "_law_room"] (spFs K) := by
  obtain ⟨G__law_factor_by, m__law_factor_by, k__law_factor_by, b__law_factor_by⟩ := C__law_factor_by
  obtain ⟨G__law_shape, m__law_shape, k__law_shape, b__law_shape⟩ := C__law_shape
  refine F.ok sc__law_factors_by (fun vs H Q E h => ?_) (fun cdv A outer s H vs Q E hr h => ?_)
  · obtain ⟨a, ns, room, rfl, _⟩ := h
    rfl
  · obtain ⟨a, ns, room, rfl, hA, hn, k⟩ := h
    have big := sizeLine_eq
    have hu2 : (A.deeper (PyProof.Rows.envOfC (Str.ofString "_law_factors_by") (defScope s__law_factors_by) s.heap.objs.size f cdv)).units + 66 < cLine := by have := hr.un; omega
    refine ⟨_, (pss_cons (ps_set (i := 3) sc__law_factors_by.nd rfl (Or.inl rfl) (pe_lst pa_nil))
      (pss_cons (ps_set (i := 4) sc__law_factors_by.nd rfl (Or.inl rfl) (pe_lst pa_nil))
      (pss_cons (ps_for PassesOwn.never rfl (pi_listK (K := K) rfl (pv 0)) (pg_name (i := 5) sc__law_factors_by.nd rfl (Or.inl rfl))
        (pss_cons (ps_set (i := 6) sc__law_factors_by.nd rfl (Or.inl rfl) (pe_call G__law_factor_by (hr.mono (by decide)) rfl m__law_factor_by k__law_factor_by b__law_factor_by .nil pass0 (pa_cons (pv 5) (pa_cons (pv 1) pa_nil))))
          (pss_cons (ps_set (i := 7) sc__law_factors_by.nd rfl (Or.inl rfl) (pe_call G__law_shape (hr.mono (by decide)) rfl m__law_shape k__law_shape b__law_shape .nil pass0 (pa_cons (pv 6) pa_nil)))
          (pss_one (ps_if (PW.pt (pw_and (pt_cmpR (op_ninLLK (K := K) rfl hu2) (pv 7) (pv 4) (by rfl)) (pw_and1 (pt_cmpR op_le (pe_op op_sub (pe_callB (call_lenK (K := K) rfl) (by rfl) T.len_ PySem.boot_len (pa_cons (pv 7) pa_nil)) pe_int) (pv 2) (nomark _)))))
            (pss_cons (ps_expr (pe_bm PySem.F.plainAttrs_list PySem.F.slot_list_append PySem.F.type_list_append mt_append (pv 3) (pa_cons (pv 6) pa_nil)))
              (pss_cons (ps_expr (pe_bm PySem.F.plainAttrs_list PySem.F.slot_list_append PySem.F.type_list_append mt_append (pv 4) (pa_cons (pv 7) pa_nil)))
              (pss_one (ps_set (i := 2) sc__law_factors_by.nd rfl (Or.inl rfl) (pe_op op_add (pe_op op_sub (pv 2) (pe_callB (call_lenK (K := K) rfl) (by rfl) T.len_ PySem.boot_len (pa_cons (pv 7) pa_nil))) pe_int)))))
            pss_nil)))))
      (pss_one (ps_ret (pv 3)))))), ?_⟩
    refine rd_sa ⟨Nat.zero_le _, fun pm hpm => ?_⟩
    have s1 : Same H (upd H pm (.lst [])) := Same.upd_new hpm
    have q1 : upd H pm (.lst []) pm = some (.lst []) := upd_same
    generalize upd H pm (.lst []) = H1 at s1 q1 ⊢
    refine rd_sa ⟨Nat.zero_le _, fun pz hpz => ?_⟩
    have npz : pm ≠ pz := ne_of_none q1 hpz
    have s2 : Same H (upd H1 pz (.lst [])) := s1.then_new hpz
    have q2 : upd H1 pz (.lst []) pz = some (.lst []) := upd_same
    have q3 : upd H1 pz (.lst []) pm = some (.lst []) := by rw [upd_ne npz]; exact q1
    have hz0 : H pz = none := s1.free hpz
    generalize upd H1 pz (.lst []) = H2 at s2 q2 q3 ⊢
    refine ⟨_, rfl, a, rfl, ⟨_, s2.seq hA⟩, for_list (K := K) (a := a) (xs := ns.map V.int) (fun i σ' H' => ∃ (z5 z6 z7 : Option V) (qs rs : List Addr) (fs : List (List Int)) (left : Nat), σ' = [some (.ref a), some (.int 11), some (.int left), some (.ref pm), some (.ref pz), z5, z6, z7] ∧ Same H H' ∧ H' pm = some (.lst (qs.map V.ref)) ∧ H' pz = some (.lst (rs.map V.ref)) ∧ TuH H' qs fs ∧ RwH H' rs (fs.map shpQ) ∧ (∀ p ∈ rs, p ≠ pm ∧ p ≠ pz) ∧ (∀ l ∈ fs, FacS l) ∧ (fs.map shpQ).Nodup ∧ degs (fs.map shpQ) + left = room ∧ fs.length ≤ i) ⟨none, none, none, [], [], [], room, rfl, s2, q3, q2, TuH.nil, RwH.nil, (fun _ h => nomatch h), (fun _ h => nomatch h), List.nodup_nil, Nat.zero_add _, Nat.le_refl _⟩ ?_ ?_ ?_⟩
    · rintro i σ' H' _ ⟨z5, z6, z7, qs, rs, fs, left, rfl, sm, _⟩
      exact sm.seq hA
    · rintro i x σ' H' hi ⟨z5, z6, z7, qs, rs, fs, left, rfl, sm, eqm, eqz, hT, hR, hno, hF, hnd, hdg, hle⟩
      have hin : i < 100 := by
        have := (List.getElem?_eq_some_iff.mp hi).1
        rw [List.length_map] at this; omega
      obtain ⟨c, _, rfl, _, _⟩ := get_int hi
      refine rd_sa ⟨_, rfl, _, rfl, c, rfl, fun p l hp hl => ?_⟩
      have s3 : Same H' (upd H' p (.tup (l.map V.int))) := Same.upd_new hp
      have e3 : upd H' p (.tup (l.map V.int)) p = some (.tup (l.map V.int)) := upd_same
      generalize upd H' p (.tup (l.map V.int)) = H3 at s3 e3 ⊢
      refine rd_sa ⟨_, rfl, p, l, rfl, e3, hl, fun q H4 s4 hq e4 => ?_⟩
      have t4 := s3.trans s4
      have eqm4 := t4 _ _ eqm
      have eqz4 := t4 _ _ eqz
      have hT4 := hT.same t4
      have hR4 := hR.same t4
      have nqm : q ≠ pm := fun z => by rw [z, s3 _ _ eqm] at hq; cases hq
      have nqz : q ≠ pz := fun z => by rw [z, s3 _ _ eqz] at hq; cases hq
      obtain ⟨g1, g2, g3, g4, g5⟩ := shp_ok hl
      dsimp only
      refine rd_if (rd_and ⟨_, rfl, _, rfl, pz, q, rs, fs.map shpQ, shpQ l, rfl, rfl, e4, SqL.of eqz4, hR4.1, hR4.2, _, rfl, rd_ndec (fun hni => ?_) (fun _ => ?_)⟩)
      · refine ⟨_, rfl, q, _, rfl, .inl (SqL.of e4), _, _, rfl, rfl, _, rfl, _, _, rfl, rfl, _, rfl, rd_dec (fun hlen => ?_) (fun _ => ?_)⟩
        · rw [List.length_map] at hlen
          have hlq : qs.length = fs.length := hT.1
          have hlr : rs.length = fs.length := by have := hR.1; rwa [List.length_map] at this
          refine rd_sd ⟨_, rfl, .inl ⟨rfl, _, SqL.of eqm4⟩, _, rfl, pm, _, _, rfl, rfl, eqm4, by rw [List.length_map]; omega, ?_⟩
          have eqz5 : upd H4 pm (.lst (qs.map V.ref ++ [V.ref p])) pz = some (.lst (rs.map V.ref)) := by rw [upd_ne (Ne.symm npz)]; exact eqz4
          refine rd_sd ⟨_, rfl, .inl ⟨rfl, _, SqL.of eqz5⟩, _, rfl, pz, _, _, rfl, rfl, eqz5, by rw [List.length_map]; omega, ?_⟩
          rw [map_ref_snoc, map_ref_snoc]
          rw [map_ref_snoc] at eqz5
          refine rd_asg ⟨_, rfl, _, rfl, q, _, rfl, .inl (SqL.of (by rw [upd_ne nqz, upd_ne nqm]; exact e4)), _, _, rfl, rfl, _, _, rfl, rfl, ?_⟩
          dsimp only
          rw [List.length_map]
          have hfl : (left : Int) - (shpQ l).length + 1 = ((left - ((shpQ l).length - 1) : Nat) : Int) := by omega
          rw [hfl]
          refine ⟨_, _, _, qs ++ [p], rs ++ [q], fs ++ [l], left - ((shpQ l).length - 1), rfl, mut_same (mut_same (sm.trans t4) hpm) hz0, ?_, upd_same, ?_, ?_, ?_, ?_, ?_, ?_, ?_⟩
          · rw [upd_ne npz, upd_same]
          · exact ((hT4.snoc (s4 _ _ e3)).upd_lst eqm4).upd_lst eqz5
          · rw [show (fs ++ [l]).map shpQ = fs.map shpQ ++ [shpQ l] from by rw [List.map_append]; rfl]
            have hR5 := hR4.snoc e4
            have hno5 : ∀ x ∈ rs ++ [q], x ≠ pm ∧ x ≠ pz := fun x hx => by
              rcases List.mem_append.mp hx with h | h
              · exact hno x h
              · rw [List.mem_singleton.mp h]; exact ⟨nqm, nqz⟩
            exact (hR5.upd_no fun x hx => (hno5 x hx).1).upd_no fun x hx => (hno5 x hx).2
          · intro x hx
            rcases List.mem_append.mp hx with h | h
            · exact hno x h
            · rw [List.mem_singleton.mp h]; exact ⟨nqm, nqz⟩
          · intro x hx
            rcases List.mem_append.mp hx with h | h
            · exact hF x h
            · rw [List.mem_singleton.mp h]; exact hl
          · rw [List.map_append, List.map_cons, List.map_nil]
            refine List.nodup_append.mpr ⟨hnd, by simp, fun x hx y hy => ?_⟩
            rw [List.mem_singleton.mp hy]
            exact fun z => hni (z ▸ hx)
          · rw [List.map_append, List.map_cons, List.map_nil, degs_snoc]; omega
          · rw [List.length_append]; show fs.length + 1 ≤ i + 1; omega
        · exact ⟨_, _, _, qs, rs, fs, left, rfl, sm.trans t4, eqm4, eqz4, hT4, hR4, hno, hF, hnd, hdg, by omega⟩
      · exact rd_false ⟨_, _, _, qs, rs, fs, left, rfl, sm.trans t4, eqm4, eqz4, hT4, hR4, hno, hF, hnd, hdg, by omega⟩
    · rintro σ' H' ⟨z5, z6, z7, qs, rs, fs, left, rfl, sm, eqm, eqz, hT, hR, hno, hF, hnd, hdg, hle⟩
      exact ⟨_, rfl, k pm H' qs fs sm hpm eqm hT hF hnd (by omega)⟩
def spPro : Sp := fun vs H Q _ => ∃ (a : Addr) (qs : List Addr) (fs : List (List Int)), vs = [.ref a] ∧ H a = some (.lst (qs.map V.ref)) ∧ TuH H qs fs ∧ (∀ l ∈ fs, FacS l) ∧ fs.length ≤ 8 ∧ mkL H Q (prodL [1] (fs.map shpQ))
theorem pro_bits {fs : List (List Int)} (hF : ∀ l ∈ fs, FacS l) : ∀ n, n ≤ fs.length → n ≤ 8 → AllB (2 + 30 * n) (prodL [1] ((fs.take n).map shpQ)) ∧ (prodL [1] ((fs.take n).map shpQ)).length ≤ 1 + 2 * n
  | 0, _, _ => ⟨fun x hx => by
      rw [List.take_zero] at hx
      have : x = 1 := by simpa [prodL] using hx
      rw [this]; show (1 : Int).natAbs < 2 ^ 2; decide, by rw [List.take_zero]; decide⟩
  | n + 1, h, h' => by
    obtain ⟨i1, i2⟩ := pro_bits hF n (by omega) (by omega)
    have e : fs.take (n + 1) = fs.take n ++ [fs[n]] := by rw [List.take_add_one, List.getElem?_eq_getElem (by omega)]; rfl
    obtain ⟨g1, g2, g3, g4, g5⟩ := shp_ok (hF fs[n] (List.getElem_mem _))
    rw [e, List.map_append, List.map_cons, List.map_nil, prodL_snoc]
    refine ⟨mulL_bits i1 g3 (by omega), ?_⟩
    unfold mulL
    split
    · exact Nat.zero_le _
    · rw [List.length_map, List.length_range]; omega
theorem ok__law_product {f : Addr} {fd : FuncData} (F : Fun K "_law_product" "_law_product" s__law_product f fd) (T : Txt K mg) {f__law_mul : Addr} {fd__law_mul : FuncData} (C__law_mul : Cal P w K mg base 1 "_law_mul" ["_law_kp", "_law_kq"] spMul f__law_mul fd__law_mul) {f__law_shape : Addr} {fd__law_shape : FuncData} (C__law_shape : Cal P w K mg base 4 "_law_shape" ["_law_factor"] spShape f__law_shape fd__law_shape) : FnOk P w K mg base CX0 5 f fd ["_law_factors"] spPro := by
  obtain ⟨G__law_mul, m__law_mul, k__law_mul, b__law_mul⟩ := C__law_mul
  obtain ⟨G__law_shape, m__law_shape, k__law_shape, b__law_shape⟩ := C__law_shape
  refine F.ok sc__law_product (fun vs H Q E h => ?_) (fun cdv A outer s H vs Q E hr h => ?_)
  · obtain ⟨a, qs, fs, rfl, _⟩ := h
    rfl
  · obtain ⟨a, qs, fs, rfl, hA, hT, hF, hn, k⟩ := h
    refine ⟨_, (pss_cons (ps_set (i := 1) sc__law_product.nd rfl (Or.inl rfl) (pe_lst (pa_cons pe_int pa_nil)))
      (pss_cons (ps_for PassesOwn.never rfl (pi_listK (K := K) rfl (pv 0)) (pg_name (i := 2) sc__law_product.nd rfl (Or.inl rfl))
        (pss_one (ps_set (i := 1) sc__law_product.nd rfl (Or.inl rfl) (pe_call G__law_mul (hr.mono (by decide)) rfl m__law_mul k__law_mul b__law_mul .nil pass0 (pa_cons (pv 1) (pa_cons (pe_call G__law_shape (hr.mono (by decide)) rfl m__law_shape k__law_shape b__law_shape .nil pass0 (pa_cons (pv 2) pa_nil)) pa_nil))))))
      (pss_one (ps_ret (pv 1))))), ?_⟩
    refine rd_sa ⟨by show 1 ≤ sizeLine; decide, fun p0 hp0 => ?_⟩
    have s1 : Same H (upd H p0 (.lst [V.int 1])) := Same.upd_new hp0
    have q1 : upd H p0 (.lst [V.int 1]) p0 = some (.lst (([1] : List Int).map V.int)) := upd_same
    generalize upd H p0 (.lst [V.int 1]) = H1 at s1 q1 ⊢
    have hpl : (qs.map V.ref).length = fs.length := by rw [List.length_map, hT.1]
    refine ⟨_, rfl, a, rfl, ⟨_, SqL.of (s1 _ _ hA)⟩, for_list (K := K) (a := a) (xs := qs.map V.ref) (fun i σ' H' => ∃ (z2 : Option V) (p : Addr), σ' = [some (.ref a), some (.ref p), z2] ∧ Same H H' ∧ H p = none ∧ H' p = some (.lst ((prodL [1] ((fs.take i).map shpQ)).map V.int))) ⟨none, p0, rfl, s1, hp0, q1⟩ ?_ ?_ ?_⟩
    · rintro i σ' H' _ ⟨z2, p, rfl, sm, _⟩
      exact SqL.of (sm _ _ hA)
    · rintro i x σ' H' hi ⟨z2, p, rfl, sm, hp, ep⟩
      obtain ⟨q, l, rfl, eq, el, hq, hlt⟩ := (hT.same sm).of_get hi
      have hl := hF l (List.mem_of_getElem? el)
      obtain ⟨g1, g2, g3, g4, g5⟩ := shp_ok hl
      obtain ⟨i1, i2⟩ := pro_bits hF i (by omega) (by omega)
      refine ⟨_, rfl, _, rfl, q, l, rfl, hq, hl, fun r H3 s3 hr3 e3 => ?_⟩
      refine ⟨p, r, prodL [1] ((fs.take i).map shpQ), shpQ l, rfl, s3 _ _ ep, e3, by omega, by omega, i1.mono (by omega), g3.mono (by decide), fun r2 H4 s4 hr4 e4 => ?_⟩
      have t4 := sm.trans (s3.trans s4)
      refine ⟨_, r2, rfl, t4, (sm.trans s3).free hr4, ?_⟩
      rw [e4, List.take_add_one, el]
      show _ = some (HO.lst ((prodL [1] ((fs.take i ++ [l]).map shpQ)).map V.int))
      rw [List.map_append, List.map_cons, List.map_nil, prodL_snoc]
    · rintro σ' H' ⟨z2, p, rfl, sm, hp, ep⟩
      rw [hpl, List.take_length] at ep
      exact ⟨_, rfl, k p H' sm hp ep⟩
--SPLIT
def SpB (l : List Int) : Prop := ∃ u e b s : Int, l = [u, e, b, s] ∧ -11 ≤ u ∧ u ≤ 11 ∧ 0 ≤ e ∧ e < 36 ∧ 1 ≤ b ∧ b ≤ 3
def spSure : Sp := fun vs H Q _ => ∃ sq due : Int, vs = [.int sq, .int due] ∧ Bits 400000 due ∧ Q (.int (sureI sq due)) H
theorem ok__law_sure {f : Addr} {fd : FuncData} (F : Fun K "_law_sure" "_law_sure" s__law_sure f fd) (T : Txt K mg) : FnOk P w K mg base CX0 1 f fd ["_law_square", "_law_due"] spSure := by
  refine F.ok sc__law_sure (fun vs H Q E h => ?_) (fun cdv A outer s H vs Q E hr h => ?_)
  · obtain ⟨sq, due, rfl, _⟩ := h
    rfl
  · obtain ⟨sq, due, rfl, hb, k⟩ := h
    refine ⟨_, (pss_cons (ps_if (PW.pt (pw_or (pt_cmpR op_lt (pv 1) pe_int (nomark _)) (pw_or1 (pt_cmpR op_gt (pv 0) (pe_op op_mulB (pv 1) (pv 1)) (nomark _)))))
        (pss_one (ps_ret pe_int))
        pss_nil)
      (pss_one (ps_ret (pe_op op_sub pe_int (pe_callTy call_int1 (by rfl) T.int_ PyProof.Rows.boot_int (pa_cons (pe_cmpR op_lt (pv 0) (pe_op op_mulB (pv 1) (pv 1)) (nomark _)) pa_nil)))))), ?_⟩
    refine rd_cutIf (fun σ' H' => σ' = [some (.int sq), some (.int due)] ∧ H = H' ∧ ¬ (due < 0 ∨ due * due < sq)) ?_ ?_
    case refine_2 =>
      intro rest
      refine rd_or ⟨_, rfl, _, _, rfl, rfl, _, rfl, rd_dec (fun h1 => ?_) (fun h1 => ?_)⟩
      · refine rd_true ?_
        unfold sureI at k
        rw [if_pos (.inl h1)] at k
        exact k
      · refine ⟨_, rfl, _, rfl, _, rfl, _, _, rfl, rfl, ⟨hb.mono (by decide), hb.mono (by decide)⟩, _, _, rfl, rfl, _, rfl, rd_dec (fun h2 => ?_) (fun h2 => ?_)⟩
        · unfold sureI at k
          rw [if_pos (.inr h2)] at k
          exact k
        · exact rest _ _ ⟨rfl, rfl, fun z => z.elim h1 h2⟩
    rintro σ' H' ⟨rfl, rfl, hn⟩
    refine rd_ret ⟨_, rfl, _, rfl, _, rfl, _, _, rfl, rfl, ⟨hb.mono (by decide), hb.mono (by decide)⟩, _, _, rfl, rfl, .inr ⟨_, rfl, _, _, rfl, rfl, ?_⟩⟩
    unfold sureI at k
    rw [if_neg hn] at k
    by_cases h3 : sq < due * due
    · rw [if_pos h3] at k
      rw [decide_eq_true h3]; exact k
    · rw [if_neg h3] at k
      rw [decide_eq_false h3]; exact k
def spSide : Sp := fun vs H Q _ => ∃ (p : Addr) (l : List Int) (t n : Int), vs = [.ref p, .int t, .int n] ∧ H p = some (.tup (l.map V.int)) ∧ SpB l ∧ Bits 100000 t ∧ Bits 100000 n ∧ Q (.int (sideG l t n)) H
theorem ok__law_side {f : Addr} {fd : FuncData} (F : Fun K "_law_side" "_law_side" s__law_side f fd) (T : Txt K mg) {f__law_sure : Addr} {fd__law_sure : FuncData} (C__law_sure : Cal P w K mg base 1 "_law_sure" ["_law_square", "_law_due"] spSure f__law_sure fd__law_sure) : FnOk P w K mg base CX0 2 f fd ["_law_spot", "_law_top", "_law_bottom"] spSide := by
  obtain ⟨G__law_sure, m__law_sure, k__law_sure, b__law_sure⟩ := C__law_sure
  refine F.ok sc__law_side (fun vs H Q E h => ?_) (fun cdv A outer s H vs Q E hr h => ?_)
  · obtain ⟨p, l, t, n, rfl, _⟩ := h
    rfl
  · obtain ⟨p, l, t, n, rfl, hP, ⟨u, e, b, s, rfl, h1, h2, h3, h4, h5, h6⟩, bt, bn, k⟩ := h
    have bu : Bits 6 u := by show u.natAbs < 64; omega
    have bb : Bits 6 b := by show b.natAbs < 64; omega
    have be : Bits 6 e := by show e.natAbs < 64; omega
    have bd : Bits 100007 (b * t - u * n) := Bits.sub (k := 100006) ((bb.mul bt).mono (by decide)) ((bu.mul bn).mono (by decide))
    refine ⟨_, (pss_cons (ps_set (i := 3) sc__law_side.nd rfl (Or.inl rfl) (pe_op op_sub (pe_op op_mulB (pe_ix (ix_tupK (K := K) rfl) (pv 0) pe_int (fun _ _ => rfl)) (pv 1)) (pe_op op_mulB (pe_ix (ix_tupK (K := K) rfl) (pv 0) pe_int (fun _ _ => rfl)) (pv 2))))
      (pss_cons (ps_set (i := 4) sc__law_side.nd rfl (Or.inl rfl) (pe_op op_mulB (pe_op op_mulB (pe_ix (ix_tupK (K := K) rfl) (pv 0) pe_int (fun _ _ => rfl)) (pv 2)) (pv 2)))
      (pss_cons (ps_if (pt_cmpR op_gt (pe_ix (ix_tupK (K := K) rfl) (pv 0) pe_int (fun _ _ => rfl)) pe_int (nomark _))
        (pss_one (ps_ret (pe_call G__law_sure (hr.mono (by decide)) rfl m__law_sure k__law_sure b__law_sure .nil pass0 (pa_cons (pv 4) (pa_cons (pv 3) pa_nil)))))
        pss_nil)
      (pss_one (ps_ret (pe_op op_sub pe_int (pe_call G__law_sure (hr.mono (by decide)) rfl m__law_sure k__law_sure b__law_sure .nil pass0 (pa_cons (pv 4) (pa_cons (pe_op op_sub pe_int (pv 3)) pa_nil))))))))), ?_⟩
    refine rd_sa ⟨_, rfl, p, _, _, _, rfl, rfl, SqT.of hP, rfl, _, rfl, _, _, rfl, rfl, ⟨bb.mono (by decide), bt.mono (by decide)⟩, _, rfl, p, _, _, _, rfl, rfl, SqT.of hP, rfl, _, rfl, _, _, rfl, rfl, ⟨bu.mono (by decide), bn.mono (by decide)⟩, _, _, rfl, rfl, ?_⟩
    refine rd_sa ⟨_, rfl, p, _, _, _, rfl, rfl, SqT.of hP, rfl, _, rfl, _, _, rfl, rfl, ⟨be.mono (by decide), bn.mono (by decide)⟩, _, rfl, _, _, rfl, rfl, ⟨(be.mul bn).mono (by decide), bn.mono (by decide)⟩, ?_⟩
    refine rd_sr ⟨_, rfl, p, _, _, _, rfl, rfl, SqT.of hP, rfl, _, _, rfl, rfl, _, rfl, rd_dec (fun hs => ?_) (fun hs => ?_)⟩
    · refine ⟨_, rfl, _, rfl, _, _, rfl, bd.mono (by decide), ?_⟩
      have hs' : 0 < cf [u, e, b, s] 3 := hs
      unfold sideG at k
      rw [if_pos hs'] at k
      exact k
    · have hs' : ¬ 0 < cf [u, e, b, s] 3 := hs
      refine rd_ret ⟨_, rfl, _, rfl, _, _, rfl, rfl, _, _, rfl, ?_, _, _, rfl, rfl, ?_⟩
      · have := bd.neg
        rw [← Int.zero_sub] at this
        exact this.mono (by decide)
      unfold sideG at k
      rw [if_neg hs'] at k
      exact k
theorem facS_spB {f l : List Int} (h : FacS f) (hl : l ∈ spF f) : SpB l := by
  obtain ⟨u, e, b, rfl, h1, h2, h3, h4, h5, h6, h7⟩ := h
  obtain ⟨_, s, rfl, he, _⟩ := spf_spt rfl h5 hl
  exact ⟨u, e, b, s, rfl, h1, h2, he, h4, h5, h6⟩
theorem spots_B {fs : List (List Int)} (hF : ∀ f ∈ fs, FacS f) : ∀ l ∈ spots fs, SpB l := fun l hl => by
  obtain ⟨f, hf, hm⟩ := List.mem_flatMap.mp hl
  exact facS_spB (hF f hf) hm
theorem spF_len (f : List Int) : (spF f).length ≤ 2 := by
  unfold spF
  split <;> split <;> simp
theorem spots_len : ∀ fs : List (List Int), (spots fs).length ≤ 2 * fs.length
  | [] => Nat.le_refl _
  | f :: fs => by
    have e1 : spots (f :: fs) = spF f ++ spots fs := by unfold spots; rw [List.flatMap_cons]
    have h1 := spF_len f
    have h2 := spots_len fs
    rw [e1, List.length_append, List.length_cons]; omega
theorem spots_take {fs : List (List Int)} {i : Nat} {f : List Int} (h : fs[i]? = some f) : spots (fs.take (i + 1)) = spots (fs.take i) ++ spF f := by
  unfold spots
  rw [List.take_add_one, h, List.flatMap_append]
  show _ ++ List.flatMap spF [f] = _
  rw [List.flatMap_singleton]
def spRo : Sp := fun vs H Q _ => ∃ (a : Addr) (qs : List Addr) (fs : List (List Int)), vs = [.ref a] ∧ H a = some (.lst (qs.map V.ref)) ∧ TuH H qs fs ∧ (∀ l ∈ fs, FacS l) ∧ fs.length ≤ 100 ∧ ∀ (p : Addr) (H' : Hp) (ws : List Addr), Same H H' → H p = none → H' p = some (.lst (ws.map V.ref)) → TuH H' ws (spots fs) → Q (.ref p) H'
theorem ok__law_roots_of {f : Addr} {fd : FuncData} (F : Fun K "_law_roots_of" "_law_roots_of" s__law_roots_of f fd) (T : Txt K mg) : FnOk P w K mg base CX0 1 f fd ["_law_factors"] spRo := by
  refine F.ok sc__law_roots_of (fun vs H Q E h => ?_) (fun cdv A outer s H vs Q E hr h => ?_)
  · obtain ⟨a, qs, fs, rfl, _⟩ := h
    rfl
  · obtain ⟨a, qs, fs, rfl, hA, hT, hF, hn, k⟩ := h
    have big := sizeLine_eq
    refine ⟨_, (pss_cons (ps_set (i := 1) sc__law_roots_of.nd rfl (Or.inl rfl) (pe_lst pa_nil))
      (pss_cons (ps_for PassesOwn.never rfl (pi_listK (K := K) rfl (pv 0)) (pg_name (i := 2) sc__law_roots_of.nd rfl (Or.inl rfl))
        (pss_cons (ps_if (pt_cmpR op_ge (pe_ix (ix_tupK (K := K) rfl) (pv 2) pe_int (fun _ _ => rfl)) pe_int (nomark _))
            (pss_one (ps_expr (pe_bm PySem.F.plainAttrs_list PySem.F.slot_list_append PySem.F.type_list_append mt_append (pv 1) (pa_cons (pe_tup (pa_cons (pe_ix (ix_tupK (K := K) rfl) (pv 2) pe_int (fun _ _ => rfl)) (pa_cons (pe_ix (ix_tupK (K := K) rfl) (pv 2) pe_int (fun _ _ => rfl)) (pa_cons (pe_ix (ix_tupK (K := K) rfl) (pv 2) pe_int (fun _ _ => rfl)) (pa_cons pe_int pa_nil))))) pa_nil))))
            pss_nil)
          (pss_one (ps_if (pt_cmpR op_gt (pe_ix (ix_tupK (K := K) rfl) (pv 2) pe_int (fun _ _ => rfl)) pe_int (nomark _))
            (pss_one (ps_expr (pe_bm PySem.F.plainAttrs_list PySem.F.slot_list_append PySem.F.type_list_append mt_append (pv 1) (pa_cons (pe_tup (pa_cons (pe_ix (ix_tupK (K := K) rfl) (pv 2) pe_int (fun _ _ => rfl)) (pa_cons (pe_ix (ix_tupK (K := K) rfl) (pv 2) pe_int (fun _ _ => rfl)) (pa_cons (pe_ix (ix_tupK (K := K) rfl) (pv 2) pe_int (fun _ _ => rfl)) (pa_cons (pe_un un_neg pe_int) pa_nil))))) pa_nil))))
            pss_nil))))
      (pss_one (ps_ret (pv 1))))), ?_⟩
    refine rd_sa ⟨Nat.zero_le _, fun pm hpm => ?_⟩
    have s1 : Same H (upd H pm (.lst [])) := Same.upd_new hpm
    have q1 : upd H pm (.lst []) pm = some (.lst []) := upd_same
    generalize upd H pm (.lst []) = H1 at s1 q1 ⊢
    have hpl : (qs.map V.ref).length = fs.length := by rw [List.length_map, hT.1]
    refine ⟨_, rfl, a, rfl, ⟨_, SqL.of (s1 _ _ hA)⟩, for_list (K := K) (a := a) (xs := qs.map V.ref) (fun i σ' H' => ∃ (z2 : Option V) (ws : List Addr), σ' = [some (.ref a), some (.ref pm), z2] ∧ Same H H' ∧ H' pm = some (.lst (ws.map V.ref)) ∧ TuH H' ws (spots (fs.take i))) ⟨none, [], rfl, s1, q1, TuH.nil⟩ ?_ ?_ ?_⟩
    · rintro i σ' H' _ ⟨z2, ws, rfl, sm, _⟩
      exact SqL.of (sm _ _ hA)
    · rintro i x σ' H' hi ⟨z2, ws, rfl, sm, em, hW⟩
      obtain ⟨q, l, rfl, eq, el, hq, hlt⟩ := (hT.same sm).of_get hi
      have hmem := List.mem_of_getElem? el
      obtain ⟨u, e, b, rfl, h1, h2, h3, h4, h5, h6, h7⟩ := hF l hmem
      have hd : spF [u, e, b] = (if 0 ≤ e then [[u, e, b, 1]] else []) ++ (if 0 < e then [[u, e, b, -1]] else []) := rfl
      have hwl : ws.length ≤ 200 := by
        rw [hW.1]
        have := spots_len (fs.take i)
        rw [List.length_take] at this
        omega
      rw [spots_take el, hd]
      dsimp only
      refine rd_cutIf (fun σ' H' => ∃ (ws : List Addr), σ' = [some (.ref a), some (.ref pm), some (.ref q)] ∧ Same H H' ∧ H' pm = some (.lst (ws.map V.ref)) ∧ TuH H' ws (spots (fs.take i) ++ (if 0 ≤ e then [[u, e, b, 1]] else [])) ∧ ws.length ≤ 201) ?_ ?_
      case refine_2 =>
        intro rest
        refine ⟨_, rfl, q, _, _, _, rfl, rfl, SqT.of hq, rfl, _, _, rfl, rfl, _, rfl, rd_dec (fun h0 => ?_) (fun h0 => ?_)⟩
        · have h0' : 0 ≤ e := h0
          refine rd_drop ⟨_, rfl, .inl ⟨rfl, _, SqL.of em⟩, _, rfl, q, _, _, _, rfl, rfl, SqT.of hq, rfl, _, rfl, q, _, _, _, rfl, rfl, SqT.of hq, rfl, _, rfl, q, _, _, _, rfl, rfl, SqT.of hq, rfl, by show 4 ≤ sizeLine; decide, fun p hp => ?_⟩
          have s3 : Same H' (upd H' p (.tup ([u, e, b, 1].map V.int))) := Same.upd_new hp
          have e3 : upd H' p (.tup ([u, e, b, 1].map V.int)) p = some (.tup ([u, e, b, 1].map V.int)) := upd_same
          have em3 := s3 _ _ em
          refine ⟨pm, _, _, rfl, rfl, em3, by rw [List.length_map]; omega, ?_⟩
          refine rest _ _ ⟨ws ++ [p], rfl, mut_same (sm.trans s3) hpm, by rw [upd_same, map_ref_snoc], ?_, by rw [List.length_append]; show ws.length + 1 ≤ _; omega⟩
          rw [if_pos h0']
          exact ((hW.same s3).snoc e3).upd_lst em3
        · have h0' : ¬ 0 ≤ e := h0
          refine rest _ _ ⟨ws, rfl, sm, em, ?_, by omega⟩
          rw [if_neg h0', List.append_nil]; exact hW
      clear em hW hwl ws sm hq
      rintro σ' H3 ⟨ws, rfl, sm, em, hW, hwl⟩
      obtain ⟨q', l', ee, eq', el', hq, _⟩ := (hT.same sm).of_get hi
      rw [eq] at eq'
      rw [el] at el'
      obtain rfl := Option.some.inj eq'
      obtain rfl := Option.some.inj el'
      refine rd_if ⟨_, rfl, q, _, _, _, rfl, rfl, SqT.of hq, rfl, _, _, rfl, rfl, _, rfl, rd_dec (fun h0 => ?_) (fun h0 => ?_)⟩
      · have h0' : 0 < e := h0
        refine rd_drop ⟨_, rfl, .inl ⟨rfl, _, SqL.of em⟩, _, rfl, q, _, _, _, rfl, rfl, SqT.of hq, rfl, _, rfl, q, _, _, _, rfl, rfl, SqT.of hq, rfl, _, rfl, q, _, _, _, rfl, rfl, SqT.of hq, rfl, _, rfl, by show 4 ≤ sizeLine; decide, fun p hp => ?_⟩
        have s3 : Same H3 (upd H3 p (.tup ([u, e, b, -1].map V.int))) := Same.upd_new hp
        have e3 : upd H3 p (.tup ([u, e, b, -1].map V.int)) p = some (.tup ([u, e, b, -1].map V.int)) := upd_same
        have em3 := s3 _ _ em
        refine ⟨pm, _, _, rfl, rfl, em3, by rw [List.length_map]; omega, ?_⟩
        refine ⟨_, ws ++ [p], rfl, mut_same (sm.trans s3) hpm, by rw [upd_same, map_ref_snoc], ?_⟩
        rw [if_pos h0', ← List.append_assoc]
        exact ((hW.same s3).snoc e3).upd_lst em3
      · have h0' : ¬ 0 < e := h0
        refine ⟨_, ws, rfl, sm, em, ?_⟩
        rw [if_neg h0', List.append_nil]; exact hW
    · rintro σ' H' ⟨z2, ws, rfl, sm, em, hW⟩
      rw [hpl, List.take_length] at hW
      exact ⟨_, rfl, k pm H' ws sm hpm em hW⟩
/-- a span: three numbers -/
def spAmid : Sp := fun vs H Q _ => ∃ (a s : Addr) (ws : List Addr) (ls : List (List Int)) (A B D : Int), vs = [.ref a, .ref s] ∧ H a = some (.lst (ws.map V.ref)) ∧ TuH H ws ls ∧ (∀ l ∈ ls, SpB l) ∧ ls.length ≤ 1000 ∧ H s = some (.tup ([A, B, D].map V.int)) ∧ Bits 90000 A ∧ Bits 90000 B ∧ Bits 90000 D ∧
  ∀ (p : Addr) (H' : Hp) (ws' : List Addr), Same H H' → H p = none → H' p = some (.lst (ws'.map V.ref)) → TuH H' ws' (amid ls A B D) → Q (.ref p) H'
theorem amid_take {ls : List (List Int)} {i : Nat} {l : List Int} {A B D : Int} (h : ls[i]? = some l) : amid (ls.take (i + 1)) A B D = amid (ls.take i) A B D ++ (if inS l A B D then [l] else []) := by
  unfold amid
  rw [List.take_add_one, h, List.filter_append]
  congr 1
  by_cases z : inS l A B D
  · rw [if_pos z]; show List.filter _ [l] = _; rw [List.filter_cons_of_pos (p := fun l => decide (inS l A B D)) (decide_eq_true z)]; rfl
  · rw [if_neg z]; show List.filter _ [l] = _; rw [List.filter_cons_of_neg (p := fun l => decide (inS l A B D)) (by simpa using z)]; rfl
theorem ok__law_amid {f : Addr} {fd : FuncData} (F : Fun K "_law_amid" "_law_amid" s__law_amid f fd) (T : Txt K mg) {f__law_side : Addr} {fd__law_side : FuncData} (C__law_side : Cal P w K mg base 2 "_law_side" ["_law_spot", "_law_top", "_law_bottom"] spSide f__law_side fd__law_side) : FnOk P w K mg base CX0 3 f fd ["_law_spots", "_law_span_here"] spAmid := by
  obtain ⟨G__law_side, m__law_side, k__law_side, b__law_side⟩ := C__law_side
  refine F.ok sc__law_amid (fun vs H Q E h => ?_) (fun cdv A outer s H vs Q E hr h => ?_)
  · obtain ⟨a, s, ws, ls, A, B, D, rfl, _⟩ := h
    rfl
  · obtain ⟨a, s, ws, ls, A', B, D, rfl, hA, hT, hF, hn, hS, bA, bB, bD, k⟩ := h
    have big := sizeLine_eq
    refine ⟨_, (pss_cons (ps_set (i := 2) sc__law_amid.nd rfl (Or.inl rfl) (pe_lst pa_nil))
      (pss_cons (ps_for PassesOwn.never rfl (pi_listK (K := K) rfl (pv 0)) (pg_name (i := 3) sc__law_amid.nd rfl (Or.inl rfl))
        (pss_one (ps_if (PW.pt (pw_and (pt_cmpR op_gt (pe_call G__law_side (hr.mono (by decide)) rfl m__law_side k__law_side b__law_side .nil pass0 (pa_cons (pv 3) (pa_cons (pe_ix (ix_tupK (K := K) rfl) (pv 1) pe_int (fun _ _ => rfl)) (pa_cons (pe_ix (ix_tupK (K := K) rfl) (pv 1) pe_int (fun _ _ => rfl)) pa_nil)))) pe_int (nomark _)) (pw_and1 (pt_cmpR op_le (pe_call G__law_side (hr.mono (by decide)) rfl m__law_side k__law_side b__law_side .nil pass0 (pa_cons (pv 3) (pa_cons (pe_ix (ix_tupK (K := K) rfl) (pv 1) pe_int (fun _ _ => rfl)) (pa_cons (pe_ix (ix_tupK (K := K) rfl) (pv 1) pe_int (fun _ _ => rfl)) pa_nil)))) pe_int (nomark _)))))
            (pss_one (ps_expr (pe_bm PySem.F.plainAttrs_list PySem.F.slot_list_append PySem.F.type_list_append mt_append (pv 2) (pa_cons (pv 3) pa_nil))))
            pss_nil)))
      (pss_one (ps_ret (pv 2))))), ?_⟩
    refine rd_sa ⟨Nat.zero_le _, fun pm hpm => ?_⟩
    have s1 : Same H (upd H pm (.lst [])) := Same.upd_new hpm
    have q1 : upd H pm (.lst []) pm = some (.lst []) := upd_same
    generalize upd H pm (.lst []) = H1 at s1 q1 ⊢
    have hpl : (ws.map V.ref).length = ls.length := by rw [List.length_map, hT.1]
    refine ⟨_, rfl, a, rfl, ⟨_, SqL.of (s1 _ _ hA)⟩, for_list (K := K) (a := a) (xs := ws.map V.ref) (fun i σ' H' => ∃ (z2 : Option V) (vs : List Addr), σ' = [some (.ref a), some (.ref s), some (.ref pm), z2] ∧ Same H H' ∧ H' pm = some (.lst (vs.map V.ref)) ∧ TuH H' vs (amid (ls.take i) A' B D)) ⟨none, [], rfl, s1, q1, TuH.nil⟩ ?_ ?_ ?_⟩
    · rintro i σ' H' _ ⟨z2, vs, rfl, sm, _⟩
      exact SqL.of (sm _ _ hA)
    · rintro i x σ' H' hi ⟨z2, vs, rfl, sm, em, hW⟩
      obtain ⟨q, l, rfl, eq, el, hq, hlt⟩ := (hT.same sm).of_get hi
      have hmem := List.mem_of_getElem? el
      have hS' := sm _ _ hS
      have hvl : vs.length ≤ 1000 := by
        rw [hW.1]
        have h1 : (amid (ls.take i) A' B D).length ≤ (ls.take i).length := List.length_filter_le _ _
        rw [List.length_take] at h1
        omega
      rw [amid_take el]
      dsimp only
      refine rd_if (rd_and ⟨_, rfl, _, rfl, s, _, _, _, rfl, rfl, SqT.of hS', rfl, _, rfl, s, _, _, _, rfl, rfl, SqT.of hS', rfl, q, l, A', D, rfl, hq, hF l hmem, bA.mono (by decide), bD.mono (by decide), _, _, rfl, rfl, _, rfl, rd_dec (fun h0 => ?_) (fun h0 => ?_)⟩)
      · refine ⟨_, rfl, _, rfl, s, _, _, _, rfl, rfl, SqT.of hS', rfl, _, rfl, s, _, _, _, rfl, rfl, SqT.of hS', rfl, q, l, B, D, rfl, hq, hF l hmem, bB.mono (by decide), bD.mono (by decide), _, _, rfl, rfl, _, rfl, rd_dec (fun h1 => ?_) (fun h1 => ?_)⟩
        · have hin : inS l A' B D := ⟨h0, h1⟩
          refine rd_drop ⟨_, rfl, .inl ⟨rfl, _, SqL.of em⟩, _, rfl, pm, _, _, rfl, rfl, em, by rw [List.length_map]; omega, ?_⟩
          refine ⟨_, vs ++ [q], rfl, mut_same sm hpm, by rw [upd_same, map_ref_snoc], ?_⟩
          rw [if_pos hin]
          exact (hW.snoc hq).upd_lst em
        · refine ⟨_, vs, rfl, sm, em, ?_⟩
          rw [if_neg (fun z => h1 z.2), List.append_nil]; exact hW
      · refine rd_false ⟨_, vs, rfl, sm, em, ?_⟩
        rw [if_neg (fun z => h0 z.1), List.append_nil]; exact hW
    · rintro σ' H' ⟨z2, vs, rfl, sm, em, hW⟩
      rw [hpl, List.take_length] at hW
      exact ⟨_, rfl, k pm H' vs sm hpm em hW⟩
def halfS (l : List Int) (A B D : Int) : List Int := if sideG l (A + B) (2 * D) ≤ 0 then [2 * A, A + B, 2 * D] else [A + B, 2 * B, 2 * D]
def spHalf : Sp := fun vs H Q _ => ∃ (s q : Addr) (l : List Int) (A B D : Int), vs = [.ref s, .ref q] ∧ H q = some (.tup (l.map V.int)) ∧ SpB l ∧ H s = some (.tup ([A, B, D].map V.int)) ∧ Bits 90000 A ∧ Bits 90000 B ∧ Bits 90000 D ∧
  ∀ (p : Addr), H p = none → Q (.ref p) (upd H p (.tup ((halfS l A B D).map V.int)))
theorem ok__law_half {f : Addr} {fd : FuncData} (F : Fun K "_law_half" "_law_half" s__law_half f fd) (T : Txt K mg) {f__law_side : Addr} {fd__law_side : FuncData} (C__law_side : Cal P w K mg base 2 "_law_side" ["_law_spot", "_law_top", "_law_bottom"] spSide f__law_side fd__law_side) : FnOk P w K mg base CX0 3 f fd ["_law_span_here", "_law_spot"] spHalf := by
  obtain ⟨G__law_side, m__law_side, k__law_side, b__law_side⟩ := C__law_side
  refine F.ok sc__law_half (fun vs H Q E h => ?_) (fun cdv A outer s H vs Q E hr h => ?_)
  · obtain ⟨s, q, l, A, B, D, rfl, _⟩ := h
    rfl
  · obtain ⟨s, q, l, A', B, D, rfl, hq, hF, hS, bA, bB, bD, k⟩ := h
    refine ⟨_, (pss_cons (ps_set (i := 2) sc__law_half.nd rfl (Or.inl rfl) (pe_op op_add (pe_ix (ix_tupK (K := K) rfl) (pv 0) pe_int (fun _ _ => rfl)) (pe_ix (ix_tupK (K := K) rfl) (pv 0) pe_int (fun _ _ => rfl))))
      (pss_cons (ps_if (pt_cmpR op_le (pe_call G__law_side (hr.mono (by decide)) rfl m__law_side k__law_side b__law_side .nil pass0 (pa_cons (pv 1) (pa_cons (pv 2) (pa_cons (pe_op op_mulB pe_int (pe_ix (ix_tupK (K := K) rfl) (pv 0) pe_int (fun _ _ => rfl))) pa_nil)))) pe_int (nomark _))
        (pss_one (ps_ret (pe_tup (pa_cons (pe_op op_mulB pe_int (pe_ix (ix_tupK (K := K) rfl) (pv 0) pe_int (fun _ _ => rfl))) (pa_cons (pv 2) (pa_cons (pe_op op_mulB pe_int (pe_ix (ix_tupK (K := K) rfl) (pv 0) pe_int (fun _ _ => rfl))) pa_nil))))))
        pss_nil)
      (pss_one (ps_ret (pe_tup (pa_cons (pv 2) (pa_cons (pe_op op_mulB pe_int (pe_ix (ix_tupK (K := K) rfl) (pv 0) pe_int (fun _ _ => rfl))) (pa_cons (pe_op op_mulB pe_int (pe_ix (ix_tupK (K := K) rfl) (pv 0) pe_int (fun _ _ => rfl))) pa_nil)))))))), ?_⟩
    have b2 : Bits 2 (2 : Int) := by show (2 : Int).natAbs < 2 ^ 2; decide
    refine rd_sa ⟨_, rfl, s, _, _, _, rfl, rfl, SqT.of hS, rfl, _, rfl, s, _, _, _, rfl, rfl, SqT.of hS, rfl, _, _, rfl, rfl, ?_⟩
    refine rd_sr ⟨_, rfl, _, rfl, _, rfl, s, _, _, _, rfl, rfl, SqT.of hS, rfl, _, _, rfl, rfl, ⟨b2.mono (by decide), bD.mono (by decide)⟩, q, l, A' + B, 2 * D, rfl, hq, hF, Bits.mono (bA.add bB) (by decide), (b2.mul bD).mono (by decide), _, _, rfl, rfl, _, rfl, rd_dec (fun h0 => ?_) (fun h0 => ?_)⟩
    · unfold halfS at k
      rw [if_pos h0] at k
      exact ⟨_, rfl, s, _, _, _, rfl, rfl, SqT.of hS, rfl, _, _, rfl, rfl, ⟨b2.mono (by decide), bA.mono (by decide)⟩, _, rfl, _, rfl, s, _, _, _, rfl, rfl, SqT.of hS, rfl, _, _, rfl, rfl, ⟨b2.mono (by decide), bD.mono (by decide)⟩, by show 3 ≤ sizeLine; decide, k⟩
    · unfold halfS at k
      rw [if_neg h0] at k
      exact ⟨_, rfl, _, rfl, s, _, _, _, rfl, rfl, SqT.of hS, rfl, _, _, rfl, rfl, ⟨b2.mono (by decide), bB.mono (by decide)⟩, _, rfl, s, _, _, _, rfl, rfl, SqT.of hS, rfl, _, _, rfl, rfl, ⟨b2.mono (by decide), bD.mono (by decide)⟩, by show 3 ≤ sizeLine; decide, k⟩
--SPLIT
def spRa (C : Addr) : Sp := fun vs H Q _ => ∃ (r : Addr) (t b : Int), vs = [.ref r] ∧ RA C H r t b ∧ 0 < b ∧ Nat.gcd t.natAbs b.natAbs = 1 ∧ Q (.bl true) H
theorem ok__law_is_ratio {C f : Addr} {fd : FuncData} (F : Fun K "_law_is_ratio" "_law_is_ratio" s__law_is_ratio f fd) (T : Txt K mg) (R : RCI K mg C) {f__law_whole : Addr} {fd__law_whole : FuncData} (C__law_whole : Cal P w K mg base 1 "_law_whole" ["_law_found"] spWhole f__law_whole fd__law_whole) {f__law_gcd : Addr} {fd__law_gcd : FuncData} (C__law_gcd : Cal P w K mg base 1 "_law_gcd" ["_law_a", "_law_b"] sp2 f__law_gcd fd__law_gcd) : FnOk P w K mg base CX0 2 f fd ["_law_found"] (spRa C) := by
  obtain ⟨G__law_whole, m__law_whole, k__law_whole, b__law_whole⟩ := C__law_whole
  obtain ⟨G__law_gcd, m__law_gcd, k__law_gcd, b__law_gcd⟩ := C__law_gcd
  refine F.ok sc__law_is_ratio (fun vs H Q E h => ?_) (fun cdv A outer s H vs Q E hr h => ?_)
  · obtain ⟨r, t, b, rfl, _⟩ := h
    rfl
  · obtain ⟨p, t, b, rfl, ⟨dx, hp⟩, hb, hg, k⟩ := h
    refine ⟨_, (pss_cons (ps_if (PW.pt (pw_or (pt_not (pt_val (pe_callB (call_isinstK (K := K) rfl) (by rfl) T.isinstance_ PyProof.Rows.boot_isinstance (pa_cons (pv 0) (pa_cons (pe_glob (v := .ref C) rfl R.mg rfl) pa_nil))))) (pw_or (pt_not (pt_val (pe_call G__law_whole (hr.mono (by decide)) rfl m__law_whole k__law_whole b__law_whole .nil pass0 (pa_cons (pe_fldK (K := K) rfl (pv 0) rfl) pa_nil)))) (pw_or1 (pt_not (pt_val (pe_call G__law_whole (hr.mono (by decide)) rfl m__law_whole k__law_whole b__law_whole .nil pass0 (pa_cons (pe_fldK (K := K) rfl (pv 0) rfl) pa_nil))))))))
        (pss_one (ps_ret pe_bl))
        pss_nil)
      (pss_one (ps_ret (pe_and (pe_cmpR op_gt (pe_fldK (K := K) rfl (pv 0) rfl) pe_int (nomark _)) (pe_one (pe_cmpR op_eqI (pe_call G__law_gcd (hr.mono (by decide)) rfl m__law_gcd k__law_gcd b__law_gcd .nil pass0 (pa_cons (pe_fldK (K := K) rfl (pv 0) rfl) (pa_cons (pe_fldK (K := K) rfl (pv 0) rfl) pa_nil))) pe_int (nomark _))))))), ?_⟩
    refine rd_sr (rd_or (rd_not (rd_B (rd_isI ⟨_, rfl, isI_ref (.ins hp R.cl R.ha R.hn R.ht R.hm) (k := true) (by unfold PySem.W.kitOne; rw [if_pos (by simp)]) ⟨_, rfl, rd_false ?_⟩⟩))))
    refine rd_or (rd_not ⟨_, rfl, p, C, dx, _, _, rfl, hp, R.cl, R.nT, flds_top _ _, _, rfl, _, rfl, rd_false ?_⟩)
    refine rd_not ⟨_, rfl, p, C, dx, _, _, rfl, hp, R.cl, R.nB, flds_bottom _ _, _, rfl, _, rfl, rd_false ?_⟩
    refine rd_ret (rd_andV ⟨_, rfl, p, C, dx, _, _, rfl, hp, R.cl, R.nB, flds_bottom _ _, _, _, rfl, rfl, _, rfl, ?_⟩)
    rw [decide_eq_true (show b > 0 from hb)]
    refine rd_true ⟨_, rfl, p, C, dx, _, _, rfl, hp, R.cl, R.nT, flds_top _ _, _, rfl, p, C, dx, _, _, rfl, hp, R.cl, R.nB, flds_bottom _ _, t, b, rfl, ?_⟩
    rw [hg]
    exact ⟨_, _, rfl, rfl, k⟩
theorem small9 {k : Int} (h0 : 0 ≤ k) (h : k < 2 ^ 12) : Bits 9000 k := Bits.mono (j := 12) (by show k.natAbs < 2 ^ 12; omega) (by decide)
/-! the sign of the product about one of its roots -/
theorem spr_same {t n t' n' : Int} : ∀ {ls : List (List Int)}, (∀ l ∈ ls, sideG l t n = sideG l t' n') → spr t n ls = spr t' n' ls
  | [], _ => rfl
  | l :: ls, h => by
    show -sideG l t n * spr t n ls = -sideG l t' n' * spr t' n' ls
    rw [h l (List.mem_cons_self ..), spr_same fun x hx => h x (List.mem_cons_of_mem _ hx)]
theorem spr_unit {t n : Int} : ∀ {ls : List (List Int)}, (∀ l ∈ ls, sideG l t n ≠ 0) → spr t n ls = 1 ∨ spr t n ls = -1
  | [], _ => .inl rfl
  | l :: ls, h => by
    have h1 := h l (List.mem_cons_self ..)
    have h2 := spr_unit (ls := ls) fun x hx => h x (List.mem_cons_of_mem _ hx)
    show -sideG l t n * spr t n ls = 1 ∨ -sideG l t n * spr t n ls = -1
    rcases side_cases l t n with z | z | z
    · rw [z]; omega
    · exact absurd z h1
    · rw [z]; omega
theorem side_up {l : List Int} (hl : Spt l) {t n t' n' : Int} (hn : 0 < n) (hn' : 0 < n') (h : t * n' ≤ t' * n) (hs : 0 < sideG l t' n') : 0 < sideG l t n := by
  rcases Int.lt_or_le 0 (sideG l t n) with z | z
  · exact z
  · exfalso
    rcases Int.lt_or_eq_of_le h with y | y
    · have := side_less hl hn hn' y z; omega
    · rw [side_cross l hn hn' y] at z; omega
/-- those not in the span keep their side within it -/
theorem side_keep {l : List Int} (hl : Spt l) {l1 l2 h1 h2 x1 x2 : Int} (l2p : 0 < l2) (h2p : 0 < h2) (x2p : 0 < x2) (lt : l1 * h2 < h1 * l2) (hno : ¬ (0 < sideG l l1 l2 ∧ sideG l h1 h2 ≤ 0)) (hx : l1 * x2 < x1 * l2) (hx' : x1 * h2 ≤ h1 * x2) : sideG l x1 x2 = sideG l h1 h2 ∧ sideG l h1 h2 ≠ 0 := by
  rcases Int.lt_or_le 0 (sideG l l1 l2) with z | z
  · have h3 : 0 < sideG l h1 h2 := by
      rcases Int.lt_or_le 0 (sideG l h1 h2) with y | y
      · exact y
      · exact absurd ⟨z, y⟩ hno
    have h4 := side_up hl x2p h2p hx' h3
    rcases side_cases l x1 x2 with y | y | y <;> rcases side_cases l h1 h2 with w | w | w <;> omega
  · have e1 := side_less hl l2p x2p hx z
    have e2 := side_less hl l2p h2p lt z
    omega
theorem root_of {fs pre post : List (List Int)} {s : List Int} {c l1 l2 h1 h2 : Int} (hF : ∀ f ∈ fs, FacQ f) (hc : c ≠ 0) (hsp : spots fs = pre ++ s :: post) (l2p : 0 < l2) (h2p : 0 < h2) (lt : l1 * h2 < h1 * l2) (hin : 0 < sideG s l1 l2 ∧ sideG s h1 h2 ≤ 0) (hno : ∀ x ∈ pre ++ post, ¬ (0 < sideG x l1 l2 ∧ sideG x h1 h2 ≤ 0)) :
    ∃ ε, RootU (mulL [c] (prodL [1] (fs.map shpQ))) l1 l2 h1 h2 ε (fun x1 x2 => 0 < sideG s x1 x2) := by
  have hS : ∀ x ∈ spots fs, Spt x := fun x hx => spots_spt hF hx
  have hs : Spt s := hS s (by rw [hsp]; simp)
  have ho : ∀ x ∈ pre ++ post, Spt x := fun x hx => hS x (by rw [hsp]; simp at hx ⊢; rcases hx with h | h <;> simp [h])
  have val : ∀ x1 x2, 0 < x2 → l1 * x2 < x1 * l2 → x1 * h2 ≤ h1 * x2 → sg (hv x1 x2 (mulL [c] (prodL [1] (fs.map shpQ)))) = sg c * spr h1 h2 (pre ++ post) * -sideG s x1 x2 := fun x1 x2 x2p a b => by
    rw [prod_sign x2p hF, hsp, spr_app]
    show sg c * (spr x1 x2 pre * (-sideG s x1 x2 * spr x1 x2 post)) = _
    have e : spr x1 x2 (pre ++ post) = spr h1 h2 (pre ++ post) := spr_same fun y hy => (side_keep (ho y hy) l2p h2p x2p lt (hno y hy) a b).1
    rw [← e, spr_app]; grind
  have hu := spr_unit (t := h1) (n := h2) (ls := pre ++ post) fun y hy => (side_keep (ho y hy) l2p h2p h2p lt (hno y hy) lt (Int.le_refl _)).2
  have hsg : sg c = 1 ∨ sg c = -1 := by
    rcases Int.lt_or_gt_of_ne hc with z | z
    · right; unfold sg; rw [if_pos z]
    · left; unfold sg; rw [if_neg (by omega), if_pos z]
  have e1 : sg c * spr h1 h2 (pre ++ post) = 1 ∨ sg c * spr h1 h2 (pre ++ post) = -1 := by
    rcases hsg with z | z <;> rcases hu with y | y <;> rw [z, y] <;> decide
  generalize sg c * spr h1 h2 (pre ++ post) = ε at val e1
  refine ⟨ε, e1, fun x1 x2 x2p a b hU => ?_, fun x1 x2 x2p a b hU => ?_, fun x1 x2 y1 y2 x2p y2p a b hU hlt => ?_, fun x1 x2 y1 y2 x2p y2p e hU => ?_, hin.1, fun z => ?_⟩
  · rw [val x1 x2 x2p a b]
    rcases side_cases s x1 x2 with z | z | z
    · rw [z]; omega
    · rw [z] at hU; exact absurd hU (by decide)
    · rw [z] at hU; exact absurd hU (by decide)
  · rw [val x1 x2 x2p a b]
    rcases side_cases s x1 x2 with z | z | z
    · exact absurd (show 0 < sideG s x1 x2 by omega) hU
    · rw [z]; right; omega
    · rw [z]; left; omega
  · have hU' : sideG s x1 x2 ≤ 0 := Int.not_lt.mp hU
    have z := side_less hs x2p y2p hlt hU'
    have a' : l1 * y2 < y1 * l2 := by
      refine cancel_lt x2p ?_
      have q1 := Int.mul_lt_mul_of_pos_right a y2p
      have q2 := Int.mul_lt_mul_of_pos_right hlt l2p
      have e2 : l1 * y2 * x2 = l1 * x2 * y2 := by grind
      have e3 : x1 * l2 * y2 = x1 * y2 * l2 := by grind
      have e4 : y1 * l2 * x2 = y1 * x2 * l2 := by grind
      omega
    rw [val y1 y2 y2p a' b, z]; omega
  · show 0 < sideG s y1 y2
    rw [← side_cross s x2p y2p e]; exact hU
  · have z' : 0 < sideG s h1 h2 := z
    omega
/-! the law's own defs -/
def spSame (C : Addr) : Sp := fun vs H Q _ => ∃ (r : Addr) (x1 x2 t n : Int), vs = [.ref r, .int t, .int n] ∧ RA C H r x1 x2 ∧ 0 < x2 ∧ Nat.gcd x1.natAbs x2.natAbs = 1 ∧ x1 * n = x2 * t ∧ Bits 90000 x1 ∧ Bits 90000 x2 ∧ Bits 90000 t ∧ Bits 90000 n ∧ Q (.bl true) H
theorem ok__law_same {C f : Addr} {fd : FuncData} (F : Fun K "_law_same" "_law_same" s__law_same f fd) (T : Txt K mg) (R : RCI K mg C) {f__law_is_ratio : Addr} {fd__law_is_ratio : FuncData} (C__law_is_ratio : Cal P w K mg base 2 "_law_is_ratio" ["_law_found"] (spRa C) f__law_is_ratio fd__law_is_ratio) : FnOk P w K mg base CX0 3 f fd ["_law_found", "_law_top", "_law_bottom"] (spSame C) := by
  obtain ⟨G__law_is_ratio, m__law_is_ratio, k__law_is_ratio, b__law_is_ratio⟩ := C__law_is_ratio
  refine F.ok sc__law_same (fun vs H Q E h => ?_) (fun cdv A outer s H vs Q E hr h => ?_)
  · obtain ⟨r, x1, x2, t, n, rfl, _⟩ := h
    rfl
  · obtain ⟨r, x1, x2, t, n, rfl, hR, x2p, hg, he, b1, b2, b3, b4, k⟩ := h
    refine ⟨_, (pss_one (ps_ret (pe_and (pe_call G__law_is_ratio (hr.mono (by decide)) rfl m__law_is_ratio k__law_is_ratio b__law_is_ratio .nil pass0 (pa_cons (pv 0) pa_nil)) (pe_one (pe_cmpR op_eqI (pe_op op_mulB (pe_fldK (K := K) rfl (pv 0) rfl) (pv 2)) (pe_op op_mulB (pe_fldK (K := K) rfl (pv 0) rfl) (pv 1)) (nomark _)))))), ?_⟩
    obtain ⟨dx, hp⟩ := id hR
    refine rd_ret (rd_andV ⟨_, rfl, r, x1, x2, rfl, hR, x2p, hg, _, rfl, rd_true ?_⟩)
    refine ⟨_, rfl, r, C, dx, _, _, rfl, hp, R.cl, R.nT, flds_top _ _, _, rfl, _, _, rfl, rfl, ⟨b1.mono (by decide), b4.mono (by decide)⟩, _, rfl, r, C, dx, _, _, rfl, hp, R.cl, R.nB, flds_bottom _ _, _, rfl, _, _, rfl, rfl, ⟨b2.mono (by decide), b3.mono (by decide)⟩, _, _, rfl, rfl, ?_⟩
    exact rd_eqT he k
def spEnd : Sp := fun vs H Q _ => ∃ (c : Int) (a : Addr) (qs : List Addr) (fs : List (List Int)), vs = [.int c, .ref a] ∧ H a = some (.lst (qs.map V.ref)) ∧ TuH H qs fs ∧ (∀ l ∈ fs, FacS l) ∧ fs.length ≤ 100 ∧ (∃ f ∈ fs, cf f 1 = 0) ∧
  ∀ (p : Addr) (H' : Hp) (x y : Int), Same H H' → H p = none → H' p = some (.tup ([x, y].map V.int)) → -30 ≤ x → x ≤ 30 → 1 ≤ y → y ≤ 9 → Q (.ref p) H'
theorem ok__law_end {f : Addr} {fd : FuncData} (F : Fun K "_law_end" "_law_end" s__law_end f fd) (T : Txt K mg) {f__law_within : Addr} {fd__law_within : FuncData} (C__law_within : Cal P w K mg base 1 "_law_within" ["_law_cell", "_law_most"] spSigned f__law_within fd__law_within) : FnOk P w K mg base CX0 2 f fd ["_law_cell", "_law_factors"] spEnd := by
  obtain ⟨G__law_within, m__law_within, k__law_within, b__law_within⟩ := C__law_within
  refine F.ok sc__law_end (fun vs H Q E h => ?_) (fun cdv A outer s H vs Q E hr h => ?_)
  · obtain ⟨c, a, qs, fs, rfl, _⟩ := h
    rfl
  · obtain ⟨c, a, qs, fs, rfl, hA, hT, hF, hn, hex, k⟩ := h
    have big := sizeLine_eq
    refine ⟨_, (pss_cons (ps_setCompT (i := 2) sc__law_end.nd rfl (Or.inl rfl) (own := ["_law_one"]) (fr := []) (js := []) (by walk_at "comp_ok") rfl (pi_listK (K := K) rfl (pv 1)) (fun _ _ _ _ => (pg_name (i := 0) (show List.Nodup (["_law_one"] : List Str) from by decide +kernel) rfl (Or.inl rfl))) (fun _ _ _ _ => (pv 0)) (fun _ _ _ _ => (pt_cmpR op_eqI (pe_ix (ix_tupK (K := K) rfl) (pv 0) pe_int (fun _ _ => rfl)) pe_int (nomark _))) (by rfl))
      (pss_cons (ps_if (pt_cmpR op_lt (pe_op op_modP (pv 0) pe_int) pe_int (nomark _))
        (pss_cons (ps_set (i := 3) sc__law_end.nd rfl (Or.inl rfl) (pe_ix (ix_listK (K := K) rfl) (pv 2) (pe_op op_modP (pe_op op_fdivP (pv 0) pe_int) (pe_callB (call_lenK (K := K) rfl) (by rfl) T.len_ PySem.boot_len (pa_cons (pv 2) pa_nil))) (fun _ _ => rfl)))
          (pss_one (ps_ret (pe_tup (pa_cons (pe_ix (ix_tupK (K := K) rfl) (pv 3) pe_int (fun _ _ => rfl)) (pa_cons (pe_ix (ix_tupK (K := K) rfl) (pv 3) pe_int (fun _ _ => rfl)) pa_nil))))))
        pss_nil)
      (pss_one (ps_ret (pe_tup (pa_cons (pe_call G__law_within (hr.mono (by decide)) rfl m__law_within k__law_within b__law_within .nil pass0 (pa_cons (pe_op op_fdivP (pv 0) pe_int) (pa_cons pe_int pa_nil))) (pa_cons (pe_op op_add pe_int (pe_op op_modP (pe_op op_modP (pe_op op_mul (pv 0) pe_int) pe_int) pe_int)) pa_nil))))))), ?_⟩
    have hpl : (qs.map V.ref).length = fs.length := by rw [List.length_map, hT.1]
    refine rd_seq ⟨_, rfl, a, rfl, ⟨_, SqL.of hA⟩, comp_listT (K := K) (a := a) (xs := qs.map V.ref) (fun i ys σ' H' => ∃ (z0 : Option V) (rs : List Addr), σ' = [z0] ∧ ys = rs.map V.ref ∧ rs.length ≤ i ∧ TuH H rs ((fs.take i).filter fun f => decide (cf f 1 = 0)) ∧ H = H') (by omega) ⟨none, [], rfl, rfl, Nat.le_refl _, TuH.nil, rfl⟩ ?_ ?_ ?_⟩
    · rintro i ys σ' H' _ ⟨z0, rs, rfl, rfl, hl, _, rfl⟩
      exact ⟨SqL.of hA, by rw [List.length_map]; exact hl⟩
    · rintro i x ys σ' H' hi ⟨z0, rs, rfl, rfl, hl, hT', rfl⟩
      obtain ⟨q, l, rfl, eq, el, hq, hlt⟩ := hT.of_get hi
      obtain ⟨u, e, b, rfl, h1, h2, h3, h4, h5, h6, h7⟩ := hF l (List.mem_of_getElem? el)
      have et : (fs.take (i + 1)).filter (fun f => decide (cf f 1 = 0)) = (fs.take i).filter (fun f => decide (cf f 1 = 0)) ++ (if e = 0 then [[u, e, b]] else []) := by
        rw [List.take_add_one, el, List.filter_append]
        congr 1
        show List.filter _ [[u, e, b]] = _
        by_cases z : e = 0
        · rw [if_pos z, List.filter_cons_of_pos (p := fun f => decide (cf f 1 = 0)) (decide_eq_true (show cf [u, e, b] 1 = 0 from z))]; rfl
        · rw [if_neg z, List.filter_cons_of_neg (p := fun f => decide (cf f 1 = 0)) (by simpa using (show ¬ cf [u, e, b] 1 = 0 from z))]; rfl
      refine ⟨_, rfl, q, _, _, _, rfl, rfl, SqT.of hq, rfl, _, _, rfl, rfl, _, rfl, rd_dec (fun h0 => ?_) (fun h0 => ?_)⟩
      · have h0' : e = 0 := h0
        rw [if_pos h0'] at et
        refine ⟨_, rfl, _, rs ++ [q], rfl, by rw [List.map_append]; rfl, by rw [List.length_append]; show rs.length + 1 ≤ i + 1; omega, ?_, rfl⟩
        rw [et]; exact hT'.snoc hq
      · have h0' : ¬ e = 0 := h0
        rw [if_neg h0', List.append_nil] at et
        refine ⟨_, rs, rfl, rfl, by omega, ?_, rfl⟩
        rw [et]; exact hT'
    rintro ys σ' H' pk ⟨z0, rs, rfl, rfl, hl, hT', rfl⟩ hpk
    rw [hpl, List.take_length] at hT'
    have s1 : Same H (upd H pk (.lst (rs.map V.ref))) := Same.upd_new hpk
    have ek : upd H pk (.lst (rs.map V.ref)) pk = some (.lst (rs.map V.ref)) := upd_same
    generalize upd H pk (.lst (rs.map V.ref)) = H1 at s1 ek ⊢
    refine rd_name ?_
    dsimp only
    have hk0 : 0 < rs.length := by
      obtain ⟨f, hf, e0⟩ := hex
      rw [hT'.1]
      exact List.length_pos_of_mem (List.mem_filter.mpr ⟨hf, decide_eq_true e0⟩)
    have hrl : (rs.map V.ref).length = rs.length := List.length_map _
    refine rd_sr ⟨_, rfl, _, _, rfl, rfl, (by show (0 : Int) < 3; decide), _, _, rfl, rfl, _, rfl, rd_dec (fun _ => ?_) (fun _ => ?_)⟩
    · obtain ⟨v, hv', ev⟩ := atI_mod (xs := rs.map V.ref) (n := ((rs.map V.ref).length : Int)) rfl (by rw [hrl]; omega) (c / 3)
      obtain ⟨q, hq, rfl⟩ := List.mem_map.mp hv'
      obtain ⟨i, hi, ei⟩ := List.mem_iff_getElem.mp hq
      have hi2 : i < ((fs.filter fun f => decide (cf f 1 = 0))).length := by rw [← hT'.1]; exact hi
      have hqH := hT'.2 i q _ (by rw [List.getElem?_eq_getElem hi, ei]) (List.getElem?_eq_getElem hi2)
      have hmem := (List.mem_filter.mp (List.getElem_mem hi2)).1
      generalize (fs.filter fun f => decide (cf f 1 = 0))[i] = l at hqH hmem
      obtain ⟨u, e, b, rfl, h1, h2, h3, h4, h5, h6, h7⟩ := hF l hmem
      have hq1 := s1 _ _ hqH
      refine rd_sa ⟨_, rfl, _, rfl, _, _, rfl, rfl, ⟨by show (0 : Int) < 3; decide, small9 (by decide) (by decide)⟩, _, rfl, pk, _, rfl, .inl (SqL.of ek), _, _, rfl, rfl, (by show (0 : Int) < _; rw [hrl]; omega), pk, _, _, _, rfl, rfl, SqL.of ek, ev, ?_⟩
      refine rd_ret ⟨_, rfl, q, _, _, _, rfl, rfl, SqT.of hq1, rfl, _, rfl, q, _, _, _, rfl, rfl, SqT.of hq1, rfl, by show 2 ≤ sizeLine; decide, fun p hp => ?_⟩
      exact k p _ u b (s1.then_new hp) (s1.free hp) upd_same (by omega) (by omega) h5 (by omega)
    · have b30' : Bits 1000 (30 : Int) := Bits.mono (j := 6) (by show (30 : Int).natAbs < 2 ^ 6; decide) (by decide)
      refine rd_ret ⟨_, rfl, _, _, rfl, rfl, ⟨by show (0 : Int) < 3; decide, small9 (by decide) (by decide)⟩, _, 30, rfl, by decide, b30', _, rfl, _, _, rfl, rfl, .inr ⟨by decide, by decide⟩, _, _, rfl, rfl, (by show (0 : Int) < 10007; decide), _, _, rfl, rfl, (by show (0 : Int) < 9; decide), _, _, rfl, rfl, by show 2 ≤ sizeLine; decide, fun p hp => ?_⟩
      obtain ⟨q1, q2⟩ := mod3 (x := c / 3) (m := 2 * 30 + 1) (by decide)
      obtain ⟨q3, q4⟩ := mod3 (x := c * 48271 % 10007) (m := 9) (by decide)
      refine k p _ (c / 3 % (2 * 30 + 1) - 30) (1 + c * 48271 % 10007 % 9) (s1.then_new hp) (s1.free hp) upd_same ?_ ?_ ?_ ?_
      all_goals omega
theorem half_in {l : List Int} {A B D : Int} (hD : 0 < D) (hw : 0 < B - A) (h : inS l A B D) : ∃ A' B' : Int, halfS l A B D = [A', B', 2 * D] ∧ B' - A' = B - A ∧ inS l A' B' (2 * D) ∧ 2 * A ≤ A' ∧ B' ≤ 2 * B ∧ (A' = 2 * A ∨ A' = 2 * A + (B - A)) := by
  have e1 : sideG l (2 * A) (2 * D) = sideG l A D := side_scale l (by decide)
  have e2 : sideG l (2 * B) (2 * D) = sideG l B D := side_scale l (by decide)
  unfold halfS
  by_cases z : sideG l (A + B) (2 * D) ≤ 0
  · rw [if_pos z]
    exact ⟨2 * A, A + B, rfl, by omega, ⟨by rw [e1]; exact h.1, z⟩, by omega, by omega, .inl rfl⟩
  · rw [if_neg z]
    exact ⟨A + B, 2 * B, rfl, by omega, ⟨by omega, by rw [e2]; exact h.2⟩, by omega, by omega, .inr (by omega)⟩
def spSpan (K : PySem.W.Frag) : Sp := fun vs H Q _ => ∃ (a pf po : Addr) (ns : List Int) (qs ws : List Addr) (fs : List (List Int)), vs = [.ref a, .ref pf, .ref po] ∧ SqL K H a (ns.map V.int) ∧ H pf = some (.lst (qs.map V.ref)) ∧ TuH H qs fs ∧ (∀ l ∈ fs, FacS l) ∧ fs.length ≤ 100 ∧ (∃ f ∈ fs, cf f 1 = 0) ∧ (fs.map shpQ).Nodup ∧ H po = some (.lst (ws.map V.ref)) ∧ TuH H ws (spots fs) ∧
  ∀ (p : Addr) (H' : Hp) (A B D : Int), Same H H' → H p = none → H' p = some (.tup ([A, B, D].map V.int)) → A < B → 0 < D → (amid (spots fs) A B D).length = 1 → Bits 60 A → Bits 60 B → Bits 60 D → Q (.ref p) H'
theorem ok__law_span {f : Addr} {fd : FuncData} (F : Fun K "_law_span" "_law_span" s__law_span f fd) (T : Txt K mg) {f__law_end : Addr} {fd__law_end : FuncData} (C__law_end : Cal P w K mg base 2 "_law_end" ["_law_cell", "_law_factors"] spEnd f__law_end fd__law_end) {f__law_cell_at : Addr} {fd__law_cell_at : FuncData} (C__law_cell_at : Cal P w K mg base 1 "_law_cell_at" ["_law_script", "_law_k"] (spCell K) f__law_cell_at fd__law_cell_at) {f__law_amid : Addr} {fd__law_amid : FuncData} (C__law_amid : Cal P w K mg base 3 "_law_amid" ["_law_spots", "_law_span_here"] spAmid f__law_amid fd__law_amid) {f__law_half : Addr} {fd__law_half : FuncData} (C__law_half : Cal P w K mg base 3 "_law_half" ["_law_span_here", "_law_spot"] spHalf f__law_half fd__law_half) : FnOk P w K mg base CX0 4 f fd ["_law_script", "_law_factors", "_law_spots"] (spSpan K) := by
  obtain ⟨G__law_end, m__law_end, k__law_end, b__law_end⟩ := C__law_end
  obtain ⟨G__law_cell_at, m__law_cell_at, k__law_cell_at, b__law_cell_at⟩ := C__law_cell_at
  obtain ⟨G__law_amid, m__law_amid, k__law_amid, b__law_amid⟩ := C__law_amid
  obtain ⟨G__law_half, m__law_half, k__law_half, b__law_half⟩ := C__law_half
  refine F.ok sc__law_span (fun vs H Q E h => ?_) (fun cdv A outer s H vs Q E hr h => ?_)
  · obtain ⟨a, pf, po, ns, qs, ws, fs, rfl, _⟩ := h
    rfl
  · obtain ⟨a, pf, po, ns, qs, ws, fs, rfl, hS, hPf, hT, hF, hn, hex, hnd, hPo, hW, k⟩ := h
    refine ⟨_, (pss_cons (ps_set (i := 3) sc__law_span.nd rfl (Or.inl rfl) (pe_call G__law_end (hr.mono (by decide)) rfl m__law_end k__law_end b__law_end .nil pass0 (pa_cons (pe_call G__law_cell_at (hr.mono (by decide)) rfl m__law_cell_at k__law_cell_at b__law_cell_at .nil pass0 (pa_cons (pv 0) (pa_cons pe_int pa_nil))) (pa_cons (pv 1) pa_nil))))
      (pss_cons (ps_set (i := 4) sc__law_span.nd rfl (Or.inl rfl) (pe_call G__law_end (hr.mono (by decide)) rfl m__law_end k__law_end b__law_end .nil pass0 (pa_cons (pe_call G__law_cell_at (hr.mono (by decide)) rfl m__law_cell_at k__law_cell_at b__law_cell_at .nil pass0 (pa_cons (pv 0) (pa_cons pe_int pa_nil))) (pa_cons (pv 1) pa_nil))))
      (pss_cons (ps_set (i := 5) sc__law_span.nd rfl (Or.inl rfl) (pe_tup (pa_cons (pe_op op_mulB (pe_ix (ix_tupK (K := K) rfl) (pv 3) pe_int (fun _ _ => rfl)) (pe_ix (ix_tupK (K := K) rfl) (pv 4) pe_int (fun _ _ => rfl))) (pa_cons (pe_op op_mulB (pe_ix (ix_tupK (K := K) rfl) (pv 4) pe_int (fun _ _ => rfl)) (pe_ix (ix_tupK (K := K) rfl) (pv 3) pe_int (fun _ _ => rfl))) (pa_cons (pe_op op_mulB (pe_ix (ix_tupK (K := K) rfl) (pv 3) pe_int (fun _ _ => rfl)) (pe_ix (ix_tupK (K := K) rfl) (pv 4) pe_int (fun _ _ => rfl))) pa_nil)))))
      (pss_cons (ps_if (PW.pt (pw_and (pt_cmpR op_lt (pe_ix (ix_tupK (K := K) rfl) (pv 5) pe_int (fun _ _ => rfl)) (pe_ix (ix_tupK (K := K) rfl) (pv 5) pe_int (fun _ _ => rfl)) (nomark _)) (pw_and1 (pt_cmpR op_eqI (pe_callB (call_lenK (K := K) rfl) (by rfl) T.len_ PySem.boot_len (pa_cons (pe_call G__law_amid (hr.mono (by decide)) rfl m__law_amid k__law_amid b__law_amid .nil pass0 (pa_cons (pv 2) (pa_cons (pv 5) pa_nil))) pa_nil)) pe_int (nomark _)))))
        (pss_one (ps_ret (pv 5)))
        pss_nil)
      (pss_cons (ps_set (i := 5) sc__law_span.nd rfl (Or.inl rfl) (pe_tup (pa_cons (pe_un un_neg pe_int) (pa_cons pe_int (pa_cons pe_int pa_nil)))))
      (pss_cons (ps_set (i := 6) sc__law_span.nd rfl (Or.inl rfl) (pe_ix (ix_listK (K := K) rfl) (pv 2) (pe_op op_modP (pe_call G__law_cell_at (hr.mono (by decide)) rfl m__law_cell_at k__law_cell_at b__law_cell_at .nil pass0 (pa_cons (pv 0) (pa_cons pe_int pa_nil))) (pe_callB (call_lenK (K := K) rfl) (by rfl) T.len_ PySem.boot_len (pa_cons (pv 2) pa_nil))) (fun _ _ => rfl)))
      (pss_cons (ps_while PassesOwn.never (pt_cmpR op_neI (pe_callB (call_lenK (K := K) rfl) (by rfl) T.len_ PySem.boot_len (pa_cons (pe_call G__law_amid (hr.mono (by decide)) rfl m__law_amid k__law_amid b__law_amid .nil pass0 (pa_cons (pv 2) (pa_cons (pv 5) pa_nil))) pa_nil)) pe_int (nomark _))
        (pss_one (ps_set (i := 5) sc__law_span.nd rfl (Or.inl rfl) (pe_call G__law_half (hr.mono (by decide)) rfl m__law_half k__law_half b__law_half .nil pass0 (pa_cons (pv 5) (pa_cons (pv 6) pa_nil))))))
      (pss_one (ps_ret (pv 5)))))))))), ?_⟩
    have hsB := spots_B hF
    have hsl : (spots fs).length ≤ 200 := by have := spots_len fs; omega
    refine rd_sa ⟨_, rfl, a, ns, 2, rfl, hS, _, rfl, _, pf, qs, fs, rfl, hPf, hT, hF, hn, hex, fun p1 H1 x y s1 hp1 e1 x1 x2 y1 y2 => ?_⟩
    refine rd_sa ⟨_, rfl, a, ns, 3, rfl, s1.seq hS, _, rfl, _, pf, qs, fs, rfl, s1 _ _ hPf, hT.same s1, hF, hn, hex, fun p2 H2 x' y' s2 hp2 e2 x1' x2' y1' y2' => ?_⟩
    have t2 := s1.trans s2
    have e1' := s2 _ _ e1
    have bx : Bits 6 x := by show x.natAbs < 64; omega
    have by' : Bits 6 y := by show y.natAbs < 64; omega
    have bx' : Bits 6 x' := by show x'.natAbs < 64; omega
    have byy : Bits 6 y' := by show y'.natAbs < 64; omega
    refine rd_sa ⟨_, rfl, p1, _, _, _, rfl, rfl, SqT.of e1', rfl, _, rfl, p2, _, _, _, rfl, rfl, SqT.of e2, rfl, _, _, rfl, rfl, ⟨bx.mono (by decide), byy.mono (by decide)⟩, _, rfl, p2, _, _, _, rfl, rfl, SqT.of e2, rfl, _, rfl, p1, _, _, _, rfl, rfl, SqT.of e1', rfl, _, _, rfl, rfl, ⟨bx'.mono (by decide), by'.mono (by decide)⟩, _, rfl, p1, _, _, _, rfl, rfl, SqT.of e1', rfl, _, rfl, p2, _, _, _, rfl, rfl, SqT.of e2, rfl, _, _, rfl, rfl, ⟨by'.mono (by decide), byy.mono (by decide)⟩, by show 3 ≤ sizeLine; decide, fun p3 hp3 => ?_⟩
    have s3 : Same H2 (upd H2 p3 (.tup ([x * y', x' * y, y * y'].map V.int))) := Same.upd_new hp3
    have e3 : upd H2 p3 (.tup ([x * y', x' * y, y * y'].map V.int)) p3 = some (.tup ([x * y', x' * y, y * y'].map V.int)) := upd_same
    show tSeq _ _ _ _ _
    refine rd_gen (fun σ' H' => H' = upd H2 p3 (.tup ([x * y', x' * y, y * y'].map V.int)) ∧ σ' = [some (.ref a), some (.ref pf), some (.ref po), some (.ref p1), some (.ref p2), some (.ref p3), none]) ⟨rfl, rfl⟩ ?_
    rintro σ' H3 ⟨h3, rfl⟩
    rw [← h3] at s3 e3
    have t3 := t2.trans s3
    have bA : Bits 60 (x * y') := (bx.mul byy).mono (by decide)
    have bB : Bits 60 (x' * y) := (bx'.mul by').mono (by decide)
    have bD : Bits 60 (y * y') := (by'.mul byy).mono (by decide)
    have hD0 : 0 < y * y' := Int.mul_pos (by omega) (by omega)
    have f3 : H p3 = none := t2.free hp3
    clear h3
    generalize x * y' = A0 at *
    generalize x' * y = B0 at *
    generalize y * y' = D0 at *
    refine rd_cutIf (fun σ' H' => σ' = [some (.ref a), some (.ref pf), some (.ref po), some (.ref p1), some (.ref p2), some (.ref p3), none] ∧ Same H H') ?_ ?_
    case refine_2 =>
      intro rest
      refine rd_and ⟨_, rfl, p3, _, _, _, rfl, rfl, SqT.of e3, rfl, _, rfl, p3, _, _, _, rfl, rfl, SqT.of e3, rfl, _, _, rfl, rfl, _, rfl, rd_dec (fun hlt => ?_) (fun _ => ?_)⟩
      · refine ⟨_, rfl, _, rfl, po, p3, ws, spots fs, A0, B0, D0, rfl, t3 _ _ hPo, hW.same t3, hsB, by omega, e3, bA.mono (by decide), bB.mono (by decide), bD.mono (by decide), fun p4 H4 vs s4 hp4 e4 hV => ?_⟩
        refine ⟨p4, _, rfl, .inl (SqL.of e4), _, _, rfl, rfl, _, rfl, rd_dec (fun h1 => ?_) (fun _ => ?_)⟩
        · refine rd_ret ⟨_, rfl, k p3 H4 A0 B0 D0 (t3.trans s4) f3 (s4 _ _ e3) hlt hD0 ?_ bA bB bD⟩
          have h1' : ((vs.map V.ref).length : Int) = 1 := h1
          rw [List.length_map, hV.1] at h1'
          omega
        · exact rest _ _ ⟨rfl, t3.trans s4⟩
      · exact rd_false (rest _ _ ⟨rfl, t3⟩)
    clear t3 s3 e3
    rintro σ' H4 ⟨rfl, t4⟩
    refine rd_sa ⟨_, rfl, by show 3 ≤ sizeLine; decide, fun p5 hp5 => ?_⟩
    have s5 : Same H4 (upd H4 p5 (.tup ([-64, 64, 1].map V.int))) := Same.upd_new hp5
    have e5 : upd H4 p5 (.tup ([-64, 64, 1].map V.int)) p5 = some (.tup ([-64, 64, 1].map V.int)) := upd_same
    show tSeq _ _ _ _ _
    refine rd_gen (fun σ' H' => σ' = [some (.ref a), some (.ref pf), some (.ref po), some (.ref p1), some (.ref p2), some (.ref p5), none] ∧ H' = upd H4 p5 (.tup ([-64, 64, 1].map V.int))) ⟨rfl, rfl⟩ ?_
    rintro σ' H5 ⟨rfl, hH5⟩
    rw [← hH5] at s5 e5
    have t5 := t4.trans s5
    have f5 : H p5 = none := t4.free hp5
    have h0 : 0 < (spots fs).length := by
      obtain ⟨g, hg, e0⟩ := hex
      refine List.length_pos_of_mem (a := [cf g 0, cf g 1, cf g 2, 1]) (List.mem_flatMap.mpr ⟨g, hg, ?_⟩)
      unfold spF
      rw [if_pos (by omega)]; simp
    have hwl : (ws.map V.ref).length = (spots fs).length := by rw [List.length_map, hW.1]
    obtain ⟨v, hv', ev⟩ := atI_mod (xs := ws.map V.ref) (n := ((ws.map V.ref).length : Int)) rfl (by omega) (ns.getD 4 0)
    obtain ⟨q, hq, rfl⟩ := List.mem_map.mp hv'
    obtain ⟨i, hi, ei⟩ := List.mem_iff_getElem.mp hq
    have hi2 : i < (spots fs).length := by rw [← hW.1]; exact hi
    have hqH := hW.2 i q _ (by rw [List.getElem?_eq_getElem hi, ei]) (List.getElem?_eq_getElem hi2)
    have hmem := List.getElem_mem hi2
    generalize (spots fs)[i] = l at hqH hmem
    have hq5 := t5 _ _ hqH
    have hPo5 := t5 _ _ hPo
    refine rd_sa ⟨_, rfl, _, rfl, a, ns, 4, rfl, t5.seq hS, _, rfl, po, _, rfl, .inl (SqL.of hPo5), _, _, rfl, rfl, (by show (0 : Int) < _; omega), po, _, _, _, rfl, rfl, SqL.of hPo5, ev, ?_⟩
    have hap := spots_apart hF hnd
    show tSeq _ _ _ _ _
    refine rd_gen (fun σ' H' => σ' = [some (.ref a), some (.ref pf), some (.ref po), some (.ref p1), some (.ref p2), some (.ref p5), some (.ref q)] ∧ H5 = H') ⟨rfl, rfl⟩ ?_
    rintro σ' H' ⟨rfl, rfl⟩
    refine ⟨fun m σ' H' => ∃ (kk : Nat) (p : Addr) (A B : Int), σ' = [some (.ref a), some (.ref pf), some (.ref po), some (.ref p1), some (.ref p2), some (.ref p), some (.ref q)] ∧ Same H H' ∧ H p = none ∧ H' p = some (.tup ([A, B, 2 ^ kk].map V.int)) ∧ m = 40 - kk ∧ kk ≤ 40 ∧ B = A + 128 ∧ inS l A B (2 ^ kk) ∧ -(64 * 2 ^ kk) ≤ A ∧ B ≤ 64 * 2 ^ kk, ⟨_, 0, p5, -64, 64, rfl, t5, f5, e5, rfl, by decide, by decide, spot_wide hF hmem, by decide, by decide⟩, ?_⟩
    rintro m σ' H6 ⟨kk, p, A', B', rfl, t6, fp, ep, rfl, hk, hAB, hin, lo, hi'⟩
    have p2k := pow2_pos kk
    have bk : Bits 42 ((2 : Int) ^ kk) := pow2_bits (by omega)
    have hk40 : (2 : Int) ^ kk ≤ 2 ^ 40 := by
      rw [pow2_cast, pow2_cast]; exact Int.ofNat_le.mpr (Nat.pow_le_pow_right (by decide) hk)
    have hk40' : (2 : Int) ^ kk ≤ 1099511627776 := by
      have : (2 : Int) ^ 40 = 1099511627776 := by decide
      omega
    have bA' : Bits 60 A' := by show A'.natAbs < 1152921504606846976; omega
    have bB' : Bits 60 B' := by show B'.natAbs < 1152921504606846976; omega
    refine ⟨_, rfl, _, rfl, po, p, ws, spots fs, A', B', 2 ^ kk, rfl, t6 _ _ hPo, hW.same t6, hsB, by omega, ep, bA'.mono (by decide), bB'.mono (by decide), bk.mono (by decide), fun p7 H7 vs s7 hp7 e7 hV => ?_⟩
    refine ⟨p7, _, rfl, .inl (SqL.of e7), _, _, rfl, rfl, _, rfl, rd_ndec (fun hne => ?_) (fun heq => ?_)⟩
    · have hlt : kk < 40 := by
        rcases Nat.lt_or_ge kk 40 with z | z
        · exact z
        · exfalso
          obtain rfl : kk = 40 := by omega
          have := amid_one hap hmem (by decide) hAB hin
          refine hne ?_
          show ((vs.map V.ref).length : Int) = 1
          rw [List.length_map, hV.1, this]; rfl
      refine ⟨fun σ'' H'' => ∃ m', m' < 40 - kk ∧ ∃ (kk : Nat) (p : Addr) (A B : Int), σ'' = [some (.ref a), some (.ref pf), some (.ref po), some (.ref p1), some (.ref p2), some (.ref p), some (.ref q)] ∧ Same H H'' ∧ H p = none ∧ H'' p = some (.tup ([A, B, 2 ^ kk].map V.int)) ∧ m' = 40 - kk ∧ kk ≤ 40 ∧ B = A + 128 ∧ inS l A B (2 ^ kk) ∧ -(64 * 2 ^ kk) ≤ A ∧ B ≤ 64 * 2 ^ kk, fun _ _ h => h, ?_⟩
      have t7 := t6.trans s7
      refine ⟨_, rfl, _, rfl, p, q, l, A', B', 2 ^ kk, rfl, t7 _ _ hqH, hsB l hmem, s7 _ _ ep, bA'.mono (by decide), bB'.mono (by decide), bk.mono (by decide), fun p8 hp8 => ?_⟩
      obtain ⟨A2, B2, eh, ew, hin2, l2, h2, _⟩ := half_in p2k (by omega) hin
      rw [eh]
      have e2k : (2 : Int) ^ (kk + 1) = 2 * 2 ^ kk := by rw [Int.pow_succ, Int.mul_comm]
      refine ⟨40 - (kk + 1), by omega, kk + 1, p8, A2, B2, rfl, t7.then_new hp8, t7.free hp8, by rw [upd_same, e2k], rfl, by omega, by omega, by rw [e2k]; exact hin2, by rw [e2k]; omega, by rw [e2k]; omega⟩
    · refine ⟨_, rfl, k p H7 A' B' (2 ^ kk) (t6.trans s7) fp (s7 _ _ ep) (by omega) p2k ?_ bA' bB' (bk.mono (by decide))⟩
      have h1' : ((vs.map V.ref).length : Int) = 1 := heq
      rw [List.length_map, hV.1] at h1'
      omega
theorem sl_degs : ∀ ss : List (List Int), (∀ s ∈ ss, s ≠ []) → sl ss = degs ss + ss.length
  | [], _ => rfl
  | s :: ss, h => by
    have h1 := List.length_pos_iff.mpr (h s (List.mem_cons_self ..))
    have h2 := sl_degs ss fun x hx => h x (List.mem_cons_of_mem _ hx)
    show s.length + sl ss = (s.length - 1) + degs ss + (ss.length + 1)
    omega
theorem degs_ge : ∀ ss : List (List Int), (∀ s ∈ ss, 2 ≤ s.length) → ss.length ≤ degs ss
  | [], _ => Nat.le_refl _
  | s :: ss, h => by
    have h1 := h s (List.mem_cons_self ..)
    have h2 := degs_ge ss fun x hx => h x (List.mem_cons_of_mem _ hx)
    rw [List.length_cons, degs]; omega
theorem four_shape : shpQ [4, 0, 1] = [-4, 1] := by decide +kernel
theorem four_fac : FacS [4, 0, 1] := ⟨4, 0, 1, rfl, by decide, by decide, by decide, by decide, by decide, by decide, .inl (Int.le_refl _)⟩
theorem line_of_shape {f : List Int} (h : FacS f) (e : shpQ f = [-4, 1]) : cf f 1 = 0 := by
  obtain ⟨u, ee, b, rfl, _⟩ := h
  show ee = 0
  refine Classical.byContradiction fun z => ?_
  have h1 : plainL (rawQ u ee b) = [-4, 1] := e
  have h2 := congrArg List.length h1
  rw [RM.plain_len] at h2
  unfold rawQ at h2
  rw [if_neg z] at h2
  cases h2
/-- the span's ends by lowest terms and as they were -/
theorem terms {A B D l1 l2 h1 h2 : Int} (el : l1 * D = A * l2) (eh : h1 * D = B * h2) : (h1 * l2 - l1 * h2) * D = (B - A) * (l2 * h2) := by
  calc (h1 * l2 - l1 * h2) * D = (h1 * D) * l2 - (l1 * D) * h2 := by grind
    _ = (B * h2) * l2 - (A * l2) * h2 := by rw [el, eh]
    _ = (B - A) * (l2 * h2) := by grind
theorem wide_iff {A B D l1 l2 h1 h2 w1 w2 top bot Y : Int} (hD : 0 < D) (hl : 0 < l2) (hh : 0 < h2) (hw : 0 < w2) (hb : 0 < bot) (el : l1 * D = A * l2) (eh : h1 * D = B * h2) (ew : w1 * bot = top * w2) : w1 * (h2 * l2) * Y < (h1 * l2 - l1 * h2) * w2 ↔ top * (D * Y) < (B - A) * bot := by
  have t := terms el eh
  have p1 : 0 < D * bot := Int.mul_pos hD hb
  have p2 : 0 < w2 * (l2 * h2) := Int.mul_pos hw (Int.mul_pos hl hh)
  have q1 : w1 * (h2 * l2) * Y * (D * bot) = top * (D * Y) * (w2 * (l2 * h2)) := by
    calc w1 * (h2 * l2) * Y * (D * bot) = (w1 * bot) * (h2 * l2) * Y * D := by grind
      _ = (top * w2) * (h2 * l2) * Y * D := by rw [ew]
      _ = _ := by grind
  have q2 : (h1 * l2 - l1 * h2) * w2 * (D * bot) = (B - A) * bot * (w2 * (l2 * h2)) := by
    calc (h1 * l2 - l1 * h2) * w2 * (D * bot) = ((h1 * l2 - l1 * h2) * D) * w2 * bot := by grind
      _ = ((B - A) * (l2 * h2)) * w2 * bot := by rw [t]
      _ = _ := by grind
  constructor
  · intro h
    refine cancel_lt p2 ?_
    rw [← q1, ← q2]
    exact Int.mul_lt_mul_of_pos_right h p1
  · intro h
    refine cancel_lt p1 ?_
    rw [q1, q2]
    exact Int.mul_lt_mul_of_pos_right h p2
theorem place_at {A B D l1 l2 h1 h2 x1 x2 Y pl : Int} (hl : 0 < l2) (hh : 0 < h2) (el : l1 * D = A * l2) (eh : h1 * D = B * h2) (ex : x1 * (l2 * h2 * Y) = (l1 * h2 * Y + (h1 * l2 - l1 * h2) * pl) * x2) : x1 * (D * Y) = (A * Y + (B - A) * pl) * x2 := by
  have t := terms el eh
  refine cancel (Int.mul_pos hl hh) ?_
  calc x1 * (D * Y) * (l2 * h2) = (x1 * (l2 * h2 * Y)) * D := by grind
    _ = (l1 * h2 * Y + (h1 * l2 - l1 * h2) * pl) * x2 * D := by rw [ex]
    _ = ((l1 * D) * h2 * Y + ((h1 * l2 - l1 * h2) * D) * pl) * x2 := by grind
    _ = ((A * l2) * h2 * Y + ((B - A) * (l2 * h2)) * pl) * x2 := by rw [el, t]
    _ = (A * Y + (B - A) * pl) * x2 * (l2 * h2) := by grind
theorem place_one {l : List Int} (hl : Spt l) {a W M : Int} {p q : Nat} (hM : 0 < M) (hW : 0 < W) (p1 : 0 < sideG l (a + W * p) M) (p2 : sideG l (a + W * (p + 1)) M ≤ 0) (q1 : 0 < sideG l (a + W * q) M) (q2 : sideG l (a + W * (q + 1)) M ≤ 0) : p = q := by
  have key : ∀ m n : Nat, m < n → sideG l (a + W * (m + 1)) M ≤ 0 → 0 < sideG l (a + W * n) M → False := fun m n h h1 h2 => by
    have h3 : W * ((m : Int) + 1) ≤ W * n := Int.mul_le_mul_of_nonneg_left (by omega) (Int.le_of_lt hW)
    have h4 := side_up hl hM hM (Int.mul_le_mul_of_nonneg_right (show a + W * ((m : Int) + 1) ≤ a + W * n by omega) (Int.le_of_lt hM)) h2
    omega
  rcases Nat.lt_trichotomy p q with z | z | z
  · exact (key p q z p2 q1).elim
  · exact z
  · exact (key q p z q2 p1).elim
theorem ok_law {C f : Addr} {fd : FuncData} (F : Fun K "law" "law" s_law f fd) (T : Txt K mg) (R : RCI K mg C) {f__law_factors_by : Addr} {fd__law_factors_by : FuncData} (C__law_factors_by : Cal P w K mg base 5 "_law_factors_by" ["_law_drawn", "_law_most", "_law_room"] (spFs K) f__law_factors_by fd__law_factors_by) {f__law_shape : Addr} {fd__law_shape : FuncData} (C__law_shape : Cal P w K mg base 4 "_law_shape" ["_law_factor"] spShape f__law_shape fd__law_shape) {f__law_cell_at : Addr} {fd__law_cell_at : FuncData} (C__law_cell_at : Cal P w K mg base 1 "_law_cell_at" ["_law_script", "_law_k"] (spCell K) f__law_cell_at fd__law_cell_at) {f__law_mul : Addr} {fd__law_mul : FuncData} (C__law_mul : Cal P w K mg base 1 "_law_mul" ["_law_kp", "_law_kq"] spMul f__law_mul fd__law_mul) {f__law_product : Addr} {fd__law_product : FuncData} (C__law_product : Cal P w K mg base 5 "_law_product" ["_law_factors"] spPro f__law_product fd__law_product) {f__law_roots_of : Addr} {fd__law_roots_of : FuncData} (C__law_roots_of : Cal P w K mg base 1 "_law_roots_of" ["_law_factors"] spRo f__law_roots_of fd__law_roots_of) {f__law_span : Addr} {fd__law_span : FuncData} (C__law_span : Cal P w K mg base 4 "_law_span" ["_law_script", "_law_factors", "_law_spots"] (spSpan K) f__law_span fd__law_span) {f_narrowed : Addr} {fd_narrowed : FuncData} (C_narrowed : Cal P w K mg base 6 "narrowed" ["row", "low", "high", "width"] (spNar C) f_narrowed fd_narrowed) {f_Ratio : Addr} {fd_Ratio : FuncData} {ds_Ratio : List Value} (C_Ratio : KCal P w K mg base 2 C "Ratio" ["self", "top", "bottom"] (spInit C) f_Ratio fd_Ratio ds_Ratio [.int 1]) {f__law_amid : Addr} {fd__law_amid : FuncData} (C__law_amid : Cal P w K mg base 3 "_law_amid" ["_law_spots", "_law_span_here"] spAmid f__law_amid fd__law_amid) {f__law_half : Addr} {fd__law_half : FuncData} (C__law_half : Cal P w K mg base 3 "_law_half" ["_law_span_here", "_law_spot"] spHalf f__law_half fd__law_half) {f__law_same : Addr} {fd__law_same : FuncData} (C__law_same : Cal P w K mg base 3 "_law_same" ["_law_found", "_law_top", "_law_bottom"] (spSame C) f__law_same fd__law_same) : FnOk P w K mg base CX0 7 f fd ["_law_script"] (spLaw K) := by
  obtain ⟨G__law_factors_by, m__law_factors_by, k__law_factors_by, b__law_factors_by⟩ := C__law_factors_by
  obtain ⟨G__law_shape, m__law_shape, k__law_shape, b__law_shape⟩ := C__law_shape
  obtain ⟨G__law_cell_at, m__law_cell_at, k__law_cell_at, b__law_cell_at⟩ := C__law_cell_at
  obtain ⟨G__law_mul, m__law_mul, k__law_mul, b__law_mul⟩ := C__law_mul
  obtain ⟨G__law_product, m__law_product, k__law_product, b__law_product⟩ := C__law_product
  obtain ⟨G__law_roots_of, m__law_roots_of, k__law_roots_of, b__law_roots_of⟩ := C__law_roots_of
  obtain ⟨G__law_span, m__law_span, k__law_span, b__law_span⟩ := C__law_span
  obtain ⟨G_narrowed, m_narrowed, k_narrowed, b_narrowed⟩ := C_narrowed
  obtain ⟨G_Ratio, M_Ratio, m_Ratio, b_Ratio, bD_Ratio, d_Ratio⟩ := C_Ratio
  obtain ⟨G__law_amid, m__law_amid, k__law_amid, b__law_amid⟩ := C__law_amid
  obtain ⟨G__law_half, m__law_half, k__law_half, b__law_half⟩ := C__law_half
  obtain ⟨G__law_same, m__law_same, k__law_same, b__law_same⟩ := C__law_same
  refine F.ok sc_law (fun vs H Q E h => ?_) (fun cdv A outer s H vs Q E hr h => ?_)
  · obtain ⟨a, ns, rfl, _⟩ := h
    rfl
  · obtain ⟨a, ns, rfl, hS, hlen, k⟩ := h
    have big := sizeLine_eq
    have hu := hr.units
    have hu2 : (A.deeper (PyProof.Rows.envOfC (Str.ofString "law") (defScope s_law) s.heap.objs.size f cdv)).units + 66 < cLine := by have := hr.un; omega
    refine ⟨_, (pss_cons (ps_set (i := 1) sc_law.nd rfl (Or.inl rfl) (pe_call G__law_factors_by (hr.mono (by decide)) rfl m__law_factors_by k__law_factors_by b__law_factors_by .nil pass0 (pa_cons (pe_slice (sl_listK (K := K) rfl) (pv 0) (po_some pe_int) po_none) (pa_cons pe_int (pa_cons pe_int pa_nil)))))
      (pss_cons (ps_if (pt_cmpR (op_ninLLK (K := K) rfl hu2) (pe_lst (pa_cons (pe_un un_neg pe_int) (pa_cons pe_int pa_nil))) (pe_comp (own := ["_law_one"]) (fr := []) (js := []) (by walk_at "comp_ok") rfl (pi_listK (K := K) rfl (pv 1)) (fun _ _ _ _ => (pg_name (i := 0) (show List.Nodup (["_law_one"] : List Str) from by decide +kernel) rfl (Or.inl rfl))) (fun _ _ _ _ => (pe_call G__law_shape (hr.mono (by decide)) rfl m__law_shape k__law_shape b__law_shape .nil pass0 (pa_cons (pv 0) pa_nil)))) (by rfl))
        (pss_one (ps_expr (pe_bm PySem.F.plainAttrs_list PySem.F.slot_list_append PySem.F.type_list_append mt_append (pv 1) (pa_cons (pe_tup (pa_cons pe_int (pa_cons pe_int (pa_cons pe_int pa_nil)))) pa_nil))))
        pss_nil)
      (pss_cons (ps_set (i := 2) sc_law.nd rfl (Or.inl rfl) (pe_op op_mulB (pe_op op_add pe_int (pe_op op_modP (pe_op op_fdivP (pe_call G__law_cell_at (hr.mono (by decide)) rfl m__law_cell_at k__law_cell_at b__law_cell_at .nil pass0 (pa_cons (pv 0) (pa_cons pe_int pa_nil))) pe_int) (pe_op op_pow pe_int pe_int))) (pe_op op_sub pe_int (pe_op op_mulB pe_int (pe_op op_modP (pe_call G__law_cell_at (hr.mono (by decide)) rfl m__law_cell_at k__law_cell_at b__law_cell_at .nil pass0 (pa_cons (pv 0) (pa_cons pe_int pa_nil))) pe_int)))))
      (pss_cons (ps_set (i := 3) sc_law.nd rfl (Or.inl rfl) (pe_call G__law_mul (hr.mono (by decide)) rfl m__law_mul k__law_mul b__law_mul .nil pass0 (pa_cons (pe_lst (pa_cons (pv 2) pa_nil)) (pa_cons (pe_call G__law_product (hr.mono (by decide)) rfl m__law_product k__law_product b__law_product .nil pass0 (pa_cons (pv 1) pa_nil)) pa_nil))))
      (pss_cons (ps_set (i := 4) sc_law.nd rfl (Or.inl rfl) (pe_call G__law_roots_of (hr.mono (by decide)) rfl m__law_roots_of k__law_roots_of b__law_roots_of .nil pass0 (pa_cons (pv 1) pa_nil)))
      (pss_cons (ps_set (i := 5) sc_law.nd rfl (Or.inl rfl) (pe_call G__law_span (hr.mono (by decide)) rfl m__law_span k__law_span b__law_span .nil pass0 (pa_cons (pv 0) (pa_cons (pv 1) (pa_cons (pv 4) pa_nil)))))
      (pss_cons (ps_set (i := 6) sc_law.nd rfl (Or.inl rfl) (pe_op op_add pe_int (pe_op op_modP (pe_call G__law_cell_at (hr.mono (by decide)) rfl m__law_cell_at k__law_cell_at b__law_cell_at .nil pass0 (pa_cons (pv 0) (pa_cons pe_int pa_nil))) pe_int)))
      (pss_cons (ps_set (i := 7) sc_law.nd rfl (Or.inl rfl) (pe_op op_add pe_int (pe_op op_modP (pe_call G__law_cell_at (hr.mono (by decide)) rfl m__law_cell_at k__law_cell_at b__law_cell_at .nil pass0 (pa_cons (pv 0) (pa_cons pe_int pa_nil))) (pe_op op_pow pe_int pe_int))))
      (pss_cons (ps_set (i := 8) sc_law.nd rfl (Or.inl rfl) (pe_callTy (call_listK (K := K) rfl) (by rfl) T.list_ PyProof.Rows.boot_list (pa_cons (pv 3) pa_nil)))
      (pss_cons (ps_set (i := 9) sc_law.nd rfl (Or.inl rfl) (pe_call G_narrowed (hr.mono (by decide)) rfl m_narrowed k_narrowed b_narrowed .nil pass0 (pa_cons (pv 8) (pa_cons (pe_make M_Ratio G_Ratio (hr.mono (by decide)) rfl m_Ratio b_Ratio .nil pass0 (pa_cons (pe_ix (ix_tupK (K := K) rfl) (pv 5) pe_int (fun _ _ => rfl)) (pa_cons (pe_ix (ix_tupK (K := K) rfl) (pv 5) pe_int (fun _ _ => rfl)) pa_nil))) (pa_cons (pe_make M_Ratio G_Ratio (hr.mono (by decide)) rfl m_Ratio b_Ratio .nil pass0 (pa_cons (pe_ix (ix_tupK (K := K) rfl) (pv 5) pe_int (fun _ _ => rfl)) (pa_cons (pe_ix (ix_tupK (K := K) rfl) (pv 5) pe_int (fun _ _ => rfl)) pa_nil))) (pa_cons (pe_make M_Ratio G_Ratio (hr.mono (by decide)) rfl m_Ratio b_Ratio .nil pass0 (pa_cons (pv 6) (pa_cons (pv 7) pa_nil))) pa_nil))))))
      (pss_cons (ps_set (i := 10) sc_law.nd rfl (Or.inl rfl) (pe_ix (ix_listK (K := K) rfl) (pe_call G__law_amid (hr.mono (by decide)) rfl m__law_amid k__law_amid b__law_amid .nil pass0 (pa_cons (pv 4) (pa_cons (pv 5) pa_nil))) pe_int (fun _ _ => rfl)))
      (pss_cons (ps_while PassesOwn.never (pt_cmpR op_gt (pe_op op_mulB (pe_op op_sub (pe_ix (ix_tupK (K := K) rfl) (pv 5) pe_int (fun _ _ => rfl)) (pe_ix (ix_tupK (K := K) rfl) (pv 5) pe_int (fun _ _ => rfl))) (pv 7)) (pe_op op_mulB (pv 6) (pe_ix (ix_tupK (K := K) rfl) (pv 5) pe_int (fun _ _ => rfl))) (nomark _))
        (pss_one (ps_set (i := 5) sc_law.nd rfl (Or.inl rfl) (pe_call G__law_half (hr.mono (by decide)) rfl m__law_half k__law_half b__law_half .nil pass0 (pa_cons (pv 5) (pa_cons (pv 10) pa_nil))))))
      (pss_cons (ps_if (PW.pt (pw_or (pt_not (pt_val (pe_callB (call_isinstK (K := K) rfl) (by rfl) T.isinstance_ PyProof.Rows.boot_isinstance (pa_cons (pv 9) (pa_cons (pe_bltn (v := .ty "tuple") (by rfl) T.tuple_ PyProof.Rows.boot_tuple (by rfl)) pa_nil))))) (pw_or (pt_cmpR op_neI (pe_callB (call_lenK (K := K) rfl) (by rfl) T.len_ PySem.boot_len (pa_cons (pv 9) pa_nil)) pe_int (nomark _)) (pw_or1 (pt_cmpR (op_neLK (K := K) rfl hu) (pv 8) (pv 3) (nomark _))))))
        (pss_one (ps_ret pe_bl))
        pss_nil)
      (pss_one (ps_ret (pe_and (pe_call G__law_same (hr.mono (by decide)) rfl m__law_same k__law_same b__law_same .nil pass0 (pa_cons (pe_ix (ix_tupK (K := K) rfl) (pv 9) pe_int (fun _ _ => rfl)) (pa_cons (pe_ix (ix_tupK (K := K) rfl) (pv 5) pe_int (fun _ _ => rfl)) (pa_cons (pe_ix (ix_tupK (K := K) rfl) (pv 5) pe_int (fun _ _ => rfl)) pa_nil)))) (pe_one (pe_call G__law_same (hr.mono (by decide)) rfl m__law_same k__law_same b__law_same .nil pass0 (pa_cons (pe_ix (ix_tupK (K := K) rfl) (pv 9) pe_int (fun _ _ => rfl)) (pa_cons (pe_ix (ix_tupK (K := K) rfl) (pv 5) pe_int (fun _ _ => rfl)) (pa_cons (pe_ix (ix_tupK (K := K) rfl) (pv 5) pe_int (fun _ _ => rfl)) pa_nil))))))))))))))))))))), ?_⟩
    refine rd_sa ⟨_, rfl, 6, rfl, a, _, rfl, hS, fun p5 hp5 => ?_⟩
    rw [cutV_map]
    have t5 := Same.upd_new (o := .lst ((cutL ns (some 6) none).map V.int)) hp5
    have h55 : upd H p5 (.lst ((cutL ns (some 6) none).map V.int)) p5 = some (.lst ((cutL ns (some 6) none).map V.int)) := upd_same
    generalize upd H p5 (.lst ((cutL ns (some 6) none).map V.int)) = H5 at t5 h55 ⊢
    have hcs : (cutL ns (some 6) none).length ≤ ns.length := cutL_len ns _ _
    generalize cutL ns (some 6) none = cs at h55 hcs ⊢
    refine ⟨p5, cs, 5, rfl, SqL.of h55, by omega, fun pg H6 qs fs s6 hpg eg hT hF hnd hdg => ?_⟩
    have hfl : fs.length ≤ 5 := by
      have := degs_ge (fs.map shpQ) fun x hx => by
        obtain ⟨y, hy, rfl⟩ := List.mem_map.mp hx
        exact (shp_ok (hF y hy)).2.2.2.1
      rw [List.length_map] at this
      omega
    have t6 := t5.trans s6
    have fpg : H pg = none := t5.free hpg
    have hpl : (qs.map V.ref).length = fs.length := by rw [List.length_map, hT.1]
    dsimp only
    refine rd_cutIf (fun σ' H' => ∃ (qs : List Addr) (fs : List (List Int)), σ' = [some (.ref a), some (.ref pg), none, none, none, none, none, none, none, none, none] ∧ Same H H' ∧ H' pg = some (.lst (qs.map V.ref)) ∧ TuH H' qs fs ∧ (∀ l ∈ fs, FacS l) ∧ (fs.map shpQ).Nodup ∧ fs.length ≤ 6 ∧ degs (fs.map shpQ) ≤ 6 ∧ ∃ f ∈ fs, cf f 1 = 0) ?_ ?_
    case refine_2 =>
      intro rest
      refine ⟨_, rfl, by show 2 ≤ sizeLine; decide, fun p7 hp7 => ?_⟩
      have s7 : Same H6 (upd H6 p7 (.lst (([-4, 1] : List Int).map V.int))) := Same.upd_new hp7
      have e7 : upd H6 p7 (.lst (([-4, 1] : List Int).map V.int)) p7 = some (.lst (([-4, 1] : List Int).map V.int)) := upd_same
      show ∃ _, _
      refine ⟨_, rfl, pg, rfl, ⟨_, SqL.of (s7 _ _ eg)⟩, comp_list (K := K) (a := pg) (xs := qs.map V.ref) (fun i ys σ' H' => ∃ (z0 : Option V) (rs : List Addr), σ' = [z0] ∧ ys = rs.map V.ref ∧ rs.length = i ∧ RwH H' rs ((fs.take i).map shpQ) ∧ Same (upd H6 p7 (.lst (([-4, 1] : List Int).map V.int))) H') (by omega) ⟨none, [], rfl, rfl, rfl, RwH.nil, Same.refl _⟩ ?_ ?_ ?_⟩
      · rintro i ys σ' H' _ ⟨z0, rs, rfl, rfl, hl, _, sm⟩
        exact ⟨SqL.of (sm _ _ (s7 _ _ eg)), by rw [List.length_map]; omega⟩
      · rintro i x ys σ' H' hi ⟨z0, rs, rfl, rfl, hl, hR, sm⟩
        obtain ⟨q, l, rfl, eq, el, hq, hlt⟩ := (hT.same (s7.trans sm)).of_get hi
        refine ⟨_, rfl, q, l, rfl, hq, hF l (List.mem_of_getElem? el), fun r H8 s8 hr8 e8 => ?_⟩
        refine ⟨_, rs ++ [r], rfl, by rw [List.map_append]; rfl, by rw [List.length_append]; show rs.length + 1 = _; omega, ?_, sm.trans s8⟩
        rw [List.take_add_one, el, List.map_append]
        exact (hR.same s8).snoc e8
      rintro ys σ' H8 p8 ⟨z0, rs, rfl, rfl, hl, hR, sm⟩ hp8
      rw [hpl, List.take_length] at hR
      have s8 : Same H8 (upd H8 p8 (.lst (rs.map V.ref))) := Same.upd_new hp8
      have t8 := s7.trans (sm.trans s8)
      have e78 := (sm.trans s8) _ _ e7
      refine ⟨p8, p7, rs, fs.map shpQ, [-4, 1], rfl, rfl, e78, SqL.of upd_same, (hR.same s8).1, (hR.same s8).2, _, rfl, rd_ndec (fun hni => ?_) (fun hin => ?_)⟩
      · refine rd_drop ⟨_, rfl, .inl ⟨rfl, _, SqL.of (t8 _ _ eg)⟩, by show 3 ≤ sizeLine; decide, fun p9 hp9 => ?_⟩
        have s9 : Same (upd H8 p8 (.lst (rs.map V.ref))) (upd (upd H8 p8 (.lst (rs.map V.ref))) p9 (.tup (([4, 0, 1] : List Int).map V.int))) := Same.upd_new hp9
        have e9 : upd (upd H8 p8 (.lst (rs.map V.ref))) p9 (.tup (([4, 0, 1] : List Int).map V.int)) p9 = some (.tup (([4, 0, 1] : List Int).map V.int)) := upd_same
        have t9 := t8.trans s9
        have eg9 := t9 _ _ eg
        refine ⟨pg, _, _, rfl, rfl, eg9, by rw [List.length_map, hT.1]; omega, ?_⟩
        refine rest _ _ ⟨qs ++ [p9], fs ++ [[4, 0, 1]], rfl, mut_same (t6.trans t9) fpg, by rw [upd_same, map_ref_snoc], ((hT.same t9).snoc e9).upd_lst eg9, ?_, ?_, by rw [List.length_append]; show fs.length + 1 ≤ 6; omega, by rw [List.map_append, List.map_cons, List.map_nil, degs_snoc, four_shape]; show degs _ + 1 ≤ 6; omega, [4, 0, 1], by simp, rfl⟩
        · intro x hx
          rcases List.mem_append.mp hx with h | h
          · exact hF x h
          · rw [List.mem_singleton.mp h]; exact four_fac
        · rw [List.map_append, List.map_cons, List.map_nil, four_shape]
          refine List.nodup_append.mpr ⟨hnd, by simp, fun x hx y hy => ?_⟩
          rw [List.mem_singleton.mp hy]
          exact fun z => hni (z ▸ hx)
      · obtain ⟨g, hg, eg'⟩ := List.mem_map.mp hin
        exact rest _ _ ⟨qs, fs, rfl, t6.trans t8, t8 _ _ eg, hT.same t8, hF, hnd, by omega, by omega, g, hg, line_of_shape (hF g hg) eg'⟩
    clear hT hF hnd hdg hfl eg hpl hpg s6 t6 h55 t5 hp5
    rintro σ' H1 ⟨qs, fs, rfl, t1, eg, hT, hF, hnd, hfl, hdg, hex⟩
    -- the number ahead
    obtain ⟨c1, c2⟩ := mod3 (x := ns.getD 0 0 / 2) (m := 10 ^ 20) (by decide +kernel)
    obtain ⟨c3, c4⟩ := mod3 (x := ns.getD 0 0) (m := 2) (by decide)
    have b20 : Bits 70 ((10 : Int) ^ 20) := by show ((10 : Int) ^ 20).natAbs < 2 ^ 70; decide +kernel
    have bt : Bits 2 (ns.getD 0 0 % 2) := by show (ns.getD 0 0 % 2).natAbs < 4; omega
    have bs : Bits 4 (1 - 2 * (ns.getD 0 0 % 2)) := by show (1 - 2 * (ns.getD 0 0 % 2)).natAbs < 16; omega
    have bl : Bits 71 (1 + ns.getD 0 0 / 2 % 10 ^ 20) := Bits.add (k := 70) (Bits.mono (j := 1) (by show (1 : Int).natAbs < 2 ^ 1; decide) (by decide)) (bits_le c1 (Int.le_of_lt c2) b20)
    refine rd_sa ⟨_, rfl, a, ns, 0, rfl, t1.seq hS, _, _, rfl, rfl, ⟨by decide, two9⟩, _, _, rfl, rfl, ⟨by decide, by decide, by decide⟩, _, _, rfl, rfl, (by show (0 : Int) < 10 ^ 20; decide +kernel), _, _, rfl, rfl, _, rfl, a, ns, 0, rfl, t1.seq hS, _, _, rfl, rfl, (by show (0 : Int) < 2; decide), _, _, rfl, rfl, ⟨two9.mono (by decide), bt.mono (by decide)⟩, _, _, rfl, rfl, _, _, rfl, rfl, ⟨bl.mono (by decide), bs.mono (by decide)⟩, ?_⟩
    show tSeq _ _ _ _ _
    refine rd_gen (fun σ' H' => ∃ last : Int, σ' = [some (.ref a), some (.ref pg), some (.int last), none, none, none, none, none, none, none, none] ∧ H1 = H' ∧ last ≠ 0 ∧ Bits 75 last) ⟨_, rfl, rfl, Int.mul_ne_zero ?_ ?_, bl.mul bs⟩ ?_
    · show 1 + ns.getD 0 0 / 2 % 10 ^ 20 ≠ 0
      omega
    · show 1 - 2 * (ns.getD 0 0 % 2) ≠ 0
      omega
    clear bl bs bt c1 c2 c3 c4
    rintro σ' H' ⟨last, rfl, rfl, hl0, bl⟩
    -- the polynomial
    refine rd_sa ⟨_, rfl, by show 1 ≤ sizeLine; decide, fun p7 hp7 => ?_⟩
    have s7 : Same H1 (upd H1 p7 (.lst [V.int last])) := Same.upd_new hp7
    have e7 : upd H1 p7 (.lst [V.int last]) p7 = some (.lst (([last] : List Int).map V.int)) := upd_same
    generalize upd H1 p7 (.lst [V.int last]) = H7 at s7 e7 ⊢
    refine ⟨_, rfl, pg, qs, fs, rfl, s7 _ _ eg, hT.same s7, hF, by omega, fun p8 H8 s8 hp8 e8 => ?_⟩
    obtain ⟨b1, b2⟩ := pro_bits hF fs.length (Nat.le_refl _) (by omega)
    rw [List.take_length] at b1 b2
    have hss : ∀ s ∈ fs.map shpQ, s ≠ [] ∧ Tr s := fun s h => by
      obtain ⟨x, hx, rfl⟩ := List.mem_map.mp h
      obtain ⟨a, b, _⟩ := shp_ok (hF x hx)
      exact ⟨b, a⟩
    obtain ⟨p1, p2, p3⟩ := prodL_ok (fs.map shpQ) [1] (by simp) ((tr_snoc (r := [])).mpr (by decide)) hss
    refine ⟨p7, p8, [last], prodL [1] (fs.map shpQ), rfl, s8 _ _ e7, e8, by show 1 ≤ 1000000; decide, by omega, fun x hx => by rw [List.mem_singleton.mp hx]; exact bl.mono (by decide), b1.mono (by omega), fun pk H9 s9 hpk ek => ?_⟩
    have t9 := t1.trans (s7.trans (s8.trans s9))
    have u9 := s7.trans (s8.trans s9)
    have hkT : Tr (mulL [last] (prodL [1] (fs.map shpQ))) := tr_mulL ((tr_snoc (r := [])).mpr hl0) p2
    have hkn : mulL [last] (prodL [1] (fs.map shpQ)) ≠ [] := mulL_ne (by simp) p1
    have hkl : (mulL [last] (prodL [1] (fs.map shpQ))).length ≤ 7 := by
      have h1 := sl_degs (fs.map shpQ) fun s hs => (hss s hs).1
      rw [mulL_one_len p1]
      have h2 : ([1] : List Int).length = 1 := rfl
      omega
    have bk : AllB 1000 (mulL [last] (prodL [1] (fs.map shpQ))) := mulL_bits (i := 75) (fun x hx => by rw [List.mem_singleton.mp hx]; exact bl) b1 (by show 75 + (2 + 30 * fs.length) + 1 ≤ 1000; omega)
    have hFQ : ∀ f ∈ fs, FacQ f := fun f hf => (hF f hf).q
    -- its roots and the span
    refine rd_sa ⟨_, rfl, pg, qs, fs, rfl, u9 _ _ eg, hT.same u9, hF, by omega, fun po H10 ws s10 hpo eo hW => ?_⟩
    have u10 := u9.trans s10
    refine rd_sa ⟨_, rfl, _, rfl, _, rfl, a, pg, po, ns, qs, ws, fs, rfl, (t1.trans u10).seq hS, u10 _ _ eg, hT.same u10, hF, by omega, hex, hnd, eo, hW, fun ps H11 A0 B0 D0 s11 hps es hAB hD0 hone bA bB bD => ?_⟩
    have t11 := t1.trans (u10.trans s11)
    obtain ⟨pre, l, post, hsp, ham, hin, hno⟩ := amid_split hone
    obtain ⟨d1, d2⟩ := mod3 (x := ns.getD 1 0) (m := 9) (by decide)
    obtain ⟨d3, d4⟩ := mod3 (x := ns.getD 5 0) (m := 10 ^ 30) (by decide +kernel)
    refine rd_sa ⟨_, rfl, a, ns, 1, rfl, t11.seq hS, _, _, rfl, rfl, (by show (0 : Int) < 9; decide), _, _, rfl, rfl, ?_⟩
    refine rd_sa ⟨_, rfl, a, ns, 5, rfl, t11.seq hS, _, _, rfl, rfl, ⟨by decide, by decide, by decide⟩, _, _, rfl, rfl, (by show (0 : Int) < 10 ^ 30; decide +kernel), _, _, rfl, rfl, ?_⟩
    have b30' : Bits 100 ((10 : Int) ^ 30) := by show ((10 : Int) ^ 30).natAbs < 2 ^ 100; decide +kernel
    have btp : Bits 5 (1 + ns.getD 1 0 % 9) := by show (1 + ns.getD 1 0 % 9).natAbs < 32; omega
    have bbt : Bits 101 (1 + ns.getD 5 0 % 10 ^ 30) := Bits.add (k := 100) (Bits.mono (j := 1) (by show (1 : Int).natAbs < 2 ^ 1; decide) (by decide)) (bits_le d3 (Int.le_of_lt d4) b30')
    have htp : 0 < 1 + ns.getD 1 0 % 9 := by omega
    have hbt : 0 < 1 + ns.getD 5 0 % 10 ^ 30 := by omega
    have hku := (s10.trans s11) _ _ ek
    refine rd_sa ⟨_, rfl, pk, _, rfl, .inl (SqL.of hku), fun ph hph => ?_⟩
    show tSeq _ _ _ _ _
    refine rd_gen (fun σ' H' => ∃ (top bot : Int) (kp : List Int), σ' = [some (.ref a), some (.ref pg), some (.int last), some (.ref pk), some (.ref po), some (.ref ps), some (.int top), some (.int bot), some (.ref ph), none, none] ∧ Same H11 H' ∧ H' ph = some (.lst (kp.map V.int)) ∧ H' pk = some (.lst (kp.map V.int)) ∧ 0 < top ∧ 0 < bot ∧ Bits 5 top ∧ Bits 101 bot ∧ kp = mulL [last] (prodL [1] (fs.map shpQ))) ⟨_, _, _, rfl, Same.upd_new hph, upd_same, (Same.upd_new hph) _ _ hku, htp, hbt, btp, bbt, rfl⟩ ?_
    clear hku hbt htp bbt btp b30' d1 d2 d3 d4
    rintro σ' H12 ⟨top, bot, kp, rfl, s12, ehh, ekk, htp, hbt, btp, bbt, hkp⟩
    rw [← hkp] at hkT hkn hkl bk
    have v12 := s11.trans s12
    have es12 := s12 _ _ es
    -- the ends
    have D0n : D0 ≠ 0 := by omega
    have botn : bot ≠ 0 := by omega
    refine rd_sa ⟨_, rfl, _, rfl, ps, _, _, _, rfl, rfl, SqT.of es12, rfl, _, rfl, ps, _, _, _, rfl, rfl, SqT.of es12, rfl, make_R (t := A0) (b := D0) D0n (bD.mono (by decide)) fun rl H13 s13 hrl hRl => ?_⟩
    have es13 := s13 _ _ es12
    refine ⟨_, rfl, ps, _, _, _, rfl, rfl, SqT.of es13, rfl, _, rfl, ps, _, _, _, rfl, rfl, SqT.of es13, rfl, make_R (t := B0) (b := D0) D0n (bD.mono (by decide)) fun rh H14 s14 hrh hRh => ?_⟩
    refine ⟨_, rfl, _, rfl, make_R (t := top) (b := bot) botn (bbt.mono (by decide)) fun rw' H15 s15 hrw hRw => ?_⟩
    have v15 := s13.trans (s14.trans s15)
    have el := r_cross (t := A0) D0n
    have eh := r_cross (t := B0) D0n
    have ew := r_cross (t := top) botn
    have l2p : 0 < rb A0 D0 := rb_pos D0n
    have h2p : 0 < rb B0 D0 := rb_pos D0n
    have w2p : 0 < rb top bot := rb_pos botn
    have gl := r_gcd (t := A0) D0n
    have gh := r_gcd (t := B0) D0n
    have bl1 := rt_bits D0n bA
    have bl2 := rb_bits (t := A0) D0n bD
    have bh1 := rt_bits D0n bB
    have bh2 := rb_bits (t := B0) D0n bD
    have bw1 := rt_bits botn (btp.mono (k := 101) (by decide))
    have bw2 := rb_bits (t := top) botn bbt
    have hRl15 := hRl.same (s14.trans s15)
    have hRh15 := hRh.same s15
    generalize rt A0 D0 = l1 at *
    generalize rb A0 D0 = l2 at *
    generalize rt B0 D0 = h1 at *
    generalize rb B0 D0 = h2 at *
    generalize rt top bot = w1 at *
    generalize rb top bot = w2 at *
    have w1p : 0 < w1 := cancel_lt hbt (by rw [Int.zero_mul, ew]; exact Int.mul_pos htp w2p)
    have lt : l1 * h2 < h1 * l2 := by
      have t := terms el eh
      have h3 : 0 < (h1 * l2 - l1 * h2) * D0 := by rw [t]; exact Int.mul_pos (by omega) (Int.mul_pos l2p h2p)
      have := cancel_lt (a := 0) (b := h1 * l2 - l1 * h2) hD0 (by rw [Int.zero_mul]; exact h3)
      omega
    have sl : ∀ x, sideG x l1 l2 = sideG x A0 D0 := fun x => side_cross x l2p hD0 el
    have sh : ∀ x, sideG x h1 h2 = sideG x B0 D0 := fun x => side_cross x h2p hD0 eh
    obtain ⟨ε, hU⟩ := root_of (c := last) hFQ hl0 hsp l2p h2p lt (by rw [sl, sh]; exact hin) (fun x hx => by rw [sl, sh]; exact hno x hx)
    rw [← hkp] at hU
    refine ⟨ph, rl, rh, rw', kp, l1, l2, h1, h2, w1, w2, 60, 101, ε, _, rfl, v15 _ _ ehh, hkT, hkn, by omega, bk, hRl15, hRh15, hRw, ⟨l2p, h2p, bl1, bl2, bh1, bh2, lt, gl, gh⟩, w1p, w2p, bw1, bw2, by decide, by decide, by decide, hU, fun pt x y H16 n pl x1 x2 y1 y2 s16 hpt ept hRx hRy np => ?_⟩
    have v16 := v15.trans s16
    have w16 := v12.trans v16
    have hsB := spots_B hF
    have hsl : (spots fs).length ≤ 200 := by have := spots_len fs; omega
    have hmem : l ∈ spots fs := by rw [hsp]; simp
    have hspt := spots_spt hFQ hmem
    -- how many halvings
    have bigj : ∀ j : Nat, j < n → top * (D0 * 2 ^ j) < (B0 - A0) * bot := fun j hj => (wide_iff hD0 l2p h2p w2p hbt el eh ew).mp (np.big j hj)
    have fitn : ¬ top * (D0 * 2 ^ n) < (B0 - A0) * bot := fun z => by
      have := (wide_iff hD0 l2p h2p w2p hbt el eh ew).mpr z
      have := np.fit
      omega
    have bW : Bits 61 (B0 - A0) := bB.sub bA
    have hn170 : n ≤ 170 := by
      rcases Nat.lt_or_ge 170 n with z | z
      · exfalso
        have h3 := bigj 170 z
        have h4 : ((B0 - A0) * bot).natAbs < 2 ^ (61 + 101) := bW.mul bbt
        have h5 : 1 * 2 ^ 170 ≤ (top * D0) * 2 ^ 170 := Int.mul_le_mul_of_nonneg_right (by have := Int.mul_pos htp hD0; omega) (by decide)
        have e5 : top * (D0 * 2 ^ 170) = (top * D0) * 2 ^ 170 := by grind
        rw [e5] at h3
        have h6 : (2 : Int) ^ 170 = 1496577676626844588240573268701473812127674924007424 := by decide +kernel
        have h7 : 2 ^ (61 + 101) = 5846006549323611672814739330865132078623730171904 := by decide +kernel
        rw [h6] at h3 h5
        rw [h7] at h4
        omega
      · exact z
    refine rd_sa ⟨_, rfl, _, rfl, po, ps, ws, spots fs, A0, B0, D0, rfl, w16 _ _ eo, hW.same w16, hsB, by omega, v16 _ _ es12, bA.mono (by decide), bB.mono (by decide), bD.mono (by decide), fun pa H17 vs s17 hpa epa hV => ?_⟩
    rw [ham] at hV
    obtain ⟨q, rfl⟩ : ∃ q, vs = [q] := List.length_eq_one_iff.mp hV.1
    have hq : H17 q = some (.tup (l.map V.int)) := hV.2 0 q l rfl rfl
    refine ⟨pa, _, _, _, rfl, rfl, SqL.of epa, rfl, ?_⟩
    have v17 := v16.trans s17
    have es17 := v17 _ _ es12
    have ept17 := s17 _ _ ept
    have hRx17 := hRx.same s17
    have hRy17 := hRy.same s17
    have eh17 := v17 _ _ ehh
    have ek17 := v17 _ _ ekk
    show tSeq _ _ _ _ _
    refine rd_gen (fun σ' H' => σ' = [some (.ref a), some (.ref pg), some (.int last), some (.ref pk), some (.ref po), some (.ref ps), some (.int top), some (.int bot), some (.ref ph), some (.ref pt), some (.ref q)] ∧ H17 = H') ⟨rfl, rfl⟩ ?_
    rintro σ' H' ⟨rfl, rfl⟩
    have bj : ∀ j : Nat, j ≤ n → Bits 172 ((2 : Int) ^ j) := fun j hj => pow2_bits (by omega)
    refine ⟨fun m σ' H' => ∃ (j plj : Nat) (p : Addr) (A' B' : Int), σ' = [some (.ref a), some (.ref pg), some (.int last), some (.ref pk), some (.ref po), some (.ref p), some (.int top), some (.int bot), some (.ref ph), some (.ref pt), some (.ref q)] ∧ Same H17 H' ∧ H' p = some (.tup ([A', B', D0 * 2 ^ j].map V.int)) ∧ m = n - j ∧ j ≤ n ∧ plj < 2 ^ j ∧ A' = A0 * 2 ^ j + (B0 - A0) * plj ∧ B' - A' = B0 - A0 ∧ inS l A' B' (D0 * 2 ^ j), ⟨_, 0, 0, ps, A0, B0, rfl, Same.refl _, by rw [Int.pow_zero, Int.mul_one]; exact es17, rfl, Nat.zero_le _, by decide, by rw [Int.pow_zero, Int.mul_one]; show A0 = A0 + _ * 0; rw [Int.mul_zero, Int.add_zero], rfl, by rw [Int.pow_zero, Int.mul_one]; exact hin⟩, ?_⟩
    rintro m σ' H18 ⟨j, plj, p, A', B', rfl, s18, ep, rfl, hj, hpl, hA', hB', hin'⟩
    have p2j := pow2_pos j
    have hDj : 0 < D0 * 2 ^ j := Int.mul_pos hD0 p2j
    have bDj : Bits 300 (D0 * 2 ^ j) := (bD.mul (bj j hj)).mono (by decide)
    have bpl : Bits 172 (plj : Int) := (bj j hj).of_le (by rw [pow2_cast]; omega)
    have bA2 : Bits 300 A' := by
      rw [hA']
      exact Bits.mono (Bits.add (k := 233) ((bA.mul (bj j hj)).mono (by decide)) ((bW.mul bpl).mono (by decide))) (by decide)
    have bB2 : Bits 301 B' := by
      have : B' = A' + (B0 - A0) := by omega
      rw [this]
      exact Bits.add (k := 300) bA2 (bW.mono (by decide))
    refine ⟨_, rfl, p, _, _, _, rfl, rfl, SqT.of ep, rfl, _, rfl, p, _, _, _, rfl, rfl, SqT.of ep, rfl, _, _, rfl, rfl, _, rfl, _, _, rfl, rfl, ?_⟩
    dsimp only
    rw [hB']
    refine ⟨⟨bW.mono (by decide), bbt.mono (by decide)⟩, _, rfl, _, rfl, p, _, _, _, rfl, rfl, SqT.of ep, rfl, _, _, rfl, rfl, ⟨btp.mono (by decide), bDj.mono (by decide)⟩, _, _, rfl, rfl, _, rfl, rd_dec (fun hgt => ?_) (fun hle => ?_)⟩
    · have hgt' : top * (D0 * 2 ^ j) < (B0 - A0) * bot := hgt
      have hjn : j < n := by
        rcases Nat.lt_or_ge j n with z | z
        · exact z
        · exfalso
          obtain rfl : j = n := by omega
          exact fitn hgt'
      refine ⟨fun σ'' H'' => ∃ m', m' < n - j ∧ ∃ (j plj : Nat) (p : Addr) (A' B' : Int), σ'' = [some (.ref a), some (.ref pg), some (.int last), some (.ref pk), some (.ref po), some (.ref p), some (.int top), some (.int bot), some (.ref ph), some (.ref pt), some (.ref q)] ∧ Same H17 H'' ∧ H'' p = some (.tup ([A', B', D0 * 2 ^ j].map V.int)) ∧ m' = n - j ∧ j ≤ n ∧ plj < 2 ^ j ∧ A' = A0 * 2 ^ j + (B0 - A0) * plj ∧ B' - A' = B0 - A0 ∧ inS l A' B' (D0 * 2 ^ j), fun _ _ h => h, ?_⟩
      refine ⟨_, rfl, _, rfl, p, q, l, A', B', D0 * 2 ^ j, rfl, s18 _ _ hq, hsB l hmem, ep, bA2.mono (by decide), bB2.mono (by decide), bDj.mono (by decide), fun p8 hp8 => ?_⟩
      obtain ⟨A2, B2, eh2, ew2, hin2, _, _, hpc⟩ := half_in hDj (by omega) hin'
      rw [eh2]
      have e2j : (2 : Int) ^ (j + 1) = 2 * 2 ^ j := by rw [Int.pow_succ, Int.mul_comm]
      have e2n : 2 ^ (j + 1) = 2 * 2 ^ j := by rw [Nat.pow_succ, Nat.mul_comm]
      have eD : D0 * 2 ^ (j + 1) = 2 * (D0 * 2 ^ j) := by rw [e2j]; grind
      rcases hpc with z | z
      · refine ⟨n - (j + 1), by omega, j + 1, 2 * plj, p8, A2, B2, rfl, s18.then_new hp8, by rw [upd_same, eD], rfl, by omega, by omega, ?_, by omega, by rw [eD]; exact hin2⟩
        rw [z, hA', e2j]
        have : ((2 * plj : Nat) : Int) = 2 * (plj : Int) := by omega
        rw [this]; grind
      · refine ⟨n - (j + 1), by omega, j + 1, 2 * plj + 1, p8, A2, B2, rfl, s18.then_new hp8, by rw [upd_same, eD], rfl, by omega, by omega, ?_, by omega, by rw [eD]; exact hin2⟩
        rw [z, hB', hA', e2j]
        have : ((2 * plj + 1 : Nat) : Int) = 2 * (plj : Int) + 1 := by omega
        rw [this]; grind
    · obtain rfl : j = n := by
        rcases Nat.lt_or_ge j n with z | z
        · exact absurd (bigj j z) hle
        · omega
      have ex := place_at l2p h2p el eh np.ex
      have ey := place_at l2p h2p el eh np.ey
      have sx : sideG l x1 x2 = sideG l (A0 * 2 ^ j + (B0 - A0) * pl) (D0 * 2 ^ j) := side_cross l np.ends.l2p hDj ex
      have sy : sideG l y1 y2 = sideG l (A0 * 2 ^ j + (B0 - A0) * (pl + 1)) (D0 * 2 ^ j) := side_cross l np.ends.h2p hDj ey
      have hB2 : B' = A0 * 2 ^ j + (B0 - A0) * ((plj : Int) + 1) := by
        have : (B0 - A0) * ((plj : Int) + 1) = (B0 - A0) * plj + (B0 - A0) := by grind
        omega
      have hux : 0 < sideG l x1 x2 := np.ux
      have huy : ¬ 0 < sideG l y1 y2 := np.uy
      obtain rfl : pl = plj := place_one hspt hDj (show 0 < B0 - A0 by omega) (by rw [← sx]; exact hux) (by rw [← sy]; omega) (by rw [← hA']; exact hin'.1) (by rw [← hB2]; exact hin'.2)
      have ept18 := s18 _ _ ept17
      refine rd_sr (rd_or (rd_not (rd_B (rd_isI ⟨_, rfl, isI_ty (.tup ept18) (k := true) (by rfl) ⟨_, rfl, rd_false ?_⟩⟩))))
      refine rd_or ⟨_, rfl, pt, _, rfl, .inr (SqT.of ept18), _, _, rfl, rfl, _, rfl, rd_ndec (fun h => absurd rfl h) (fun _ => ?_)⟩
      refine ⟨_, rfl, _, rfl, ph, pk, kp, kp, rfl, rfl, SqL.of (s18 _ _ eh17), SqL.of (s18 _ _ ek17), _, rfl, rd_ndec (fun h => absurd rfl h) (fun _ => ?_)⟩
      refine rd_ret (rd_andV ⟨_, rfl, pt, _, _, _, rfl, rfl, SqT.of ept18, rfl, _, rfl, p, _, _, _, rfl, rfl, SqT.of ep, rfl, _, rfl, p, _, _, _, rfl, rfl, SqT.of ep, rfl, x, x1, x2, A', D0 * 2 ^ j, rfl, hRx17.same s18, np.ends.l2p, np.ends.gl, ?_, np.ends.bl1.mono (by decide), np.ends.bl2.mono (by decide), bA2.mono (by decide), bDj.mono (by decide), _, rfl, rd_true ?_⟩)
      · rw [ex, hA']; grind
      refine ⟨_, rfl, pt, _, _, _, rfl, rfl, SqT.of ept18, rfl, _, rfl, p, _, _, _, rfl, rfl, SqT.of ep, rfl, _, rfl, p, _, _, _, rfl, rfl, SqT.of ep, rfl, y, y1, y2, B', D0 * 2 ^ j, rfl, hRy17.same s18, np.ends.h2p, np.ends.gh, ?_, np.ends.bh1.mono (by decide), np.ends.bh2.mono (by decide), bB2.mono (by decide), bDj.mono (by decide), k _⟩
      rw [ey, hB2]; grind
--SPLIT
end
theorem all_mk {l : PySem.W.OpenLaw} {w : World} {K : PySem.W.Frag} {h : Heap} {mg : Str → Option Value} {fa CC1 f1 f2 f3 f4 dt4 f5 f6 f7 f8 f9 f10 f11 f12 f13 f14 f15 f16 f17 f18 f19 f20 f21 f22 f23 f24 f25 f26 f27 f28 f29 f30 f31 f32 f33 f34 f35 f36 f37 f38 f39 f40 f41 f42 : Addr} (X : K.In h) (G : h.Ns mainGlobals mg) (hfa : mg "law" = some (.ref fa))
    {od1 an1 od2 an2 od3 an3 od4 an4 odt4 od5 an5 od6 an6 od7 an7 od8 an8 od9 an9 od10 an10 od11 an11 od12 an12 od13 an13 od14 an14 od15 an15 od16 an16 od17 an17 od18 an18 od19 an19 od20 an20 od21 an21 od22 an22 od23 an23 od24 an24 od25 an25 od26 an26 od27 an27 od28 an28 od29 an29 od30 an30 od31 an31 od32 an32 od33 an33 od34 an34 od35 an35 od36 an36 od37 an37 od38 an38 od39 an39 od40 an40 od41 an41 od42 an42 : Option Addr} {sl1 sl2 sl3 sl4 slt4 sl5 sl6 sl7 sl8 sl9 sl10 sl11 sl12 sl13 sl14 sl15 sl16 sl17 sl18 sl19 sl20 sl21 sl22 sl23 sl24 sl25 sl26 sl27 sl28 sl29 sl30 sl31 sl32 sl33 sl34 sl35 sl36 sl37 sl38 sl39 sl40 sl41 sl42 : Array (Option Value)} {oc1 kV1 dc1 pm1 cd1 ct1 oc2 kV2 dc2 pm2 cd2 ct2 oc3 kV3 dc3 pm3 cd3 ct3 oc4 kV4 dc4 pm4 cd4 ct4 oct4 oc5 kV5 dc5 pm5 cd5 ct5 oc6 kV6 dc6 pm6 cd6 ct6 oc7 kV7 dc7 pm7 cd7 ct7 oc8 kV8 dc8 pm8 cd8 ct8 oc9 kV9 dc9 pm9 cd9 ct9 oc10 kV10 dc10 pm10 cd10 ct10 oc11 kV11 dc11 pm11 cd11 ct11 oc12 kV12 dc12 pm12 cd12 ct12 oc13 kV13 dc13 pm13 cd13 ct13 oc14 kV14 dc14 pm14 cd14 ct14 oc15 kV15 dc15 pm15 cd15 ct15 oc16 kV16 dc16 pm16 cd16 ct16 oc17 kV17 dc17 pm17 cd17 ct17 oc18 kV18 dc18 pm18 cd18 ct18 oc19 kV19 dc19 pm19 cd19 ct19 oc20 kV20 dc20 pm20 cd20 ct20 oc21 kV21 dc21 pm21 cd21 ct21 oc22 kV22 dc22 pm22 cd22 ct22 oc23 kV23 dc23 pm23 cd23 ct23 oc24 kV24 dc24 pm24 cd24 ct24 oc25 kV25 dc25 pm25 cd25 ct25 oc26 kV26 dc26 pm26 cd26 ct26 oc27 kV27 dc27 pm27 cd27 ct27 oc28 kV28 dc28 pm28 cd28 ct28 oc29 kV29 dc29 pm29 cd29 ct29 oc30 kV30 dc30 pm30 cd30 ct30 oc31 kV31 dc31 pm31 cd31 ct31 oc32 kV32 dc32 pm32 cd32 ct32 oc33 kV33 dc33 pm33 cd33 ct33 oc34 kV34 dc34 pm34 cd34 ct34 oc35 kV35 dc35 pm35 cd35 ct35 oc36 kV36 dc36 pm36 cd36 ct36 oc37 kV37 dc37 pm37 cd37 ct37 oc38 kV38 dc38 pm38 cd38 ct38 oc39 kV39 dc39 pm39 cd39 ct39 oc40 kV40 dc40 pm40 cd40 ct40 oc41 kV41 dc41 pm41 cd41 ct41 oc42 kV42 dc42 pm42 cd42 ct42 : Value} {nt4 : Nat} {tk4_0 : Tok}
    (aC1 : PySem.W.nsIn K mainGlobals "Ratio" = some (some (.ref CC1)))
    (pg1 : PySem.W.plainGet K CC1 Str.empty = true)
    (hd1 : PySem.W.hasDictIn K CC1 = true)
    (po1 : PySem.W.plainOver K CC1 = true)
    (sa1 : PySem.W.findIn K (.ref CC1) "__setattr__" = some (some (.builtin "object.__setattr__")))
    (mk1 : PySem.W.makesIn K CC1 = true)
    (kc1 : PySem.W.keepIn K (.ref CC1) = true)
    (n1_top : PySem.W.findIn K (.ref CC1) "top" = some none)
    (n1_bottom : PySem.W.findIn K (.ref CC1) "bottom" = some none)
    (ha1 : PySem.W.findIn K (.ref CC1) "__class__" = some (some (.builtin "object.__class__")))
    (hn1 : PySem.W.specialIn K (.builtin "object.__class__") "__get__" = some (some (.builtin "getset_descriptor.__get__")))
    (ht1 : PySem.W.takesIn K (.builtin "object.__class__") = some true)
    (hm1 : PySem.W.mroIn K CC1 (.type "object") = some true)
    (a1 : PySem.W.nsIn K mainGlobals "shared_by_two" = some (some (.ref f1)))
    (l1 : K.lookup f1 = some ⟨oc1, od1, .func (PySem.W.fnOf "shared_by_two" "shared_by_two" (defArgs s_shared_by_two) (defBody s_shared_by_two) (defScope s_shared_by_two) .none kV1 dc1 pm1 an1 cd1 ct1), sl1⟩) (c1 : PySem.W.codeIn K cd1 "shared_by_two" = true) (k1 : PySem.W.keepIn K (.ref f1) = true)
    (a2 : PySem.W.nsIn K mainGlobals "shared" = some (some (.ref f2)))
    (l2 : K.lookup f2 = some ⟨oc2, od2, .func (PySem.W.fnOf "shared" "shared" (defArgs s_shared) (defBody s_shared) (defScope s_shared) .none kV2 dc2 pm2 an2 cd2 ct2), sl2⟩) (c2 : PySem.W.codeIn K cd2 "shared" = true) (k2 : PySem.W.keepIn K (.ref f2) = true)
    (a3 : PySem.W.nsIn K mainGlobals "whole_sign" = some (some (.ref f3)))
    (l3 : K.lookup f3 = some ⟨oc3, od3, .func (PySem.W.fnOf "whole_sign" "whole_sign" (defArgs s_whole_sign) (defBody s_whole_sign) (defScope s_whole_sign) .none kV3 dc3 pm3 an3 cd3 ct3), sl3⟩) (c3 : PySem.W.codeIn K cd3 "whole_sign" = true) (k3 : PySem.W.keepIn K (.ref f3) = true)
    (a4 : PySem.W.findIn K (.ref CC1) "__init__" = some (some (.ref f4))) (i4 : PySem.W.isFn K (.ref f4) = true)
    (l4 : K.lookup f4 = some ⟨oc4, od4, .func (PySem.W.fnOf "__init__" "Ratio.__init__" (defArgs s_Ratio___init__) (defBody s_Ratio___init__) (defScope s_Ratio___init__) (.ref dt4) kV4 dc4 pm4 an4 cd4 ct4), sl4⟩) (c4 : PySem.W.codeIn K cd4 "Ratio.__init__" = true) (k4 : PySem.W.keepIn K (.ref f4) = true)
    (t4 : K.lookup dt4 = some ⟨oct4, odt4, .seq #[.int 1 tk4_0] nt4, slt4⟩)
    (a5 : PySem.W.nsIn K mainGlobals "poly" = some (some (.ref f5)))
    (l5 : K.lookup f5 = some ⟨oc5, od5, .func (PySem.W.fnOf "poly" "poly" (defArgs s_poly) (defBody s_poly) (defScope s_poly) .none kV5 dc5 pm5 an5 cd5 ct5), sl5⟩) (c5 : PySem.W.codeIn K cd5 "poly" = true) (k5 : PySem.W.keepIn K (.ref f5) = true)
    (a6 : PySem.W.nsIn K mainGlobals "degree" = some (some (.ref f6)))
    (l6 : K.lookup f6 = some ⟨oc6, od6, .func (PySem.W.fnOf "degree" "degree" (defArgs s_degree) (defBody s_degree) (defScope s_degree) .none kV6 dc6 pm6 an6 cd6 ct6), sl6⟩) (c6 : PySem.W.codeIn K cd6 "degree" = true) (k6 : PySem.W.keepIn K (.ref f6) = true)
    (a7 : PySem.W.nsIn K mainGlobals "coefficient" = some (some (.ref f7)))
    (l7 : K.lookup f7 = some ⟨oc7, od7, .func (PySem.W.fnOf "coefficient" "coefficient" (defArgs s_coefficient) (defBody s_coefficient) (defScope s_coefficient) .none kV7 dc7 pm7 an7 cd7 ct7), sl7⟩) (c7 : PySem.W.codeIn K cd7 "coefficient" = true) (k7 : PySem.W.keepIn K (.ref f7) = true)
    (a8 : PySem.W.nsIn K mainGlobals "added" = some (some (.ref f8)))
    (l8 : K.lookup f8 = some ⟨oc8, od8, .func (PySem.W.fnOf "added" "added" (defArgs s_added) (defBody s_added) (defScope s_added) .none kV8 dc8 pm8 an8 cd8 ct8), sl8⟩) (c8 : PySem.W.codeIn K cd8 "added" = true) (k8 : PySem.W.keepIn K (.ref f8) = true)
    (a9 : PySem.W.nsIn K mainGlobals "multiplied" = some (some (.ref f9)))
    (l9 : K.lookup f9 = some ⟨oc9, od9, .func (PySem.W.fnOf "multiplied" "multiplied" (defArgs s_multiplied) (defBody s_multiplied) (defScope s_multiplied) .none kV9 dc9 pm9 an9 cd9 ct9), sl9⟩) (c9 : PySem.W.codeIn K cd9 "multiplied" = true) (k9 : PySem.W.keepIn K (.ref f9) = true)
    (a10 : PySem.W.nsIn K mainGlobals "value_parts" = some (some (.ref f10)))
    (l10 : K.lookup f10 = some ⟨oc10, od10, .func (PySem.W.fnOf "value_parts" "value_parts" (defArgs s_value_parts) (defBody s_value_parts) (defScope s_value_parts) .none kV10 dc10 pm10 an10 cd10 ct10), sl10⟩) (c10 : PySem.W.codeIn K cd10 "value_parts" = true) (k10 : PySem.W.keepIn K (.ref f10) = true)
    (a11 : PySem.W.nsIn K mainGlobals "sign_at" = some (some (.ref f11)))
    (l11 : K.lookup f11 = some ⟨oc11, od11, .func (PySem.W.fnOf "sign_at" "sign_at" (defArgs s_sign_at) (defBody s_sign_at) (defScope s_sign_at) .none kV11 dc11 pm11 an11 cd11 ct11), sl11⟩) (c11 : PySem.W.codeIn K cd11 "sign_at" = true) (k11 : PySem.W.keepIn K (.ref f11) = true)
    (a12 : PySem.W.findIn K (.ref CC1) "plus" = some (some (.ref f12))) (i12 : PySem.W.isFn K (.ref f12) = true)
    (l12 : K.lookup f12 = some ⟨oc12, od12, .func (PySem.W.fnOf "plus" "Ratio.plus" (defArgs s_Ratio_plus) (defBody s_Ratio_plus) (defScope s_Ratio_plus) .none kV12 dc12 pm12 an12 cd12 ct12), sl12⟩) (c12 : PySem.W.codeIn K cd12 "Ratio.plus" = true) (k12 : PySem.W.keepIn K (.ref f12) = true)
    (a13 : PySem.W.findIn K (.ref CC1) "minus" = some (some (.ref f13))) (i13 : PySem.W.isFn K (.ref f13) = true)
    (l13 : K.lookup f13 = some ⟨oc13, od13, .func (PySem.W.fnOf "minus" "Ratio.minus" (defArgs s_Ratio_minus) (defBody s_Ratio_minus) (defScope s_Ratio_minus) .none kV13 dc13 pm13 an13 cd13 ct13), sl13⟩) (c13 : PySem.W.codeIn K cd13 "Ratio.minus" = true) (k13 : PySem.W.keepIn K (.ref f13) = true)
    (a14 : PySem.W.findIn K (.ref CC1) "times" = some (some (.ref f14))) (i14 : PySem.W.isFn K (.ref f14) = true)
    (l14 : K.lookup f14 = some ⟨oc14, od14, .func (PySem.W.fnOf "times" "Ratio.times" (defArgs s_Ratio_times) (defBody s_Ratio_times) (defScope s_Ratio_times) .none kV14 dc14 pm14 an14 cd14 ct14), sl14⟩) (c14 : PySem.W.codeIn K cd14 "Ratio.times" = true) (k14 : PySem.W.keepIn K (.ref f14) = true)
    (a15 : PySem.W.nsIn K mainGlobals "halvings" = some (some (.ref f15)))
    (l15 : K.lookup f15 = some ⟨oc15, od15, .func (PySem.W.fnOf "halvings" "halvings" (defArgs s_halvings) (defBody s_halvings) (defScope s_halvings) .none kV15 dc15 pm15 an15 cd15 ct15), sl15⟩) (c15 : PySem.W.codeIn K cd15 "halvings" = true) (k15 : PySem.W.keepIn K (.ref f15) = true)
    (a16 : PySem.W.nsIn K mainGlobals "stretched" = some (some (.ref f16)))
    (l16 : K.lookup f16 = some ⟨oc16, od16, .func (PySem.W.fnOf "stretched" "stretched" (defArgs s_stretched) (defBody s_stretched) (defScope s_stretched) .none kV16 dc16 pm16 an16 cd16 ct16), sl16⟩) (c16 : PySem.W.codeIn K cd16 "stretched" = true) (k16 : PySem.W.keepIn K (.ref f16) = true)
    (a17 : PySem.W.nsIn K mainGlobals "spread" = some (some (.ref f17)))
    (l17 : K.lookup f17 = some ⟨oc17, od17, .func (PySem.W.fnOf "spread" "spread" (defArgs s_spread) (defBody s_spread) (defScope s_spread) .none kV17 dc17 pm17 an17 cd17 ct17), sl17⟩) (c17 : PySem.W.codeIn K cd17 "spread" = true) (k17 : PySem.W.keepIn K (.ref f17) = true)
    (a18 : PySem.W.nsIn K mainGlobals "moved" = some (some (.ref f18)))
    (l18 : K.lookup f18 = some ⟨oc18, od18, .func (PySem.W.fnOf "moved" "moved" (defArgs s_moved) (defBody s_moved) (defScope s_moved) .none kV18 dc18 pm18 an18 cd18 ct18), sl18⟩) (c18 : PySem.W.codeIn K cd18 "moved" = true) (k18 : PySem.W.keepIn K (.ref f18) = true)
    (a19 : PySem.W.nsIn K mainGlobals "halved" = some (some (.ref f19)))
    (l19 : K.lookup f19 = some ⟨oc19, od19, .func (PySem.W.fnOf "halved" "halved" (defArgs s_halved) (defBody s_halved) (defScope s_halved) .none kV19 dc19 pm19 an19 cd19 ct19), sl19⟩) (c19 : PySem.W.codeIn K cd19 "halved" = true) (k19 : PySem.W.keepIn K (.ref f19) = true)
    (a20 : PySem.W.nsIn K mainGlobals "along" = some (some (.ref f20)))
    (l20 : K.lookup f20 = some ⟨oc20, od20, .func (PySem.W.fnOf "along" "along" (defArgs s_along) (defBody s_along) (defScope s_along) .none kV20 dc20 pm20 an20 cd20 ct20), sl20⟩) (c20 : PySem.W.codeIn K cd20 "along" = true) (k20 : PySem.W.keepIn K (.ref f20) = true)
    (a21 : PySem.W.nsIn K mainGlobals "narrowed" = some (some (.ref f21)))
    (l21 : K.lookup f21 = some ⟨oc21, od21, .func (PySem.W.fnOf "narrowed" "narrowed" (defArgs s_narrowed) (defBody s_narrowed) (defScope s_narrowed) .none kV21 dc21 pm21 an21 cd21 ct21), sl21⟩) (c21 : PySem.W.codeIn K cd21 "narrowed" = true) (k21 : PySem.W.keepIn K (.ref f21) = true)
    (a22 : PySem.W.nsIn K mainGlobals "_law_cell_at" = some (some (.ref f22)))
    (l22 : K.lookup f22 = some ⟨oc22, od22, .func (PySem.W.fnOf "_law_cell_at" "_law_cell_at" (defArgs s__law_cell_at) (defBody s__law_cell_at) (defScope s__law_cell_at) .none kV22 dc22 pm22 an22 cd22 ct22), sl22⟩) (c22 : PySem.W.codeIn K cd22 "_law_cell_at" = true) (k22 : PySem.W.keepIn K (.ref f22) = true)
    (a23 : PySem.W.nsIn K mainGlobals "_law_whole" = some (some (.ref f23)))
    (l23 : K.lookup f23 = some ⟨oc23, od23, .func (PySem.W.fnOf "_law_whole" "_law_whole" (defArgs s__law_whole) (defBody s__law_whole) (defScope s__law_whole) .none kV23 dc23 pm23 an23 cd23 ct23), sl23⟩) (c23 : PySem.W.codeIn K cd23 "_law_whole" = true) (k23 : PySem.W.keepIn K (.ref f23) = true)
    (a24 : PySem.W.nsIn K mainGlobals "_law_within" = some (some (.ref f24)))
    (l24 : K.lookup f24 = some ⟨oc24, od24, .func (PySem.W.fnOf "_law_within" "_law_within" (defArgs s__law_within) (defBody s__law_within) (defScope s__law_within) .none kV24 dc24 pm24 an24 cd24 ct24), sl24⟩) (c24 : PySem.W.codeIn K cd24 "_law_within" = true) (k24 : PySem.W.keepIn K (.ref f24) = true)
    (a25 : PySem.W.nsIn K mainGlobals "_law_mul" = some (some (.ref f25)))
    (l25 : K.lookup f25 = some ⟨oc25, od25, .func (PySem.W.fnOf "_law_mul" "_law_mul" (defArgs s__law_mul) (defBody s__law_mul) (defScope s__law_mul) .none kV25 dc25 pm25 an25 cd25 ct25), sl25⟩) (c25 : PySem.W.codeIn K cd25 "_law_mul" = true) (k25 : PySem.W.keepIn K (.ref f25) = true)
    (a26 : PySem.W.nsIn K mainGlobals "_law_gcd" = some (some (.ref f26)))
    (l26 : K.lookup f26 = some ⟨oc26, od26, .func (PySem.W.fnOf "_law_gcd" "_law_gcd" (defArgs s__law_gcd) (defBody s__law_gcd) (defScope s__law_gcd) .none kV26 dc26 pm26 an26 cd26 ct26), sl26⟩) (c26 : PySem.W.codeIn K cd26 "_law_gcd" = true) (k26 : PySem.W.keepIn K (.ref f26) = true)
    (a27 : PySem.W.nsIn K mainGlobals "_law_shrunk" = some (some (.ref f27)))
    (l27 : K.lookup f27 = some ⟨oc27, od27, .func (PySem.W.fnOf "_law_shrunk" "_law_shrunk" (defArgs s__law_shrunk) (defBody s__law_shrunk) (defScope s__law_shrunk) .none kV27 dc27 pm27 an27 cd27 ct27), sl27⟩) (c27 : PySem.W.codeIn K cd27 "_law_shrunk" = true) (k27 : PySem.W.keepIn K (.ref f27) = true)
    (a28 : PySem.W.nsIn K mainGlobals "_law_plain" = some (some (.ref f28)))
    (l28 : K.lookup f28 = some ⟨oc28, od28, .func (PySem.W.fnOf "_law_plain" "_law_plain" (defArgs s__law_plain) (defBody s__law_plain) (defScope s__law_plain) .none kV28 dc28 pm28 an28 cd28 ct28), sl28⟩) (c28 : PySem.W.codeIn K cd28 "_law_plain" = true) (k28 : PySem.W.keepIn K (.ref f28) = true)
    (a29 : PySem.W.nsIn K mainGlobals "_law_factor_by" = some (some (.ref f29)))
    (l29 : K.lookup f29 = some ⟨oc29, od29, .func (PySem.W.fnOf "_law_factor_by" "_law_factor_by" (defArgs s__law_factor_by) (defBody s__law_factor_by) (defScope s__law_factor_by) .none kV29 dc29 pm29 an29 cd29 ct29), sl29⟩) (c29 : PySem.W.codeIn K cd29 "_law_factor_by" = true) (k29 : PySem.W.keepIn K (.ref f29) = true)
    (a30 : PySem.W.nsIn K mainGlobals "_law_shape" = some (some (.ref f30)))
    (l30 : K.lookup f30 = some ⟨oc30, od30, .func (PySem.W.fnOf "_law_shape" "_law_shape" (defArgs s__law_shape) (defBody s__law_shape) (defScope s__law_shape) .none kV30 dc30 pm30 an30 cd30 ct30), sl30⟩) (c30 : PySem.W.codeIn K cd30 "_law_shape" = true) (k30 : PySem.W.keepIn K (.ref f30) = true)
    (a31 : PySem.W.nsIn K mainGlobals "_law_factors_by" = some (some (.ref f31)))
    (l31 : K.lookup f31 = some ⟨oc31, od31, .func (PySem.W.fnOf "_law_factors_by" "_law_factors_by" (defArgs s__law_factors_by) (defBody s__law_factors_by) (defScope s__law_factors_by) .none kV31 dc31 pm31 an31 cd31 ct31), sl31⟩) (c31 : PySem.W.codeIn K cd31 "_law_factors_by" = true) (k31 : PySem.W.keepIn K (.ref f31) = true)
    (a32 : PySem.W.nsIn K mainGlobals "_law_product" = some (some (.ref f32)))
    (l32 : K.lookup f32 = some ⟨oc32, od32, .func (PySem.W.fnOf "_law_product" "_law_product" (defArgs s__law_product) (defBody s__law_product) (defScope s__law_product) .none kV32 dc32 pm32 an32 cd32 ct32), sl32⟩) (c32 : PySem.W.codeIn K cd32 "_law_product" = true) (k32 : PySem.W.keepIn K (.ref f32) = true)
    (a33 : PySem.W.nsIn K mainGlobals "_law_sure" = some (some (.ref f33)))
    (l33 : K.lookup f33 = some ⟨oc33, od33, .func (PySem.W.fnOf "_law_sure" "_law_sure" (defArgs s__law_sure) (defBody s__law_sure) (defScope s__law_sure) .none kV33 dc33 pm33 an33 cd33 ct33), sl33⟩) (c33 : PySem.W.codeIn K cd33 "_law_sure" = true) (k33 : PySem.W.keepIn K (.ref f33) = true)
    (a34 : PySem.W.nsIn K mainGlobals "_law_side" = some (some (.ref f34)))
    (l34 : K.lookup f34 = some ⟨oc34, od34, .func (PySem.W.fnOf "_law_side" "_law_side" (defArgs s__law_side) (defBody s__law_side) (defScope s__law_side) .none kV34 dc34 pm34 an34 cd34 ct34), sl34⟩) (c34 : PySem.W.codeIn K cd34 "_law_side" = true) (k34 : PySem.W.keepIn K (.ref f34) = true)
    (a35 : PySem.W.nsIn K mainGlobals "_law_roots_of" = some (some (.ref f35)))
    (l35 : K.lookup f35 = some ⟨oc35, od35, .func (PySem.W.fnOf "_law_roots_of" "_law_roots_of" (defArgs s__law_roots_of) (defBody s__law_roots_of) (defScope s__law_roots_of) .none kV35 dc35 pm35 an35 cd35 ct35), sl35⟩) (c35 : PySem.W.codeIn K cd35 "_law_roots_of" = true) (k35 : PySem.W.keepIn K (.ref f35) = true)
    (a36 : PySem.W.nsIn K mainGlobals "_law_is_ratio" = some (some (.ref f36)))
    (l36 : K.lookup f36 = some ⟨oc36, od36, .func (PySem.W.fnOf "_law_is_ratio" "_law_is_ratio" (defArgs s__law_is_ratio) (defBody s__law_is_ratio) (defScope s__law_is_ratio) .none kV36 dc36 pm36 an36 cd36 ct36), sl36⟩) (c36 : PySem.W.codeIn K cd36 "_law_is_ratio" = true) (k36 : PySem.W.keepIn K (.ref f36) = true)
    (a37 : PySem.W.nsIn K mainGlobals "_law_end" = some (some (.ref f37)))
    (l37 : K.lookup f37 = some ⟨oc37, od37, .func (PySem.W.fnOf "_law_end" "_law_end" (defArgs s__law_end) (defBody s__law_end) (defScope s__law_end) .none kV37 dc37 pm37 an37 cd37 ct37), sl37⟩) (c37 : PySem.W.codeIn K cd37 "_law_end" = true) (k37 : PySem.W.keepIn K (.ref f37) = true)
    (a38 : PySem.W.nsIn K mainGlobals "_law_amid" = some (some (.ref f38)))
    (l38 : K.lookup f38 = some ⟨oc38, od38, .func (PySem.W.fnOf "_law_amid" "_law_amid" (defArgs s__law_amid) (defBody s__law_amid) (defScope s__law_amid) .none kV38 dc38 pm38 an38 cd38 ct38), sl38⟩) (c38 : PySem.W.codeIn K cd38 "_law_amid" = true) (k38 : PySem.W.keepIn K (.ref f38) = true)
    (a39 : PySem.W.nsIn K mainGlobals "_law_half" = some (some (.ref f39)))
    (l39 : K.lookup f39 = some ⟨oc39, od39, .func (PySem.W.fnOf "_law_half" "_law_half" (defArgs s__law_half) (defBody s__law_half) (defScope s__law_half) .none kV39 dc39 pm39 an39 cd39 ct39), sl39⟩) (c39 : PySem.W.codeIn K cd39 "_law_half" = true) (k39 : PySem.W.keepIn K (.ref f39) = true)
    (a40 : PySem.W.nsIn K mainGlobals "_law_span" = some (some (.ref f40)))
    (l40 : K.lookup f40 = some ⟨oc40, od40, .func (PySem.W.fnOf "_law_span" "_law_span" (defArgs s__law_span) (defBody s__law_span) (defScope s__law_span) .none kV40 dc40 pm40 an40 cd40 ct40), sl40⟩) (c40 : PySem.W.codeIn K cd40 "_law_span" = true) (k40 : PySem.W.keepIn K (.ref f40) = true)
    (a41 : PySem.W.nsIn K mainGlobals "_law_same" = some (some (.ref f41)))
    (l41 : K.lookup f41 = some ⟨oc41, od41, .func (PySem.W.fnOf "_law_same" "_law_same" (defArgs s__law_same) (defBody s__law_same) (defScope s__law_same) .none kV41 dc41 pm41 an41 cd41 ct41), sl41⟩) (c41 : PySem.W.codeIn K cd41 "_law_same" = true) (k41 : PySem.W.keepIn K (.ref f41) = true)
    (a42 : PySem.W.nsIn K mainGlobals "law" = some (some (.ref f42)))
    (l42 : K.lookup f42 = some ⟨oc42, od42, .func (PySem.W.fnOf "law" "law" (defArgs s_law) (defBody s_law) (defScope s_law) .none kV42 dc42 pm42 an42 cd42 ct42), sl42⟩) (c42 : PySem.W.codeIn K cd42 "law" = true) (k42 : PySem.W.keepIn K (.ref f42) = true)
    (z0 : PySem.W.nsIn K mainGlobals "abs" = some none)
    (z1 : PySem.W.nsIn K mainGlobals "len" = some none)
    (z2 : PySem.W.nsIn K mainGlobals "max" = some none)
    (z3 : PySem.W.nsIn K mainGlobals "range" = some none)
    (z4 : PySem.W.nsIn K mainGlobals "enumerate" = some none)
    (z5 : PySem.W.nsIn K mainGlobals "reversed" = some none)
    (z6 : PySem.W.nsIn K mainGlobals "sum" = some none)
    (z7 : PySem.W.nsIn K mainGlobals "list" = some none)
    (z8 : PySem.W.nsIn K mainGlobals "isinstance" = some none)
    (z9 : PySem.W.nsIn K mainGlobals "int" = some none)
    (z10 : PySem.W.nsIn K mainGlobals "bool" = some none)
    (z11 : PySem.W.nsIn K mainGlobals "tuple" = some none)
    : ∃ fd : FuncData, (∀ (s : Shared) (v : Value), BindsTo s fd ⟨[v], []⟩ [("_law_script", v)]) ∧ ∀ base : Heap, K.In base → base.Ns mainGlobals mg → FnOk l.prog w K mg base CX0 7 fa fd ["_law_script"] (spLaw K) := by
  have e := hfa.symm.trans (PySem.W.mg_of X G a42)
  cases e
  have T : Txt K mg := ⟨PySem.W.mg_none_of X G z0, PySem.W.mg_none_of X G z1, PySem.W.mg_none_of X G z2, PySem.W.mg_none_of X G z3, PySem.W.mg_none_of X G z4, PySem.W.mg_none_of X G z5, PySem.W.mg_none_of X G z6, PySem.W.mg_none_of X G z7, PySem.W.mg_none_of X G z8, PySem.W.mg_none_of X G z9, PySem.W.mg_none_of X G z10, PySem.W.mg_none_of X G z11⟩
  have R1 : RCI K mg CC1 := ⟨⟨pg1, hd1, po1, sa1⟩, n1_top, n1_bottom, PySem.W.mg_of X G aC1, ha1, hn1, ht1, hm1⟩
  have F1 := fun_mk (st := s_shared_by_two) l1 c1 k1
  have b1 := F1.binds (ps := ["one", "other"]) fun _ _ _ _ _ _ us hl => match us, hl with | [_, _], _ => rfl
  have F2 := fun_mk (st := s_shared) l2 c2 k2
  have b2 := F2.binds (ps := ["row"]) fun _ _ _ _ _ _ us hl => match us, hl with | [_], _ => rfl
  have F3 := fun_mk (st := s_whole_sign) l3 c3 k3
  have b3 := F3.binds (ps := ["value"]) fun _ _ _ _ _ _ us hl => match us, hl with | [_], _ => rfl
  have F4 := funD_mk (st := s_Ratio___init__) l4 c4 k4
  have b4 := FunD.bindsD (ps := ["self", "top", "bottom"]) (ds := []) (tup := [.int 1 tk4_0]) 3 F4 t4 rfl rfl fun _ _ _ _ _ _ us hl => match us, hl with | [_, _, _], _ => ⟨_, rfl, rfl⟩
  have bD4 := FunD.bindsD (ps := ["self", "top", "bottom"]) (ds := [.int 1 tk4_0]) (tup := [.int 1 tk4_0]) 2 F4 t4 rfl rfl fun _ _ _ _ _ _ us hl => match us, hl with | [_, _], _ => ⟨_, rfl, rfl⟩
  have F5 := fun_mk (st := s_poly) l5 c5 k5
  have b5 := F5.binds (ps := ["row"]) fun _ _ _ _ _ _ us hl => match us, hl with | [_], _ => rfl
  have F6 := fun_mk (st := s_degree) l6 c6 k6
  have b6 := F6.binds (ps := ["row"]) fun _ _ _ _ _ _ us hl => match us, hl with | [_], _ => rfl
  have F7 := fun_mk (st := s_coefficient) l7 c7 k7
  have b7 := F7.binds (ps := ["row", "place"]) fun _ _ _ _ _ _ us hl => match us, hl with | [_, _], _ => rfl
  have F8 := fun_mk (st := s_added) l8 c8 k8
  have b8 := F8.binds (ps := ["first", "second"]) fun _ _ _ _ _ _ us hl => match us, hl with | [_, _], _ => rfl
  have F9 := fun_mk (st := s_multiplied) l9 c9 k9
  have b9 := F9.binds (ps := ["first", "second"]) fun _ _ _ _ _ _ us hl => match us, hl with | [_, _], _ => rfl
  have F10 := fun_mk (st := s_value_parts) l10 c10 k10
  have b10 := F10.binds (ps := ["row", "top", "bottom"]) fun _ _ _ _ _ _ us hl => match us, hl with | [_, _, _], _ => rfl
  have F11 := fun_mk (st := s_sign_at) l11 c11 k11
  have b11 := F11.binds (ps := ["row", "ratio"]) fun _ _ _ _ _ _ us hl => match us, hl with | [_, _], _ => rfl
  have F12 := fun_mk (st := s_Ratio_plus) l12 c12 k12
  have b12 := F12.binds (ps := ["self", "other"]) fun _ _ _ _ _ _ us hl => match us, hl with | [_, _], _ => rfl
  have F13 := fun_mk (st := s_Ratio_minus) l13 c13 k13
  have b13 := F13.binds (ps := ["self", "other"]) fun _ _ _ _ _ _ us hl => match us, hl with | [_, _], _ => rfl
  have F14 := fun_mk (st := s_Ratio_times) l14 c14 k14
  have b14 := F14.binds (ps := ["self", "other"]) fun _ _ _ _ _ _ us hl => match us, hl with | [_, _], _ => rfl
  have F15 := fun_mk (st := s_halvings) l15 c15 k15
  have b15 := F15.binds (ps := ["reach", "width"]) fun _ _ _ _ _ _ us hl => match us, hl with | [_, _], _ => rfl
  have F16 := fun_mk (st := s_stretched) l16 c16 k16
  have b16 := F16.binds (ps := ["row", "low", "reach"]) fun _ _ _ _ _ _ us hl => match us, hl with | [_, _, _], _ => rfl
  have F17 := fun_mk (st := s_spread) l17 c17 k17
  have b17 := F17.binds (ps := ["row"]) fun _ _ _ _ _ _ us hl => match us, hl with | [_], _ => rfl
  have F18 := fun_mk (st := s_moved) l18 c18 k18
  have b18 := F18.binds (ps := ["row"]) fun _ _ _ _ _ _ us hl => match us, hl with | [_], _ => rfl
  have F19 := fun_mk (st := s_halved) l19 c19 k19
  have b19 := F19.binds (ps := ["row", "end", "steps"]) fun _ _ _ _ _ _ us hl => match us, hl with | [_, _, _], _ => rfl
  have F20 := fun_mk (st := s_along) l20 c20 k20
  have b20 := F20.binds (ps := ["low", "reach", "place", "pieces"]) fun _ _ _ _ _ _ us hl => match us, hl with | [_, _, _, _], _ => rfl
  have F21 := fun_mk (st := s_narrowed) l21 c21 k21
  have b21 := F21.binds (ps := ["row", "low", "high", "width"]) fun _ _ _ _ _ _ us hl => match us, hl with | [_, _, _, _], _ => rfl
  have F22 := fun_mk (st := s__law_cell_at) l22 c22 k22
  have b22 := F22.binds (ps := ["_law_script", "_law_k"]) fun _ _ _ _ _ _ us hl => match us, hl with | [_, _], _ => rfl
  have F23 := fun_mk (st := s__law_whole) l23 c23 k23
  have b23 := F23.binds (ps := ["_law_found"]) fun _ _ _ _ _ _ us hl => match us, hl with | [_], _ => rfl
  have F24 := fun_mk (st := s__law_within) l24 c24 k24
  have b24 := F24.binds (ps := ["_law_cell", "_law_most"]) fun _ _ _ _ _ _ us hl => match us, hl with | [_, _], _ => rfl
  have F25 := fun_mk (st := s__law_mul) l25 c25 k25
  have b25 := F25.binds (ps := ["_law_kp", "_law_kq"]) fun _ _ _ _ _ _ us hl => match us, hl with | [_, _], _ => rfl
  have F26 := fun_mk (st := s__law_gcd) l26 c26 k26
  have b26 := F26.binds (ps := ["_law_a", "_law_b"]) fun _ _ _ _ _ _ us hl => match us, hl with | [_, _], _ => rfl
  have F27 := fun_mk (st := s__law_shrunk) l27 c27 k27
  have b27 := F27.binds (ps := ["_law_kp"]) fun _ _ _ _ _ _ us hl => match us, hl with | [_], _ => rfl
  have F28 := fun_mk (st := s__law_plain) l28 c28 k28
  have b28 := F28.binds (ps := ["_law_kp"]) fun _ _ _ _ _ _ us hl => match us, hl with | [_], _ => rfl
  have F29 := fun_mk (st := s__law_factor_by) l29 c29 k29
  have b29 := F29.binds (ps := ["_law_cell", "_law_most"]) fun _ _ _ _ _ _ us hl => match us, hl with | [_, _], _ => rfl
  have F30 := fun_mk (st := s__law_shape) l30 c30 k30
  have b30 := F30.binds (ps := ["_law_factor"]) fun _ _ _ _ _ _ us hl => match us, hl with | [_], _ => rfl
  have F31 := fun_mk (st := s__law_factors_by) l31 c31 k31
  have b31 := F31.binds (ps := ["_law_drawn", "_law_most", "_law_room"]) fun _ _ _ _ _ _ us hl => match us, hl with | [_, _, _], _ => rfl
  have F32 := fun_mk (st := s__law_product) l32 c32 k32
  have b32 := F32.binds (ps := ["_law_factors"]) fun _ _ _ _ _ _ us hl => match us, hl with | [_], _ => rfl
  have F33 := fun_mk (st := s__law_sure) l33 c33 k33
  have b33 := F33.binds (ps := ["_law_square", "_law_due"]) fun _ _ _ _ _ _ us hl => match us, hl with | [_, _], _ => rfl
  have F34 := fun_mk (st := s__law_side) l34 c34 k34
  have b34 := F34.binds (ps := ["_law_spot", "_law_top", "_law_bottom"]) fun _ _ _ _ _ _ us hl => match us, hl with | [_, _, _], _ => rfl
  have F35 := fun_mk (st := s__law_roots_of) l35 c35 k35
  have b35 := F35.binds (ps := ["_law_factors"]) fun _ _ _ _ _ _ us hl => match us, hl with | [_], _ => rfl
  have F36 := fun_mk (st := s__law_is_ratio) l36 c36 k36
  have b36 := F36.binds (ps := ["_law_found"]) fun _ _ _ _ _ _ us hl => match us, hl with | [_], _ => rfl
  have F37 := fun_mk (st := s__law_end) l37 c37 k37
  have b37 := F37.binds (ps := ["_law_cell", "_law_factors"]) fun _ _ _ _ _ _ us hl => match us, hl with | [_, _], _ => rfl
  have F38 := fun_mk (st := s__law_amid) l38 c38 k38
  have b38 := F38.binds (ps := ["_law_spots", "_law_span_here"]) fun _ _ _ _ _ _ us hl => match us, hl with | [_, _], _ => rfl
  have F39 := fun_mk (st := s__law_half) l39 c39 k39
  have b39 := F39.binds (ps := ["_law_span_here", "_law_spot"]) fun _ _ _ _ _ _ us hl => match us, hl with | [_, _], _ => rfl
  have F40 := fun_mk (st := s__law_span) l40 c40 k40
  have b40 := F40.binds (ps := ["_law_script", "_law_factors", "_law_spots"]) fun _ _ _ _ _ _ us hl => match us, hl with | [_, _, _], _ => rfl
  have F41 := fun_mk (st := s__law_same) l41 c41 k41
  have b41 := F41.binds (ps := ["_law_found", "_law_top", "_law_bottom"]) fun _ _ _ _ _ _ us hl => match us, hl with | [_, _, _], _ => rfl
  have F42 := fun_mk (st := s_law) l42 c42 k42
  have b42 := F42.binds (ps := ["_law_script"]) fun _ _ _ _ _ _ us hl => match us, hl with | [_], _ => rfl
  refine ⟨PySem.W.fnOf "law" "law" (defArgs s_law) (defBody s_law) (defScope s_law) .none kV42 dc42 pm42 an42 cd42 ct42, fun s v => .of_eq rfl, fun base KB GB => ?_⟩
  have C1 : Cal l.prog w K mg base 1 "shared_by_two" ["one", "other"] sp2 _ _ := ⟨ok_shared_by_two F1 T  , PySem.W.mg_of X G a1, k1, b1⟩
  have C2 : Cal l.prog w K mg base 2 "shared" ["row"] (spShared K) _ _ := ⟨ok_shared F2 T  C1, PySem.W.mg_of X G a2, k2, b2⟩
  have C3 : Cal l.prog w K mg base 1 "whole_sign" ["value"] spSg _ _ := ⟨ok_whole_sign F3 T  , PySem.W.mg_of X G a3, k3, b3⟩
  have K1 : KCal l.prog w K mg base 2 CC1 "Ratio" ["self", "top", "bottom"] (spInit CC1) _ _ _ [.int 1] := ⟨ok_Ratio___init__ F4 T R1 C1, ⟨mk1, a4, i4, kc1⟩, PySem.W.mg_of X G aC1, b4, bD4, .cons ⟨_, rfl⟩ .nil⟩
  have C5 : Cal l.prog w K mg base 1 "poly" ["row"] (spTrim K) _ _ := ⟨ok_poly F5 T  , PySem.W.mg_of X G a5, k5, b5⟩
  have C6 : Cal l.prog w K mg base 1 "degree" ["row"] spDeg _ _ := ⟨ok_degree F6 T  , PySem.W.mg_of X G a6, k6, b6⟩
  have C7 : Cal l.prog w K mg base 1 "coefficient" ["row", "place"] (spCell K) _ _ := ⟨ok_coefficient F7 T  , PySem.W.mg_of X G a7, k7, b7⟩
  have C8 : Cal l.prog w K mg base 2 "added" ["first", "second"] (sp2L K addL) _ _ := ⟨ok_added F8 T  C5 C7, PySem.W.mg_of X G a8, k8, b8⟩
  have C9 : Cal l.prog w K mg base 1 "multiplied" ["first", "second"] spMul _ _ := ⟨ok_multiplied F9 T  , PySem.W.mg_of X G a9, k9, b9⟩
  have C10 : Cal l.prog w K mg base 1 "value_parts" ["row", "top", "bottom"] spVp _ _ := ⟨ok_value_parts F10 T  , PySem.W.mg_of X G a10, k10, b10⟩
  have C11 : Cal l.prog w K mg base 2 "sign_at" ["row", "ratio"] (spSa CC1) _ _ := ⟨ok_sign_at F11 T R1 C10 C3, PySem.W.mg_of X G a11, k11, b11⟩
  have C12 : MCal l.prog w K mg base 4 CC1 "plus" ["self", "other"] (spPlus CC1) _ _ := ⟨ok_Ratio_plus F12 T R1 K1, ⟨a12, i12, k12⟩, b12⟩
  have C13 : MCal l.prog w K mg base 4 CC1 "minus" ["self", "other"] (spMinus CC1) _ _ := ⟨ok_Ratio_minus F13 T R1 K1, ⟨a13, i13, k13⟩, b13⟩
  have C14 : MCal l.prog w K mg base 4 CC1 "times" ["self", "other"] (spTimes CC1) _ _ := ⟨ok_Ratio_times F14 T R1 K1, ⟨a14, i14, k14⟩, b14⟩
  have C15 : Cal l.prog w K mg base 1 "halvings" ["reach", "width"] (spHvs CC1) _ _ := ⟨ok_halvings F15 T R1 , PySem.W.mg_of X G a15, k15, b15⟩
  have C16 : Cal l.prog w K mg base 3 "stretched" ["row", "low", "reach"] (spStr CC1) _ _ := ⟨ok_stretched F16 T R1 C2 C8 C9 C5, PySem.W.mg_of X G a16, k16, b16⟩
  have C17 : Cal l.prog w K mg base 1 "spread" ["row"] spSpr _ _ := ⟨ok_spread F17 T  , PySem.W.mg_of X G a17, k17, b17⟩
  have C18 : Cal l.prog w K mg base 2 "moved" ["row"] spMov _ _ := ⟨ok_moved F18 T  C6, PySem.W.mg_of X G a18, k18, b18⟩
  have C19 : Cal l.prog w K mg base 3 "halved" ["row", "end", "steps"] spHlv _ _ := ⟨ok_halved F19 T  C17 C3 C18, PySem.W.mg_of X G a19, k19, b19⟩
  have C20 : Cal l.prog w K mg base 5 "along" ["low", "reach", "place", "pieces"] (spAlo CC1) _ _ := ⟨ok_along F20 T R1 C12 C14 K1, PySem.W.mg_of X G a20, k20, b20⟩
  have C21 : Cal l.prog w K mg base 6 "narrowed" ["row", "low", "high", "width"] (spNar CC1) _ _ := ⟨ok_narrowed F21 T R1 C13 C15 C19 C16 C11 C20, PySem.W.mg_of X G a21, k21, b21⟩
  have C22 : Cal l.prog w K mg base 1 "_law_cell_at" ["_law_script", "_law_k"] (spCell K) _ _ := ⟨ok__law_cell_at F22 T  , PySem.W.mg_of X G a22, k22, b22⟩
  have C23 : Cal l.prog w K mg base 1 "_law_whole" ["_law_found"] spWhole _ _ := ⟨ok__law_whole F23 T  , PySem.W.mg_of X G a23, k23, b23⟩
  have C24 : Cal l.prog w K mg base 1 "_law_within" ["_law_cell", "_law_most"] spSigned _ _ := ⟨ok__law_within F24 T  , PySem.W.mg_of X G a24, k24, b24⟩
  have C25 : Cal l.prog w K mg base 1 "_law_mul" ["_law_kp", "_law_kq"] spMul _ _ := ⟨ok__law_mul F25 T  , PySem.W.mg_of X G a25, k25, b25⟩
  have C26 : Cal l.prog w K mg base 1 "_law_gcd" ["_law_a", "_law_b"] sp2 _ _ := ⟨ok__law_gcd F26 T  , PySem.W.mg_of X G a26, k26, b26⟩
  have C27 : Cal l.prog w K mg base 2 "_law_shrunk" ["_law_kp"] spShr _ _ := ⟨ok__law_shrunk F27 T  C26, PySem.W.mg_of X G a27, k27, b27⟩
  have C28 : Cal l.prog w K mg base 3 "_law_plain" ["_law_kp"] spPlain _ _ := ⟨ok__law_plain F28 T  C27, PySem.W.mg_of X G a28, k28, b28⟩
  have C29 : Cal l.prog w K mg base 1 "_law_factor_by" ["_law_cell", "_law_most"] spFb _ _ := ⟨ok__law_factor_by F29 T  , PySem.W.mg_of X G a29, k29, b29⟩
  have C30 : Cal l.prog w K mg base 4 "_law_shape" ["_law_factor"] spShape _ _ := ⟨ok__law_shape F30 T  C28, PySem.W.mg_of X G a30, k30, b30⟩
  have C31 : Cal l.prog w K mg base 5 "_law_factors_by" ["_law_drawn", "_law_most", "_law_room"] (spFs K) _ _ := ⟨ok__law_factors_by F31 T  C29 C30, PySem.W.mg_of X G a31, k31, b31⟩
  have C32 : Cal l.prog w K mg base 5 "_law_product" ["_law_factors"] spPro _ _ := ⟨ok__law_product F32 T  C25 C30, PySem.W.mg_of X G a32, k32, b32⟩
  have C33 : Cal l.prog w K mg base 1 "_law_sure" ["_law_square", "_law_due"] spSure _ _ := ⟨ok__law_sure F33 T  , PySem.W.mg_of X G a33, k33, b33⟩
  have C34 : Cal l.prog w K mg base 2 "_law_side" ["_law_spot", "_law_top", "_law_bottom"] spSide _ _ := ⟨ok__law_side F34 T  C33, PySem.W.mg_of X G a34, k34, b34⟩
  have C35 : Cal l.prog w K mg base 1 "_law_roots_of" ["_law_factors"] spRo _ _ := ⟨ok__law_roots_of F35 T  , PySem.W.mg_of X G a35, k35, b35⟩
  have C36 : Cal l.prog w K mg base 2 "_law_is_ratio" ["_law_found"] (spRa CC1) _ _ := ⟨ok__law_is_ratio F36 T R1 C23 C26, PySem.W.mg_of X G a36, k36, b36⟩
  have C37 : Cal l.prog w K mg base 2 "_law_end" ["_law_cell", "_law_factors"] spEnd _ _ := ⟨ok__law_end F37 T  C24, PySem.W.mg_of X G a37, k37, b37⟩
  have C38 : Cal l.prog w K mg base 3 "_law_amid" ["_law_spots", "_law_span_here"] spAmid _ _ := ⟨ok__law_amid F38 T  C34, PySem.W.mg_of X G a38, k38, b38⟩
  have C39 : Cal l.prog w K mg base 3 "_law_half" ["_law_span_here", "_law_spot"] spHalf _ _ := ⟨ok__law_half F39 T  C34, PySem.W.mg_of X G a39, k39, b39⟩
  have C40 : Cal l.prog w K mg base 4 "_law_span" ["_law_script", "_law_factors", "_law_spots"] (spSpan K) _ _ := ⟨ok__law_span F40 T  C37 C22 C38 C39, PySem.W.mg_of X G a40, k40, b40⟩
  have C41 : Cal l.prog w K mg base 3 "_law_same" ["_law_found", "_law_top", "_law_bottom"] (spSame CC1) _ _ := ⟨ok__law_same F41 T R1 C36, PySem.W.mg_of X G a41, k41, b41⟩
  exact ok_law F42 T R1 C31 C30 C22 C25 C32 C35 C40 C21 K1 C38 C39 C41
theorem walk {l : PySem.W.OpenLaw} {q : Program} {loose : List Str} {XP : (Str → Option Value) → Heap → Prop} {YP : World → Heap → Prop} {d : DefRec} {K : Params → PySem.W.Frag} (hn : l.most = some 63) (hdf : d.params.defaults = [])
    (hY : ∀ (w : World) (h : Heap), YP w h → (K w.params).In h)
    (F : ∀ (w : World) (mg : Str → Option Value) (fa : Addr) (h : Heap), (K w.params).In h → h.Ns mainGlobals mg → mg d.name = some (.ref fa) →
      ∃ fd : FuncData, (∀ (s : Shared) (u : Value), BindsTo s fd ⟨[u], []⟩ [("_law_script", u)]) ∧ ∀ base : Heap, (K w.params).In base → base.Ns mainGlobals mg → FnOk l.prog w (K w.params) mg base CX0 7 fa fd ["_law_script"] (spLaw (K w.params))) :
    PySem.W.WalkO q loose XP YP l.row.toRowW d [] (fun f vs => PySem.call f vs) :=
  L2.walk_of (n := 63) (k := 7) (x := "_law_script") (CX := fun _ => CX0) (sp := fun w => spLaw (K w.params)) hn (by decide) hdf ⟨rfl, by decide, by decide⟩ hY F (fun _ _ a ns hl _ hS => ⟨a, ns, rfl, hS, hl, fun _ => rfl⟩) fun _ _ _ _ _ z => z
end R27
open PySem PySem.W PyProof.Rows
set_option maxRecDepth 100000 in
set_option maxHeartbeats 0 in
theorem PySem.Challenge.cw_rootspan_k27_narrowed_holds : PySem.Challenge.rw_rootspan_k27_narrowed.Holds := by
  w_on; o_law; k_head; (case hw => w_witness2)
  k_fill
  refine R27.walk (l := PySem.Challenge.rw_rootspan_k27_narrowed) rfl rfl (fun w h Y => PySem.W.kIn_of Y) ?F
  case F =>
    intro w mg fa h KX G hmg
    refine' R27.all_mk KX G hmg ?aC1 ?pg1 ?hd1 ?po1 ?sa1 ?mk1 ?kc1 ?n1_top ?n1_bottom ?ha1 ?hn1 ?ht1 ?hm1 ?a1 ?l1 ?c1 ?k1 ?a2 ?l2 ?c2 ?k2 ?a3 ?l3 ?c3 ?k3 ?a4 ?i4 ?l4 ?c4 ?k4 ?t4 ?a5 ?l5 ?c5 ?k5 ?a6 ?l6 ?c6 ?k6 ?a7 ?l7 ?c7 ?k7 ?a8 ?l8 ?c8 ?k8 ?a9 ?l9 ?c9 ?k9 ?a10 ?l10 ?c10 ?k10 ?a11 ?l11 ?c11 ?k11 ?a12 ?i12 ?l12 ?c12 ?k12 ?a13 ?i13 ?l13 ?c13 ?k13 ?a14 ?i14 ?l14 ?c14 ?k14 ?a15 ?l15 ?c15 ?k15 ?a16 ?l16 ?c16 ?k16 ?a17 ?l17 ?c17 ?k17 ?a18 ?l18 ?c18 ?k18 ?a19 ?l19 ?c19 ?k19 ?a20 ?l20 ?c20 ?k20 ?a21 ?l21 ?c21 ?k21 ?a22 ?l22 ?c22 ?k22 ?a23 ?l23 ?c23 ?k23 ?a24 ?l24 ?c24 ?k24 ?a25 ?l25 ?c25 ?k25 ?a26 ?l26 ?c26 ?k26 ?a27 ?l27 ?c27 ?k27 ?a28 ?l28 ?c28 ?k28 ?a29 ?l29 ?c29 ?k29 ?a30 ?l30 ?c30 ?k30 ?a31 ?l31 ?c31 ?k31 ?a32 ?l32 ?c32 ?k32 ?a33 ?l33 ?c33 ?k33 ?a34 ?l34 ?c34 ?k34 ?a35 ?l35 ?c35 ?k35 ?a36 ?l36 ?c36 ?k36 ?a37 ?l37 ?c37 ?k37 ?a38 ?l38 ?c38 ?k38 ?a39 ?l39 ?c39 ?k39 ?a40 ?l40 ?c40 ?k40 ?a41 ?l41 ?c41 ?k41 ?a42 ?l42 ?c42 ?k42 ?z0 ?z1 ?z2 ?z3 ?z4 ?z5 ?z6 ?z7 ?z8 ?z9 ?z10 ?z11
    (case aC1 => k_is)
    (case pg1 => k_is)
    (case hd1 => k_is)
    (case po1 => k_is)
    (case sa1 => k_is)
    (case mk1 => k_is)
    (case kc1 => k_is)
    (case n1_top => k_is)
    (case n1_bottom => k_is)
    (case ha1 => k_is)
    (case hn1 => k_is)
    (case ht1 => k_is)
    (case hm1 => k_is)
    (case a1 => k_is)
    (case l1 => k_is)
    (case c1 => k_is)
    (case k1 => k_is)
    (case a2 => k_is)
    (case l2 => k_is)
    (case c2 => k_is)
    (case k2 => k_is)
    (case a3 => k_is)
    (case l3 => k_is)
    (case c3 => k_is)
    (case k3 => k_is)
    (case a4 => k_is)
    (case i4 => k_is)
    (case l4 => k_is)
    (case c4 => k_is)
    (case k4 => k_is)
    (case t4 => k_is)
    (case a5 => k_is)
    (case l5 => k_is)
    (case c5 => k_is)
    (case k5 => k_is)
    (case a6 => k_is)
    (case l6 => k_is)
    (case c6 => k_is)
    (case k6 => k_is)
    (case a7 => k_is)
    (case l7 => k_is)
    (case c7 => k_is)
    (case k7 => k_is)
    (case a8 => k_is)
    (case l8 => k_is)
    (case c8 => k_is)
    (case k8 => k_is)
    (case a9 => k_is)
    (case l9 => k_is)
    (case c9 => k_is)
    (case k9 => k_is)
    (case a10 => k_is)
    (case l10 => k_is)
    (case c10 => k_is)
    (case k10 => k_is)
    (case a11 => k_is)
    (case l11 => k_is)
    (case c11 => k_is)
    (case k11 => k_is)
    (case a12 => k_is)
    (case i12 => k_is)
    (case l12 => k_is)
    (case c12 => k_is)
    (case k12 => k_is)
    (case a13 => k_is)
    (case i13 => k_is)
    (case l13 => k_is)
    (case c13 => k_is)
    (case k13 => k_is)
    (case a14 => k_is)
    (case i14 => k_is)
    (case l14 => k_is)
    (case c14 => k_is)
    (case k14 => k_is)
    (case a15 => k_is)
    (case l15 => k_is)
    (case c15 => k_is)
    (case k15 => k_is)
    (case a16 => k_is)
    (case l16 => k_is)
    (case c16 => k_is)
    (case k16 => k_is)
    (case a17 => k_is)
    (case l17 => k_is)
    (case c17 => k_is)
    (case k17 => k_is)
    (case a18 => k_is)
    (case l18 => k_is)
    (case c18 => k_is)
    (case k18 => k_is)
    (case a19 => k_is)
    (case l19 => k_is)
    (case c19 => k_is)
    (case k19 => k_is)
    (case a20 => k_is)
    (case l20 => k_is)
    (case c20 => k_is)
    (case k20 => k_is)
    (case a21 => k_is)
    (case l21 => k_is)
    (case c21 => k_is)
    (case k21 => k_is)
    (case a22 => k_is)
    (case l22 => k_is)
    (case c22 => k_is)
    (case k22 => k_is)
    (case a23 => k_is)
    (case l23 => k_is)
    (case c23 => k_is)
    (case k23 => k_is)
    (case a24 => k_is)
    (case l24 => k_is)
    (case c24 => k_is)
    (case k24 => k_is)
    (case a25 => k_is)
    (case l25 => k_is)
    (case c25 => k_is)
    (case k25 => k_is)
    (case a26 => k_is)
    (case l26 => k_is)
    (case c26 => k_is)
    (case k26 => k_is)
    (case a27 => k_is)
    (case l27 => k_is)
    (case c27 => k_is)
    (case k27 => k_is)
    (case a28 => k_is)
    (case l28 => k_is)
    (case c28 => k_is)
    (case k28 => k_is)
    (case a29 => k_is)
    (case l29 => k_is)
    (case c29 => k_is)
    (case k29 => k_is)
    (case a30 => k_is)
    (case l30 => k_is)
    (case c30 => k_is)
    (case k30 => k_is)
    (case a31 => k_is)
    (case l31 => k_is)
    (case c31 => k_is)
    (case k31 => k_is)
    (case a32 => k_is)
    (case l32 => k_is)
    (case c32 => k_is)
    (case k32 => k_is)
    (case a33 => k_is)
    (case l33 => k_is)
    (case c33 => k_is)
    (case k33 => k_is)
    (case a34 => k_is)
    (case l34 => k_is)
    (case c34 => k_is)
    (case k34 => k_is)
    (case a35 => k_is)
    (case l35 => k_is)
    (case c35 => k_is)
    (case k35 => k_is)
    (case a36 => k_is)
    (case l36 => k_is)
    (case c36 => k_is)
    (case k36 => k_is)
    (case a37 => k_is)
    (case l37 => k_is)
    (case c37 => k_is)
    (case k37 => k_is)
    (case a38 => k_is)
    (case l38 => k_is)
    (case c38 => k_is)
    (case k38 => k_is)
    (case a39 => k_is)
    (case l39 => k_is)
    (case c39 => k_is)
    (case k39 => k_is)
    (case a40 => k_is)
    (case l40 => k_is)
    (case c40 => k_is)
    (case k40 => k_is)
    (case a41 => k_is)
    (case l41 => k_is)
    (case c41 => k_is)
    (case k41 => k_is)
    (case a42 => k_is)
    (case l42 => k_is)
    (case c42 => k_is)
    (case k42 => k_is)
    (case z0 => k_is)
    (case z1 => k_is)
    (case z2 => k_is)
    (case z3 => k_is)
    (case z4 => k_is)
    (case z5 => k_is)
    (case z6 => k_is)
    (case z7 => k_is)
    (case z8 => k_is)
    (case z9 => k_is)
    (case z10 => k_is)
    (case z11 => k_is)
