import PyProof.Rows.All
import Wide.All
import OpenK.AllK
import Wide.FinOn
import Lean
import PyProof.EqAt
import PyProof.EqKinds
import PyProof.TupleCall
import PySem.Challenge.RW_rootspan_k24_whole_counts
set_option Elab.async false
set_option linter.all false
set_option maxRecDepth 100000
def PySem.W.Fast.tw4322145895455348312 : Unit := ()
def PySem.W.Fast.tw4894804599866032753 : Unit := ()
def PySem.W.Fast.tw11269425493869217799 : Unit := ()
def PySem.W.Fast.tw2458935901241352738 : Unit := ()
def PySem.W.Fast.tw14581698027500418700 : Unit := ()
def PySem.W.Fast.tw2102879133949268912 : Unit := ()
def PySem.W.Fast.tw12063621047931255081 : Unit := ()
def PySem.W.Fast.tw16625758656413258010 : Unit := ()
def PySem.W.Fast.tw1648538641241142414 : Unit := ()
def PySem.W.Fast.tw13418356235430014195 : Unit := ()
def PySem.W.Fast.tw91376336362907570 : Unit := ()
def PySem.W.Fast.tw17400552340375613437 : Unit := ()
def PySem.W.Fast.tw13287483677091922719 : Unit := ()
def PySem.W.Fast.tw2062193253692551683 : Unit := ()
def PySem.W.Fast.tw13948294877548575853 : Unit := ()
def PySem.W.Fast.tw13898642203947434860 : Unit := ()
def PySem.W.Fast.tw17520242572242500250 : Unit := ()
def PySem.W.Fast.tw3711314494999884021 : Unit := ()
def PySem.W.Fast.tw13124995706961887600 : Unit := ()
def PySem.W.Fast.tw9088966536925212679 : Unit := ()
def PySem.W.Fast.tw10842575644311622289 : Unit := ()
def PySem.W.Fast.tw3440970444293822172 : Unit := ()
def PySem.W.Fast.tw3382797073078438299 : Unit := ()
def PySem.W.Fast.tw5812352821233304348 : Unit := ()
def PySem.W.Fast.tw12946191704202934056 : Unit := ()
def PySem.W.Fast.tw13116352641402441284 : Unit := ()
def PySem.W.Fast.tw12783273341599930024 : Unit := ()
def PySem.W.Fast.tw6710914696437084744 : Unit := ()
def PySem.W.Fast.tw9918991234758288829 : Unit := ()
def PySem.W.Fast.tw522674869937468139 : Unit := ()
def PySem.W.Fast.tw18438713114847638731 : Unit := ()
def PySem.W.Fast.tw5644896059690531800 : Unit := ()
def PySem.W.Fast.tw4463178172489637204 : Unit := ()
def PySem.W.Fast.tw8097228918470931731 : Unit := ()
def PySem.W.Fast.tw3142132374095365389 : Unit := ()
def PySem.W.Fast.tw2188787868563002476 : Unit := ()
def PySem.W.Fast.tw7481756045227272962 : Unit := ()
def PySem.W.Fast.tw8663128136322222065 : Unit := ()
def PySem.W.Fast.tw631585229972895773 : Unit := ()
def PySem.W.Fast.tw311552780606335444 : Unit := ()
def PySem.W.Fast.tw15093530498134207953 : Unit := ()
def PySem.W.Fast.tw7354620872343024047 : Unit := ()
/-! THE HAND LAYER, for ints, bools, texts, own classes, LISTS and tuples (index, slices, in, append, pop ..), calls, loops. Paste it whole ahead of your own text; what your proof does not reach may be deleted. -/
namespace L2
open PySem PySem.Spec PyProof.Rows

/-- a key: an int or a str -/
abbrev Key := Sum Int Str
def keyIs : Key → Value → Bool
  | .inl k, v => Value.isInt k v
  | .inr x, v => Value.isStrOf x v
def keyH (w : World) : Key → Int
  | .inl k => hashInt k
  | .inr x => hashStr w x
theorem keyIs_shape : ∀ {k : Key} {v : Value}, keyIs k v = true → (∃ i t, k = Sum.inl i ∧ v = Value.int i t) ∨ (∃ x t, k = Sum.inr x ∧ v = Value.str x t)
  | .inl i, v, h => by
    obtain ⟨t, e⟩ := Value.isInt_shape (k := i) (v := v) h
    exact .inl ⟨i, t, rfl, e⟩
  | .inr x, v, h => by
    obtain ⟨t, e⟩ := Value.isStrOf_shape (x := x) (v := v) h
    exact .inr ⟨x, t, rfl, e⟩
theorem key_ll (a b : Int) : decide ((Sum.inl a : Key) = Sum.inl b) = (a == b) := by
  by_cases e : a = b
  · subst e; simp
  · have h : ¬ (Sum.inl a : Key) = Sum.inl b := fun q => e (Sum.inl.inj q)
    rw [decide_eq_false h]
    exact (beq_eq_false_iff_ne.mpr e).symm
theorem key_rr (a b : Str) : decide ((Sum.inr a : Key) = Sum.inr b) = decide (a = b) := by
  by_cases e : a = b
  · subst e; simp
  · have h : ¬ (Sum.inr a : Key) = Sum.inr b := fun q => e (Sum.inr.inj q)
    rw [decide_eq_false h, decide_eq_false e]
theorem key_lr (a : Int) (b : Str) : decide ((Sum.inl a : Key) = Sum.inr b) = false := decide_eq_false (fun q => nomatch q)
theorem key_rl (a : Str) (b : Int) : decide ((Sum.inr a : Key) = Sum.inl b) = false := decide_eq_false (fun q => nomatch q)

def mixKind (prog : Program) (w : World) : PySem.KeyKind prog w Key where
  is := keyIs
  hash := keyH w
  inj := fun v a b ha hb => by
    rcases keyIs_shape ha with ⟨i, t, rfl, rfl⟩ | ⟨x, t, rfl, rfl⟩
    · rcases keyIs_shape hb with ⟨j, u, rfl, e⟩ | ⟨y, u, rfl, e⟩
      · injection e with e1 _; rw [e1]
      · exact nomatch e
    · rcases keyIs_shape hb with ⟨j, u, rfl, e⟩ | ⟨y, u, rfl, e⟩
      · exact nomatch e
      · injection e with e1 _; rw [e1]
  byValue := fun k v h => by
    rcases keyIs_shape h with ⟨i, t, rfl, rfl⟩ | ⟨x, t, rfl, rfl⟩ <;> rfl
  pyHash := fun hv h => by
    rcases keyIs_shape hv with ⟨i, t, rfl, rfl⟩ | ⟨x, t, rfl, rfl⟩
    · exact wpAny_pyHash_int h
    · exact wpAny_pyHash_str h
  eqBool := fun hu hv h => by
    rcases keyIs_shape hu with ⟨i, t, rfl, rfl⟩ | ⟨x, t, rfl, rfl⟩
    · rcases keyIs_shape hv with ⟨j, u, rfl, rfl⟩ | ⟨y, u, rfl, rfl⟩
      · rw [key_ll] at h; exact wpAny_eqBool_int h
      · rw [key_lr] at h; exact SeqAt.EqAt.int_str i t y u _ _ _ _ h
    · rcases keyIs_shape hv with ⟨j, u, rfl, rfl⟩ | ⟨y, u, rfl, rfl⟩
      · rw [key_rl] at h; exact SeqAt.EqAt.str_int x t j u _ _ _ _ h
      · rw [key_rr] at h; exact wpAny_eqBool_str h
  «strs» := fun k x t v h => by
    rcases keyIs_shape h with ⟨i, u, rfl, e⟩ | ⟨y, u, rfl, e⟩
    · exact nomatch e
    · injection e with e1 _
      subst e1
      cases v <;> rfl

end L2

namespace L2
open PySem PySem.Spec PyProof.Rows

/-- a value, without the heap -/
inductive V where
  | non | bl (b : Bool) | int (i : Int) | str (x : Str) | byt (b : Array UInt8) | flt (b : UInt64) | ref (a : Addr) | ty (n : String)
  deriving DecidableEq

def RelV : V → Value → Prop
  | .non, u => u = Value.none
  | .bl b, u => u = Value.bool b
  | .int i, u => ∃ t, u = Value.int i t
  | .str x, u => ∃ t, u = Value.str x t
  | .byt b, u => ∃ t, u = Value.bytes b t
  | .flt b, u => ∃ t, u = Value.float b t
  | .ref a, u => u = Value.ref a
  | .ty n, u => u = Value.type n

abbrev Vals : List V → List Value → Prop := Paired RelV
theorem Vals.length {xs : List V} {us : List Value} (r : Vals xs us) : xs.length = us.length := Paired.length r
theorem Vals.get : ∀ {xs : List V} {us : List Value} {i : Nat} {x : V}, Vals xs us → xs[i]? = some x → ∃ u, us[i]? = some u ∧ RelV x u
  | _, _, _, _, .nil, e => by simp at e
  | _, _, 0, _, .cons r _, e => by simp at e; subst e; exact ⟨_, rfl, r⟩
  | _, _, i + 1, x, .cons _ t, e => by
    obtain ⟨u, h1, h2⟩ := Vals.get (i := i) (x := x) t (by simpa using e)
    exact ⟨u, by simpa using h1, h2⟩
theorem Vals.set {x : V} {u : Value} (r : RelV x u) : ∀ {xs : List V} {us : List Value} (i : Nat), Vals xs us → Vals (xs.set i x) (us.set i u)
  | _, _, _, .nil => .nil
  | _, _, 0, .cons _ t => .cons r t
  | _, _, i + 1, .cons q t => .cons q (Vals.set r i t)
theorem Vals.append : ∀ {xs ys : List V} {us ws : List Value}, Vals xs us → Vals ys ws → Vals (xs ++ ys) (us ++ ws)
  | _, _, _, _, .nil, s => s
  | _, _, _, _, .cons r t, s => .cons r (Vals.append t s)
theorem Vals.take : ∀ {xs : List V} {us : List Value} (n : Nat), Vals xs us → Vals (xs.take n) (us.take n)
  | _, _, 0, _ => .nil
  | _, _, _ + 1, .nil => .nil
  | _, _, n + 1, .cons r t => .cons r (Vals.take n t)
theorem Vals.drop : ∀ {xs : List V} {us : List Value} (n : Nat), Vals xs us → Vals (xs.drop n) (us.drop n)
  | _, _, 0, r => r
  | _, _, _ + 1, .nil => .nil
  | _, _, n + 1, .cons _ t => Vals.drop n t
def RelO : Option V → Option Value → Prop
  | some v, some u => RelV v u
  | none, none => True
  | _, _ => False
def KV {κ : Type} : List (κ × V) → List (κ × Value) → Prop := Paired fun (p : κ × V) (q : κ × Value) => p.1 = q.1 ∧ RelV p.2 q.2

/-- a key of a dict (00_mix): an int or a text -/
def kV : Key → V
  | .inl i => .int i
  | .inr x => .str x

/-- what stands at a tracked address -/
inductive HO where
  /-- a list -/
  | lst (xs : List V)
  /-- a tuple (never changes) -/
  | tup (xs : List V)
  /-- a dict whose keys are ints and texts; one whose keys are tuples of ints and texts (the empty one is both) -/
  | dK (kvs : List (Key × V)) | dT (kvs : List (List Key × V))
  /-- a set of ints: its members, its size -/
  | set (S : Int → Bool) (n : Nat)
  /-- an instance of the class at C, its dict at dx, its attributes -/
  | ins (C dx : Addr) (fs : List (Str × V))
  /-- the dict of the instance at x -/
  | own (x : Addr)
  /-- the dict of an exception -/
  | xd (fs : List (Str × V))
  /-- a bound method, f of x -/
  | met (f x : Addr)
  /-- a range object lo, lo + 1, .. below hi -/
  | rng (lo hi : Int)
  /-- a thing that is known to the object (the script; a dict while a loop walks it): read, never written while it is so -/
  | frz (o : Obj) (u : HO)
  /-- a code object's table -/
  | tbl (ps : Array Value)
  /-- any other thing, by what is true of its one object (a def of one's own: SetO a S n := HO.ext fun h => ..) -/
  | ext (φ : Heap → Prop)

abbrev Hp := Addr → Option HO
def upd (H : Hp) (a : Addr) (o : HO) : Hp := fun b => if b = a then some o else H b
theorem upd_same {H : Hp} {a : Addr} {o : HO} : upd H a o a = some o := by unfold upd; rw [if_pos rfl]
theorem upd_ne {H : Hp} {a b : Addr} {o : HO} (h : b ≠ a) : upd H a o b = H b := by unfold upd; rw [if_neg h]
theorem upd_upd {H : Hp} {a : Addr} {o u : HO} : upd (upd H a o) a u = upd H a u := by
  funext b; unfold upd; split <;> rfl
theorem ne_of_none {H : Hp} {a b : Addr} {o : HO} (h : H a = some o) (h' : H b = none) : a ≠ b := by
  intro e; subst e; rw [h] at h'; cases h'

section
variable (P : Program) (w : World)
def ObjOk (H : Hp) (h : Heap) (a : Addr) : HO → Prop
  | .lst xs => xs.length ≤ sizeLine ∧ ∃ (its : List Value) (n : Nat), Vals xs its ∧ h.get? a = some { cls := .type "list", data := .seq its.toArray n }
  | .tup xs => xs.length ≤ sizeLine ∧ ∃ its : List Value, Vals xs its ∧ IsTup h a its.toArray
  | .dK kvs => kvs.length ≤ sizeLine ∧ (a == sysModules) = false ∧ ∃ vs, KV kvs vs ∧ h.DictOf (mixKind P w) a vs
  | .dT kvs => kvs.length ≤ sizeLine ∧ (a == sysModules) = false ∧ ∃ xs : List (List Key × Addr × Value),
      Paired (fun (p : List Key × V) (q : List Key × Addr × Value) => p.1 = q.1 ∧ H q.2.1 = some (.tup (p.1.map kV)) ∧ RelV p.2 q.2.2) kvs xs ∧
      ∃ o es ep, h.get? a = some o ∧ o.ExactDict ∧ o.data = .dict es ep ∧ es.toList = xs.map (entryOfKey (tupleKind (mixKind P w))) ∧ (xs.map (·.1)).Nodup
  | .set S n => h.SetOf (intKind P w) a S n
  | .ins C dx fs => H dx = some (.own a) ∧ fs.length ≤ 1000 ∧ dx ≠ a ∧ h.get? a = some (PySem.W.instObj C dx) ∧
      ∃ mA, h.Ns1 dx mA ∧ (∀ f, RelO (fs.lookup f) (mA f)) ∧ PySem.Within mA (fs.map (·.1))
  | .own _ => ∃ o, h.get? a = some o
  | .xd fs => ∃ mA, h.Ns1 a mA ∧ ∀ f, RelO (fs.lookup f) (mA f)
  | .rng lo hi => ∃ t u v, h.get? a = some { cls := .type "range", data := .fields #[.int lo t, .int hi u, .int 1 v] }
  | .frz o u => h.get? a = some o ∧ ObjOk H h a u
  | .tbl ps => h.get? a = some { cls := .none, data := .fields ps }
  | .met f x => h.get? a = some (PySem.W.methodObj (.ref f) (.ref x))
  | .ext φ => φ h ∧ (∃ o, h.get? a = some o) ∧ ∀ h1 h2 : Heap, φ h1 → (∀ o, h1.get? a = some o → h2.get? a = some o) → φ h2
/-- the abstract heap is held -/
def HOk (H : Hp) (h : Heap) : Prop := ∀ a o, H a = some o → ObjOk P w H h a o
end

section
variable {P : Program} {w : World} {H H' : Hp} {h h' : Heap} {a : Addr} {o : HO}
theorem ObjOk.lt (x : ObjOk P w H h a o) : a < h.objs.size := by
  cases o with
  | lst xs => obtain ⟨_, _, _, _, e⟩ := x; exact Heap.lt_size e
  | tup xs => obtain ⟨_, _, _, p⟩ := x; exact p.lt
  | dK kvs => obtain ⟨_, _, _, _, o, _, _, e, _⟩ := x; exact Heap.lt_size e
  | dT kvs => obtain ⟨_, _, _, _, o, _, _, e, _⟩ := x; exact Heap.lt_size e
  | set S n => obtain ⟨o, _, _, _, e, _⟩ := x; exact Heap.lt_size e
  | ins C dx fs => obtain ⟨_, _, _, e, _⟩ := x; exact Heap.lt_size e
  | own y => obtain ⟨_, e⟩ := x; exact Heap.lt_size e
  | xd fs => obtain ⟨_, ⟨_, _, _, e, _⟩, _⟩ := x; exact Heap.lt_size e
  | rng lo hi => obtain ⟨_, _, _, e⟩ := x; exact Heap.lt_size e
  | frz ob u => obtain ⟨e, _⟩ := x; exact Heap.lt_size e
  | tbl ps => exact Heap.lt_size (show h.get? a = some _ from x)
  | met f y => exact Heap.lt_size (show h.get? a = some _ from x)
  | ext φ => obtain ⟨_, ⟨_, e⟩, _⟩ := x; exact Heap.lt_size e
theorem Paired.mapP {α β : Type} {F G : α → β → Prop} : ∀ {l₁ : List α} {l₂ : List β}, Paired F l₁ l₂ → (∀ a b, F a b → G a b) → Paired G l₁ l₂
  | _, _, .nil, _ => .nil
  | _, _, .cons r t, f => .cons (f _ _ r) (Paired.mapP t f)
/-- what an object's description leans on: its own object, its own dict, the tuples -/
theorem ObjOk.stay (x : ObjOk P w H h a o) (k : ∀ b u, (b = a ∨ H b = some (.own a)) → h.get? b = some u → h'.get? b = some u)
    (ho : ∀ b, H b = some (.own a) → H' b = some (.own a)) (ht : ∀ b xs, H b = some (.tup xs) → H' b = some (.tup xs)) : ObjOk P w H' h' a o := by
  induction o with
  | lst xs => obtain ⟨z, its, n, r, e⟩ := x; exact ⟨z, its, n, r, k _ _ (.inl rfl) e⟩
  | tup xs => obtain ⟨z, its, r, ob, e, c⟩ := x; exact ⟨z, its, r, ob, k _ _ (.inl rfl) e, c⟩
  | dK kvs => obtain ⟨z, y, vs, r, ob, es, ep, e, c⟩ := x; exact ⟨z, y, vs, r, ob, es, ep, k _ _ (.inl rfl) e, c⟩
  | dT kvs =>
    obtain ⟨z, y, xs, r, ob, es, ep, e, c⟩ := x
    exact ⟨z, y, xs, Paired.mapP r fun p q z => ⟨z.1, ht _ _ z.2.1, z.2.2⟩, ob, es, ep, k _ _ (.inl rfl) e, c⟩
  | set S n => obtain ⟨ob, es, ep, t, e, c⟩ := x; exact ⟨ob, es, ep, t, k _ _ (.inl rfl) e, c⟩
  | ins C dx fs =>
    obtain ⟨d, z, ne, e, mA, ⟨od, es, ep, e2, c⟩, r⟩ := x
    exact ⟨ho _ d, z, ne, k _ _ (.inl rfl) e, mA, ⟨od, es, ep, k _ _ (.inr d) e2, c⟩, r⟩
  | own y => obtain ⟨ob, e⟩ := x; exact ⟨ob, k _ _ (.inl rfl) e⟩
  | xd fs => obtain ⟨mA, ⟨od, es, ep, e, c⟩, r⟩ := x; exact ⟨mA, ⟨od, es, ep, k _ _ (.inl rfl) e, c⟩, r⟩
  | rng lo hi => obtain ⟨t, u, v, e⟩ := x; exact ⟨t, u, v, k _ _ (.inl rfl) e⟩
  | frz ob u ih => obtain ⟨e, q⟩ := x; exact ⟨k _ _ (.inl rfl) e, ih q⟩
  | tbl ps =>
    have e : h.get? a = some { cls := .none, data := .fields ps } := x
    show h'.get? a = some { cls := .none, data := .fields ps }
    exact k a _ (.inl rfl) e
  | met f y =>
    have e : h.get? a = some (PySem.W.methodObj (.ref f) (.ref y)) := x
    show h'.get? a = some (PySem.W.methodObj (.ref f) (.ref y))
    exact k a _ (.inl rfl) e
  | ext φ => obtain ⟨p, ⟨o, e⟩, st⟩ := x; exact ⟨st _ _ p fun o q => k _ _ (.inl rfl) q, ⟨o, k _ _ (.inl rfl) e⟩, st⟩
theorem HOk.lt (x : HOk P w H h) (e : H a = some o) : a < h.objs.size := (x a o e).lt
theorem HOk.fresh (x : HOk P w H h) (e : h.objs.size ≤ a) : H a = none := by
  cases q : H a with
  | none => rfl
  | some u => exact absurd (Nat.lt_of_lt_of_le (x.lt q) e) (Nat.lt_irrefl _)
/-- every object of the heap is kept -/
theorem HOk.kept (x : HOk P w H h) (k : ∀ b u, h.get? b = some u → h'.get? b = some u) : HOk P w H h' := fun a o e =>
  (x a o e).stay (fun b u _ q => k b u q) (fun _ q => q) fun _ _ q => q
/-- a new object is laid and tracked -/
theorem HOk.laid (x : HOk P w H h) (k : ∀ b u, h.get? b = some u → h'.get? b = some u) (hp : h.objs.size ≤ a) (new : ObjOk P w (upd H a o) h' a o) : HOk P w (upd H a o) h' := fun b u e => by
  have hn := x.fresh hp
  by_cases hb : b = a
  · subst hb; rw [upd_same] at e; cases e; exact new
  · rw [upd_ne hb] at e
    exact (x b u e).stay (fun c v _ q => k c v q) (fun c q => by rw [upd_ne (ne_of_none q hn)]; exact q) fun c xs q => by rw [upd_ne (ne_of_none q hn)]; exact q
end

/-- what may be read as u: it is u, or a known u -/
def Rd (H : Hp) (a : Addr) (u : HO) : Prop := H a = some u ∨ ∃ o, H a = some (.frz o u)
theorem Rd.of {H : Hp} {a : Addr} {u : HO} (h : H a = some u) : Rd H a u := .inl h
theorem Rd.ok {P : Program} {w : World} {H : Hp} {h : Heap} {a : Addr} {u : HO} (r : Rd H a u) (x : HOk P w H h) : ObjOk P w H h a u := by
  rcases r with r | ⟨o, r⟩
  · exact x a u r
  · obtain ⟨_, q⟩ := x a _ r
    exact q
/-- what may be written -/
def Mut : Option HO → Prop
  | some (.lst _) => True
  | some (.dK _) => True
  | some (.dT _) => True
  | some (.set _ _) => True
  | some (.ins _ _ _) => True
  | some (.ext _) => True
  | _ => False
section
variable {P : Program} {w : World} {H : Hp} {h h' : Heap} {x e : Addr} {o' : HO}
/-- the object at e is changed: x itself, or the dict of the instance x -/
theorem HOk.write (ok : HOk P w H h) (mu : Mut (H x)) (he : e = x ∨ H e = some (.own x)) (k : ∀ b u, b ≠ e → h.get? b = some u → h'.get? b = some u) (heo : ∃ u, h'.get? e = some u)
    (new : ObjOk P w (upd H x o') h' x o') : HOk P w (upd H x o') h' := fun b u q => by
  have nown : ∀ c y, H c = some (.own y) → c ≠ x := fun c y r z => by subst z; rw [r] at mu; exact mu
  have ntup : ∀ c xs, H c = some (.tup xs) → c ≠ x := fun c xs r z => by subst z; rw [r] at mu; exact mu
  by_cases hb : b = x
  · subst hb; rw [upd_same] at q; cases q; exact new
  · rw [upd_ne hb] at q
    by_cases hbe : b = e
    · have q' : H b = some (.own x) := by
        rcases he with z | z
        · exact absurd (hbe.trans z) hb
        · rw [hbe]; exact z
      rw [q] at q'; cases q'
      obtain ⟨v, hv⟩ := heo
      exact ⟨v, by rw [hbe]; exact hv⟩
    · refine (ok b u q).stay (fun c v hc r => k c v ?_ r) (fun c r => by rw [upd_ne (nown c b r)]; exact r) fun c xs r => by rw [upd_ne (ntup c xs r)]; exact r
      rcases hc with rfl | hc
      · exact hbe
      · rintro rfl
        rcases he with z | z
        · exact nown c b hc z
        · rw [hc] at z; cases z; exact hb rfl
end

/-! ### kept unless tracked; of the frames at fs (the callers') the slots may change (an exception that passes writes there); of the records at ex (iterators) nothing is said -/
structure Un (fs ex : List Addr) (H H' : Hp) (h h' : Heap) : Prop where
  keep : ∀ b o, h.get? b = some o → H b = none → b ∉ fs → b ∉ ex → h'.get? b = some o
  slot : ∀ b o, h.get? b = some o → H b = none → b ∈ fs → b ∉ ex → ∃ sl, h'.get? b = some { o with slots := sl }
  free : ∀ b o, h.get? b = some o → H b = none → b ∉ ex → H' b = none
  there : ∀ b o, h.get? b = some o → b ∉ ex → ∃ o', h'.get? b = some o'
  tups : ∀ b xs, H b = some (.tup xs) → H' b = some (.tup xs)
  frzs : ∀ b o u, H b = some (.frz o u) → H' b = some (.frz o u)
  tbls : ∀ b ps, H b = some (.tbl ps) → ∃ more, H' b = some (.tbl (ps ++ more))
section
variable {fs fs' ex ex' : List Addr} {H H1 H2 : Hp} {h h1 h2 h' : Heap} {a x e : Addr} {o : HO}
theorem Un.any (u : Un fs ex H H1 h h1) {b : Addr} {ob : Obj} (q : h.get? b = some ob) (n : H b = none) (hx : b ∉ ex) : ∃ sl, h1.get? b = some { ob with slots := sl } := by
  by_cases hb : b ∈ fs
  · exact u.slot b ob q n hb hx
  · exact ⟨ob.slots, u.keep b ob q n hb hx⟩
theorem Un.trans (a : Un fs ex H H1 h h1) (b : Un fs ex H1 H2 h1 h2) : Un fs ex H H2 h h2 where
  keep := fun c ob q n hc hx => b.keep c ob (a.keep c ob q n hc hx) (a.free c ob q n hx) hc hx
  slot := fun c ob q n hc hx => by
    obtain ⟨sl, e1⟩ := a.slot c ob q n hc hx
    obtain ⟨sl', e2⟩ := b.slot c _ e1 (a.free c ob q n hx) hc hx
    exact ⟨sl', e2⟩
  free := fun c ob q n hx => by
    obtain ⟨o', e1⟩ := a.there c ob q hx
    exact b.free c o' e1 (a.free c ob q n hx) hx
  there := fun c ob q hx => by
    obtain ⟨o', e1⟩ := a.there c ob q hx
    exact b.there c o' e1 hx
  tups := fun c xs q => b.tups c xs (a.tups c xs q)
  frzs := fun c ob xs q => b.frzs c ob xs (a.frzs c ob xs q)
  tbls := fun c ps q => by
    obtain ⟨m1, e1⟩ := a.tbls c ps q
    obtain ⟨m2, e2⟩ := b.tbls c _ e1
    exact ⟨m1 ++ m2, by rw [e2, Array.append_assoc]⟩
theorem Un.kept (k : ∀ b u, h.get? b = some u → h'.get? b = some u) : Un fs ex H H h h' :=
  ⟨fun b ob q _ _ _ => k b ob q, fun b ob q _ _ _ => ⟨ob.slots, k b ob q⟩, fun _ _ _ n _ => n, fun b ob q _ => ⟨ob, k b ob q⟩, fun _ _ q => q, fun _ _ _ q => q, fun _ ps q => ⟨#[], by rw [q]; simp⟩⟩
theorem Un.refl : Un fs ex H H h h := Un.kept fun _ _ q => q
theorem Un.laid (k : ∀ b u, h.get? b = some u → h'.get? b = some u) (hp : h.objs.size ≤ a) (hn : H a = none) : Un fs ex H (upd H a o) h h' where
  keep := fun b u q _ _ _ => k b u q
  slot := fun b u q _ _ _ => ⟨u.slots, k b u q⟩
  free := fun b u q n _ => by rw [upd_ne (Nat.ne_of_lt (Nat.lt_of_lt_of_le (Heap.lt_size q) hp))]; exact n
  there := fun b u q _ => ⟨u, k b u q⟩
  tups := fun b xs q => by rw [upd_ne (ne_of_none q hn)]; exact q
  frzs := fun b u xs q => by rw [upd_ne (ne_of_none q hn)]; exact q
  tbls := fun b ps q => ⟨#[], by rw [upd_ne (ne_of_none q hn), q]; simp⟩
theorem Un.write (mu : Mut (H x)) (he : e = x ∨ H e = some (.own x)) (k : ∀ b u, b ≠ e → h.get? b = some u → h'.get? b = some u) (heo : ∃ u, h'.get? e = some u) : Un fs ex H (upd H x o) h h' := by
  have hx : ∀ b, H b = none → b ≠ x := fun b n z => by subst z; rw [n] at mu; exact mu
  have hb : ∀ b, H b = none → b ≠ e := fun b n z => by
    subst z
    rcases he with r | r
    · exact hx b n r
    · rw [n] at r; cases r
  have hm : ∀ b u, H b = some u → ¬ Mut (some u) → b ≠ x := fun b u q nm z => by subst z; rw [q] at mu; exact nm mu
  refine ⟨fun b u q n _ _ => k b u (hb b n) q, fun b u q n _ _ => ⟨u.slots, k b u (hb b n) q⟩, fun b u q n _ => by rw [upd_ne (hx b n)]; exact n, fun b u q _ => ?_,
    fun b xs q => by rw [upd_ne (hm b _ q fun z => z)]; exact q, fun b u xs q => by rw [upd_ne (hm b _ q fun z => z)]; exact q, fun b ps q => ⟨#[], by rw [upd_ne (hm b _ q fun z => z), q]; simp⟩⟩
  by_cases hbe : b = e
  · subst hbe; exact heo
  · exact ⟨u, k b u hbe q⟩
theorem Un.mono (u : Un fs ex H H1 h h1) (hs : ∀ b ∈ fs, b ∈ fs') (hx : ∀ b ∈ ex, b ∈ ex') : Un fs' ex' H H1 h h1 :=
  ⟨fun b ob q n hb he => u.keep b ob q n (fun z => hb (hs b z)) fun z => he (hx b z), fun _ _ q n _ he => u.any q n fun z => he (hx _ z), fun b ob q n he => u.free b ob q n fun z => he (hx b z), fun b ob q he => u.there b ob q fun z => he (hx b z), u.tups, u.frzs, u.tbls⟩
end

/-! ### the heap without what is tracked -/
def trk (h : Heap) (H : Hp) : List Addr := (List.range h.objs.size).filter fun a => (H a).isSome
def hidT (h : Heap) (H : Hp) : Heap := PySem.W.hideAll h (trk h H)
theorem hidT_size (h : Heap) (H : Hp) : (hidT h H).objs.size = h.objs.size := PySem.W.hideAll_size _ _
theorem hidT_get {h : Heap} {H : Hp} {b : Addr} {o : Obj} (e : h.get? b = some o) (n : H b = none) : (hidT h H).get? b = some o :=
  PySem.W.hideAll_get _ e fun hm => by
    have q : (H b).isSome = true := (List.mem_filter.mp hm).2
    rw [n] at q; simp at q
theorem of_hidT {h : Heap} {H : Hp} {b : Addr} {o : Obj} (e : (hidT h H).get? b = some o) : h.get? b = some o ∧ H b = none := by
  have e' : h.get? b = some o := PySem.W.of_hideAll (trk h H) e
  refine ⟨e', ?_⟩
  cases q : H b with
  | none => rfl
  | some x =>
    have hm : b ∈ trk h H := List.mem_filter.mpr ⟨List.mem_range.mpr (Heap.lt_size e'), by simp [q]⟩
    have z : (hidT h H).get? b = none := PySem.W.hideAll_none (trk h H) hm
    rw [z] at e; cases e

/-! ### OpenK's ledger, filled with every new object but one -/
def allNews (g h : Heap) (L : Addr) : List (Addr × Obj) := (List.range h.objs.size).filterMap fun a => if a = L ∨ (g.get? a).isSome = true then none else (h.get? a).map fun o => (a, o)
def rest (g h : Heap) (L d : Addr) : List (Addr × Obj) := (allNews g h L).filter fun p => decide (p.1 ≠ d)
end L2

namespace L2
open PySem PySem.Spec PyProof.Rows

/-- the module's facts, over the base: the heap at the law's entry without what is tracked there -/
structure Mod (K : PySem.W.Frag) (mg : Str → Option Value) (base : Heap) : Prop where
  kin : K.In base
  glob : base.Ns mainGlobals mg
  blt : ∃ mb, base.Ns builtinsNs mb ∧ ∀ x : Str, x ≠ "__name__" → mb x = bootBuiltins x
  nolimit : base.NoLimit

/-- the context: a def's body (or a comprehension's block) running. base: fixed through the whole law; s₀, H₀: the entry; outer: the frames whose slots others may change (a def's callers); stack: all frames that run;
   ex: iterators that were made ahead of the entry and are walked here (a comprehension's); fn: the names whose cells were made at the entry (a def: all; a comprehension's block: its own); calm: not within an except suite; pn: pins that every state bears; xe: what is wanted of an exception that leaves the code -/
structure Cx where
  prog : Program
  w : World
  K : PySem.W.Frag
  mg : Str → Option Value
  base : Heap
  A : Around
  N : List Str
  s₀ : Shared
  H₀ : Hp
  env : Env
  outer : List Env
  stack : List Env
  ex : List Addr
  fn : Str → Bool
  calm : Bool
  pn : List (Addr × Obj)
  xe : Value → Shared → Prop
/-- the callers' frames -/
def frs (l : List Env) : List Addr := l.filterMap (·.frame)
abbrev Cx.fs (X : Cx) : List Addr := frs X.outer

def Vis (sc : Scope) (x : Str) : Prop := sc.names.lookup x = some .local ∨ sc.names.lookup x = some .cell ∨ sc.names.lookup x = some .free
def Loc (sc : Scope) (x : Str) : Prop := sc.names.lookup x = some .local ∨ sc.names.lookup x = some .cell
def Look (env : Env) (h : Heap) (m : Str → Option Value) (x : Str) (u : Value) : Prop :=
  (env.kindOf x = some .local ∧ m x = some u) ∨ ((env.kindOf x = some .cell ∨ env.kindOf x = some .free) ∧ ∃ c, env.cells.lookup x = some c ∧ h.IsCell c (some u))

structure Cx.Ok (X : Cx) : Prop where
  mod : Mod X.K X.mg X.base
  kind : X.env.scope.kind = .function
  glob : X.env.globals = mainGlobals
  blt : X.env.builtins = builtinsNs
  above : X.s₀.heap.objs.size ≤ X.env.locals
  inj : ∀ x y c, X.env.cells.lookup x = some c → X.env.cells.lookup y = some c → x = y
  has : ∀ x, (X.env.kindOf x = some .cell ∨ X.env.kindOf x = some .free) → ∃ c, X.env.cells.lookup x = some c
  cab : ∀ x c, X.fn x = true → X.env.cells.lookup x = some c → X.s₀.heap.objs.size ≤ c
  hd : X.calm = true → X.A.handled = none
  frames : X.A.frames = some X.stack
  stk : X.stack = X.outer ∨ (X.stack = X.env :: X.outer ∧ X.env.frame = some X.env.locals)
  exf : ∀ b ∈ X.ex, b ≠ X.env.locals ∧ ∀ x c, X.env.cells.lookup x = some c → c ≠ b
  bs : ∀ b o, X.base.get? b = some o → X.s₀.heap.get? b = some o ∧ X.H₀ b = none
  bsz : X.base.objs.size ≤ X.s₀.heap.objs.size
  noex : ∀ b o, X.base.get? b = some o → b ∉ X.ex
  exfs : ∀ b ∈ X.ex, b ∉ X.fs
  funs : X.s₀.heap.FunFrames X.base X.outer
  frf : ∀ b ∈ X.fs, X.H₀ b = none

structure Inv (X : Cx) (pins : List (Addr × Obj)) (σ : List (Option V)) (H : Hp) (s : Shared) : Prop where
  ok : X.Ok
  os : s.os = X.s₀.os
  bare : AllBare s.gens
  base : Un X.fs X.ex X.H₀ H X.s₀.heap s.heap
  loc : ∃ m, s.heap.Ns X.env.locals m ∧ ∀ (i : Nat) (x : Str) (v : V), X.N[i]? = some x → σ[i]? = some (some v) → Vis X.env.scope x → ∃ u, RelV v u ∧ Look X.env s.heap m x u
  cell : ∀ x c, X.env.cells.lookup x = some c → ∃ v, s.heap.IsCell c v
  free : H X.env.locals = none
  freeC : ∀ x c, X.env.cells.lookup x = some c → H c = none
  pin : ∀ p ∈ X.pn ++ pins, s.heap.get? p.1 = some p.2 ∧ H p.1 = none ∧ p.1 ≠ X.env.locals ∧ p.1 ∉ X.fs ∧ ∀ v, p.2.data ≠ .cell v
  hok : HOk X.prog X.w H s.heap
  len : σ.length = X.N.length

section
variable {X : Cx} {pins : List (Addr × Obj)} {σ : List (Option V)} {H H' : Hp} {s : Shared} {h' : Heap}

theorem Cx.Ok.nofr (ok : X.Ok) {b : Addr} {o : Obj} (e : X.base.get? b = some o) : b ∉ X.fs := fun hb => by
  have := (ok.funs.mem hb).1
  rw [e] at this; cases this
theorem Inv.bs (I : Inv X pins σ H s) : ∀ b o, X.base.get? b = some o → s.heap.get? b = some o ∧ H b = none := fun b o e =>
  ⟨I.base.keep b o (I.ok.bs b o e).1 (I.ok.bs b o e).2 (I.ok.nofr e) (I.ok.noex b o e), I.base.free b o (I.ok.bs b o e).1 (I.ok.bs b o e).2 (I.ok.noex b o e)⟩
theorem Inv.bk (I : Inv X pins σ H s) : ∀ b o, X.base.get? b = some o → s.heap.get? b = some o := fun b o e => (I.bs b o e).1
theorem Inv.mod (I : Inv X pins σ H s) : Mod X.K X.mg X.base := I.ok.mod
theorem Inv.kIn (I : Inv X pins σ H s) : X.K.In s.heap := I.ok.mod.kin.keeps I.bk
theorem Inv.nolimit (I : Inv X pins σ H s) : s.heap.NoLimit := I.ok.mod.nolimit.keeps I.bk
/-- the frame over the base: for OpenK's rules (K.In X.base is I.mod.kin) -/
theorem Inv.fr (I : Inv X pins σ H s) : ∃ m, Fr X.base X.env.locals s.heap m :=
  let ⟨m, hn, _⟩ := I.loc
  ⟨m, hn, I.bk, Nat.le_trans I.ok.bsz I.ok.above⟩
theorem Inv.lt (I : Inv X pins σ H s) : X.env.locals < s.heap.objs.size := let ⟨_, hn, _⟩ := I.loc; hn.lt
theorem Inv.sz (I : Inv X pins σ H s) : X.s₀.heap.objs.size ≤ s.heap.objs.size := Nat.le_trans I.ok.above (Nat.le_of_lt I.lt)
theorem Inv.nofs (I : Inv X pins σ H s) {a : Addr} (h : s.heap.objs.size ≤ a) : a ∉ X.fs := fun hb => by
  obtain ⟨_, o, ho, _⟩ := I.ok.funs.mem hb
  exact absurd (Nat.lt_of_lt_of_le (Heap.lt_size ho) (Nat.le_trans I.sz h)) (Nat.lt_irrefl _)
theorem Inv.cne (I : Inv X pins σ H s) : ∀ x c, X.env.cells.lookup x = some c → c ≠ X.env.locals := fun x c e z => by
  obtain ⟨v, o, ho, hd⟩ := I.cell x c e
  obtain ⟨m, ⟨o', es, ep, ho', hd', _⟩, _⟩ := I.loc
  rw [z, ho'] at ho; cases ho; rw [hd'] at hd; cases hd
theorem Inv.funs (I : Inv X pins σ H s) : s.heap.FunFrames X.base X.outer := by
  have all : ∀ (l : List Env), (∀ b ∈ frs l, b ∈ X.fs) → X.s₀.heap.FunFrames X.base l → s.heap.FunFrames X.base l := by
    intro l
    induction l with
    | nil => intro _ _; trivial
    | cons env r ih =>
      intro hs hl
      obtain ⟨hk, ⟨L, o, hf, hn, ho, hd⟩, hr⟩ := hl
      have hL : L ∈ X.fs := hs L (by unfold frs; rw [List.filterMap_cons, hf]; exact List.mem_cons_self)
      obtain ⟨sl, e⟩ := I.base.slot L o ho (I.ok.frf L hL) hL fun z => I.ok.exfs L z hL
      exact ⟨hk, ⟨L, _, hf, hn, e, hd⟩, ih (fun b hb => hs b (by unfold frs; rw [List.filterMap_cons, hf]; exact List.mem_cons_of_mem _ hb)) hr⟩
  exact all X.outer (fun _ hb => hb) I.ok.funs

/-- the frames that run, for a call -/
theorem Inv.stack (I : Inv X pins σ H s) : s.heap.FunFrames X.base X.stack := by
  rcases I.ok.stk with e | ⟨e, hf⟩
  · rw [e]; exact I.funs
  · rw [e]
    obtain ⟨m, hn, _⟩ := I.loc
    refine .cons (by rw [I.ok.kind]; decide) hf hn ?_ I.funs
    exact Heap.get?_none_of_le (Nat.le_trans I.ok.bsz I.ok.above)
theorem Inv.stkSub (I : Inv X pins σ H s) : ∀ b ∈ frs X.stack, b ∈ X.env.locals :: X.fs := fun b hb => by
  rcases I.ok.stk with e | ⟨e, hf⟩
  · rw [e] at hb; exact List.mem_cons_of_mem _ hb
  · rw [e] at hb
    unfold frs at hb
    rw [List.filterMap_cons, hf] at hb
    exact hb
theorem Inv.stkFree (I : Inv X pins σ H s) : ∀ b ∈ frs X.stack, H b = none := fun b hb => by
  rcases List.mem_cons.mp (I.stkSub b hb) with e | hb
  · rw [e]; exact I.free
  · obtain ⟨_, o, ho, _⟩ := I.ok.funs.mem hb
    exact I.base.free b o ho (I.ok.frf b hb) fun z => I.ok.exfs b z hb

/-- THE STEP: the untracked objects but the frame and the records at ch are kept (the callers' frames up to slots), the frame's map is kept, the new abstract heap is held -/
theorem Inv.step {g' : Array GenState} {t' : Nat} {d' : Drawn} {ch : List Addr} (I : Inv X pins σ H s)
    (hch : ∀ b ∈ ch, (b ∈ X.ex ∨ X.s₀.heap.objs.size ≤ b) ∧ b ≠ X.env.locals ∧ (∀ x c, X.env.cells.lookup x = some c → c ≠ b) ∧ ∀ p ∈ X.pn ++ pins, p.1 ≠ b)
    (keep : ∀ b o, b ≠ X.env.locals → b ∉ X.fs → b ∉ ch → s.heap.get? b = some o → H b = none → h'.get? b = some o)
    (slot : ∀ b o, b ≠ X.env.locals → b ∈ X.fs → b ∉ ch → s.heap.get? b = some o → H b = none → ∃ sl, h'.get? b = some { o with slots := sl }) (free : ∀ b o, b ∉ ch → s.heap.get? b = some o → H b = none → H' b = none)
    (there : ∀ b o, b ∉ ch → s.heap.get? b = some o → ∃ o', h'.get? b = some o')
    (tups : ∀ b xs, H b = some (.tup xs) → H' b = some (.tup xs)) (frzs : ∀ b o u, H b = some (.frz o u) → H' b = some (.frz o u)) (tbls : ∀ b ps, H b = some (.tbl ps) → ∃ more, H' b = some (.tbl (ps ++ more)))
    (ns : ∀ m, s.heap.Ns X.env.locals m → h'.Ns X.env.locals m) (hok : HOk X.prog X.w H' h') (hg : AllBare g') :
    Inv X pins σ H' { s with heap := h', gens := g', drawn := d', toks := t' } := by
  have neL : ∀ b o, X.s₀.heap.get? b = some o → b ≠ X.env.locals := fun b o e => Nat.ne_of_lt (Nat.lt_of_lt_of_le (Heap.lt_size e) I.ok.above)
  have neC : ∀ b o, X.s₀.heap.get? b = some o → b ∉ X.ex → b ∉ ch := fun b o e hx hb => by
    rcases (hch b hb).1 with z | z
    · exact hx z
    · exact absurd (Nat.lt_of_lt_of_le (Heap.lt_size e) z) (Nat.lt_irrefl _)
  have cellK : ∀ x c, X.env.cells.lookup x = some c → ∀ v, s.heap.IsCell c v → h'.IsCell c v := fun x c e v ⟨o, ho, hd⟩ => by
    have nch : c ∉ ch := fun z => (hch c z).2.2.1 x c e rfl
    by_cases hc : c ∈ X.fs
    · obtain ⟨sl, q⟩ := slot c o (I.cne x c e) hc nch ho (I.freeC x c e)
      exact ⟨_, q, hd⟩
    · exact ⟨o, keep c o (I.cne x c e) hc nch ho (I.freeC x c e), hd⟩
  refine ⟨I.ok, I.os, hg, ⟨fun b o e n hb hx => ?_, fun b o e n hb hx => ?_, fun b o e n hx => ?_, fun b o e hx => ?_, fun b xs e => tups b xs (I.base.tups b xs e), fun b o xs e => frzs b o xs (I.base.frzs b o xs e), fun b ps e => ?_⟩, ?_, fun x c e => ?_, ?_, fun x c e => ?_, fun p hp => ?_, hok, I.len⟩
  · exact keep b o (neL b o e) hb (neC b o e hx) (I.base.keep b o e n hb hx) (I.base.free b o e n hx)
  · obtain ⟨sl, e1⟩ := I.base.slot b o e n hb hx
    obtain ⟨sl', e2⟩ := slot b _ (neL b o e) hb (neC b o e hx) e1 (I.base.free b o e n hx)
    exact ⟨sl', e2⟩
  · obtain ⟨o', e1⟩ := I.base.there b o e hx
    exact free b o' (neC b o e hx) e1 (I.base.free b o e n hx)
  · obtain ⟨o', e1⟩ := I.base.there b o e hx
    exact there b o' (neC b o e hx) e1
  · obtain ⟨m1, e1⟩ := I.base.tbls b ps e
    obtain ⟨m2, e2⟩ := tbls b _ e1
    exact ⟨m1 ++ m2, by rw [e2, Array.append_assoc]⟩
  · obtain ⟨m, hn, hl⟩ := I.loc
    refine ⟨m, ns m hn, fun i x v e1 e2 e3 => ?_⟩
    obtain ⟨u, r, l⟩ := hl i x v e1 e2 e3
    refine ⟨u, r, ?_⟩
    rcases l with l | ⟨k, c, e, z⟩
    · exact .inl l
    · exact .inr ⟨k, c, e, cellK x c e _ z⟩
  · obtain ⟨v, z⟩ := I.cell x c e
    exact ⟨v, cellK x c e v z⟩
  · obtain ⟨m, ⟨o, _, _, ho, _⟩, _⟩ := I.loc
    exact free _ o (fun z => (hch _ z).2.1 rfl) ho I.free
  · obtain ⟨v, o, ho, hd⟩ := I.cell x c e
    exact free c o (fun z => (hch c z).2.2.1 x c e rfl) ho (I.freeC x c e)
  · obtain ⟨e, n, ne, nf, d⟩ := I.pin p hp
    have nch : p.1 ∉ ch := fun z => (hch p.1 z).2.2.2 p hp rfl
    exact ⟨keep p.1 p.2 ne nf nch e n, free p.1 p.2 nch e n, ne, nf, d⟩
/-- .. where the frame's own object is kept too -/
theorem Inv.un {t' : Nat} (I : Inv X pins σ H s) (u : Un X.fs [] H H' s.heap h') (hok : HOk X.prog X.w H' h') : Inv X pins σ H' { s with heap := h', toks := t' } := by
  obtain ⟨m, ⟨o, es, ep, ho, r⟩, _⟩ := id I.loc
  obtain ⟨sl, hL⟩ := u.any ho I.free (by simp)
  exact I.step (g' := s.gens) (d' := s.drawn) (ch := []) (fun _ z => nomatch z) (fun b o _ hb _ e n => u.keep b o e n hb (by simp)) (fun b o _ hb _ e n => u.slot b o e n hb (by simp)) (fun b o _ e n => u.free b o e n (by simp)) (fun b o _ e => u.there b o e (by simp)) u.tups u.frzs u.tbls (fun m' hm => by
    obtain ⟨o', es', ep', ho', r'⟩ := hm
    rw [ho] at ho'; cases ho'
    exact ⟨_, es', ep', hL, r'⟩) hok I.bare
/-- behind a call (or a comprehension's block): the slots of this frame may have changed too, the records at ch may have turned -/
theorem Inv.call {g' : Array GenState} {t' : Nat} {d' : Drawn} {ch : List Addr} (I : Inv X pins σ H s) (u : Un (frs X.stack) ch H H' s.heap h') (hok : HOk X.prog X.w H' h') (hg : AllBare g')
    (hch : ∀ b ∈ ch, (b ∈ X.ex ∨ X.s₀.heap.objs.size ≤ b) ∧ b ≠ X.env.locals ∧ (∀ x c, X.env.cells.lookup x = some c → c ≠ b) ∧ ∀ p ∈ X.pn ++ pins, p.1 ≠ b) :
    Inv X pins σ H' { s with heap := h', gens := g', drawn := d', toks := t' } := by
  obtain ⟨m, ⟨o, es, ep, ho, r⟩, _⟩ := id I.loc
  obtain ⟨sl, hL⟩ := u.any ho I.free fun z => (hch _ z).2.1 rfl
  exact I.step (ch := ch) hch (fun b o hL hb hc e n => u.keep b o e n (fun z => (List.mem_cons.mp (I.stkSub b z)).elim hL hb) hc) (fun b o _ _ hc e n => u.any e n hc) (fun b o hc e n => u.free b o e n hc) (fun b o hc e => u.there b o e hc) u.tups u.frzs u.tbls (fun m' hm => by
    obtain ⟨o', es', ep', ho', r'⟩ := hm
    rw [ho] at ho'; cases ho'
    exact ⟨_, es', ep', hL, r'⟩) hok hg
/-- an untracked record of ours (an iterator) has turned -/
theorem Inv.turned {t' : Nat} {it : Addr} (I : Inv X pins σ H s) (k : ∀ b o, b ≠ it → s.heap.get? b = some o → h'.get? b = some o) (hn : H it = none) (hL : it ≠ X.env.locals)
    (h1 : it ∈ X.ex ∨ X.s₀.heap.objs.size ≤ it) (h2 : ∀ x c, X.env.cells.lookup x = some c → c ≠ it) (h3 : ∀ p ∈ X.pn ++ pins, p.1 ≠ it) : Inv X pins σ H { s with heap := h', toks := t' } := by
  have nit : ∀ b u, H b = some u → b ≠ it := fun b u e z => by rw [z, hn] at e; cases e
  refine I.step (g' := s.gens) (d' := s.drawn) (ch := [it]) (fun b hb => ?_) (fun b o _ _ hc e _ => k b o (fun z => hc (by simp [z])) e) (fun b o _ _ hc e _ => ⟨o.slots, k b o (fun z => hc (by simp [z])) e⟩) (fun _ _ _ _ n => n)
    (fun b o hc e => ⟨o, k b o (fun z => hc (by simp [z])) e⟩) (fun _ _ e => e) (fun _ _ _ e => e) (fun b ps e => ⟨#[], by rw [e]; simp⟩) (fun m hm => ?_) (fun b u e => ?_) I.bare
  · have e : b = it := by simpa using hb
    subst e
    exact ⟨h1, hL, h2, h3⟩
  · obtain ⟨o, es, ep, ho, r⟩ := hm
    exact ⟨o, es, ep, k _ o (Ne.symm hL) ho, r⟩
  · refine (I.hok b u e).stay (fun c v hc q => k c v ?_ q) (fun _ q => q) fun _ _ q => q
    rcases hc with z | z
    · rw [z]; exact nit b u e
    · exact nit c _ z
theorem Inv.tok (I : Inv X pins σ H s) (t : Nat) : Inv X pins σ H { s with toks := t } := I.un (h' := s.heap) (t' := t) Un.refl I.hok
/-- all objects kept -/
theorem Inv.kept {t' : Nat} (I : Inv X pins σ H s) (k : ∀ b u, s.heap.get? b = some u → h'.get? b = some u) : Inv X pins σ H { s with heap := h', toks := t' } := I.un (Un.kept k) (I.hok.kept k)
/-- a new object laid and tracked -/
theorem Inv.laid {a : Addr} {o : HO} {t' : Nat} (I : Inv X pins σ H s) (k : ∀ b u, s.heap.get? b = some u → h'.get? b = some u) (hp : s.heap.objs.size ≤ a) (new : ObjOk X.prog X.w (upd H a o) h' a o) :
    Inv X pins σ (upd H a o) { s with heap := h', toks := t' } := I.un (Un.laid k hp (I.hok.fresh hp)) (I.hok.laid k hp new)
/-- an object written -/
theorem Inv.write {x e : Addr} {o : HO} {t' : Nat} (I : Inv X pins σ H s) (mu : Mut (H x)) (he : e = x ∨ H e = some (.own x)) (k : ∀ b u, b ≠ e → s.heap.get? b = some u → h'.get? b = some u) (heo : ∃ u, h'.get? e = some u)
    (new : ObjOk X.prog X.w (upd H x o) h' x o) : Inv X pins σ (upd H x o) { s with heap := h', toks := t' } := I.un (Un.write mu he k heo) (I.hok.write mu he k heo new)
theorem Inv.pins_of {pins' : List (Addr × Obj)} (I : Inv X pins σ H s) (h : ∀ p ∈ pins', s.heap.get? p.1 = some p.2 ∧ H p.1 = none ∧ p.1 ≠ X.env.locals ∧ p.1 ∉ X.fs ∧ ∀ v, p.2.data ≠ .cell v) : Inv X pins' σ H s :=
  ⟨I.ok, I.os, I.bare, I.base, I.loc, I.cell, I.free, I.freeC, fun p hp => (List.mem_append.mp hp).elim (fun z => I.pin p (List.mem_append_left _ z)) (h p), I.hok, I.len⟩

theorem nodup_ix {N : List Str} (hN : N.Nodup) {i j : Nat} {x : Str} (a : N[i]? = some x) (b : N[j]? = some x) : i = j := by
  obtain ⟨h1, e1⟩ := List.getElem?_eq_some_iff.mp a
  obtain ⟨h2, e2⟩ := List.getElem?_eq_some_iff.mp b
  exact (List.getElem_inj hN).mp (e1.trans e2.symm)

/-- a name is stored; what changed -/
theorem store_ok2 {M : Model} {A : Around} {E : Value → Shared → Prop} {i : Nat} {x : Str} {v : V} {u : Value} {Q : Unit → Shared → Prop} (I : Inv X pins σ H s) (hN : X.N.Nodup) (hi : X.N[i]? = some x) (hx : Loc X.env.scope x) (r : RelV v u)
    (h : ∀ s', Inv X pins (σ.set i (some v)) H s' → (∃ a, Heap.SameBut a s.heap s'.heap ∧ (a = X.env.locals ∨ X.env.cells.lookup x = some a)) → Q () s') (hf : X.fn x = true ∨ X.env.scope.names.lookup x = some .local := by first | exact .inl rfl | exact .inr rfl | assumption) : wpAny M A (storeName X.env x u) Q E s := by
  obtain ⟨m, hn, hl⟩ := id I.loc
  have hcls : (X.env.scope.kind == .class || (X.env.scope.kind == .module && X.env.locals != X.env.globals)) = false := by rw [I.ok.kind]; rfl
  have hiσ : i < σ.length := by rw [I.len]; exact (List.getElem?_eq_some_iff.mp hi).1
  have cne := I.cne
  have tracked : ∀ {a : Addr} {h' : Heap}, (∃ o, s.heap.get? a = some o ∧ H a = none) → Heap.SameBut a s.heap h' → HOk X.prog X.w H h' := fun {a h'} ha hs b ob e => by
    obtain ⟨_, _, hfree⟩ := ha
    refine (I.hok b ob e).stay (fun c w' hc q => (hs.2 c ?_).trans q) (fun _ q => q) fun _ _ q => q
    rintro rfl
    rcases hc with rfl | hc
    · rw [hfree] at e; cases e
    · rw [hfree] at hc; cases hc
  rcases hx with hk | hk
  · refine wpAny_storeName_local hk hn (fun h' hn' hs => ?_) hcls
    obtain ⟨oL, _, _, hoL, _⟩ := id hn
    refine h _ ⟨I.ok, I.os, I.bare, ⟨fun b o e n hb hx => ?_, fun b o e n hb hx => ?_, I.base.free, fun b o e hx => ?_, I.base.tups, I.base.frzs, I.base.tbls⟩, ⟨_, hn', fun j y v' e1 e2 e3 => ?_⟩, fun y c e => ?_, I.free, I.freeC, fun p hp => ?_, tracked ⟨oL, hoL, I.free⟩ hs, by simpa using I.len⟩ ⟨_, hs, .inl rfl⟩
    · exact (hs.2 b (Nat.ne_of_lt (Nat.lt_of_lt_of_le (Heap.lt_size e) I.ok.above))).trans (I.base.keep b o e n hb hx)
    · obtain ⟨sl, e1⟩ := I.base.slot b o e n hb hx
      exact ⟨sl, (hs.2 b (Nat.ne_of_lt (Nat.lt_of_lt_of_le (Heap.lt_size e) I.ok.above))).trans e1⟩
    · obtain ⟨o', e1⟩ := I.base.there b o e hx
      exact ⟨o', (hs.2 b (Nat.ne_of_lt (Nat.lt_of_lt_of_le (Heap.lt_size e) I.ok.above))).trans e1⟩
    · by_cases hj : j = i
      · subst hj
        rw [hi] at e1; cases e1
        rw [List.getElem?_set_self hiσ] at e2
        cases e2
        exact ⟨u, r, .inl ⟨hk, by simp⟩⟩
      · rw [List.getElem?_set_ne (Ne.symm hj)] at e2
        obtain ⟨u', r', q⟩ := hl j y v' e1 e2 e3
        refine ⟨u', r', ?_⟩
        rcases q with ⟨k, e⟩ | ⟨k, c, e, z⟩
        · refine .inl ⟨k, ?_⟩
          have : y ≠ x := fun e => hj (nodup_ix hN e1 (e ▸ hi))
          simp [this, e]
        · exact .inr ⟨k, c, e, z.sameBut hs (cne y c e)⟩
    · obtain ⟨w', z⟩ := I.cell y c e
      exact ⟨w', z.sameBut hs (cne y c e)⟩
    · obtain ⟨e, n, ne, nf, d⟩ := I.pin p hp
      exact ⟨(hs.2 p.1 ne).trans e, n, ne, nf, d⟩
  · have hfn : X.fn x = true := by
      rcases hf with z | z
      · exact z
      · rw [z] at hk; cases hk
    obtain ⟨c, hc⟩ := I.ok.has x (.inl hk)
    obtain ⟨w', z⟩ := I.cell x c hc
    refine wpAny_storeName_cell I.ok.kind hk hc z (fun h' hc' hs => ?_)
    obtain ⟨oc, hoc, hocd⟩ := id z
    refine h { s with heap := h' } ⟨I.ok, I.os, I.bare, ⟨fun b o e n hb hx => ?_, fun b o e n hb hx => ?_, I.base.free, fun b o e hx => ?_, I.base.tups, I.base.frzs, I.base.tbls⟩, ⟨m, hn.sameBut hs (Ne.symm (cne x c hc)), fun j y v' e1 e2 e3 => ?_⟩, fun y c' e => ?_, I.free, I.freeC, fun p hp => ?_, tracked ⟨oc, hoc, I.freeC x c hc⟩ hs, by simpa using I.len⟩ ⟨c, hs, .inr hc⟩
    · exact (hs.2 b (Nat.ne_of_lt (Nat.lt_of_lt_of_le (Heap.lt_size e) (I.ok.cab x c hfn hc)))).trans (I.base.keep b o e n hb hx)
    · obtain ⟨sl, e1⟩ := I.base.slot b o e n hb hx
      exact ⟨sl, (hs.2 b (Nat.ne_of_lt (Nat.lt_of_lt_of_le (Heap.lt_size e) (I.ok.cab x c hfn hc)))).trans e1⟩
    · obtain ⟨o', e1⟩ := I.base.there b o e hx
      exact ⟨o', (hs.2 b (Nat.ne_of_lt (Nat.lt_of_lt_of_le (Heap.lt_size e) (I.ok.cab x c hfn hc)))).trans e1⟩
    · by_cases hj : j = i
      · subst hj
        rw [hi] at e1; cases e1
        rw [List.getElem?_set_self hiσ] at e2
        cases e2
        exact ⟨u, r, .inr ⟨.inl hk, c, hc, hc'⟩⟩
      · rw [List.getElem?_set_ne (Ne.symm hj)] at e2
        obtain ⟨u', r', q⟩ := hl j y v' e1 e2 e3
        refine ⟨u', r', ?_⟩
        rcases q with q | ⟨k, c', e, z'⟩
        · exact .inl q
        · refine .inr ⟨k, c', e, z'.sameBut hs ?_⟩
          rintro rfl
          exact hj (nodup_ix hN e1 (I.ok.inj _ _ _ e hc ▸ hi))
    · by_cases hcc : c' = c
      · subst hcc; exact ⟨_, hc'⟩
      · obtain ⟨w2, z2⟩ := I.cell y c' e
        exact ⟨w2, z2.sameBut hs hcc⟩
    · obtain ⟨e, n, ne, nf, d⟩ := I.pin p hp
      refine ⟨(hs.2 p.1 ?_).trans e, n, ne, nf, d⟩
      intro q
      rw [q, hoc] at e
      have q' : oc = p.2 := Option.some.inj e
      exact d w' (by rw [← q']; exact hocd)
theorem store_ok {M : Model} {A : Around} {E : Value → Shared → Prop} {i : Nat} {x : Str} {v : V} {u : Value} {Q : Unit → Shared → Prop} (I : Inv X pins σ H s) (hN : X.N.Nodup) (hi : X.N[i]? = some x) (hx : Loc X.env.scope x) (r : RelV v u)
    (h : ∀ s', Inv X pins (σ.set i (some v)) H s' → Q () s') (hf : X.fn x = true ∨ X.env.scope.names.lookup x = some .local := by first | exact .inl rfl | exact .inr rfl | assumption) : wpAny M A (storeName X.env x u) Q E s :=
  store_ok2 I hN hi hx r (fun s' I' _ => h s' I') hf
/-- behind a call or a block, the state as it is -/
theorem Inv.call' {s' : Shared} {ch : List Addr} (I : Inv X pins σ H s) (ho : s'.os = s.os) (u : Un (frs X.stack) ch H H' s.heap s'.heap) (hok : HOk X.prog X.w H' s'.heap) (hg : AllBare s'.gens)
    (hch : ∀ b ∈ ch, (b ∈ X.ex ∨ X.s₀.heap.objs.size ≤ b) ∧ b ≠ X.env.locals ∧ (∀ x c, X.env.cells.lookup x = some c → c ≠ b) ∧ ∀ p ∈ X.pn ++ pins, p.1 ≠ b) : Inv X pins σ H' s' := by
  obtain ⟨h', g', d', t', o'⟩ := s'
  have e : o' = s.os := ho
  subst e
  exact I.call (g' := g') (t' := t') (d' := d') u hok hg hch
end

/-! ### the judgements -/
/-- an exception: its class, its own dict's address (where it has one), the abstract heap behind it -/
abbrev XK := Value → Option Addr → Hp → Prop
abbrev St := List (Option V)
abbrev VK := V → Hp → Prop
/-- an expression's reading; a test's; an argument list's -/
abbrev TE := St → Hp → VK → Prop
abbrev TT := St → Hp → (Bool → Hp → Prop) → Prop
abbrev TA := St → Hp → (List V → Hp → Prop) → Prop
/-- what is wanted behind a statement -/
structure Ends where
  nx : St → Hp → Prop
  rt : VK
  bk : St → Hp → Prop := fun _ _ => False
  ct : St → Hp → Prop := fun _ _ => False
abbrev TS := Ends → St → Hp → Prop

def EP (X : Cx) (pins : List (Addr × Obj)) (σ : St) (Q : VK) (u : Value) (s' : Shared) : Prop := ∃ v H', Inv X pins σ H' s' ∧ RelV v u ∧ Q v H'
def TP (X : Cx) (pins : List (Addr × Obj)) (σ : St) (Q : Bool → Hp → Prop) (b : Bool) (s' : Shared) : Prop := ∃ H', Inv X pins σ H' s' ∧ Q b H'
def AP (X : Cx) (pins : List (Addr × Obj)) (σ : St) (Q : List V → Hp → Prop) (us : List Value) (s' : Shared) : Prop := ∃ vs H', Inv X pins σ H' s' ∧ Vals vs us ∧ Q vs H'
def SP (X : Cx) (pins : List (Addr × Obj)) (D : Ends) (f : Flow) (s' : Shared) : Prop :=
  match f with
  | .next => ∃ σ' H', Inv X pins σ' H' s' ∧ D.nx σ' H'
  | .brk => ∃ σ' H', Inv X pins σ' H' s' ∧ D.bk σ' H'
  | .cont => ∃ σ' H', Inv X pins σ' H' s' ∧ D.ct σ' H'
  | .ret u => ∃ v σ' H', Inv X pins σ' H' s' ∧ RelV v u ∧ D.rt v H'

def PE (X : Cx) (e : Expr) (t : TE) : Prop :=
  ∀ (pins : List (Addr × Obj)) (s : Shared) (σ : St) (H : Hp) (Q : VK), Inv X pins σ H s → t σ H Q → wpAny (model X.prog X.w) X.A (eval e X.env) (EP X pins σ Q) X.xe s
def PT (X : Cx) (e : Expr) (t : TT) : Prop :=
  ∀ (pins : List (Addr × Obj)) (s : Shared) (σ : St) (H : Hp) (Q : Bool → Hp → Prop), Inv X pins σ H s → t σ H Q → wpAny (model X.prog X.w) X.A (isTrue e X.env (eval e X.env)) (TP X pins σ Q) X.xe s
/-- a test whatever its 'whole' is (and, or) -/
def PW (X : Cx) (e : Expr) (t : TT) : Prop :=
  ∀ (whole : Sem Value) (pins : List (Addr × Obj)) (s : Shared) (σ : St) (H : Hp) (Q : Bool → Hp → Prop), Inv X pins σ H s → t σ H Q → wpAny (model X.prog X.w) X.A (isTrue e X.env whole) (TP X pins σ Q) X.xe s
theorem PW.pt {X : Cx} {e : Expr} {t : TT} (h : PW X e t) : PT X e t := h _
/-- an argument list (no star), from the left -/
def PA (X : Cx) (es : List Expr) (t : TA) : Prop :=
  ∀ (pos : Pos) (pins : List (Addr × Obj)) (s : Shared) (σ : St) (H : Hp) (Q : List V → Hp → Prop), Inv X pins σ H s → t σ H Q → wpAny (model X.prog X.w) X.A (spliced (backTo pos (starEach es X.env))) (AP X pins σ Q) X.xe s
def PS (X : Cx) (st : Stmt) (t : TS) : Prop :=
  ∀ (pins : List (Addr × Obj)) (s : Shared) (σ : St) (H : Hp) (D : Ends), Inv X pins σ H s → t D σ H → wpAny (model X.prog X.w) X.A (exec st X.env) (SP X pins D) X.xe s
def PSs (X : Cx) (st : List Stmt) (t : TS) : Prop :=
  ∀ (pins : List (Addr × Obj)) (s : Shared) (σ : St) (H : Hp) (D : Ends), Inv X pins σ H s → t D σ H → wpAny (model X.prog X.w) X.A (execs st X.env) (SP X pins D) X.xe s
/-- weaken the end -/
theorem thn {α : Type} {t : Sem α} {Q Q' : α → Shared → Prop} {M : Model} {A : Around} {E : Value → Shared → Prop} {s : Shared} (h : wpAny M A t Q E s) (hQ : ∀ a s, Q a s → Q' a s) : wpAny M A t Q' E s := wpAny_mono h hQ fun _ _ x => x
end L2

namespace L2
open PySem PySem.Spec PyProof.Rows
section
variable {X : Cx}

/-! ### names and constants -/
def tVar (i : Nat) : TE := fun σ H Q => ∃ v, σ[i]? = some (some v) ∧ Q v H
def tC (v : V) : TE := fun _ H Q => Q v H
theorem pe_var {i : Nat} {x : Str} {pos : Pos} (hN : X.N[i]? = some x) (hv : Vis X.env.scope x) (hd : (x == ("__debug__" : Str)) = false := by decide) (hcd : (x == ("__classdict__" : Str)) = false := by decide) : PE X (.Name x pos) (tVar i) := by
  intro pins s σ H Q I h
  obtain ⟨v, e, h⟩ := h
  obtain ⟨m, hn, hl⟩ := I.loc
  obtain ⟨u, r, l⟩ := hl i x v hN e hv
  have fin : EP X pins σ Q u s := ⟨v, H, I, r, h⟩
  rcases l with ⟨hk, hm⟩ | ⟨hk, c, hc, hcell⟩
  · exact wpAny_Name (wpAny_loadName_local I.ok.kind hk hn hm fin) hd
  · rcases hk with hk | hk
    · exact wpAny_Name (wpAny_loadName_cell I.ok.kind hk hc hcell fin) hd
    · exact wpAny_Name (wpAny_loadName_free I.ok.kind hk hc hcell fin hcd) hd
theorem pe_int {i j pos} : PE X (.Constant (.int i) j pos) (tC (.int i)) := fun _ _ _ H _ I h => wpAny_Constant_int ⟨.int i, H, I.tok _, ⟨_, rfl⟩, h⟩
theorem pe_bl {b j pos} : PE X (.Constant (.bool b) j pos) (tC (.bl b)) := fun _ _ _ H _ I h => Constant_bool ⟨.bl b, H, I, rfl, h⟩
/-- a global name of the def -/
def Gl (X : Cx) (x : Str) : Prop := X.env.kindOf x = some .globalImplicit
theorem ld_glob {E : Value → Shared → Prop} {pins : List (Addr × Obj)} {s : Shared} {σ : St} {H : Hp} {x : Str} {u : Value} {pos : Pos} {Q : Value → Shared → Prop} (I : Inv X pins σ H s) (hg : Gl X x) (hm : X.mg x = some u) (h : Q u s)
    (hd : (x == ("__debug__" : Str)) = false := by decide) : wpAny (model X.prog X.w) X.A (eval (.Name x pos) X.env) Q E s :=
  Calls.Name_function_global I.ok.kind hg (Calls.loadGlobal_global (by rw [I.ok.glob]; exact I.mod.glob.keeps I.bk) hm h) hd
theorem ld_blt {E : Value → Shared → Prop} {pins : List (Addr × Obj)} {s : Shared} {σ : St} {H : Hp} {x : Str} {u : Value} {pos : Pos} {Q : Value → Shared → Prop} (I : Inv X pins σ H s) (hg : Gl X x) (hm : X.mg x = none) (hv : bootBuiltins x = some u) (h : Q u s)
    (hn : x ≠ "__name__" := by decide) (hd : (x == ("__debug__" : Str)) = false := by decide) : wpAny (model X.prog X.w) X.A (eval (.Name x pos) X.env) Q E s := by
  obtain ⟨mb, h1, h2⟩ := I.mod.blt
  exact Calls.Name_function_global I.ok.kind hg (Calls.loadGlobal_builtin (by rw [I.ok.glob]; exact I.mod.glob.keeps I.bk) hm (by rw [I.ok.blt]; exact h1.keeps I.bk) ((h2 x hn).trans hv) h) hd
theorem pe_bltn {x : Str} {v : V} {u : Value} {pos : Pos} (hg : Gl X x) (hm : X.mg x = none) (hv : bootBuiltins x = some u) (r : RelV v u) (hn : x ≠ "__name__" := by decide) (hd : (x == ("__debug__" : Str)) = false := by decide) : PE X (.Name x pos) (tC v) :=
  fun _ _ _ H _ I h => ld_blt I hg hm hv ⟨v, H, I, r, h⟩ hn hd

/-! ### arithmetic -/
variable {a b : Expr} {ta tb : TE} {pos : Pos}
/-! ### comparisons -/
/-- a comparison as a value, as a test -/
def tB (t : TE) : TT := fun σ H Q => t σ H fun x H1 => ∃ c, x = .bl c ∧ Q c H1
/-- an expression whose value is a bool, as a test -/
theorem pt_val {e : Expr} {t : TE} (h : PE X e t) (he : ∀ whole, isTrue e X.env whole = (do let v ← whole; standAt e.pos; holding [v] (truthy v)) := by intro _; rfl) : PT X e (tB t) := by
  intro pins s σ H Q I hw
  refine isTrue_plain (thn (h pins s σ H _ I hw) fun v s1 ⟨x, H1, I1, r1, q1⟩ => ?_) (he _)
  obtain ⟨d, rfl, q⟩ := q1
  cases r1
  exact wpAny_truthy_bool ⟨H1, I1, q⟩

/-! ### and, or, not -/
variable {tA tB' : TT} {rest : List Expr}
def tAnd (t u : TT) : TT := fun σ H Q => t σ H fun c H1 => if c = true then u σ H1 Q else Q false H1
def tOr (t u : TT) : TT := fun σ H Q => t σ H fun c H1 => if c = true then Q true H1 else u σ H1 Q
def tNot (t : TT) : TT := fun σ H Q => t σ H fun c H1 => Q (!c) H1
theorem pw_and1 (ha : PT X a tA) : PW X (.BoolOp .And [a] pos) tA := by
  intro wh pins s σ H Q I h
  refine isTrue_and (thn (ha pins s σ H Q I h) fun c s1 e => ?_)
  cases c with
  | true => exact isTrue_and_nil e
  | false => exact e
theorem pw_or1 (ha : PT X a tA) : PW X (.BoolOp .Or [a] pos) tA := by
  intro wh pins s σ H Q I h
  refine isTrue_or (thn (ha pins s σ H Q I h) fun c s1 e => ?_)
  cases c with
  | false => exact isTrue_or_nil e
  | true => exact e
theorem pw_and (ha : PT X a tA) (hb : PW X (.BoolOp .And (b :: rest) pos) tB') : PW X (.BoolOp .And (a :: b :: rest) pos) (tAnd tA tB') := by
  intro wh pins s σ H Q I h
  refine isTrue_and (thn (ha pins s σ H _ I h) fun c s1 ⟨H1, I1, q1⟩ => ?_)
  cases c with
  | true => exact hb wh pins s1 σ H1 Q I1 q1
  | false => exact ⟨H1, I1, q1⟩
theorem pw_or (ha : PT X a tA) (hb : PW X (.BoolOp .Or (b :: rest) pos) tB') : PW X (.BoolOp .Or (a :: b :: rest) pos) (tOr tA tB') := by
  intro wh pins s σ H Q I h
  refine isTrue_or (thn (ha pins s σ H _ I h) fun c s1 ⟨H1, I1, q1⟩ => ?_)
  cases c with
  | true => exact ⟨H1, I1, q1⟩
  | false => exact hb wh pins s1 σ H1 Q I1 q1
theorem pt_not (ha : PT X a tA) : PT X (.UnaryOp .Not a pos) (tNot tA) := by
  intro pins s σ H Q I h
  exact isTrue_not (ha pins s σ H (fun c H1 => Q (!c) H1) I h)
/-- .. as values (bools) -/
def tAndV (ta tb : TE) : TE := fun σ H Q => ta σ H fun x H1 => ∃ c, x = .bl c ∧ if c = true then tb σ H1 Q else Q (.bl false) H1
def tNotV (ta : TE) : TE := fun σ H Q => ta σ H fun x H1 => ∃ c, x = .bl c ∧ Q (.bl (!c)) H1
theorem pe_one {op} {t : TE} (h : PE X a t) : PE X (.BoolOp op [a] pos) t := fun pins s σ H Q I hw => BoolOp_one (h pins s σ H Q I hw)
theorem pe_and (ha : PE X a ta) (hb : PE X (.BoolOp .And (b :: rest) pos) tb) : PE X (.BoolOp .And (a :: b :: rest) pos) (tAndV ta tb) := by
  intro pins s σ H Q I h
  refine BoolOp_and (thn (ha pins s σ H _ I h) fun v s1 ⟨x, H1, I1, r1, q1⟩ => ?_)
  obtain ⟨c, rfl, q1⟩ := q1
  cases r1
  refine wpAny_truthy_bool ?_
  cases c with
  | true => exact hb pins s1 σ H1 Q I1 q1
  | false => exact ⟨.bl false, H1, I1, rfl, q1⟩
theorem pe_not (ha : PE X a ta) : PE X (.UnaryOp .Not a pos) (tNotV ta) := by
  intro pins s σ H Q I h
  refine UnaryOp_ (thn (ha pins s σ H _ I h) fun v s1 ⟨x, H1, I1, r1, q1⟩ => ?_)
  obtain ⟨c, rfl, q1⟩ := q1
  cases r1
  exact not_of (wpAny_truthy_bool ⟨.bl (!c), H1, I1, rfl, q1⟩)
/-- a if t else b -/
def tIf (t : TT) (ta tb : TE) : TE := fun σ H Q => t σ H fun c H1 => if c = true then ta σ H1 Q else tb σ H1 Q
theorem pe_ifExp {c : Expr} (hc : PT X c tA) (ha : PE X a ta) (hb : PE X b tb) : PE X (.IfExp c a b pos) (tIf tA ta tb) := by
  intro pins s σ H Q I h
  refine wpAny_IfExp (thn (hc pins s σ H _ I h) fun d s1 ⟨H1, I1, q1⟩ => ?_)
  cases d with
  | true => exact ha pins s1 σ H1 Q I1 q1
  | false => exact hb pins s1 σ H1 Q I1 q1
end
end L2

namespace L2
open PySem PySem.Spec PyProof.Rows

/-! ### a list, a tuple that is read: tracked, frozen, or an object of the module -/
def SqL (K : PySem.W.Frag) (H : Hp) (a : Addr) (xs : List V) : Prop :=
  Rd H a (.lst xs) ∨
    ∃ (o : Obj) (its : Array Value) (n : Nat), K.lookup a = some o ∧ o.cls = .type "list" ∧ o.dict = none ∧ o.data = .seq its n ∧ its.size ≤ sizeLine ∧ Vals xs its.toList
def SqT (K : PySem.W.Frag) (H : Hp) (a : Addr) (xs : List V) : Prop :=
  Rd H a (.tup xs) ∨
    ∃ (o : Obj) (its : Array Value) (n : Nat), K.lookup a = some o ∧ o.cls = .type "tuple" ∧ o.data = .seq its n ∧ its.size ≤ sizeLine ∧ Vals xs its.toList
def absV : Value → Option V
  | .none => some .non
  | .bool b => some (.bl b)
  | .int i _ => some (.int i)
  | .str x _ => some (.str x)
  | .bytes b _ => some (.byt b)
  | .float b _ => some (.flt b)
  | .ref a => some (.ref a)
  | .type n => some (.ty n)
  | _ => none
theorem RelV.abs {x : V} {u : Value} (r : RelV x u) : absV u = some x := by
  cases x with
  | non => cases r; rfl
  | bl _ => cases r; rfl
  | int _ => obtain ⟨t, rfl⟩ := r; rfl
  | str _ => obtain ⟨t, rfl⟩ := r; rfl
  | byt _ => obtain ⟨t, rfl⟩ := r; rfl
  | flt _ => obtain ⟨t, rfl⟩ := r; rfl
  | ref _ => cases r; rfl
  | ty _ => cases r; rfl
theorem RelV.inj {x y : V} {u : Value} (r : RelV x u) (q : RelV y u) : x = y := Option.some.inj (r.abs.symm.trans q.abs)
theorem Vals.inj : ∀ {xs ys : List V} {us : List Value}, Vals xs us → Vals ys us → xs = ys
  | _, _, _, .nil, .nil => rfl
  | _, _, _, .cons r t, .cons r' t' => by rw [r.inj r', Vals.inj t t']
section
variable {X : Cx} {pins : List (Addr × Obj)} {σ : St} {H : Hp} {s : Shared} {a : Addr} {xs ys : List V}
theorem SqL.of {K : PySem.W.Frag} (h : H a = some (.lst xs)) : SqL K H a xs := .inl (.inl h)
theorem SqT.of {K : PySem.W.Frag} (h : H a = some (.tup xs)) : SqT K H a xs := .inl (.inl h)
theorem Inv.list (I : Inv X pins σ H s) (h : SqL X.K H a xs) : ∃ its : List Value, Vals xs its ∧ PlainL s.heap a its.toArray ∧ xs.length ≤ sizeLine := by
  rcases h with h | ⟨o, its, n, hk, hc, hd, hs, hz, r⟩
  · obtain ⟨z, its, n, r, e⟩ := h.ok I.hok
    exact ⟨its, r, ⟨_, n, e, rfl, rfl, rfl⟩, z⟩
  · refine ⟨its.toList, r, ⟨o, n, I.kIn a o hk, hc, hd, by simpa using hs⟩, ?_⟩
    have e := r.length
    simp only [Array.length_toList] at e
    omega
theorem Inv.tuple (I : Inv X pins σ H s) (h : SqT X.K H a xs) : ∃ its : List Value, Vals xs its ∧ IsTup s.heap a its.toArray ∧ xs.length ≤ sizeLine := by
  rcases h with h | ⟨o, its, n, hk, hc, hs, hz, r⟩
  · obtain ⟨z, its, r, p⟩ := h.ok I.hok
    exact ⟨its, r, p, z⟩
  · refine ⟨its.toList, r, ⟨o, I.kIn a o hk, hc, n, by simpa using hs⟩, ?_⟩
    have e := r.length
    simp only [Array.length_toList] at e
    omega
theorem Inv.list_inj (I : Inv X pins σ H s) (h : SqL X.K H a xs) (h' : SqL X.K H a ys) : xs = ys := by
  obtain ⟨its, r, ⟨o, n, e, _, _, d⟩, _⟩ := I.list h
  obtain ⟨its', r', ⟨o', n', e', _, _, d'⟩, _⟩ := I.list h'
  rw [e] at e'; cases e'
  rw [d] at d'
  injection d' with d1 _
  have : its = its' := by simpa using congrArg Array.toList d1
  subst this
  exact r.inj r'
end

/-! ### another wish about exceptions -/
abbrev Cx.wish (X : Cx) (E : Value → Shared → Prop) : Cx := { X with xe := E }
/-- no exception leaves -/
abbrev Cx.nox (X : Cx) : Cx := X.wish fun _ _ => False
theorem Cx.Ok.wish {X : Cx} (ok : X.Ok) (E : Value → Shared → Prop) : (X.wish E).Ok :=
  ⟨ok.mod, ok.kind, ok.glob, ok.blt, ok.above, ok.inj, ok.has, ok.cab, ok.hd, ok.frames, ok.stk, ok.exf, ok.bs, ok.bsz, ok.noex, ok.exfs, ok.funs, ok.frf⟩
theorem Cx.Ok.unwish {X : Cx} {E : Value → Shared → Prop} (ok : (X.wish E).Ok) : X.Ok :=
  ⟨ok.mod, ok.kind, ok.glob, ok.blt, ok.above, ok.inj, ok.has, ok.cab, ok.hd, ok.frames, ok.stk, ok.exf, ok.bs, ok.bsz, ok.noex, ok.exfs, ok.funs, ok.frf⟩
section
variable {X : Cx} {pins : List (Addr × Obj)} {σ : St} {H : Hp} {s : Shared} {E : Value → Shared → Prop}
theorem Inv.wish (I : Inv X pins σ H s) (E : Value → Shared → Prop) : Inv (X.wish E) pins σ H s := ⟨I.ok.wish E, I.os, I.bare, I.base, I.loc, I.cell, I.free, I.freeC, I.pin, I.hok, I.len⟩
theorem Inv.unwish (I : Inv (X.wish E) pins σ H s) : Inv X pins σ H s := ⟨I.ok.unwish, I.os, I.bare, I.base, I.loc, I.cell, I.free, I.freeC, I.pin, I.hok, I.len⟩
theorem SP.unwish {D : Ends} {f : Flow} {s' : Shared} (h : SP (X.wish E) pins D f s') : SP X pins D f s' := by
  cases f with
  | next => obtain ⟨σ', H', I, q⟩ := h; exact ⟨σ', H', I.unwish, q⟩
  | brk => obtain ⟨σ', H', I, q⟩ := h; exact ⟨σ', H', I.unwish, q⟩
  | cont => obtain ⟨σ', H', I, q⟩ := h; exact ⟨σ', H', I.unwish, q⟩
  | ret u => obtain ⟨v, σ', H', I, r, q⟩ := h; exact ⟨v, σ', H', I.unwish, r, q⟩
theorem PE.nox {e : Expr} {t : TE} (h : PE X.nox e t) : PE X e t := fun pins s σ H Q I hw =>
  wpAny_mono (h pins s σ H Q (I.wish _) hw) (fun _ _ ⟨v, H', I', r, q⟩ => ⟨v, H', I'.unwish, r, q⟩) fun _ _ z => False.elim z
theorem PT.nox {e : Expr} {t : TT} (h : PT X.nox e t) : PT X e t := fun pins s σ H Q I hw =>
  wpAny_mono (h pins s σ H Q (I.wish _) hw) (fun _ _ ⟨H', I', q⟩ => ⟨H', I'.unwish, q⟩) fun _ _ z => False.elim z
theorem PSs.nox {st : List Stmt} {t : TS} (h : PSs X.nox st t) : PSs X st t := fun pins s σ H D I hw =>
  wpAny_mono (h pins s σ H D (I.wish _) hw) (fun _ _ q => q.unwish) fun _ _ z => False.elim z
end

/-! ### blocks and small statements -/
section
variable {X : Cx} {st : Stmt} {rest : List Stmt} {t u : TS} {e : Expr} {te : TE} {pos : Pos}
def tNext : TS := fun D σ H => D.nx σ H
def tSeq (t u : TS) : TS := fun D σ H => t { D with nx := u D } σ H
theorem pss_nil : PSs X [] tNext := fun _ _ σ H _ I h => wpAny_execs_nil ⟨σ, H, I, h⟩
theorem pss_cons (h1 : PS X st t) (h2 : PSs X rest u) : PSs X (st :: rest) (tSeq t u) := by
  intro pins s σ H D I h
  refine wpAny_execs_cons (thn (h1 pins s σ H { D with nx := u D } I h) fun f s1 q => ?_)
  cases f with
  | next =>
    obtain ⟨σ', H', I', q⟩ := q
    exact h2 pins s1 σ' H' D I' q
  | ret v => exact q
  | brk => exact q
  | cont => exact q
theorem pss_one (h1 : PS X st t) : PSs X [st] t := by
  intro pins s σ H D I h
  refine wpAny_execs_cons (thn (h1 pins s σ H D I h) fun f s1 q => ?_)
  cases f with
  | next => exact wpAny_execs_nil q
  | ret v => exact q
  | brk => exact q
  | cont => exact q
/-- in a def's body nothing is shown -/
theorem Inv.quiet {pins : List (Addr × Obj)} {σ : St} {H : Hp} {s : Shared} (I : Inv X pins σ H s) : interactive X.env = false := by simp [interactive, I.ok.kind]
/-- an expression whose value is dropped -/
def tDrop (te : TE) : TS := fun D σ H => te σ H fun _ H1 => D.nx σ H1
theorem ps_expr (he : PE X e te) (hs : swapsWith e none pos.line X.env = pure false := by rfl) : PS X (.Expr e pos) (tDrop te) := by
  intro pins s σ H D I h
  exact wpAny_Expr_any (thn (he pins s σ H _ I h) fun v s1 ⟨x, H1, I1, r1, q1⟩ => ⟨σ, H1, I1, q1⟩) I.quiet hs
def tRet (te : TE) : TS := fun D σ H => te σ H D.rt
theorem ps_ret (he : PE X e te) : PS X (.Return (some e) pos) (tRet te) := by
  intro pins s σ H D I h
  exact wpAny_Return_some (thn (he pins s σ H _ I h) fun v s1 ⟨x, H1, I1, r1, q1⟩ => ⟨x, σ, H1, I1, r1, q1⟩)
def tIfS (c : TT) (t u : TS) : TS := fun D σ H => c σ H fun b H1 => if b = true then t D σ H1 else u D σ H1
theorem ps_if {c : Expr} {a b : List Stmt} {tc : TT} (hc : PT X c tc) (ha : PSs X a t) (hb : PSs X b u) : PS X (.If c a b pos) (tIfS tc t u) := by
  intro pins s σ H D I h
  refine wpAny_If (thn (hc pins s σ H _ I h) fun d s1 ⟨H1, I1, q1⟩ => ?_)
  cases d with
  | true => exact ha pins s1 σ H1 D I1 q1
  | false => exact hb pins s1 σ H1 D I1 q1
/-- code that the proof never comes to -/
def tNever : TS := fun _ _ _ => False
theorem ps_never : PS X st tNever := fun _ _ _ _ _ _ h => h.elim
end

/-! ### targets -/
abbrev TG := V → St → Hp → (St → Hp → Prop) → Prop
abbrev TGs := List V → St → Hp → (St → Hp → Prop) → Prop
def PG (X : Cx) (target : Expr) (t : TG) : Prop :=
  ∀ (pins : List (Addr × Obj)) (s : Shared) (σ : St) (H : Hp) (v : V) (u : Value) (Q : St → Hp → Prop), Inv X pins σ H s → RelV v u → t v σ H Q →
    wpAny (model X.prog X.w) X.A (assign target X.env u) (fun _ s' => ∃ σ' H', Inv X pins σ' H' s' ∧ Q σ' H') X.xe s
/-- several targets, one after another -/
def PGs (X : Cx) (ts : List Expr) (t : TGs) : Prop :=
  ∀ (pins : List (Addr × Obj)) (s : Shared) (σ : St) (H : Hp) (vs : List V) (us : List Value) (Q : St → Hp → Prop), Inv X pins σ H s → Vals vs us → t vs σ H Q →
    wpAny (model X.prog X.w) X.A (assignInOrder ((assignEach ts X.env).map (·.2)) us) (fun _ s' => ∃ σ' H', Inv X pins σ' H' s' ∧ Q σ' H') X.xe s
/-- o[i] = v, by values -/
abbrev TSet := V → V → V → Hp → (Hp → Prop) → Prop
def PSet (X : Cx) (t : TSet) : Prop :=
  ∀ (pins : List (Addr × Obj)) (s : Shared) (σ : St) (H : Hp) (o i v : V) (ov iv u : Value) (Q : Hp → Prop), Inv X pins σ H s → RelV o ov → RelV i iv → RelV v u → t o i v H Q →
    wpAny (model X.prog X.w) X.A (setItem ov iv u) (fun _ s' => ∃ H', Inv X pins σ H' s' ∧ Q H') X.xe s
section
variable {X : Cx} {pos : Pos}
def gName (i : Nat) : TG := fun v σ H Q => Q (σ.set i (some v)) H
theorem pg_name {i : Nat} {x : Str} (hN : X.N.Nodup) (hi : X.N[i]? = some x) (hx : Loc X.env.scope x) (hf : X.fn x = true ∨ X.env.scope.names.lookup x = some .local := by first | exact .inl rfl | exact .inr rfl | assumption) : PG X (.Name x pos) (gName i) := by
  intro pins s σ H v u Q I r h
  exact wpAny_assign_Name (store_ok I hN hi hx r (fun s' I' => ⟨_, H, I', h⟩) hf)
def gNil : TGs := fun vs σ H Q => vs = [] ∧ Q σ H
def gCons (t : TG) (u : TGs) : TGs := fun vs σ H Q => ∃ v r, vs = v :: r ∧ t v σ H fun σ' H' => u r σ' H' Q
theorem pgs_nil : PGs X [] gNil := by
  intro pins s σ H vs us Q I r h
  obtain ⟨e, h⟩ := h
  subst e
  cases r
  exact assignInOrder_nil ⟨σ, H, I, h⟩
theorem pgs_cons {e : Expr} {es : List Expr} {t : TG} {u : TGs} (h1 : PG X e t) (h2 : PGs X es u)
    (hs : (assignEach (e :: es) X.env).map (·.2) = assign e X.env :: (assignEach es X.env).map (·.2) := by rfl) : PGs X (e :: es) (gCons t u) := by
  intro pins s σ H vs us Q I r h
  obtain ⟨v, vr, e1, h⟩ := h
  subst e1
  cases r with
  | cons r rr =>
    rw [hs]
    refine assignInOrder_cons (thn (h1 pins s σ H _ _ _ I r h) fun _ s1 ⟨σ1, H1, I1, q1⟩ => ?_)
    exact h2 pins s1 σ1 H1 _ _ Q I1 rr q1
/-- (a, b, ..) = a tuple of that length -/
def gTup (K : PySem.W.Frag) (n : Nat) (t : TGs) : TG := fun v σ H Q => ∃ a xs, v = .ref a ∧ SqT K H a xs ∧ xs.length = n ∧ t xs σ H Q
theorem pg_tup {es : List Expr} {k : Nat} {t : TGs} {n : Nat} (hc : X.calm = true) (h : PGs X es t)
    (hn : (assignEach es X.env).length = n := by rfl) (hst : (assignEach es X.env).findIdx? (·.1) = none := by rfl) : PG X (.Tuple es k pos) (gTup X.K n t) := by
  intro pins s σ H v u Q I r hw
  obtain ⟨a, xs, e1, hq, hl, hw⟩ := hw
  subst e1
  cases r
  obtain ⟨its, rv, ht, hz⟩ := I.tuple hq
  refine assign_Tuple_tuple (I.ok.hd hc) ht (by simp [hn, ← hl, rv.length]) hst fun h' hx => ?_
  have I1 : Inv X pins σ H { s with heap := h' } := I.kept (t' := s.toks) fun b o e => hx b o (Nat.ne_of_lt (Heap.lt_size e)) e
  exact h pins _ σ H xs _ Q I1 (by simpa using rv) hw
/-- o[i] = .. -/
def gSub (to ti : TE) (t : TSet) : TG := fun v σ H Q => to σ H fun o H1 => ti σ H1 fun i H2 => t o i v H2 fun H3 => Q σ H3
theorem pg_sub {o i : Expr} {to ti : TE} {t : TSet} (ho : PE X o to) (hi : PE X i ti) (hs : PSet X t)
    (ha : ∀ v, assign (.Subscript o i pos) X.env v = (do
      let ov ← holding [v] (eval o X.env)
      let iv ← holding [v, ov] (eval i X.env)
      standAt pos
      holding [v, ov, iv] (setItem ov iv v)
      release [v, ov, iv] []) := by intro _; rfl) : PG X (.Subscript o i pos) (gSub to ti t) := by
  intro pins s σ H v u Q I r h
  rw [ha]
  refine wpAny_bind (wpAny_holding (thn (ho pins s σ H _ I h) fun ov s1 ⟨x, H1, I1, r1, q1⟩ => ?_))
  refine wpAny_bind (wpAny_holding (thn (hi pins s1 σ H1 _ I1 q1) fun iv s2 ⟨y, H2, I2, r2, q2⟩ => ?_))
  refine wpAny_bind (wpAny_standAt (wpAny_bind (wpAny_holding (thn (hs pins s2 σ H2 x y v ov iv u _ I2 r1 r2 r q2) fun _ s3 ⟨H3, I3, q3⟩ => ?_))))
  exact wpAny_release ⟨σ, H3, I3, q3⟩
/-- target = value -/
def tAsg (te : TE) (g : TG) : TS := fun D σ H => te σ H fun x H1 => g x σ H1 D.nx
theorem ps_asg {tg e : Expr} {te : TE} {g : TG} (he : PE X e te) (hg : PG X tg g) (hs : swapsWithSole [tg] e pos.line X.env = pure false := by rfl) (hw : swappedStores [tg] e X.env = pure none := by rfl)
    (h1 : (assignEach [tg] X.env).map (·.2) = [assign tg X.env] := by rfl) : PS X (.Assign [tg] e pos) (tAsg te g) := by
  intro pins s σ H D I h
  refine wpAny_Assign_stores (thn (he pins s σ H _ I h) fun v s1 ⟨x, H1, I1, r1, q1⟩ => ?_) hs hw
  rw [h1]
  exact thn (hg pins s1 σ H1 x v _ I1 r1 q1) fun _ s2 q => q
/-- name = value -/
theorem ps_set {i : Nat} {x : Str} {e : Expr} {te : TE} {pos' : Pos} (hN : X.N.Nodup) (hi : X.N[i]? = some x) (hx : Loc X.env.scope x) (he : PE X e te) (hs : swapsWith e (some (.Name x pos')) pos.line X.env = pure false := by rfl) (hf : X.fn x = true ∨ X.env.scope.names.lookup x = some .local := by first | exact .inl rfl | exact .inr rfl | assumption) :
    PS X (.Assign [.Name x pos'] e pos) (tAsg te (gName i)) := by
  intro pins s σ H D I h
  refine wpAny_Assign_Name (thn (he pins s σ H _ I h) fun v s1 ⟨y, H1, I1, r1, q1⟩ => ?_) hs
  exact store_ok I1 hN hi hx r1 (fun s2 I2 => ⟨_, H1, I2, q1⟩) hf
/-- a, b = x, y with plain local names: stored from the right; the pair itself is not tracked (the opening rows as in PyProof/Rows/TupAssign.lean:23) -/
def tPar (i j : Nat) (ta : TA) : TS := fun D σ H => ta σ H fun vs H1 => ∃ v w, vs = [v, w] ∧ D.nx ((σ.set i (some v)).set j (some w)) H1
theorem ps_par {i j : Nat} {x y : Str} {a b : Expr} {ta : TA} {px py pt : Pos} {kt k2 pt2} (hc : X.calm = true) (hN : X.N.Nodup) (hi : X.N[i]? = some x) (hj : X.N[j]? = some y) (hij : i ≠ j)
    (hx : X.env.scope.names.lookup x = some .local) (hy : X.env.scope.names.lookup y = some .local) (ha : PA X [a, b] ta)
    (hw : swappedStores [.Tuple [.Name x px, .Name y py] kt pt] (.Tuple [a, b] k2 pt2) X.env = pure (some [x, y]))
    (hs : swapsWithSole [.Tuple [.Name x px, .Name y py] kt pt] (.Tuple [a, b] k2 pt2) pos.line X.env = pure false := by rfl) :
    PS X (.Assign [.Tuple [.Name x px, .Name y py] kt pt] (.Tuple [a, b] k2 pt2) pos) (tPar i j ta) := by
  intro pins s σ H D I h
  rw [exec_Assign_arm]
  refine wpAny_bind (wpAny_standAt ?_)
  rw [hs]
  refine wpAny_bind (wpAny_pure ?_)
  rw [if_neg (by decide)]
  refine wpAny_bind (Tuple_ (thn (ha _ pins s σ H _ I h) fun us s1 ⟨vs, H1, I1, r1, q1⟩ => ?_))
  obtain ⟨v, w, e1, q1⟩ := q1
  subst e1
  obtain ⟨u1, u2, rfl, rv, rw'⟩ : ∃ u1 u2, us = [u1, u2] ∧ RelV v u1 ∧ RelV w u2 := by
    cases r1 with
    | cons p q =>
      cases q with
      | cons p' q' =>
        cases q'
        exact ⟨_, _, rfl, p, p'⟩
  refine wpAny_newObj_type ?_ (by show 2 ≤ sizeLine; decide)
  have I2 : Inv X pins σ H1 { s1 with heap := s1.heap.push { cls := .type "tuple", data := .seq [u1, u2].toArray } } := I1.kept (t' := s1.toks) fun b o e => Heap.get?_push_of_some _ e
  rw [hw]
  refine wpAny_bind (wpAny_pure ?_)
  show wpAny (model X.prog X.w) X.A (do rule "assign.swapped-stores"; let items ← unpackItems (.ref s1.heap.objs.size) 2 none; assignInOrder [fun v => bindName X.env y v, fun v => bindName X.env x v] items.reverse; pure Flow.next) _ _ _
  refine wpAny_bind (wpAny_rule (wpAny_bind (unpackItems_tuple (items := #[u1, u2]) (I.ok.hd hc) (IsTup.new s1.heap _) fun h' hx' => ?_)))
  have I3 := I2.kept (h' := h') (t' := s1.toks) fun b o e => hx' b o (Nat.ne_of_lt (Heap.lt_size e)) e
  show wpAny _ _ (assignInOrder [fun v => bindName X.env y v, fun v => bindName X.env x v] [u2, u1] >>= fun _ => pure Flow.next) _ _ _
  refine wpAny_bind (assignInOrder_cons (wpAny_bindName (store_ok I3 hN hj (.inl hy) rw' (fun s2 I4 => ?_) (.inr hy))))
  refine assignInOrder_cons (wpAny_bindName (store_ok I4 hN hi (.inl hx) rv (fun s3 I5 => assignInOrder_nil (wpAny_pure ?_)) (.inr hx)))
  rw [List.set_comm _ _ (Ne.symm hij)] at I5
  exact ⟨_, H1, I5, q1⟩
end

/-! ### while -/
section
variable {X : Cx} {pos : Pos}
/-- the invariant W with its measure -/
def tWhile (c : TT) (tb : TS) : TS := fun D σ H => ∃ W : Nat → St → Hp → Prop, (∃ m, W m σ H) ∧ ∀ m σ H, W m σ H →
  c σ H fun b H1 => if b = true then ∃ N : St → Hp → Prop, (∀ σ' H', N σ' H' → ∃ m', m' < m ∧ W m' σ' H') ∧ tb { D with nx := N, ct := N, bk := D.nx } σ H1 else D.nx σ H1
theorem ps_while {c : Expr} {body : List Stmt} {tc : TT} {tb : TS} (hp : PassesOwn (model X.prog X.w) X.A X.env X.xe) (hc : PT X c tc) (hb : PSs X body tb) : PS X (.While c body [] pos) (tWhile tc tb) := by
  intro pins s σ H D I h
  obtain ⟨W, ⟨m0, w0⟩, turn⟩ := h
  refine wpAny_While (codeAny_whileLoop (fun n s' => ∃ σ' H', Inv X pins σ' H' s' ∧ W n σ' H') ?_ m0 ⟨σ, H, I, w0⟩)
  rintro n s1 ⟨σ1, H1, I1, w1⟩
  refine wpAny_passesOwn hp (thn (hc pins s1 σ1 H1 _ I1 (turn n σ1 H1 w1)) fun b s2 ⟨H2, I2, q2⟩ => ?_)
  cases b with
  | true =>
    obtain ⟨N, hN, q2⟩ := q2
    rw [if_pos rfl]
    refine wpAny_passesOwn hp (thn (hb pins s2 σ1 H2 _ I2 q2) fun f s3 q3 => ?_)
    cases f with
    | next =>
      obtain ⟨σ3, H3, I3, n3⟩ := q3
      obtain ⟨m', hm, w3⟩ := hN σ3 H3 n3
      exact ⟨m', hm, σ3, H3, I3, w3⟩
    | cont =>
      obtain ⟨σ3, H3, I3, n3⟩ := q3
      obtain ⟨m', hm, w3⟩ := hN σ3 H3 n3
      exact ⟨m', hm, σ3, H3, I3, w3⟩
    | brk => exact q3
    | ret v => exact q3
  | false =>
    rw [if_neg Bool.false_ne_true]
    exact wpAny_execs_nil ⟨σ1, H2, I2, q2⟩
end

/-! ### what a loop or a comprehension walks -/
/-- at turn i: it yields x (the heap may grow), or it stops -/
structure It where
  go : Nat → Hp → Prop
  yld : Nat → Hp → V → Hp → Prop
  stop : Nat → Hp → Prop
/-- the iterator's own objects may turn: they are not the frame's, not pinned, younger than the entry (or a comprehension's own) -/
def FpOk (X : Cx) (pins : List (Addr × Obj)) (H : Hp) (b : Addr) : Prop :=
  H b = none ∧ b ≠ X.env.locals ∧ b ∉ X.fs ∧ (b ∈ X.ex ∨ X.s₀.heap.objs.size ≤ b) ∧ (∀ x c, X.env.cells.lookup x = some c → c ≠ b) ∧ ∀ p ∈ X.pn ++ pins, p.1 ≠ b
theorem Inv.fpOk {X : Cx} {pins : List (Addr × Obj)} {σ : St} {H H' : Hp} {s : Shared} {b : Addr} (I : Inv X pins σ H s) (hb : s.heap.objs.size ≤ b) (hn : H' b = none) : FpOk X pins H' b := by
  refine ⟨hn, Nat.ne_of_gt (Nat.lt_of_lt_of_le I.lt hb), I.nofs hb, .inr (Nat.le_trans I.sz hb), fun x c e z => ?_, fun p hp z => ?_⟩
  · obtain ⟨v, q⟩ := I.cell x c e
    exact absurd (Nat.lt_of_lt_of_le q.lt (by rw [z]; exact hb)) (Nat.lt_irrefl _)
  · exact absurd (Nat.lt_of_lt_of_le (Heap.lt_size (I.pin p hp).1) (by rw [z]; exact hb)) (Nat.lt_irrefl _)
structure Turn (P : Program) (w : World) (K : PySem.W.Frag) (tg : Expr) (J : It) (fp : List Addr) (it : Addr) (tn : Nat → Heap → Prop) : Prop where
  mem : it ∈ fp
  obj : ∀ i h, tn i h → ∀ b ∈ fp, ∃ o, h.get? b = some o ∧ ∀ v, o.data ≠ .cell v
  keep : ∀ i h h', tn i h → (∀ b ∈ fp, ∀ o, h.get? b = some o → h'.get? b = some o) → tn i h'
  item : ∀ (X : Cx), X.prog = P → X.w = w → X.K = K → X.calm = true → ∀ (i : Nat) (pins : List (Addr × Obj)) (s : Shared) (σ : St) (H : Hp) (E : Value → Shared → Prop), Inv X pins σ H s → (∀ b ∈ fp, FpOk X pins H b) → tn i s.heap → J.go i H →
    wpAny (model P w) X.A (pyNext (.ref it)) (fun r s1 => ∃ u, r = some u ∧
      wpAny (model P w) X.A (letOwnedTupleGo tg (.ref it) u) (fun _ s2 => ∃ x H', Inv X pins σ H' s2 ∧ RelV x u ∧ J.yld i H x H' ∧ tn (i + 1) s2.heap ∧ ∀ b ∈ fp, H' b = none) E s1) E s
  done : ∀ (X : Cx), X.prog = P → X.w = w → X.K = K → X.calm = true → ∀ (i : Nat) (pins : List (Addr × Obj)) (s : Shared) (σ : St) (H : Hp) (E : Value → Shared → Prop), Inv X pins σ H s → (∀ b ∈ fp, FpOk X pins H b) → tn i s.heap → J.stop i H →
    wpAny (model P w) X.A (pyNext (.ref it)) (fun r s1 => r = none ∧ Inv X pins σ H s1) E s
  self : ∀ (A : Around) (i : Nat) (s : Shared) (Q : Value → Shared → Prop) (E : Value → Shared → Prop), tn i s.heap → Q (.ref it) s → wpAny (model P w) A (pyIter (.ref it)) Q E s
abbrev TI := St → Hp → (It → Hp → Prop) → Prop
/-- an iterator has come -/
def PIE (X : Cx) (pins : List (Addr × Obj)) (σ : St) (tg : Expr) (R : It → Hp → Prop) (itv : Value) (s2 : Shared) : Prop :=
  ∃ (it : Addr) (fp : List Addr) (tn : Nat → Heap → Prop) (J : It) (H' : Hp), itv = .ref it ∧ Inv X pins σ H' s2 ∧ Turn X.prog X.w X.K tg J fp it tn ∧ tn 0 s2.heap ∧ (∀ b ∈ fp, FpOk X pins H' b) ∧ R J H'
def PI (X : Cx) (tg iter : Expr) (wi : TI) : Prop :=
  ∀ (pins : List (Addr × Obj)) (s : Shared) (σ : St) (H : Hp) (R : It → Hp → Prop), Inv X pins σ H s → wi σ H R →
    wpAny (model X.prog X.w) X.A (eval iter X.env) (fun v s1 => wpAny (model X.prog X.w) X.A (pyIter v) (PIE X pins σ tg R) X.xe s1) X.xe s

/-- the step ahead of the store is nothing for an iterator that keeps no tuple -/
theorem go_of {M : Model} {A : Around} {E : Value → Shared → Prop} {s : Shared} {tg : Expr} {it : Addr} {u : Value} {o : Obj} {n : String} {vs : Array Value} {Q : Unit → Shared → Prop} (ho : s.heap.get? it = some o) (hc : o.cls = .type n) (hd : o.data = .fields vs)
    (hn : ["enumerate", "zip", "dict_itemiterator", "dict_reverseitemiterator", "odict_iterator", "itertools.zip_longest", "itertools.pairwise"].contains n = false) (hQ : Q () s) : wpAny M A (letOwnedTupleGo tg (.ref it) u) Q E s := by
  unfold letOwnedTupleGo
  cases tg <;> first
    | exact wpAny_pure hQ
    | (cases u <;> first
        | exact wpAny_pure hQ
        | (refine wpAny_bind (wpAny_load ho ?_)
           rw [hc, hd]
           show wpAny M A (if (["enumerate", "zip", "dict_itemiterator", "dict_reverseitemiterator", "odict_iterator", "itertools.zip_longest", "itertools.pairwise"].contains n && vs[0]? == some (rawInt _)) = true then _ else _) Q E s
           rw [if_neg (by intro h; rw [hn, Bool.false_and] at h; cases h)]
           exact wpAny_pure hQ))

/-- the list at a, as it stands at each turn (a loop may append to it) -/
def Itl (K : PySem.W.Frag) (a : Addr) : It :=
  ⟨fun i H => ∃ xs x, SqL K H a xs ∧ xs[i]? = some x, fun i H x H' => H' = H ∧ ∀ xs, SqL K H a xs → xs[i]? = some x, fun i H => ∃ xs, SqL K H a xs ∧ xs.length ≤ i⟩
/-- lo, lo + 1, .. (n of them) -/
def Itr (lo : Int) (n : Nat) : It := ⟨fun i _ => i < n, fun i H x H' => H' = H ∧ x = .int (lo + i), fun i _ => n ≤ i⟩
theorem turn_list {P : Program} {w : World} {K : PySem.W.Frag} {tg : Expr} (a it : Addr) : Turn P w K tg (Itl K a) [it] it (fun i h => h.IsListIter it a i) where
  mem := by simp
  obj := fun i h st b hb => by
    have e : b = it := by simpa using hb
    subst e
    obtain ⟨o, e, c, d⟩ := st
    exact ⟨o, e, fun v z => by rw [d] at z; cases z⟩
  keep := fun i h h' st k => st.at fun o e => k it (by simp) o e
  item := by
    intro X hP hw hK hc i pins s σ H E I hf st hg
    subst hP hw hK
    obtain ⟨xs, x, hq, hx⟩ := hg
    obtain ⟨its, rv, p, hz⟩ := I.list hq
    obtain ⟨u, hu, ru⟩ := rv.get hx
    obtain ⟨f0, f1, f2, f3, f4, f5⟩ := hf it (by simp)
    refine wpAny_pyNext_list_item st p.isList (x := u) (by simpa using hu) fun h' st' sb => ?_
    have I1 : Inv X pins σ H { s with heap := h' } := I.turned (t' := s.toks) (fun b o hb e => (sb.2 b hb).trans e) f0 f1 f3 f4 f5
    obtain ⟨o, e, c, d⟩ := id st'
    exact ⟨u, rfl, go_of (s := { s with heap := h' }) e c d (by decide) ⟨x, H, I1, ru, ⟨rfl, fun ys hy => by rw [I.list_inj hy hq]; exact hx⟩, st', fun b hb => (hf b hb).1⟩⟩
  done := by
    intro X hP hw hK hc i pins s σ H E I hf st hg
    subst hP hw hK
    obtain ⟨xs, hq, hx⟩ := hg
    obtain ⟨its, rv, p, hz⟩ := I.list hq
    obtain ⟨f0, f1, f2, f3, f4, f5⟩ := hf it (by simp)
    have hl := rv.length
    exact wpAny_pyNext_list_end (I.ok.hd hc) st p.isList (by simp; omega) fun h' eb => ⟨rfl, I.turned (t' := s.toks) (fun b o hb e => eb b o hb e) f0 f1 f3 f4 f5⟩
  self := fun _ _ _ _ _ st h => wpAny_pyIter_listiter st h
theorem turn_range {P : Program} {w : World} {K : PySem.W.Frag} {tg : Expr} (it : Addr) (lo : Int) (n : Nat) : Turn P w K tg (Itr lo n) [it] it (fun i h => IsRangeIter h it (lo + (i : Nat) * 1) ((n : Int) - (i : Nat)) 1) where
  mem := by simp
  obj := fun i h st b hb => by
    have e : b = it := by simpa using hb
    subst e
    exact ⟨_, st, fun v z => by
      have z' : Data.fields _ = Data.cell v := z
      cases z'⟩
  keep := fun i h h' st k => k it (by simp) _ st
  item := by
    intro X hP hw hK hc i pins s σ H E I hf st hg
    subst hP hw hK
    obtain ⟨f0, f1, f2, f3, f4, f5⟩ := hf it (by simp)
    have W := Walks.range (prog := X.prog) (w := X.w) (I.ok.hd hc) it lo 1 n
    refine W.item i s _ _ hg st fun v h' tk hv st' kk => ?_
    obtain ⟨t, rfl⟩ := hv
    have I1 : Inv X pins σ H { s with heap := h', toks := tk } := I.turned (fun b o hb e => kk b o (by simpa using hb) e) f0 f1 f3 f4 f5
    refine ⟨_, rfl, go_of (s := { s with heap := h', toks := tk }) (n := "range_iterator") st' rfl rfl (by decide) ⟨.int (lo + i), H, I1, ⟨t, ?_⟩, ⟨rfl, rfl⟩, st', fun b hb => (hf b hb).1⟩⟩
    rw [Int.mul_one]
  done := by
    intro X hP hw hK hc i pins s σ H E I hf st hg
    subst hP hw hK
    obtain ⟨f0, f1, f2, f3, f4, f5⟩ := hf it (by simp)
    exact wpAny_pyNext_range_end (I.ok.hd hc) st (by have : n ≤ i := hg; omega) fun h' eb => ⟨rfl, I.turned (t' := s.toks) (fun b o hb e => eb b o hb e) f0 f1 f3 f4 f5⟩
  self := fun _ _ _ _ _ st h => wpAny_pyIter_rangeiter st h
end L2

namespace L2
open PySem PySem.Spec PyProof.Rows
section
variable {X : Cx} {tg : Expr}
def iList (K : PySem.W.Frag) (tl : TE) : TI := fun σ H R => tl σ H fun x H1 => ∃ a, x = .ref a ∧ (∃ xs, SqL K H1 a xs) ∧ R (Itl K a) H1
theorem pi_list {l : Expr} {tl : TE} (hl : PE X l tl) : PI X tg l (iList X.K tl) := by
  intro pins s σ H R I h
  refine thn (hl pins s σ H _ I h) fun v s1 ⟨x, H1, I1, r1, q1⟩ => ?_
  obtain ⟨a, e, ⟨xs, hq⟩, q⟩ := q1
  subst e
  cases r1
  obtain ⟨its, rv, p, hz⟩ := I1.list hq
  refine wpAny_pyIter_list p.isList ?_
  refine ⟨s1.heap.objs.size, [s1.heap.objs.size], _, _, H1, rfl, I1.kept (t' := s1.toks) fun b o e => Heap.get?_push_of_some _ e, turn_list a _, ⟨_, Heap.get?_push_size _ rfl, rfl, rfl⟩, fun b hb => ?_, q⟩
  have e : b = s1.heap.objs.size := by simpa using hb
  subst e
  exact I1.fpOk (Nat.le_refl _) (I1.hok.fresh (Nat.le_refl _))
/-- a range object just made, walked -/
theorem range_it {pins : List (Addr × Obj)} {σ : St} {H : Hp} {s : Shared} {R : It → Hp → Prop} {E : Value → Shared → Prop} {lo hi : Int} {t u v : Tok} {tk : Nat} (I : Inv X pins σ H s) (h1 : -(2 ^ 62) ≤ lo) (h2 : lo < 2 ^ 62) (h3 : -(2 ^ 62) ≤ hi) (h4 : hi < 2 ^ 62)
    (q : R (Itr lo (hi - lo).toNat) H) : wpAny (model X.prog X.w) X.A (pyIter (.ref s.heap.objs.size)) (PIE X pins σ tg R) E { s with heap := s.heap.push { cls := .type "range", data := .fields #[.int lo t, .int hi u, .int 1 v] }, toks := tk } := by
  refine wpAny_pyIter_range (IsRange.new ..) (small_one h1 h2 h3 h4) ?_
  have I1 : Inv X pins σ H { s with heap := s.heap.push { cls := .type "range", data := .fields #[.int lo t, .int hi u, .int 1 v] }, toks := tk } := I.kept fun b o e => Heap.get?_push_of_some _ e
  refine ⟨(s.heap.push { cls := .type "range", data := .fields #[.int lo t, .int hi u, .int 1 v] }).objs.size, [(s.heap.push { cls := .type "range", data := .fields #[.int lo t, .int hi u, .int 1 v] }).objs.size], _, _, H, rfl,
    I1.kept (t' := tk) fun b o e => Heap.get?_push_of_some _ e, turn_range _ lo (hi - lo).toNat, ?_, fun b hb => ?_, q⟩
  · have e1 : lo + ((0 : Nat) : Int) * 1 = lo := by simp
    have e2 : (((hi - lo).toNat : Nat) : Int) - ((0 : Nat) : Int) = Builtin.Range.rangeSize lo hi 1 := by rw [rangeSize_one]; split <;> omega
    show IsRangeIter _ _ (lo + ((0 : Nat) : Int) * 1) ((((hi - lo).toNat : Nat) : Int) - ((0 : Nat) : Int)) 1
    rw [e1, e2]
    exact Heap.get?_push_size _ rfl
  · have e : b = (s.heap.push { cls := .type "range", data := .fields #[.int lo t, .int hi u, .int 1 v] }).objs.size := by simpa using hb
    subst e
    exact I1.fpOk (Nat.le_refl _) (I1.hok.fresh (Nat.le_refl _))
def iRng1 (ta : TA) : TI := fun σ H R => ta σ H fun vs H1 => ∃ j : Int, vs = [.int j] ∧ -(2 ^ 62) ≤ j ∧ j < 2 ^ 62 ∧ R (Itr 0 j.toNat) H1
def iRng2 (ta : TA) : TI := fun σ H R => ta σ H fun vs H1 => ∃ i j : Int, vs = [.int i, .int j] ∧ (-(2 ^ 62) ≤ i ∧ i < 2 ^ 62 ∧ -(2 ^ 62) ≤ j ∧ j < 2 ^ 62) ∧ R (Itr i (j - i).toNat) H1
theorem pi_range1 {a : Expr} {ta : TA} {p pos : Pos} (hg : Gl X "range") (hm : X.mg "range" = none) (ha : PA X [a] ta) (hs : starEach [a] X.env = [(false, eval a X.env)] := by rfl) : PI X tg (.Call (.Name "range" p) [a] [] pos) (iRng1 ta) := by
  intro pins s σ H R I h
  refine Call_ (ld_blt I hg hm boot_range (PyProof.Rows.callWith_type1 (thn (ha pos pins s σ H _ I h) fun us s1 ⟨vs, H1, I1, r1, q1⟩ => ?_) hs rfl))
  obtain ⟨j, e, q1, q2, q⟩ := q1
  subst e
  cases r1 with
  | cons r rr =>
    cases rr
    obtain ⟨t, rfl⟩ := r
    exact call_range_1 (range_it I1 (by omega) (by omega) q1 q2 (by simpa using q))
theorem pi_range2 {a b : Expr} {ta : TA} {p pos : Pos} (hg : Gl X "range") (hm : X.mg "range" = none) (ha : PA X [a, b] ta) (hs : starEach [a, b] X.env = [(false, eval a X.env), (false, eval b X.env)] := by rfl) (hs2 : starEach [b] X.env = [(false, eval b X.env)] := by rfl) :
    PI X tg (.Call (.Name "range" p) [a, b] [] pos) (iRng2 ta) := by
  intro pins s σ H R I h
  refine Call_ (ld_blt I hg hm boot_range (PyProof.Rows.callWith_type1 (thn (ha pos pins s σ H _ I h) fun us s1 ⟨vs, H1, I1, r1, q1⟩ => ?_) (by rw [hs, hs2]) (by rw [hs2]; rfl)))
  obtain ⟨i, j, e, ⟨q1, q2, q3, q4⟩, q⟩ := q1
  subst e
  cases r1 with
  | cons r rr =>
    cases rr with
    | cons r' rr =>
      cases rr
      obtain ⟨t, rfl⟩ := r
      obtain ⟨t', rfl⟩ := r'
      exact call_range_2 (range_it I1 q1 q2 q3 q4 q)

/-! ### for -/
/-- W: the invariant by the turn and a measure; N: what the body is to reach -/
def tFor (wi : TI) (g : TG) (tb : TS) : TS := fun D σ H => wi σ H fun J H1 => ∃ W : Nat → Nat → St → Hp → Prop, (∃ m, W 0 m σ H1) ∧ ∀ i m σ H, W i m σ H →
  (J.stop i H ∧ D.nx σ H) ∨ (J.go i H ∧ ∃ N : St → Hp → Prop, (∀ σ' H', N σ' H' → ∃ m', m' < m ∧ W (i + 1) m' σ' H') ∧ ∀ x H', J.yld i H x H' → g x σ H' fun σ2 H2 => tb { D with nx := N, ct := N, bk := D.nx } σ2 H2)
/-- the records at fp as they stand -/
def pinsAt (fp : List Addr) (h : Heap) : List (Addr × Obj) := fp.filterMap fun b => (h.get? b).map fun o => (b, o)
theorem mem_pinsAt {fp : List Addr} {h : Heap} {b : Addr} {o : Obj} (hb : b ∈ fp) (e : h.get? b = some o) : (b, o) ∈ pinsAt fp h := List.mem_filterMap.mpr ⟨b, hb, by rw [e]; rfl⟩
theorem of_pinsAt {fp : List Addr} {h : Heap} {p : Addr × Obj} (hp : p ∈ pinsAt fp h) : p.1 ∈ fp ∧ h.get? p.1 = some p.2 := by
  obtain ⟨b, hb, e⟩ := List.mem_filterMap.mp hp
  cases q : h.get? b with
  | none => rw [q] at e; cases e
  | some o =>
    rw [q] at e
    have e' : (b, o) = p := Option.some.inj e
    subst e'
    exact ⟨hb, q⟩
theorem Inv.pinned {pins : List (Addr × Obj)} {σ : St} {H : Hp} {s : Shared} {fp : List Addr} (I : Inv X pins σ H s) (hf : ∀ b ∈ fp, FpOk X pins H b) (ho : ∀ b ∈ fp, ∃ o, s.heap.get? b = some o ∧ ∀ v, o.data ≠ .cell v) : Inv X (pins ++ pinsAt fp s.heap) σ H s :=
  I.pins_of fun p hp => (List.mem_append.mp hp).elim (fun z => I.pin p (List.mem_append_right _ z)) fun z => by
    obtain ⟨hb, e⟩ := of_pinsAt z
    obtain ⟨f0, f1, f2, _⟩ := hf p.1 hb
    obtain ⟨o, e', d⟩ := ho p.1 hb
    rw [e] at e'; cases e'
    exact ⟨e, f0, f1, f2, d⟩
theorem Inv.unpinned {pins pl : List (Addr × Obj)} {σ : St} {H : Hp} {s : Shared} (I : Inv X (pins ++ pl) σ H s) : Inv X pins σ H s := I.pins_of fun p hp => I.pin p (List.mem_append_right _ (List.mem_append_left _ hp))
theorem ps_for {iter : Expr} {body : List Stmt} {wi : TI} {g : TG} {tb : TS} {pos : Pos} (hp : PassesOwn (model X.prog X.w) X.A X.env X.xe) (hc : X.calm = true) (hi : PI X tg iter wi) (hg : PG X tg g) (hb : PSs X body tb)
    (hs : ∀ x, foldedSetIterable iter X.env x = pure x := by intro _; rfl) : PS X (.For tg iter body [] pos) (tFor wi g tb) := by
  intro pins s σ H D I h
  refine wpAny_For (thn (hi pins s σ H _ I h) fun v s1 h1 => thn h1 fun itv s2 h2 => ?_) hs
  obtain ⟨it, fp, tn, J, H2, e, I2, T, st2, f2, W, ⟨m0, w0⟩, turn⟩ := h2
  subst e
  -- what stays true of the iterator's objects through the loop
  have stat : ∀ {H' : Hp}, (∀ b ∈ fp, H' b = none) → ∀ b ∈ fp, FpOk X pins H' b := fun hn b hb => ⟨hn b hb, (f2 b hb).2⟩
  refine codeAny_forLoop_any (fun n s' => ∃ i σ' H', Inv X pins σ' H' s' ∧ tn i s'.heap ∧ (∀ b ∈ fp, H' b = none) ∧ W i n σ' H') ?_ m0 ⟨0, σ, H2, I2, st2, fun b hb => (f2 b hb).1, w0⟩
  rintro n s3 ⟨i, σ3, H3, I3, st3, fr3, w3⟩
  rcases turn i n σ3 H3 w3 with ⟨stop, qn⟩ | ⟨go, N, hN, step⟩
  · refine wpAny_passesOwn hp (thn (T.done X rfl rfl rfl hc i pins s3 σ3 H3 X.xe I3 (stat fr3) st3 stop) fun r s4 ⟨hr, I4⟩ => ?_)
    subst hr
    exact wpAny_execs_nil ⟨σ3, H3, I4, qn⟩
  · refine wpAny_passesOwn hp (thn (T.item X rfl rfl rfl hc i pins s3 σ3 H3 X.xe I3 (stat fr3) st3 go) fun r s4 ⟨u, hr, h4⟩ => ?_)
    subst hr
    refine wpAny_passesOwn hp (thn h4 fun _ s5 ⟨x, H5, I5, r5, y5, st5, fr5⟩ => ?_)
    have I5' := I5.pinned (stat fr5) (T.obj _ _ st5)
    refine wpAny_passesOwn hp (thn (hg _ s5 σ3 H5 x u _ I5' r5 (step x H5 y5)) fun _ s6 ⟨σ6, H6, I6, q6⟩ => ?_)
    refine wpAny_passesOwn hp (thn (hb _ s6 σ6 H6 _ I6 q6) fun f s7 q7 => ?_)
    have again : ∀ {σ7 : St} {H7 : Hp}, Inv X (pins ++ pinsAt fp s5.heap) σ7 H7 s7 → N σ7 H7 → ∃ m, m < n ∧ ∃ i σ' H', Inv X pins σ' H' s7 ∧ tn i s7.heap ∧ (∀ b ∈ fp, H' b = none) ∧ W i m σ' H' := fun {σ7 H7} I7 n7 => by
      obtain ⟨m', hm, w7⟩ := hN σ7 H7 n7
      refine ⟨m', hm, i + 1, σ7, H7, I7.unpinned, T.keep _ _ _ st5 fun b hb o e => (I7.pin (b, o) (List.mem_append_right _ (List.mem_append_right _ (mem_pinsAt hb e)))).1, fun b hb => ?_, w7⟩
      obtain ⟨o, e, d⟩ := T.obj _ _ st5 b hb
      exact (I7.pin (b, o) (List.mem_append_right _ (List.mem_append_right _ (mem_pinsAt hb e)))).2.1
    cases f with
    | next => obtain ⟨σ7, H7, I7, n7⟩ := q7; exact again I7 n7
    | cont => obtain ⟨σ7, H7, I7, n7⟩ := q7; exact again I7 n7
    | brk => obtain ⟨σ7, H7, I7, q7⟩ := q7; exact ⟨σ7, H7, I7.unpinned, q7⟩
    | ret v => obtain ⟨x7, σ7, H7, I7, r7, q7⟩ := q7; exact ⟨x7, σ7, H7, I7.unpinned, r7, q7⟩
end

/-! ### the forms one uses -/
/-- over a list that the body leaves as it is -/
theorem for_list {K : PySem.W.Frag} {a : Addr} {xs : List V} {g : TG} {tb : TS} {D : Ends} {σ : St} {H : Hp} (Pv : Nat → St → Hp → Prop) (h0 : Pv 0 σ H) (hl : ∀ i σ H, i ≤ xs.length → Pv i σ H → SqL K H a xs)
    (hs : ∀ i x σ H, xs[i]? = some x → Pv i σ H → g x σ H fun σ2 H2 => tb { D with nx := Pv (i + 1), ct := Pv (i + 1), bk := D.nx } σ2 H2) (hd : ∀ σ H, Pv xs.length σ H → D.nx σ H) :
    ∃ W : Nat → Nat → St → Hp → Prop, (∃ m, W 0 m σ H) ∧ ∀ i m σ H, W i m σ H →
      ((Itl K a).stop i H ∧ D.nx σ H) ∨ ((Itl K a).go i H ∧ ∃ N : St → Hp → Prop, (∀ σ' H', N σ' H' → ∃ m', m' < m ∧ W (i + 1) m' σ' H') ∧ ∀ x H', (Itl K a).yld i H x H' → g x σ H' fun σ2 H2 => tb { D with nx := N, ct := N, bk := D.nx } σ2 H2) := by
  refine ⟨fun i m σ H => m = xs.length - i ∧ i ≤ xs.length ∧ Pv i σ H, ⟨xs.length, by simp, Nat.zero_le _, h0⟩, ?_⟩
  rintro i m σ H ⟨rfl, hi, p⟩
  have q := hl i σ H hi p
  by_cases hlt : i < xs.length
  · refine .inr ⟨⟨xs, xs[i], q, by simp [hlt]⟩, Pv (i + 1), fun σ' H' p' => ⟨xs.length - (i + 1), by omega, rfl, hlt, p'⟩, fun x H' y => ?_⟩
    obtain ⟨e, y⟩ := y
    subst e
    exact hs i x σ _ (y xs q) p
  · have e : i = xs.length := by omega
    subst e
    exact .inl ⟨⟨xs, q, Nat.le_refl _⟩, hd σ H p⟩
theorem for_range {lo : Int} {n : Nat} {g : TG} {tb : TS} {D : Ends} {σ : St} {H : Hp} (Pv : Nat → St → Hp → Prop) (h0 : Pv 0 σ H)
    (hs : ∀ i σ H, i < n → Pv i σ H → g (.int (lo + i)) σ H fun σ2 H2 => tb { D with nx := Pv (i + 1), ct := Pv (i + 1), bk := D.nx } σ2 H2) (hd : ∀ σ H, Pv n σ H → D.nx σ H) :
    ∃ W : Nat → Nat → St → Hp → Prop, (∃ m, W 0 m σ H) ∧ ∀ i m σ H, W i m σ H →
      ((Itr lo n).stop i H ∧ D.nx σ H) ∨ ((Itr lo n).go i H ∧ ∃ N : St → Hp → Prop, (∀ σ' H', N σ' H' → ∃ m', m' < m ∧ W (i + 1) m' σ' H') ∧ ∀ x H', (Itr lo n).yld i H x H' → g x σ H' fun σ2 H2 => tb { D with nx := N, ct := N, bk := D.nx } σ2 H2) := by
  refine ⟨fun i m σ H => m = n - i ∧ i ≤ n ∧ Pv i σ H, ⟨n, by simp, Nat.zero_le _, h0⟩, ?_⟩
  rintro i m σ H ⟨rfl, hi, p⟩
  by_cases hlt : i < n
  · refine .inr ⟨hlt, Pv (i + 1), fun σ' H' p' => ⟨n - (i + 1), by omega, rfl, hlt, p'⟩, fun x H' y => ?_⟩
    obtain ⟨e, y⟩ := y
    subst e y
    exact hs i σ _ hlt p
  · have e : i = n := by omega
    subst e
    exact .inl ⟨Nat.le_refl _, hd σ H p⟩
end L2

namespace L2
open PySem PySem.Spec PyProof.Rows

abbrev R2 := V → V → Hp → VK → Prop
/-- a two-place operation on values: f is binaryOp op, inplaceOp op or compareOp op -/
def OpR (X : Cx) (f : Value → Value → Sem Value) (r : R2) : Prop :=
  ∀ (pins : List (Addr × Obj)) (s : Shared) (σ : St) (H : Hp) (x y : V) (v u : Value) (Q : VK), Inv X pins σ H s → RelV x v → RelV y u → r x y H Q →
    wpAny (model X.prog X.w) X.A (f v u) (EP X pins σ Q) X.xe s
/-- a one-place operation -/
def UnR (X : Cx) (f : Value → Sem Value) (r : V → Hp → VK → Prop) : Prop :=
  ∀ (pins : List (Addr × Obj)) (s : Shared) (σ : St) (H : Hp) (x : V) (v : Value) (Q : VK), Inv X pins σ H s → RelV x v → r x H Q →
    wpAny (model X.prog X.w) X.A (f v) (EP X pins σ Q) X.xe s
/-- a call of a value that is known (a builtin, a type) with values -/
def CallR (X : Cx) (f : Value) (r : List V → Hp → VK → Prop) : Prop :=
  ∀ (pins : List (Addr × Obj)) (s : Shared) (σ : St) (H : Hp) (xs : List V) (us : List Value) (Q : VK), Inv X pins σ H s → Vals xs us → r xs H Q →
    wpAny (model X.prog X.w) X.A (call f us) (EP X pins σ Q) X.xe s
def tOp (r : R2) (ta tb : TE) : TE := fun σ H Q => ta σ H fun x H1 => tb σ H1 fun y H2 => r x y H2 Q
def tUn (r : V → Hp → VK → Prop) (ta : TE) : TE := fun σ H Q => ta σ H fun x H1 => r x H1 Q
/-- ints in, under C, and a value out -/
def rI (C : Int → Int → Prop) (g : Int → Int → V) : R2 := fun x y H Q => ∃ i j, x = .int i ∧ y = .int j ∧ C i j ∧ Q (g i j) H
def rI0 (g : Int → Int → V) : R2 := fun x y H Q => ∃ i j, x = .int i ∧ y = .int j ∧ Q (g i j) H
def rU (g : Int → V) : V → Hp → VK → Prop := fun x H Q => ∃ i, x = .int i ∧ Q (g i) H

section
variable {X : Cx} {a b c : Expr} {ta tb tc : TE} {pos : Pos}

theorem binT (ha : PE X a ta) (hb : PE X b tb) {pins : List (Addr × Obj)} {s : Shared} {σ : St} {H : Hp} {R : V → V → Hp → Prop} (I : Inv X pins σ H s)
    (h : ta σ H fun x H1 => tb σ H1 fun y H2 => R x y H2) {Q : Value → Shared → Prop} {f : Value → Value → Sem Value}
    (hf : ∀ v u s2 x y H2, Inv X pins σ H2 s2 → RelV x v → RelV y u → R x y H2 → wpAny (model X.prog X.w) X.A (f v u) Q X.xe s2) :
    wpAny (model X.prog X.w) X.A (eval a X.env) (fun v s₁ => wpAny (model X.prog X.w) X.A (eval b X.env) (fun u s₂ => wpAny (model X.prog X.w) X.A (f v u) Q X.xe s₂) X.xe s₁) X.xe s := by
  refine thn (ha pins s σ H _ I h) fun v s1 ⟨x, H1, I1, r1, q1⟩ => ?_
  refine thn (hb pins s1 σ H1 _ I1 q1) fun u s2 ⟨y, H2, I2, r2, q2⟩ => ?_
  exact hf v u s2 x y H2 I2 r1 r2 q2

theorem pe_op {op : Operator} {r : R2} (ho : OpR X (binaryOp op) r) (ha : PE X a ta) (hb : PE X b tb) : PE X (.BinOp a op b pos) (tOp r ta tb) := by
  intro pins s σ H Q I h
  exact wpAny_BinOp (binT ha hb I h fun v u s2 x y H2 I2 rx ry q => ho pins s2 σ H2 x y v u Q I2 rx ry q)
theorem pe_un {op : UnaryOp} {r : V → Hp → VK → Prop} (ho : UnR X (unaryOp op) r) (ha : PE X a ta) : PE X (.UnaryOp op a pos) (tUn r ta) := by
  intro pins s σ H Q I h
  exact UnaryOp_ (thn (ha pins s σ H _ I h) fun v s1 ⟨x, H1, I1, r1, q1⟩ => ho pins s1 σ H1 x v Q I1 r1 q1)
/-! ### ints -/
theorem opI {f : Value → Value → Sem Value} {C : Int → Int → Prop} {g : Int → Int → Int}
    (rule : ∀ (i j : Int) (t u : Tok) (s : Shared) (Q : Value → Shared → Prop) (E : Value → Shared → Prop), C i j → Q (.int (g i j) s.toks) { s with toks := s.toks + 1 } → wpAny (model X.prog X.w) X.A (f (.int i t) (.int j u)) Q E s) :
    OpR X f (rI C fun i j => .int (g i j)) := by
  intro pins s σ H x y v u Q I rx ry h
  obtain ⟨i, j, rfl, rfl, hc, q⟩ := h
  obtain ⟨t, rfl⟩ := rx
  obtain ⟨t', rfl⟩ := ry
  exact rule i j t t' s _ _ hc ⟨.int (g i j), H, I.tok _, ⟨_, rfl⟩, q⟩
theorem opI0 {f : Value → Value → Sem Value} {g : Int → Int → Int}
    (rule : ∀ (i j : Int) (t u : Tok) (s : Shared) (Q : Value → Shared → Prop) (E : Value → Shared → Prop), Q (.int (g i j) s.toks) { s with toks := s.toks + 1 } → wpAny (model X.prog X.w) X.A (f (.int i t) (.int j u)) Q E s) :
    OpR X f (rI0 fun i j => .int (g i j)) := by
  intro pins s σ H x y v u Q I rx ry h
  obtain ⟨i, j, rfl, rfl, q⟩ := h
  obtain ⟨t, rfl⟩ := rx
  obtain ⟨t', rfl⟩ := ry
  exact rule i j t t' s _ _ ⟨.int (g i j), H, I.tok _, ⟨_, rfl⟩, q⟩
theorem opB0 {f : Value → Value → Sem Value} {g : Int → Int → Bool}
    (rule : ∀ (i j : Int) (t u : Tok) (s : Shared) (Q : Value → Shared → Prop) (E : Value → Shared → Prop), Q (.bool (g i j)) s → wpAny (model X.prog X.w) X.A (f (.int i t) (.int j u)) Q E s) :
    OpR X f (rI0 fun i j => .bl (g i j)) := by
  intro pins s σ H x y v u Q I rx ry h
  obtain ⟨i, j, rfl, rfl, q⟩ := h
  obtain ⟨t, rfl⟩ := rx
  obtain ⟨t', rfl⟩ := ry
  exact rule i j t t' s _ _ ⟨.bl (g i j), H, I, rfl, q⟩

def CPow (i j : Int) : Prop := 0 ≤ j ∧ j ≤ 1000000 ∧ i.natAbs < 2 ^ 64
def CMul (i j : Int) : Prop := (-(2 ^ 64) < i ∧ i < 2 ^ 64) ∨ (-(2 ^ 64) < j ∧ j < 2 ^ 64)
theorem CMul.ok {i j : Int} (h : CMul i j) : IntMulOk i j := by
  rcases h with ⟨h1, h2⟩ | ⟨h1, h2⟩
  · exact .of_left (intBits_le_64 h1 h2)
  · exact .of_right (intBits_le_64 h1 h2)
theorem op_add : OpR X (binaryOp .Add) (rI0 fun i j => .int (i + j)) := opI0 fun _ _ _ _ _ _ _ q => add_int q
theorem op_sub : OpR X (binaryOp .Sub) (rI0 fun i j => .int (i - j)) := opI0 fun _ _ _ _ _ _ _ q => sub_int q
theorem op_mul : OpR X (binaryOp .Mult) (rI CMul fun i j => .int (i * j)) := opI fun _ _ _ _ _ _ _ hc q => mul_int q hc.ok
/-- % by a positive divisor of any size -/
theorem op_mod : OpR X (binaryOp .Mod) (rI (fun _ j => 0 < j) fun i j => .int (i % j)) := opI fun i j _ _ _ _ _ hc q => by
  have h1 : (0 : Int) < j := hc
  exact mod_int' (by omega) (by rw [Int.fmod_eq_emod_of_nonneg i (by omega)]; exact q)
theorem op_pow : OpR X (binaryOp .Pow) (rI CPow fun i j => .int (i ^ j.toNat)) := opI fun _ _ _ _ _ _ _ hc q => pow_int_small hc.1 hc.2.1 hc.2.2 q
theorem unI {f : Value → Sem Value} {g : Int → Int}
    (rule : ∀ (i : Int) (t : Tok) (s : Shared) (Q : Value → Shared → Prop) (E : Value → Shared → Prop), Q (.int (g i) s.toks) { s with toks := s.toks + 1 } → wpAny (model X.prog X.w) X.A (f (.int i t)) Q E s) :
    UnR X f (rU fun i => .int (g i)) := by
  intro pins s σ H x v Q I rx h
  obtain ⟨i, rfl, q⟩ := h
  obtain ⟨t, rfl⟩ := rx
  exact rule i t s _ _ ⟨.int (g i), H, I.tok _, ⟨_, rfl⟩, q⟩
theorem un_neg : UnR X (unaryOp .USub) (rU fun i => .int (-i)) := unI fun _ _ _ _ _ q => neg_int q
/-! ### bools among ints: n += (a < b) -/
end

/-! ### comparisons -/
section
variable {X : Cx} {a b c : Expr} {ta tb tc : TE} {pos : Pos}
theorem op_lt : OpR X (compareOp .Lt) (rI0 fun i j => .bl (decide (i < j))) := opB0 fun _ _ _ _ _ _ _ q => lt_int q
theorem op_le : OpR X (compareOp .LtE) (rI0 fun i j => .bl (decide (i ≤ j))) := opB0 fun _ _ _ _ _ _ _ q => le_int q
theorem op_gt : OpR X (compareOp .Gt) (rI0 fun i j => .bl (decide (j < i))) := opB0 fun _ _ _ _ _ _ _ q => gt_int q
theorem op_ge : OpR X (compareOp .GtE) (rI0 fun i j => .bl (decide (j ≤ i))) := opB0 fun _ _ _ _ _ _ _ q => ge_int q
/-- two rules for one operation: by cases -/
theorem OpR.or {f : Value → Value → Sem Value} {r r' : R2} (h : OpR X f r) (h' : OpR X f r') : OpR X f (fun x y H Q => r x y H Q ∨ r' x y H Q) := by
  intro pins s σ H x y v u Q I rx ry q
  rcases q with q | q
  · exact h pins s σ H x y v u Q I rx ry q
  · exact h' pins s σ H x y v u Q I rx ry q

theorem nomark (b : Expr) {op : CmpOp} (h : op ≠ .In := by decide) (h2 : op ≠ .NotIn := by decide) : behindInMarks op b = false := by
  have e1 : (op == CmpOp.In) = false := by cases op <;> first | rfl | exact absurd rfl h
  have e2 : (op == CmpOp.NotIn) = false := by cases op <;> first | rfl | exact absurd rfl h2
  cases b <;> simp [behindInMarks, e1, e2]
/-- a comparison as a value; hm: nomark b, or (for in, not in) by with_unfolding_all rfl -/
theorem pe_cmpR {op : CmpOp} {r : R2} (ho : OpR X (compareOp op) r) (ha : PE X a ta) (hb : PE X b tb) (hm : behindInMarks op b = false) : PE X (.Compare a [op] [b] pos) (tOp r ta tb) := by
  intro pins s σ H Q I h
  exact wpAny_Compare1 (binT ha hb I h fun v u s2 x y H2 I2 rx ry q => ho pins s2 σ H2 x y v u Q I2 rx ry q) hm
/-- a reading of a value as a test -/
def tTest (t : TE) : TT := fun σ H Q => t σ H fun x H' => ∃ k, x = .bl k ∧ Q k H'
theorem pt_cmpR {op : CmpOp} {r : R2} (ho : OpR X (compareOp op) r) (ha : PE X a ta) (hb : PE X b tb) (hm : behindInMarks op b = false) : PT X (.Compare a [op] [b] pos) (tTest (tOp r ta tb)) := by
  intro pins s σ H Q I h
  refine wpAny_isTrue_Compare1 (thn (ha pins s σ H _ I h) fun v s1 ⟨x, H1, I1, r1, q1⟩ => thn (hb pins s1 σ H1 _ I1 q1) fun u s2 ⟨y, H2, I2, r2, q2⟩ =>
    thn (ho pins s2 σ H2 x y v u _ I2 r1 r2 q2) fun c s3 ⟨z, H3, I3, r3, k, e, q3⟩ => ?_) hm
  subst e
  cases r3
  exact wpAny_truthy_bool ⟨H3, I3, q3⟩
/-! ### truth -/
theorem line63 : (sizeLine : Nat) < 2 ^ 63 := by rw [sizeLine_eq]; decide
/-! ### strs and bytes -/
/-! ### scalar builtins, by CallR -/
theorem vals1 {x : V} {us : List Value} (r : Vals [x] us) : ∃ u, us = [u] ∧ RelV x u := by
  cases r with
  | cons r1 r2 => cases r2; exact ⟨_, rfl, r1⟩
theorem vals2 {x y : V} {us : List Value} (r : Vals [x, y] us) : ∃ u w', us = [u, w'] ∧ RelV x u ∧ RelV y w' := by
  cases r with
  | cons r1 r2 =>
    cases r2 with
    | cons r3 r4 => cases r4; exact ⟨_, _, rfl, r1, r3⟩
theorem call_abs : CallR X (.builtin "abs") (fun xs H Q => ∃ i, xs = [.int i] ∧ Q (.int (if i < 0 then -i else i)) H) := by
  intro pins s σ H xs us Q I r h
  obtain ⟨i, rfl, q⟩ := h
  obtain ⟨u, rfl, t, rfl⟩ := vals1 r
  exact call_abs_int fun u tk => ⟨.int (if i < 0 then -i else i), H, I.tok _, ⟨_, rfl⟩, q⟩
theorem call_max2 (hc : X.calm = true) : CallR X (.builtin "max") (fun xs H Q => ∃ i j, xs = [.int i, .int j] ∧ Q (.int (if j > i then j else i)) H) := by
  intro pins s σ H xs us Q I r h
  obtain ⟨i, j, rfl, q⟩ := h
  obtain ⟨u, w', rfl, ⟨t, rfl⟩, ⟨t', rfl⟩⟩ := vals2 r
  refine max_two_ints (I.ok.hd hc) fun h' tk k => ⟨_, H, I.kept k, ?_, q⟩
  by_cases hj : j > i
  · rw [if_pos hj, if_pos hj]; exact ⟨_, rfl⟩
  · rw [if_neg hj, if_neg hj]; exact ⟨_, rfl⟩
theorem call_int1 : CallR X (.type "int") (fun xs H Q => (∃ i, xs = [.int i] ∧ Q (.int i) H) ∨ ∃ k, xs = [.bl k] ∧ Q (.int (if k then 1 else 0)) H) := by
  intro pins s σ H xs us Q I r h
  rcases h with ⟨i, rfl, q⟩ | ⟨k, rfl, q⟩
  · obtain ⟨u, rfl, t, rfl⟩ := vals1 r
    exact call_int_int ⟨.int i, H, I, ⟨_, rfl⟩, q⟩
  · obtain ⟨u, rfl, r1⟩ := vals1 r
    cases r1
    exact call_int_bool ⟨.int (if k then 1 else 0), H, I.tok _, ⟨_, rfl⟩, q⟩
end
end L2

namespace L2
open PySem PySem.Spec PyProof.Rows

/-! ### an instance, its attributes a map -/
structure ObjM (h : Heap) (x dx C : Addr) (mA : Str → Option Value) : Prop where
  obj : h.get? x = some (PySem.W.instObj C dx)
  ns : h.Ns1 dx mA
  ne : dx ≠ x

theorem lookIn_ns {h : Heap} {dx : Addr} {mA : Str → Option Value} (n : h.Ns1 dx mA) : ∃ od, h.get? dx = some od ∧ ∀ name, PySem.W.lookIn name od = some (mA name) := by
  obtain ⟨o, es, ep, ho, hd, hk, _, hm⟩ := n
  refine ⟨o, ho, fun name => ?_⟩
  have e := hm name
  unfold nsFind findBy at e
  rw [← Array.find?_toList] at e
  unfold PySem.W.lookIn
  rw [hd]
  dsimp only
  split
  · rename_i y q
    rw [q] at e
    exact congrArg some e
  · rename_i q
    rw [q] at e
    have a : es.toList.any (·.refKey) = false := by
      rw [List.any_eq_false]
      intro y hy
      obtain ⟨z, t, hkey⟩ := hk y (Array.mem_toList_iff.mp hy)
      simp [DictEntry.refKey, hkey]
    have a' : ¬ es.toList.any (·.refKey) = true := by rw [a]; exact Bool.false_ne_true
    rw [if_neg a']
    exact congrArg some e

theorem ObjM.look {h : Heap} {x dx C : Addr} {mA : Str → Option Value} (I : ObjM h x dx C mA) : ∃ od, PySem.W.InstAt h x (PySem.W.instObj C dx) C (some od) ∧ ∀ name, PySem.W.lookIn name od = some (mA name) :=
  let ⟨od, ho, hl⟩ := lookIn_ns I.ns
  ⟨od, ⟨I.obj, rfl, rfl, ho⟩, hl⟩

section
variable {prog : Program} {w : World} {A : Around} {E : Value → Shared → Prop} {s : Shared} {K : PySem.W.Frag} {x dx C f : Addr} {mA : Str → Option Value} {name : Str} {v : Value}

theorem get_map {expr : Bool} {Q : Value → Shared → Prop} (X : K.In s.heap) (I : ObjM s.heap x dx C mA) (hg : PySem.W.plainGet K C name = true) (hh : PySem.W.hasDictIn K C = true)
    (ha : PySem.W.findIn K (.ref C) name = some none) (hv : mA name = some v) (hv' : PySem.W.handedIn v = true) (h : Q v { s with toks := s.toks + 1 }) :
    wpAny (model prog w) A (getAttr (.ref x) name expr) Q E s := by
  obtain ⟨od, J, hl⟩ := I.look
  exact PySem.W.get_value X J (PySem.W.plainGet_of hg).1 (PySem.W.findObj_own hh ha rfl (by rw [hl, hv])) hv' h

theorem set_map {ns : List Str} {Q : Unit → Shared → Prop} (X : K.In s.heap) (I : ObjM s.heap x dx C mA)
    (hs : PySem.W.findIn K (.ref C) "__setattr__" = some (some (.builtin "object.__setattr__"))) (hp : PySem.W.plainOver K C = true) (ht : PySem.W.takerIn K C name = some none) (hh : PySem.W.hasDictIn K C = true)
    (hw : PySem.Within mA ns) (hsz : ns.length ≤ sizeLine)
    (h : ∀ h', ObjM h' x dx C (fun y => if y = name then some v else mA y) → Heap.SameBut dx s.heap h' → Q () { s with heap := h', toks := s.toks + 2 }) :
    wpAny (model prog w) A (setAttr (.ref x) name v) Q E s := by
  obtain ⟨od, J, hl⟩ := I.look
  refine PySem.W.set_plain X J hs (PySem.W.osa_open (s := { s with toks := s.toks + 1 }) (r := none) X J hp ht fun b => ?_)
  obtain ⟨cd, hc, hd'⟩ := PySem.W.any_some hh
  have hx : s.heap.get? x = some ⟨.ref C, some dx, .plain, #[]⟩ := I.obj
  refine wpAny_bind (wpAny_pure (wpAny_bind (wpAny_bind (wpAny_loadPart hx (wpAny_bind (PySem.W.Looks.here (s := { s with toks := s.toks + 1 }) (PySem.W.looks_clsIn X hc) ?_))))))
  rw [hd']
  refine wpAny_pure (a := some dx) (wpAny_bind (wpAny_pure (wpAny_bind ?_)))
  refine wpAny_nsSet1 (s := { s with toks := s.toks + 1 }) I.ns fun h' hn2 hs2 => ?_
  obtain ⟨oD, esD, epD, hoD, hdD, hcD⟩ := hn2.count (PySem.Within.cons name v hw)
  refine wpAny_bind (wpAny_lookBehind hoD (by rw [hdD]; exact pastItsLine_dict (Nat.le_trans hcD (by rw [List.length_cons]; omega))) ?_)
  exact wpAny_pure (h _ ⟨(hs2.2 _ (Ne.symm I.ne)).trans I.obj, hn2, I.ne⟩ hs2)

/-- C(..): the dict at the heap's end, the instance behind it; then its __init__ -/
theorem make_map {R : Result → Shared → Prop} {vs : List Value} {kw : List (Str × Value)} (X : K.In s.heap) (hm : PySem.W.makesIn K C = true)
    (hi : PySem.W.findIn K (.ref C) "__init__" = some (some (.ref f))) (hf : PySem.W.typeIn K (.ref f) = some (.type "function"))
    (h : codeAny (model prog w) (A.under (.builtin "type.__call__" ⟨.ref C :: vs, kw⟩)) (.call (.ref f) ⟨.ref (s.heap.objs.size + 1) :: vs, kw⟩) (PySem.W.InitBack (s.heap.objs.size + 1) R)
      { s with heap := (s.heap.push PySem.W.emptyDict).push (PySem.W.instObj C s.heap.objs.size) }) :
    codeAny (model prog w) A (.call (.ref C) ⟨vs, kw⟩) R s := by
  obtain ⟨hh, g, d, t, os⟩ := s
  exact PySem.W.make_core (PySem.W.makes_of X hm) (PySem.W.looks_findIn X hi) (fun self => PySem.W.bind_fn X self hf) (.inl rfl) h
end

/-! ### the attributes as a list of pairs -/
def putF (f : Str) (v : V) : List (Str × V) → List (Str × V)
  | [] => [(f, v)]
  | (g, x) :: r => if g = f then (g, v) :: r else (g, x) :: putF f v r
theorem lookup_putF (f g : Str) (v : V) : ∀ fs : List (Str × V), (putF f v fs).lookup g = if g = f then some v else fs.lookup g
  | [] => by
    show List.lookup g [(f, v)] = _
    by_cases h : g = f
    · have hb : (g == f) = true := beq_iff_eq.mpr h
      simp only [List.lookup, hb, if_pos h]
    · have hb : (g == f) = false := beq_eq_false_iff_ne.mpr h
      simp only [List.lookup, hb, if_neg h]
  | (k, x) :: r => by
    have ih := lookup_putF f g v r
    rw [show putF f v ((k, x) :: r) = (if k = f then (k, v) :: r else (k, x) :: putF f v r) from rfl]
    by_cases hk : k = f
    · rw [if_pos hk]
      by_cases h : g = k
      · have hb : (g == k) = true := beq_iff_eq.mpr h
        simp only [List.lookup, hb, if_pos (h.trans hk)]
      · have hb : (g == k) = false := beq_eq_false_iff_ne.mpr h
        simp only [List.lookup, hb, if_neg (fun e : g = f => h (e.trans hk.symm))]
    · rw [if_neg hk]
      by_cases h : g = k
      · have hb : (g == k) = true := beq_iff_eq.mpr h
        simp only [List.lookup, hb, if_neg (fun e : g = f => hk (h.symm.trans e))]
      · have hb : (g == k) = false := beq_eq_false_iff_ne.mpr h
        simp only [List.lookup, hb]
        exact ih
theorem keys_putF (f : Str) (v : V) : ∀ fs : List (Str × V), f ∈ (putF f v fs).map (·.1) ∧ ∀ g, g ∈ fs.map (·.1) → g ∈ (putF f v fs).map (·.1)
  | [] => ⟨by simp [putF], fun g h => by simp at h⟩
  | (k, x) :: r => by
    obtain ⟨i1, i2⟩ := keys_putF f v r
    rw [show putF f v ((k, x) :: r) = (if k = f then (k, v) :: r else (k, x) :: putF f v r) from rfl]
    by_cases hk : k = f
    · rw [if_pos hk]
      subst hk
      exact ⟨by simp, fun g h => by simpa using h⟩
    · rw [if_neg hk]
      refine ⟨?_, fun g h => ?_⟩
      · rw [List.map_cons]
        exact List.mem_cons_of_mem _ i1
      · rw [List.map_cons] at h ⊢
        rcases List.mem_cons.mp h with e | e
        · exact List.mem_cons.mpr (.inl e)
        · exact List.mem_cons_of_mem _ (i2 g e)
theorem length_putF (f : Str) (v : V) : ∀ fs : List (Str × V), (putF f v fs).length ≤ fs.length + 1
  | [] => by simp [putF]
  | (k, x) :: r => by
    have ih := length_putF f v r
    rw [show putF f v ((k, x) :: r) = (if k = f then (k, v) :: r else (k, x) :: putF f v r) from rfl]
    by_cases hk : k = f
    · rw [if_pos hk, List.length_cons, List.length_cons]; omega
    · rw [if_neg hk, List.length_cons, List.length_cons]; omega

theorem RelO.some_of {v : V} {o : Option Value} (r : RelO (some v) o) : ∃ u, o = some u ∧ RelV v u := by
  cases o with
  | none => exact (show False from r).elim
  | some u => exact ⟨u, rfl, r⟩
theorem handed_of {v : V} {u : Value} (r : RelV v u) : PySem.W.handedIn u = true := by
  cases v with
  | non => cases (show u = Value.none from r); rfl
  | bl b => cases (show u = Value.bool b from r); rfl
  | int i => obtain ⟨t, e⟩ := (show ∃ t, u = Value.int i t from r); cases e; rfl
  | str x => obtain ⟨t, e⟩ := (show ∃ t, u = Value.str x t from r); cases e; rfl
  | byt b => obtain ⟨t, e⟩ := (show ∃ t, u = Value.bytes b t from r); cases e; rfl
  | flt b => obtain ⟨t, e⟩ := (show ∃ t, u = Value.float b t from r); cases e; rfl
  | ref a => cases (show u = Value.ref a from r); rfl
  | ty n => cases (show u = Value.type n from r); rfl

section
variable {P : Program} {w : World} {H H' : Hp} {h h' : Heap} {a C dx : Addr} {fs fs' : List (Str × V)}
theorem ins_get (hok : HOk P w H h) (e : H a = some (.ins C dx fs)) : ∃ mA, ObjM h a dx C mA ∧ (∀ f, RelO (fs.lookup f) (mA f)) ∧ PySem.Within mA (fs.map (·.1)) ∧ fs.length ≤ 1000 ∧ H dx = some (.own a) := by
  obtain ⟨d, z, ne, ob, mA, n, r, q⟩ := (show ObjOk P w H h a (.ins C dx fs) from hok a _ e)
  exact ⟨mA, ⟨ob, n, ne⟩, r, q, z, d⟩
end

/-! ### what of the text a class must have -/
structure Cls (K : PySem.W.Frag) (C : Addr) : Prop where
  pg : PySem.W.plainGet K C Str.empty = true
  hd : PySem.W.hasDictIn K C = true
  po : PySem.W.plainOver K C = true
  sa : PySem.W.findIn K (.ref C) "__setattr__" = some (some (.builtin "object.__setattr__"))
theorem Cls.get {K : PySem.W.Frag} {C : Addr} (c : Cls K C) (f : Str) : PySem.W.plainGet K C f = true := c.pg
/-- no class of it has the name -/
def NoAttr (K : PySem.W.Frag) (C : Addr) (f : Str) : Prop := PySem.W.findIn K (.ref C) f = some none
theorem NoAttr.taker {K : PySem.W.Frag} {C : Addr} {f : Str} (n : NoAttr K C f) : PySem.W.takerIn K C f = some none := by
  unfold PySem.W.takerIn
  rw [show PySem.W.findIn K (.ref C) f = some none from n]
  rfl
section
variable {X : Cx} {pins : List (Addr × Obj)} {σ : St} {H : Hp} {s : Shared} {a C dx : Addr} {fs : List (Str × V)} {f : Str} {v : V} {A : Around} {E : Value → Shared → Prop}

theorem getattr_ok {b : Bool} {Q : Value → Shared → Prop} (I : Inv X pins σ H s) (e : H a = some (.ins C dx fs)) (c : Cls X.K C) (n : NoAttr X.K C f) (l : fs.lookup f = some v)
    (h : ∀ u s', Inv X pins σ H s' → RelV v u → Q u s') : wpAny (model X.prog X.w) A (getAttr (.ref a) f b) Q E s := by
  obtain ⟨mA, O, r, _, _, _⟩ := ins_get I.hok e
  obtain ⟨u, hu, ru⟩ := RelO.some_of (v := v) (o := mA f) (by rw [← l]; exact r f)
  exact get_map I.kIn O (c.get f) c.hd n hu (handed_of ru) (h u _ (I.tok _) ru)

theorem setattr_ok {y : V} {u : Value} {Q : Unit → Shared → Prop} (I : Inv X pins σ H s) (e : H a = some (.ins C dx fs)) (c : Cls X.K C) (n : NoAttr X.K C f) (hl : fs.length < 1000) (ry : RelV y u)
    (h : ∀ s', Inv X pins σ (upd H a (.ins C dx (putF f y fs))) s' → Q () s') : wpAny (model X.prog X.w) A (setAttr (.ref a) f u) Q E s := by
  obtain ⟨mA, O, r, wi, _, ho⟩ := ins_get I.hok e
  have hz : (fs.map (·.1)).length ≤ sizeLine := by rw [List.length_map, sizeLine_eq]; omega
  refine set_map I.kIn O c.sa c.po n.taker c.hd wi hz fun h' O' sb => h _ ?_
  have hd : ∃ o, h'.get? dx = some o := let ⟨o, _, _, e', _⟩ := O'.ns; ⟨o, e'⟩
  refine I.write (x := a) (e := dx) (by rw [e]; exact True.intro) (.inr ho) (fun b q hb z => (sb.2 b hb).trans z) hd ?_
  refine ⟨by rw [upd_ne O.ne]; exact ho, ?_, O.ne, O'.obj, _, O'.ns, fun g => ?_, fun g hg => ?_⟩
  · have := length_putF f y fs; omega
  · show RelO ((putF f y fs).lookup g) (if g = f then some u else mA g)
    rw [lookup_putF]
    by_cases q : g = f
    · rw [if_pos q, if_pos q]; exact ry
    · rw [if_neg q, if_neg q]; exact r g
  · by_cases q : g = f
    · rw [q]; exact (keys_putF f y fs).1
    · refine (keys_putF f y fs).2 g (wi g fun z => hg ?_)
      show (if g = f then some u else mA g) = none
      rw [if_neg q]; exact z

/-- a new instance, tracked, without attributes -/
theorem Inv.made (I : Inv X pins σ H s) : Inv X pins σ (upd (upd H s.heap.objs.size (.own (s.heap.objs.size + 1))) (s.heap.objs.size + 1) (.ins C s.heap.objs.size []))
    { s with heap := (s.heap.push PySem.W.emptyDict).push (PySem.W.instObj C s.heap.objs.size) } := by
  have e1 : (s.heap.push PySem.W.emptyDict).get? s.heap.objs.size = some PySem.W.emptyDict := Heap.get?_push_size s.heap rfl
  have e2 : ((s.heap.push PySem.W.emptyDict).push (PySem.W.instObj C s.heap.objs.size)).get? (s.heap.objs.size + 1) = some (PySem.W.instObj C s.heap.objs.size) := by
    have := Heap.get?_push_size (s.heap.push PySem.W.emptyDict) (o := PySem.W.instObj C s.heap.objs.size) rfl
    rwa [Heap.size_push] at this
  have e3 : (s.heap.push PySem.W.emptyDict).Ns s.heap.objs.size (fun _ => none) := ⟨PySem.W.emptyDict, #[], _, e1, rfl, (fun e he => absurd he (by simp)), fun _ => rfl⟩
  have I1 := I.laid (a := s.heap.objs.size) (o := .own (s.heap.objs.size + 1)) (h' := s.heap.push PySem.W.emptyDict) (t' := s.toks) (fun b u q => Heap.get?_push_of_some _ q) (Nat.le_refl _) ⟨_, e1⟩
  refine I1.laid (a := s.heap.objs.size + 1) (o := .ins C s.heap.objs.size []) (t' := s.toks) (fun b u q => Heap.get?_push_of_some _ q) (Nat.le_of_eq (Heap.size_push _ _)) ?_
  have ne : s.heap.objs.size ≠ s.heap.objs.size + 1 := Nat.ne_of_lt (Nat.lt_succ_self _)
  refine ⟨by rw [upd_ne ne, upd_same], Nat.zero_le _, ne, e2, fun _ => none, (Heap.Ns1.of_empty e3).at fun o q => Heap.get?_push_of_some _ q, fun _ => True.intro, fun y hy => absurd rfl hy⟩

/-- e.f where nothing but the object is asked: through attributeBase (super) and the last hold -/
theorem attr_of {prog : Program} {w : World} {env : Env} {e : Expr} {f : Str} {pos : Pos} {s : Shared} {Q : Value → Shared → Prop} (hb : attributeBase e f env (eval e env) = eval e env)
    (h : wpAny (model prog w) A (eval e env) (fun o s₁ => wpAny (model prog w) A (getAttr o f true) Q E s₁) E s) : wpAny (model prog w) A (eval (.Attribute e f pos) env) Q E s :=
  Attribute_any_ h (by rw [arm_eval_Attribute, hb])
end

/-! ### readings and rules -/
/-- e.f, an attribute of the instance -/
def tFld (K : PySem.W.Frag) (ta : TE) (f : Str) : TE := fun σ H Q => ta σ H fun x H1 => ∃ a C dx fs v, x = .ref a ∧ H1 a = some (.ins C dx fs) ∧ Cls K C ∧ NoAttr K C f ∧ fs.lookup f = some v ∧ Q v H1
/-- e.f = value -/
def sFld (K : PySem.W.Frag) (ta tv : TE) (f : Str) : TS := fun D σ H => tv σ H fun y H1 => ta σ H1 fun x H2 => ∃ a C dx fs, x = .ref a ∧ H2 a = some (.ins C dx fs) ∧ Cls K C ∧ NoAttr K C f ∧ fs.length < 1000 ∧
  D.nx σ (upd H2 a (.ins C dx (putF f y fs)))
section
variable {X : Cx} {o e value : Expr} {f : Str} {pos pos' tpos : Pos} {ta tv : TE}
theorem pe_fld (he : PE X e ta) (hb : attributeBase e f X.env (eval e X.env) = eval e X.env) : PE X (.Attribute e f pos) (tFld X.K ta f) := by
  intro pins s σ H Q I h
  refine attr_of hb (thn (he pins s σ H _ I h) fun u s1 ⟨x, H1, I1, rx, a, C, dx, fs, v, ex, ea, c, n, l, q⟩ => ?_)
  subst ex
  obtain rfl : u = Value.ref a := rx
  exact getattr_ok I1 ea c n l fun u' s2 I2 ru => ⟨v, H1, I2, ru, q⟩
theorem ps_fld (ha : PE X o ta) (hv : PE X value tv) (hs : swapsWith value (some (.Attribute o f pos')) pos.line X.env = pure false) : PS X (.Assign [.Attribute o f pos'] value pos) (sFld X.K ta tv f) := by
  intro pins s σ H D I h
  refine plainObj_wpAny_Assign_Attribute (thn (hv pins s σ H _ I h) fun u s1 ⟨y, H1, I1, ry, q⟩ => thn (ha pins s1 σ H1 _ I1 q) fun ov s2 ⟨x, H2, I2, rx, a, C, dx, fs, ex, ea, c, n, l, q2⟩ => ?_) hs
  subst ex
  obtain rfl : ov = Value.ref a := rx
  exact setattr_ok I2 ea c n l ry fun s3 I3 => ⟨σ, _, I3, q2⟩
end

/-! ### isinstance -/
section
variable {X : Cx} {pins : List (Addr × Obj)} {σ : St} {H : Hp} {s : Shared} {A : Around} {E : Value → Shared → Prop} {Q : Value → Shared → Prop} {c : Value} {b : Bool}
/-- the type of a value, as the fragment's deciders take it; for an instance its class -/
inductive TyOf (K : PySem.W.Frag) (H : Hp) : V → Value → Prop where
  | non : TyOf K H .non (.type "NoneType")
  | bl (x : Bool) : TyOf K H (.bl x) (.type "bool")
  | int (i : Int) : TyOf K H (.int i) (.type "int")
  | str (x : Str) : TyOf K H (.str x) (.type "str")
  | flt (x : UInt64) : TyOf K H (.flt x) (.type "float")
  | lst {a : Addr} {xs : List V} (e : H a = some (.lst xs)) : TyOf K H (.ref a) (.type "list")
  | frz {a : Addr} {o : Obj} {xs : List V} (e : H a = some (.frz o (.lst xs))) : TyOf K H (.ref a) (.type "list")
  | tup {a : Addr} {xs : List V} (e : H a = some (.tup xs)) : TyOf K H (.ref a) (.type "tuple")
  | dK {a : Addr} {kvs : List (Key × V)} (e : H a = some (.dK kvs)) : TyOf K H (.ref a) (.type "dict")
  | dT {a : Addr} {kvs : List (List Key × V)} (e : H a = some (.dT kvs)) : TyOf K H (.ref a) (.type "dict")
  | ins {a C dx : Addr} {fs : List (Str × V)} (e : H a = some (.ins C dx fs)) (cl : Cls K C) (ha : PySem.W.findIn K (.ref C) "__class__" = some (some (.builtin "object.__class__")))
      (hn : PySem.W.specialIn K (.builtin "object.__class__") "__get__" = some (some (.builtin "getset_descriptor.__get__"))) (htk : PySem.W.takesIn K (.builtin "object.__class__") = some true)
      (hm : PySem.W.mroIn K C (.type "object") = some true) : TyOf K H (.ref a) (.ref C)
/-- isinstance(x, c) for one class c, a built-in or an own one: kitOne's answer -/
theorem isinst_ok {x : V} {u t : Value} (I : Inv X pins σ H s) (rx : RelV x u) (ty : TyOf X.K H x t) (e : PySem.W.kitOne X.K t c = some b) (h : ∀ tk, Q (.bool b) { s with toks := tk }) :
    wpAny (model X.prog X.w) A (call (.builtin "isinstance") [u, c]) Q E s := by
  cases ty with
  | non => cases (show u = Value.none from rx); exact PySem.W.kia_one PySem.W.kitx_none I.kIn True.intro e (fun z => nomatch z) h
  | bl y => cases (show u = Value.bool y from rx); exact PySem.W.kia_one PySem.W.kitx_bool I.kIn True.intro e (fun z => nomatch z) h
  | int i => obtain ⟨t, q⟩ := (show ∃ t, u = Value.int i t from rx); cases q; exact PySem.W.kia_one PySem.W.kitx_int I.kIn True.intro e (fun z => nomatch z) h
  | str y => obtain ⟨t, q⟩ := (show ∃ t, u = Value.str y t from rx); cases q; exact PySem.W.kia_one PySem.W.kitx_str I.kIn True.intro e (fun z => nomatch z) h
  | flt y => obtain ⟨t, q⟩ := (show ∃ t, u = Value.float y t from rx); cases q; exact PySem.W.kia_one PySem.W.kitx_float I.kIn True.intro e (fun z => nomatch z) h
  | @lst a xs ea =>
    cases (show u = Value.ref a from rx)
    obtain ⟨_, _, n, _, h1⟩ := (show ObjOk X.prog X.w H s.heap a (.lst xs) from I.hok a _ ea)
    exact PySem.W.kia_one PySem.W.kitx_list I.kIn ⟨_, h1, rfl⟩ e (fun z => nomatch z) h
  | @frz a ob xs ea =>
    cases (show u = Value.ref a from rx)
    obtain ⟨_, _, _, n, _, h1⟩ := (show ObjOk X.prog X.w H s.heap a (.frz ob (.lst xs)) from I.hok a _ ea)
    exact PySem.W.kia_one PySem.W.kitx_list I.kIn ⟨_, h1, rfl⟩ e (fun z => nomatch z) h
  | @tup a xs ea =>
    cases (show u = Value.ref a from rx)
    obtain ⟨_, _, _, p⟩ := (show ObjOk X.prog X.w H s.heap a (.tup xs) from I.hok a _ ea)
    obtain ⟨o, h1, h2, _⟩ := p
    exact PySem.W.kia_one PySem.W.kitx_tuple I.kIn ⟨o, h1, h2⟩ e (fun z => nomatch z) h
  | @dK a kvs ea =>
    cases (show u = Value.ref a from rx)
    obtain ⟨_, _, vs, _, p⟩ := (show ObjOk X.prog X.w H s.heap a (.dK kvs) from I.hok a _ ea)
    obtain ⟨o, es, ep, h1, h2, _⟩ := p
    exact PySem.W.kia_one PySem.W.kitx_dict I.kIn ⟨o, h1, h2.1⟩ e (fun z => nomatch z) h
  | @dT a kvs ea =>
    cases (show u = Value.ref a from rx)
    obtain ⟨_, _, xs, _, o, es, ep, h1, h2, _⟩ := (show ObjOk X.prog X.w H s.heap a (.dT kvs) from I.hok a _ ea)
    exact PySem.W.kia_one PySem.W.kitx_dict I.kIn ⟨o, h1, h2.1⟩ e (fun z => nomatch z) h
  | @ins a C dx fs ea cl ha hn htk hm =>
    cases (show u = Value.ref a from rx)
    obtain ⟨mA, O, _⟩ := ins_get I.hok ea
    obtain ⟨od, J, _⟩ := O.look
    exact PySem.W.kia_one (PySem.W.kitx_own (cl.get _) cl.hd ha hn htk hm) I.kIn J e (fun z => nomatch z) h
end
end L2

namespace L2
open PySem PySem.Spec PyProof.Rows

/-! ### room -/
structure Room (k : Nat) (A : Around) : Prop where
  hd : A.handled = none
  dp : A.depth + 3 * k + 5 < recursionLimit
  un : A.units + 16 * k + 200 < cLine
theorem Room.mono {j k : Nat} {A : Around} (r : Room k A) (h : j ≤ k) : Room j A := ⟨r.hd, by have := r.dp; omega, by have := r.un; omega⟩
theorem Room.deeper {k : Nat} {A : Around} (r : Room (k + 1) A) (env : Env) : Room k (A.deeper env) :=
  ⟨r.hd, by have := r.dp; show A.depth + 1 + 3 * k + 5 < _; omega, by have := r.un; show A.units + 3 + 16 * k + 200 < _; omega⟩
theorem Room.in1 {k : Nat} {A : Around} (r : Room (k + 1) A) : Room k A.in1 :=
  ⟨r.hd, by have := r.dp; show A.depth + 3 * k + 5 < _; omega, by have := r.un; show A.units + 1 + 16 * k + 200 < _; omega⟩
theorem make_depth {A : Around} {C : Addr} {us : List Value} {kw : List (Str × Value)} : (A.under (.builtin "type.__call__" ⟨.ref C :: us, kw⟩)).depth = A.depth + 1 := by
  first | rfl | simp [Around.under, Code.weight, Code.isCreation, Code.isGuard, Code.isCaller, Code.frames, Code.isFrame, guardIds]
theorem make_units {A : Around} {C : Addr} {us : List Value} {kw : List (Str × Value)} : (A.under (.builtin "type.__call__" ⟨.ref C :: us, kw⟩)).units = A.units + 1 := by
  first | rfl | simp [Around.under, Code.cUnits, Code.frames, Code.isFrame]
theorem Room.make {k : Nat} {A : Around} (r : Room (k + 1) A) (C : Addr) (us : List Value) (kw : List (Str × Value)) : Room k (A.under (.builtin "type.__call__" ⟨.ref C :: us, kw⟩)) :=
  ⟨r.hd, by have := r.dp; rw [make_depth]; omega, by have := r.un; rw [make_units]; omega⟩
theorem Room.depth {k : Nat} {A : Around} (r : Room k A) : A.depth < recursionLimit := by have := r.dp; omega
theorem Room.units {k : Nat} {A : Around} (r : Room k A) : A.units + 64 < cLine := by have := r.un; omega
/-! ### argument lists and displays -/
def tNil : TA := fun _ H Q => Q [] H
def tCons (ta : TE) (tr : TA) : TA := fun σ H Q => ta σ H fun x H1 => tr σ H1 fun xs H2 => Q (x :: xs) H2
section
variable {X : Cx} {e : Expr} {es : List Expr} {te : TE} {t : TA} {pos : Pos}
theorem pa_nil : PA X [] tNil := fun _ _ _ _ H Q I h => Calls.spliced_nil ⟨[], H, I, .nil, h⟩
theorem pa_cons (ha : PE X e te) (hr : PA X es t) (hs : starEach (e :: es) X.env = (false, eval e X.env) :: starEach es X.env := by rfl) : PA X (e :: es) (tCons te t) := by
  intro pos pins s σ H Q I h
  rw [hs]
  show wpAny _ _ (spliced ((false, eval e X.env) :: backTo pos (starEach es X.env))) _ _ s
  refine Calls.spliced_cons (thn (ha pins s σ H _ I h) fun u s1 ⟨x, H1, I1, r1, q1⟩ => ?_)
  exact thn (hr pos pins s1 σ H1 _ I1 q1) fun us s2 ⟨xs, H2, I2, r2, q2⟩ => ⟨x :: xs, H2, I2, .cons r1 r2, q2⟩

/-- a tuple, a list of written items -/
def tTup (t : TA) : TE := fun σ H Q => t σ H fun xs H1 => xs.length ≤ sizeLine ∧ ∀ p, H1 p = none → Q (.ref p) (upd H1 p (.tup xs))
def tLst (t : TA) : TE := fun σ H Q => t σ H fun xs H1 => xs.length ≤ sizeLine ∧ ∀ p, H1 p = none → Q (.ref p) (upd H1 p (.lst xs))
theorem pe_tup {x1} (h : PA X es t) : PE X (.Tuple es x1 pos) (tTup t) := by
  intro pins s σ H Q I hq
  refine wpAny_Tuple_spliced (thn (h pos pins s σ H _ I hq) fun us s1 ⟨xs, H1, I1, r, z, q⟩ => ⟨by rw [← r.length]; exact z, ?_⟩)
  have hf : H1 s1.heap.objs.size = none := I1.hok.fresh (Nat.le_refl _)
  refine ⟨.ref s1.heap.objs.size, upd H1 s1.heap.objs.size (.tup xs), I1.laid (t' := s1.toks) (fun b u e => Heap.get?_push_of_some _ e) (Nat.le_refl _) ?_, rfl, q _ hf⟩
  exact ⟨z, us, r, ⟨_, Heap.get?_push_size _ rfl, rfl, _, rfl⟩⟩
theorem pe_lst (h : PA X es t) : PE X (.List es pos) (tLst t) := by
  intro pins s σ H Q I hq
  refine wpAny_List_spliced (thn (h pos pins s σ H _ I hq) fun us s1 ⟨xs, H1, I1, r, z, q⟩ => ⟨by rw [← r.length]; exact z, ?_⟩)
  have hf : H1 s1.heap.objs.size = none := I1.hok.fresh (Nat.le_refl _)
  refine ⟨.ref s1.heap.objs.size, upd H1 s1.heap.objs.size (.lst xs), I1.laid (t' := s1.toks) (fun b u e => Heap.get?_push_of_some _ e) (Nat.le_refl _) ?_, rfl, q _ hf⟩
  exact ⟨z, us, 0, r, Heap.get?_push_size _ rfl⟩
end

/-! ### what a def promises -/
/-- a def's promise: the bound arguments in the parameters' order, the heap, the wanted end, the wanted exception -/
abbrev Sp := List V → Hp → VK → XK → Prop
/-- how an exception lies behind a call (file 08 gives it): the callers' frames, abstract heap and state ahead of the call, the wish, the exception, the state -/
abbrev CXT := List Env → Hp → Shared → XK → Value → Shared → Prop

/-- the state at a call -/
structure Env0 (P : Program) (w : World) (K : PySem.W.Frag) (mg : Str → Option Value) (base : Heap) (A : Around) (outer : List Env) (s : Shared) (H : Hp) : Prop where
  frames : A.frames = some outer
  mod : Mod K mg base
  bs : ∀ b o, base.get? b = some o → s.heap.get? b = some o ∧ H b = none
  bsz : base.objs.size ≤ s.heap.objs.size
  funs : s.heap.FunFrames base outer
  frf : ∀ b ∈ frs outer, H b = none
  hok : HOk P w H s.heap
  bare : AllBare s.gens
/-- a call's end -/
def CE (outer : List Env) (P : Program) (w : World) (H : Hp) (s : Shared) (Q : VK) (u : Value) (s' : Shared) : Prop :=
  ∃ v H', s'.os = s.os ∧ AllBare s'.gens ∧ Un (frs outer) [] H H' s.heap s'.heap ∧ HOk P w H' s'.heap ∧ RelV v u ∧ Q v H'
def CR (CX : CXT) (outer : List Env) (P : Program) (w : World) (H : Hp) (s : Shared) (Q : VK) (E : XK) (r : Result) (s' : Shared) : Prop :=
  match r with
  | .ok (.ret u) => CE outer P w H s Q u s'
  | .ok _ => False
  | .error e => CX outer H s E e s'
structure FnOk (P : Program) (w : World) (K : PySem.W.Frag) (mg : Str → Option Value) (base : Heap) (CX : CXT) (k : Nat) (f : Addr) (fd : FuncData) (ps : List Str) (sp : Sp) : Prop where
  len : ∀ vs H Q E, sp vs H Q E → vs.length = ps.length
  run : ∀ (A : Around) (outer : List Env) (s : Shared) (H : Hp) (args : Args) (us : List Value) (vs : List V) (Q : VK) (E : XK), Room k A → Env0 P w K mg base A outer s H → BindsTo s fd args (ps.zip us) → Vals vs us → sp vs H Q E →
    codeAny (model P w) A (.call (.ref f) args) (CR CX outer P w H s Q E) s
theorem FnOk.mono {P : Program} {w : World} {K : PySem.W.Frag} {mg : Str → Option Value} {base : Heap} {CX : CXT} {j k : Nat} {f : Addr} {fd : FuncData} {ps : List Str} {sp : Sp} (F : FnOk P w K mg base CX j f fd ps sp) (h : j ≤ k) :
    FnOk P w K mg base CX k f fd ps sp := ⟨F.len, fun A outer s H args us vs Q E hr => F.run A outer s H args us vs Q E (hr.mono h)⟩
/-- a weaker promise -/
theorem FnOk.imp {P : Program} {w : World} {K : PySem.W.Frag} {mg : Str → Option Value} {base : Heap} {CX : CXT} {k : Nat} {f : Addr} {fd : FuncData} {ps : List Str} {sp sp' : Sp} (F : FnOk P w K mg base CX k f fd ps sp)
    (h : ∀ vs H Q E, sp' vs H Q E → sp vs H Q E) : FnOk P w K mg base CX k f fd ps sp' :=
  ⟨fun vs H Q E q => F.len vs H Q E (h _ _ _ _ q), fun A outer s H args us vs Q E hr he hb hv hs => F.run A outer s H args us vs Q E hr he hb hv (h _ _ _ _ hs)⟩

theorem Env0.make {P : Program} {w : World} {K : PySem.W.Frag} {mg : Str → Option Value} {base : Heap} {A : Around} {outer : List Env} {s : Shared} {H : Hp} (e : Env0 P w K mg base A outer s H) (C : Addr) (us : List Value) (kw : List (Str × Value)) :
    Env0 P w K mg base (A.under (.builtin "type.__call__" ⟨.ref C :: us, kw⟩)) outer s H := ⟨by first | exact e.frames | (simpa [Around.under, Code.envs, Code.isFrame, pushEnvs] using e.frames), e.mod, e.bs, e.bsz, e.funs, e.frf, e.hok, e.bare⟩
theorem Env0.in1 {P : Program} {w : World} {K : PySem.W.Frag} {mg : Str → Option Value} {base : Heap} {A : Around} {outer : List Env} {s : Shared} {H : Hp} (e : Env0 P w K mg base A outer s H) :
    Env0 P w K mg base A.in1 outer s H := ⟨e.frames, e.mod, e.bs, e.bsz, e.funs, e.frf, e.hok, e.bare⟩

section
variable {X : Cx} {pins : List (Addr × Obj)} {σ : St} {H : Hp} {s s' : Shared}
/-- from a body: what a callee wants -/
theorem Inv.env0 (I : Inv X pins σ H s) : Env0 X.prog X.w X.K X.mg X.base X.A X.stack s H :=
  ⟨I.ok.frames, I.ok.mod, I.bs, Nat.le_trans I.ok.bsz I.sz, I.stack, I.stkFree, I.hok, I.bare⟩
/-- behind a call -/
theorem Inv.after {Q : VK} {u : Value} (I : Inv X pins σ H s) (h : CE X.stack X.prog X.w H s Q u s') : EP X pins σ Q u s' := by
  obtain ⟨v, H', os, bare, un, hok, r, q⟩ := h
  obtain ⟨hh, g, d, t, os'⟩ := s'
  obtain rfl : os' = s.os := os
  exact ⟨v, H', I.call (h' := hh) (g' := g) (d' := d) (t' := t) (ch := []) un hok bare (fun b z => absurd z (by simp)), r, q⟩
end

/-! ### calls -/
/-- f(..): the written arguments, then the defaults dvs; E: what is wanted of an exception -/
def tCall (sp : Sp) (dvs : List V) (E : XK) (t : TA) : TE := fun σ H Q => t σ H fun vs H1 => sp (vs ++ dvs) H1 Q E
/-- C(..): a new instance and its dict, then __init__ -/
def tMake (C : Addr) (sp : Sp) (dvs : List V) (E : XK) (t : TA) : TE := fun σ H Q => t σ H fun vs H1 => ∀ x dx, H1 x = none → H1 dx = none → dx ≠ x →
  sp (.ref x :: (vs ++ dvs)) (upd (upd H1 dx (.own x)) x (.ins C dx [])) (fun v H2 => v = .non ∧ Q (.ref x) H2) E

/-- how the parameters are bound: us the positional arguments, kw the keywords' values by name, ds the defaults that fill up -/
def Binds (K : PySem.W.Frag) (fd : FuncData) (ps : List Str) (ds : List Value) : Prop :=
  ∀ (s : Shared) (us : List Value), K.In s.heap → (us ++ ds).length = ps.length → BindsTo s fd ⟨us, []⟩ (ps.zip (us ++ ds))
/-- every parameter is given -/
theorem Binds.all {K : PySem.W.Frag} {fd : FuncData} {ps : List Str} (h : ∀ us : List Value, us.length = ps.length → bindArgs fd ⟨us, []⟩ = pure (ps.zip us)) : Binds K fd ps [] := fun s us _ hl => by
  rw [List.append_nil] at hl ⊢
  exact .of_eq (h us hl)

/-- an exception of a callee reaches what this body wants of exceptions -/
def Passes (CX : CXT) (X : Cx) (E : XK) : Prop := ∀ (pins : List (Addr × Obj)) (σ : St) (H : Hp) (s : Shared) (e : Value) (s' : Shared), Inv X pins σ H s → CX X.stack H s E e s' → X.xe e s'

section
variable {X : Cx} {CX : CXT} {k : Nat} {f C : Addr} {fd : FuncData} {ps : List Str} {sp : Sp} {dvs : List V} {ds : List Value} {E : XK} {x m : Str} {p pos apos : Pos} {e o : Expr} {es : List Expr} {ta : TE} {t : TA}

/-- the callee runs -/
theorem run_fn {pins : List (Addr × Obj)} {σ : St} {H : Hp} {s : Shared} {Q : VK} {us : List Value} {vs : List V} (F : FnOk X.prog X.w X.K X.mg X.base CX k f fd ps sp) (hr : Room k X.A) (hb : Binds X.K fd ps ds) (hd : Vals dvs ds) (hx : Passes CX X E)
    (I : Inv X pins σ H s) (r : Vals vs us) (h : sp (vs ++ dvs) H Q E) : wpAny (model X.prog X.w) X.A (call (.ref f) us) (EP X pins σ Q) X.xe s := by
  have r2 : Vals (vs ++ dvs) (us ++ ds) := r.append hd
  have hl : (us ++ ds).length = ps.length := by rw [← r2.length]; exact F.len _ _ _ _ h
  refine wpAny_call (codeAny_mono (F.run X.A X.stack s H ⟨us, []⟩ (us ++ ds) (vs ++ dvs) Q E hr I.env0 (hb s us I.kIn hl) r2 h) fun r s' hq => ?_)
  cases r with
  | error e => exact hx pins σ H s e s' I hq
  | ok fl =>
    cases fl with
    | ret u => exact I.after hq
    | next => exact False.elim hq
    | brk => exact False.elim hq
    | cont => exact False.elim hq

theorem pe_call (F : FnOk X.prog X.w X.K X.mg X.base CX k f fd ps sp) (hr : Room k X.A) (hg : Gl X x) (hm : X.mg x = some (.ref f)) (hk : PySem.W.keepIn X.K (.ref f) = true) (hb : Binds X.K fd ps ds) (hd : Vals dvs ds) (hx : Passes CX X E)
    (ha : PA X (e :: es) t) (hdb : (x == ("__debug__" : Str)) = false := by decide) (he : starEach (e :: es) X.env = (false, eval e X.env) :: starEach es X.env := by rfl) (hpl : (backTo pos (starEach es X.env)).any (·.1) = false := by rfl) :
    PE X (.Call (.Name x p) (e :: es) [] pos) (tCall sp dvs E t) := by
  intro pins s σ H Q I h
  refine wpAny_Call_Name_kw (ld_glob I hg hm ?_ hdb)
  refine PySem.W.callWith_K (h₀ := X.base) I.ok.mod.kin hk (thn (ha pos pins s σ H _ I h) fun us s1 ⟨vs, H1, I1, r, q⟩ => ⟨I1.kIn, ?_⟩) he hpl
  exact run_fn F hr hb hd hx I1 r q
/-- what a class must have to be made -/
structure Mk (K : PySem.W.Frag) (C f : Addr) : Prop where
  makes : PySem.W.makesIn K C = true
  init : PySem.W.findIn K (.ref C) "__init__" = some (some (.ref f))
  fn : PySem.W.isFn K (.ref f) = true
  kp : PySem.W.keepIn K (.ref C) = true

theorem run_make {pins : List (Addr × Obj)} {σ : St} {H : Hp} {s : Shared} {Q : VK} {us : List Value} {vs : List V} (M : Mk X.K C f) (F : FnOk X.prog X.w X.K X.mg X.base CX k f fd ps sp) (hr : Room (k + 1) X.A) (hb : Binds X.K fd ps ds) (hd : Vals dvs ds)
    (hx : Passes CX X E) (I : Inv X pins σ H s) (r : Vals vs us)
    (h : ∀ x dx, H x = none → H dx = none → dx ≠ x → sp (.ref x :: (vs ++ dvs)) (upd (upd H dx (.own x)) x (.ins C dx [])) (fun v H2 => v = .non ∧ Q (.ref x) H2) E) :
    wpAny (model X.prog X.w) X.A (call (.ref C) us) (EP X pins σ Q) X.xe s := by
  have hq := h (s.heap.objs.size + 1) s.heap.objs.size (I.hok.fresh (Nat.le_succ _)) (I.hok.fresh (Nat.le_refl _)) (Nat.ne_of_lt (Nat.lt_succ_self _))
  have I2 := Inv.made (C := C) I
  have r2 : Vals (V.ref (s.heap.objs.size + 1) :: (vs ++ dvs)) (Value.ref (s.heap.objs.size + 1) :: (us ++ ds)) := .cons rfl (r.append hd)
  have hl : (Value.ref (s.heap.objs.size + 1) :: us ++ ds).length = ps.length := by
    have e := r2.length
    rw [F.len _ _ _ _ hq] at e
    exact e.symm
  refine wpAny_call (make_map (f := f) I.kIn M.makes M.init (beq_iff_eq.mp M.fn) (codeAny_mono (F.run _ X.stack _ _ ⟨Value.ref (s.heap.objs.size + 1) :: us, []⟩ (Value.ref (s.heap.objs.size + 1) :: (us ++ ds)) _ _ E (hr.make C us [])
    (I2.env0.make C us []) (hb _ (Value.ref (s.heap.objs.size + 1) :: us) I2.kIn hl) r2 hq) fun r s' hq' => ?_))
  cases r with
  | error e => exact hx pins σ _ _ e s' I2 hq'
  | ok fl =>
    cases fl with
    | ret u =>
      obtain ⟨v, H', I3, rv, ev, q3⟩ := I2.after hq'
      subst ev
      exact ⟨rv, ⟨V.ref (s.heap.objs.size + 1), H', I3, rfl, q3⟩⟩
    | next => exact False.elim hq'
    | brk => exact False.elim hq'
    | cont => exact False.elim hq'
theorem pe_make (M : Mk X.K C f) (F : FnOk X.prog X.w X.K X.mg X.base CX k f fd ps sp) (hr : Room (k + 1) X.A) (hg : Gl X x) (hm : X.mg x = some (.ref C)) (hb : Binds X.K fd ps ds) (hd : Vals dvs ds) (hx : Passes CX X E)
    (ha : PA X (e :: es) t) (hdb : (x == ("__debug__" : Str)) = false := by decide) (he : starEach (e :: es) X.env = (false, eval e X.env) :: starEach es X.env := by rfl) (hpl : (backTo pos (starEach es X.env)).any (·.1) = false := by rfl) :
    PE X (.Call (.Name x p) (e :: es) [] pos) (tMake C sp dvs E t) := by
  intro pins s σ H Q I h
  refine wpAny_Call_Name_kw (ld_glob I hg hm ?_ hdb)
  refine PySem.W.callWith_K (h₀ := X.base) I.ok.mod.kin M.kp (thn (ha pos pins s σ H _ I h) fun us s1 ⟨vs, H1, I1, r, q⟩ => ⟨I1.kIn, ?_⟩) he hpl
  exact run_make M F hr hb hd hx I1 r q
end

/-! ### keywords -/
section
variable {X : Cx} {CX : CXT} {k : Nat} {f C : Addr} {fd : FuncData} {ps ks : List Str} {sp : Sp} {E : XK} {x m : Str} {p pos apos kpos : Pos} {e o : Expr} {es : List Expr} {kws : List Keyword} {te ta : TE} {t tk : TA} {nm : Option Str}
variable {g : List Value → List Value → List Value} {gV : List V → List V → List V}
end

/-! ### a def's body keeps its promise -/
/-- names: the parameters first -/
structure FnScope (N P : List Str) (sc : Scope) : Prop where
  kind : sc.kind = .function
  co : sc.isCoroutine = false
  gen : sc.isGenerator = false
  nd : N.Nodup
  pre : N.take P.length = P
  par : ∀ x ∈ P, sc.names.lookup x = some .local ∨ sc.names.lookup x = some .cell
  nofree : ∀ y ∈ sc.names, y.2 ≠ .free

theorem bindL_out {kindOf : Str → Option NameKind} {x : Str} : ∀ {binds : List (Str × Value)} {m : Str → Option Value}, (∀ v, (x, v) ∉ binds) → bindL kindOf binds m x = m x
  | [], _, _ => rfl
  | (n, v) :: r, m, h => by
    unfold bindL
    rw [bindL_out fun w hw => h w (List.mem_cons_of_mem _ hw)]
    split
    · have : x ≠ n := by rintro rfl; exact h v List.mem_cons_self
      simp [this]
    · rfl
theorem bindC_out {kindOf : Str → Option NameKind} {x : Str} : ∀ {binds : List (Str × Value)} {m : Str → Option Value}, (∀ v, (x, v) ∉ binds) → bindC kindOf binds m x = m x
  | [], _, _ => rfl
  | (n, v) :: r, m, h => by
    unfold bindC
    rw [bindC_out fun w hw => h w (List.mem_cons_of_mem _ hw)]
    split
    · rfl
    · have : x ≠ n := by rintro rfl; exact h v List.mem_cons_self
      simp [this]
theorem bindL_get {kindOf : Str → Option NameKind} {x : Str} {v : Value} : ∀ {P : List Str} {vs : List Value} {i : Nat} {m : Str → Option Value}, P.Nodup → P[i]? = some x → vs[i]? = some v → kindOf x = some .local →
    bindL kindOf (P.zip vs) m x = some v
  | [], _, _, _, _, h, _, _ => by simp at h
  | _ :: _, [], _, _, _, _, h, _ => by simp at h
  | p :: P, w :: vs, 0, m, nd, h1, h2, hk => by
    simp at h1 h2; subst h1; subst h2
    show bindL kindOf ((p, w) :: P.zip vs) m p = _
    unfold bindL
    rw [bindL_out fun v hv => (List.nodup_cons.mp nd).1 (List.of_mem_zip hv).1, if_pos hk]
    simp
  | p :: P, w :: vs, i + 1, m, nd, h1, h2, hk => by
    show bindL kindOf ((p, w) :: P.zip vs) m x = _
    unfold bindL
    exact bindL_get (i := i) (List.nodup_cons.mp nd).2 (by simpa using h1) (by simpa using h2) hk
theorem bindC_get {kindOf : Str → Option NameKind} {x : Str} {v : Value} : ∀ {P : List Str} {vs : List Value} {i : Nat} {m : Str → Option Value}, P.Nodup → P[i]? = some x → vs[i]? = some v → kindOf x ≠ some .local →
    bindC kindOf (P.zip vs) m x = some v
  | [], _, _, _, _, h, _, _ => by simp at h
  | _ :: _, [], _, _, _, _, h, _ => by simp at h
  | p :: P, w :: vs, 0, m, nd, h1, h2, hk => by
    simp at h1 h2; subst h1; subst h2
    show bindC kindOf ((p, w) :: P.zip vs) m p = _
    unfold bindC
    rw [bindC_out fun v hv => (List.nodup_cons.mp nd).1 (List.of_mem_zip hv).1, if_neg hk]
    simp
  | p :: P, w :: vs, i + 1, m, nd, h1, h2, hk => by
    show bindC kindOf ((p, w) :: P.zip vs) m x = _
    unfold bindC
    exact bindC_get (i := i) (List.nodup_cons.mp nd).2 (by simpa using h1) (by simpa using h2) hk

/-- the names' values at the entry -/
def start (N : List Str) (vs : List V) : St := vs.map some ++ List.replicate (N.length - vs.length) none

/-- the context of a def's body, at its entry; an exception leaves the frame, then lies as CX says -/
def cxOf (CX : CXT) (P : Program) (w : World) (K : PySem.W.Frag) (mg : Str → Option Value) (base : Heap) (N : List Str) (qual : Str) (scope : Scope) (f : Addr) (cd : Value) (A : Around) (outer : List Env) (s : Shared) (H : Hp) (E : XK) : Cx where
  prog := P
  w := w
  K := K
  mg := mg
  base := base
  A := A.deeper (envOfC qual scope s.heap.objs.size f cd)
  N := N
  s₀ := s
  H₀ := H
  env := envOfC qual scope s.heap.objs.size f cd
  outer := outer
  stack := envOfC qual scope s.heap.objs.size f cd :: outer
  ex := []
  calm := true
  fn := fun _ => true
  pn := []
  xe := fun e s' => wpAny (model P w) (A.deeper (envOfC qual scope s.heap.objs.size f cd)) (leaving (envOfC qual scope s.heap.objs.size f cd) e) (fun _ s'' => CX outer H s E e s'') (fun e' s'' => CX outer H s E e' s'') s'

theorem cell_has {sc : Scope} {n : Nat} {x : Str} (h : sc.names.lookup x = some .cell) : ∃ c, (cellsFrom n sc.names []).lookup x = some c := by
  have q := PySem.W.cellsFrom_some sc.names n [] (.inl h)
  exact Option.isSome_iff_exists.mp q

theorem inv_start {CX : CXT} {P : Program} {w : World} {K : PySem.W.Frag} {mg : Str → Option Value} {base : Heap} {N ps : List Str} {qual : Str} {scope : Scope} {f : Addr} {cd : Value} {A : Around} {outer : List Env} {s s1 : Shared} {H : Hp} {E : XK} {us : List Value} {vs : List V}
    (S : FnScope N ps scope) (hd : A.handled = none) (e0 : Env0 P w K mg base A outer s H) (hl : vs.length = ps.length) (r : Vals vs us)
    (x : InCallC s s.heap.objs.size (bindL (envOfC qual scope s.heap.objs.size f cd).kindOf (ps.zip us) fun _ => none) (cellsFrom (s.heap.objs.size + 1) scope.names []) (bindC (envOfC qual scope s.heap.objs.size f cd).kindOf (ps.zip us) fun _ => none) s1) :
    Inv (cxOf CX P w K mg base N qual scope f cd A outer s H E) [] (start N vs) H s1 := by
  have hpl : ps.length ≤ N.length := by have := congrArg List.length S.pre; rw [List.length_take] at this; omega
  obtain ⟨h1, tk, rfl, hk⟩ := x.done
  have noA : ∀ b : Addr, b ∉ (cxOf CX P w K mg base N qual scope f cd A outer s H E).ex := fun b z => absurd (show b ∈ ([] : List Addr) from z) (by simp)
  refine ⟨⟨e0.mod, S.kind, rfl, rfl, Nat.le_refl _, fun y z c h1 h2 => ?_, fun y hy => ?_, fun y c _ h => ?_, fun _ => hd, Around.frames_deeper e0.frames, .inr ⟨rfl, rfl⟩, fun b z => absurd z (noA b), e0.bs, e0.bsz, fun b _ _ => noA b, fun b z => absurd z (noA b), e0.funs, e0.frf⟩,
    rfl, e0.bare, Un.kept hk, ⟨_, x.toInCall.ns, fun i y v h1 h2 h3 => ?_⟩, fun y c h => ⟨_, x.cell y c h⟩, e0.hok.fresh (Nat.le_refl _), fun y c h => ?_, fun p hp => absurd (show p ∈ ([] : List (Addr × Obj)) from hp) (by simp), e0.hok.kept hk, ?_⟩
  · exact name_of_addr x.apart (PySem.mem_of_lookup h1) (PySem.mem_of_lookup h2)
  · have hy : scope.names.lookup y = some .cell ∨ scope.names.lookup y = some .free := hy
    rcases hy with hy | hy
    · exact cell_has hy
    · exact absurd rfl (S.nofree _ (PySem.mem_of_lookup hy))
  · exact Nat.le_of_lt (x.above y c (PySem.mem_of_lookup h))
  · have hi : i < vs.length := by
      unfold start at h2
      by_cases hi : i < vs.length
      · exact hi
      · rw [List.getElem?_append_right (by simpa using hi)] at h2
        rw [List.getElem?_replicate] at h2
        split at h2 <;> cases h2
    have ha : vs[i]? = some v := by
      unfold start at h2
      rw [List.getElem?_append_left (by simpa using hi), List.getElem?_map] at h2
      cases e : vs[i]? with
      | none => rw [e] at h2; cases h2
      | some a => rw [e] at h2; cases h2; rfl
    obtain ⟨u, hu, rv⟩ := r.get ha
    have hp : ps[i]? = some y := by
      rw [← S.pre, List.getElem?_take_of_lt (by omega)]; exact h1
    have ndP : ps.Nodup := by rw [← S.pre]; exact S.nd.sublist (List.take_sublist _ _)
    refine ⟨u, rv, ?_⟩
    rcases S.par y (List.mem_of_getElem? hp) with k | k
    · exact .inl ⟨k, bindL_get ndP hp hu k⟩
    · obtain ⟨c, e⟩ := cell_has (n := s.heap.objs.size + 1) k
      refine .inr ⟨.inl k, c, e, ?_⟩
      have q := x.cell y c e
      rw [bindC_get ndP hp hu (by show scope.names.lookup y ≠ _; rw [k]; decide)] at q
      exact q
  · exact e0.hok.fresh (Nat.le_of_lt (x.above y c (PySem.mem_of_lookup h)))
  · unfold start
    show _ = N.length
    rw [List.length_append, List.length_map, List.length_replicate]
    omega

/-- THE RULE: a def (or a method) of the text, by its body. The body's reading t is chosen for each entry; it is run at the parameters' values -/
theorem fn_of {CX : CXT} {P : Program} {w : World} {K : PySem.W.Frag} {mg : Str → Option Value} {base : Heap} {k : Nat} {f : Addr} {name qual : Str} {params : Arguments} {body : List Stmt} {scope : Scope} {dV kV doc pm cdv ct oc : Value} {an od : Option Addr}
    {osl : Array (Option Value)} {N ps : List Str} {sp : Sp} (lk : K.lookup f = some ⟨oc, od, .func (PySem.W.fnOf name qual params body scope dV kV doc pm an cdv ct), osl⟩) (hcd : PySem.W.codeIn K cdv qual = true) (S : FnScope N ps scope)
    (len : ∀ vs H Q E, sp vs H Q E → vs.length = ps.length)
    (hbody : ∀ (A : Around) (outer : List Env) (s : Shared) (H : Hp) (vs : List V) (Q : VK) (E : XK), Room k (A.deeper (envOfC qual scope s.heap.objs.size f cdv)) → sp vs H Q E →
      ∃ t, PSs (cxOf CX P w K mg base N qual scope f cdv A outer s H E) body t ∧ t { nx := fun _ H' => Q .non H', rt := Q } (start N vs) H) :
    FnOk P w K mg base CX (k + 1) f (PySem.W.fnOf name qual params body scope dV kV doc pm an cdv ct) ps sp := by
  refine ⟨len, fun A outer s H args us vs Q E hr e0 hb r hsp => ?_⟩
  have hl := len _ _ _ _ hsp
  have KX : K.In s.heap := e0.mod.kin.keeps fun b o e => (e0.bs b o e).1
  have lim : s.heap.NoLimit := e0.mod.nolimit.keeps fun b o e => (e0.bs b o e).1
  have hkind : ∀ y ∈ ps.zip us, scope.names.lookup y.1 = some .local ∨ (scope.names.lookup y.1 = some .cell ∧ ((cellsFrom (s.heap.objs.size + 1) scope.names []).lookup y.1).isSome = true) := fun ⟨n, v⟩ hy => by
    rcases S.par n (List.of_mem_zip hy).1 with q | q
    · exact .inl q
    · exact .inr ⟨q, PySem.W.cellsFrom_some _ _ _ (.inl q)⟩
  refine codeAny_call_function hr.depth (KX _ _ lk) rfl S.co S.gen rfl (PySem.W.codeRec_of KX hcd) (hb _ _ _ _ ?_)
  refine wpAny_newFunctionEnv_cells S.kind hkind fun env he s1 x => ?_
  subst he
  refine ⟨lim.keeps x.toInCall.keep, codeAny_func ?_⟩
  obtain ⟨t, ht, hq⟩ := hbody A outer s H vs Q E (hr.deeper _) hsp
  have I : Inv (cxOf CX P w K mg base N qual scope f cdv A outer s H E) [] (start N vs) H s1 := inv_start S hr.hd e0 hl r x
  refine wpAny_mono (ht [] s1 (start N vs) H _ I hq) (fun fl s' hs => ?_) fun e s' hs => hs
  have fin : ∀ {σ' : St} {H' : Hp} {v : V} {u : Value}, Inv (cxOf CX P w K mg base N qual scope f cdv A outer s H E) [] σ' H' s' → RelV v u → Q v H' → CE outer P w H s Q u s' :=
    fun {σ' H' v u} J rv q => ⟨v, H', J.os, J.bare, J.base, J.hok, rv, q⟩
  cases fl with
  | ret u =>
    obtain ⟨v, σ', H', J, rv, q⟩ := hs
    exact fin J rv q
  | next =>
    obtain ⟨σ', H', J, q⟩ := hs
    exact fin (v := V.non) (u := Value.none) J rfl q
  | brk =>
    obtain ⟨_, _, _, q⟩ := hs
    exact False.elim q
  | cont =>
    obtain ⟨_, _, _, q⟩ := hs
    exact False.elim q
end L2

namespace L2
open PySem PySem.Spec PyProof.Rows
section
variable {X : Cx} {x : Str} {p pos : Pos} {e : Expr} {es : List Expr} {t : TA} {id T : String} {r : List V → Hp → VK → Prop}

def tCB (r : List V → Hp → VK → Prop) (t : TA) : TE := fun σ H Q => t σ H fun vs H1 => r vs H1 Q
/-- f(e, ..), f a built-in function -/
theorem pe_callB (hc : CallR X (.builtin id) r) (hg : Gl X x) (hm : X.mg x = none) (hv : bootBuiltins x = some (.builtin id)) (ha : PA X (e :: es) t) (hn : x ≠ "__name__" := by decide) (hdb : (x == ("__debug__" : Str)) = false := by decide)
    (he : starEach (e :: es) X.env = (false, eval e X.env) :: starEach es X.env := by rfl) (hpl : (backTo pos (starEach es X.env)).any (·.1) = false := by rfl) : PE X (.Call (.Name x p) (e :: es) [] pos) (tCB r t) := by
  intro pins s σ H Q I h
  refine wpAny_Call_Name_kw (ld_blt I hg hm hv ?_ hn hdb)
  exact PyProof.Rows.callWith_builtin1 (thn (ha pos pins s σ H _ I h) fun us s1 ⟨vs, H1, I1, r1, q1⟩ => hc pins s1 σ H1 vs us Q I1 r1 q1) he hpl
/-- T(e, ..), T a built-in type -/
theorem pe_callTy (hc : CallR X (.type T) r) (hg : Gl X x) (hm : X.mg x = none) (hv : bootBuiltins x = some (.type T)) (ha : PA X (e :: es) t) (hn : x ≠ "__name__" := by decide) (hdb : (x == ("__debug__" : Str)) = false := by decide)
    (he : starEach (e :: es) X.env = (false, eval e X.env) :: starEach es X.env := by rfl) (hpl : (backTo pos (starEach es X.env)).any (·.1) = false := by rfl) : PE X (.Call (.Name x p) (e :: es) [] pos) (tCB r t) := by
  intro pins s σ H Q I h
  refine wpAny_Call_Name_kw (ld_blt I hg hm hv ?_ hn hdb)
  exact PyProof.Rows.callWith_type1 (thn (ha pos pins s σ H _ I h) fun us s1 ⟨vs, H1, I1, r1, q1⟩ => hc pins s1 σ H1 vs us Q I1 r1 q1) he hpl
end
end L2

namespace HT
open PySem PyProof.Rows

section
open PySem.SeqAt
open PySem.AutoSeq1 (wpAny_loadPart')
open PySem.MeetsSeq PySem.MeetsSeq2 PySem.MeetsSeq3

end

section
variable {prog : Program} {w : World} {A : Around} {E : Value → Shared → Prop} {s : Shared}

/-! ### t[a:b], not the whole -/
/-- a slice's bound as a place among n (d where it is left out) -/
def sIx (n d : Nat) : Option Int → Nat
  | none => d
  | some v => if v < 0 then (v + (n : Int)).toNat else min v.toNat n
theorem sIx_none (n d : Nat) : sIx n d none = d := rfl
theorem sIx_nat (n d k : Nat) : sIx n d (some (k : Int)) = min k n := by
  show (if (k : Int) < 0 then ((k : Int) + (n : Int)).toNat else min (k : Int).toNat n) = min k n
  rw [if_neg (by omega), Int.toNat_natCast]
end
end HT

namespace L2
open PySem PySem.Spec PyProof.Rows

/-! ### the parts of a slice -/
abbrev TO := St → Hp → (Option Int → Hp → Prop) → Prop
/-- a slice's part (left out, or an int) -/
def PO (X : Cx) (e : Option Expr) (t : TO) : Prop :=
  ∀ (pins : List (Addr × Obj)) (s : Shared) (σ : St) (H : Hp) (Q : Option Int → Hp → Prop), Inv X pins σ H s → t σ H Q →
    wpAny (model X.prog X.w) X.A (evalPart e X.env) (fun u s' => ∃ o H', Inv X pins σ H' s' ∧ IsPart u o ∧ Q o H') X.xe s
def tNoPart : TO := fun _ H Q => Q none H
def tPart (t : TE) : TO := fun σ H Q => t σ H fun x H1 => ∃ i, x = .int i ∧ Q (some i) H1

theorem intsAre_of {ns : List Int} : ∀ {us : List Value}, Vals (ns.map V.int) us → IntsAre us ns := by
  induction ns with
  | nil => intro us r; rw [List.map_nil] at r; cases r; exact .nil
  | cons n ns ih =>
    intro us r
    rw [List.map_cons] at r
    cases r with
    | cons r1 r2 =>
      obtain ⟨t, e⟩ := r1
      subst e
      exact .cons n t (ih r2)

section
variable {X : Cx} {e : Expr} {te : TE} {lo hi : Option Expr} {tl th : TO} {pos p2 : Pos}

theorem po_none : PO X none tNoPart := by
  intro pins s σ H Q I h
  rw [evalPart_none]
  exact wpAny_pure ⟨none, H, I, .none, h⟩
theorem po_some (h : PE X e te) : PO X (some e) (tPart te) := by
  intro pins s σ H Q I hw
  rw [evalPart_some]
  refine thn (h pins s σ H _ I hw) fun u s1 ⟨x, H1, I1, r1, q1⟩ => ?_
  obtain ⟨i, rfl, q⟩ := q1
  obtain ⟨t, rfl⟩ := r1
  exact ⟨some i, H1, I1, .int i t, q⟩

/-- what a slice of a value is, by values: the slice object stands at sl -/
def SlR (X : Cx) (r : V → Option Int → Option Int → Hp → VK → Prop) : Prop :=
  ∀ (pins : List (Addr × Obj)) (s : Shared) (σ : St) (H : Hp) (x : V) (v vl vu : Value) (lo hi : Option Int) (sl : Addr) (Q : VK), Inv X pins σ H s → RelV x v → s.heap.IsSliceOf sl vl vu .none → IsPart vl lo → IsPart vu hi → r x lo hi H Q →
    ∃ T id, typeLookup (.type T) "__getitem__" = pure (some (.builtin id)) ∧ s.TypeIs v T ∧ wpAny (model X.prog X.w) X.A (getItem v (.ref sl)) (EP X pins σ Q) X.xe s
theorem SlR.or {r r' : V → Option Int → Option Int → Hp → VK → Prop} (h : SlR X r) (h' : SlR X r') : SlR X (fun x lo hi H Q => r x lo hi H Q ∨ r' x lo hi H Q) := by
  intro pins s σ H x v vl vu lo hi sl Q I rx hs pl pu q
  rcases q with q | q
  · exact h pins s σ H x v vl vu lo hi sl Q I rx hs pl pu q
  · exact h' pins s σ H x v vl vu lo hi sl Q I rx hs pl pu q
def tSl (r : V → Option Int → Option Int → Hp → VK → Prop) (te : TE) (tl th : TO) : TE := fun σ H Q => te σ H fun x H1 => tl σ H1 fun l H2 => th σ H2 fun u H3 => r x l u H3 Q
/-- a[lo:hi], any a -/
theorem pe_slice {r : V → Option Int → Option Int → Hp → VK → Prop} (hr : SlR X r) (he : PE X e te) (hl : PO X lo tl) (hu : PO X hi th) : PE X (.Subscript e (.Slice lo hi none p2) pos) (tSl r te tl th) := by
  intro pins s σ H Q I h
  refine Subscript_ (thn (he pins s σ H _ I h) fun v s1 ⟨x, H1, I1, r1, q1⟩ => ?_)
  refine wpAny_Slice (thn (hl pins s1 σ H1 _ I1 q1) fun vl s2 ⟨l, H2, I2, pl, q2⟩ => thn (hu pins s2 σ H2 _ I2 q2) fun vu s3 ⟨u, H3, I3, pu, q3⟩ => ?_)
  rw [evalPart_none]
  refine wpAny_pure ?_
  have I4 : Inv X pins σ H3 { s3 with heap := s3.heap.push { cls := .type "slice", data := .fields #[vl, vu, .none] } } := I3.kept (t' := s3.toks) fun b ob q => Heap.get?_push_of_some _ q
  obtain ⟨T, id, hT, ht, hg⟩ := hr pins { s3 with heap := s3.heap.push { cls := .type "slice", data := .fields #[vl, vu, .none] } } σ H3 x v vl vu l u s3.heap.objs.size Q I4 r1 (Heap.IsSliceOf.new ..) pl pu q3
  show wpAny (model X.prog X.w) X.A (subscriptTail e (.Slice lo hi none p2) v (.ref s3.heap.objs.size)) (EP X pins σ Q) X.xe { s3 with heap := s3.heap.push { cls := .type "slice", data := .fields #[vl, vu, .none] } }
  exact tail_any (ops := [.ref s3.heap.objs.size, v]) ht hT hg (by with_unfolding_all rfl)

/-- the items of xs[lo:hi] -/
def cutV (xs : List V) (lo hi : Option Int) : List V := (xs.drop (HT.sIx xs.length 0 lo)).take (HT.sIx xs.length xs.length hi - HT.sIx xs.length 0 lo)
theorem cutV_length (xs : List V) (lo hi : Option Int) : (cutV xs lo hi).length ≤ xs.length := by
  unfold cutV
  rw [List.length_take, List.length_drop]
  omega
/-! ### t < u, t + u -/
end
end L2

namespace L2
open PySem PySem.Spec PyProof.Rows

/-! ### places -/
/-- the place that an index of any sign means -/
def ixN (n : Nat) (i : Int) : Option Nat := if 0 ≤ i then (if i < n then some i.toNat else none) else if -(n : Int) ≤ i then some (i + n).toNat else none
def atI {α : Type} (xs : List α) (i : Int) : Option α := (ixN xs.length i).bind fun j => xs[j]?
theorem ixN_seq {n : Nat} {i : Int} {j : Nat} (h : ixN n i = some j) : seqIndex? i n = some j ∧ j < n ∧ -(n : Int) ≤ i ∧ i < n := by
  unfold ixN at h
  by_cases h0 : 0 ≤ i
  · rw [if_pos h0] at h
    by_cases h1 : i < n
    · rw [if_pos h1] at h
      have e : i.toNat = j := Option.some.inj h
      exact ⟨by rw [seqIndex_of h0 h1, e], by omega, by omega, h1⟩
    · rw [if_neg h1] at h; cases h
  · rw [if_neg h0] at h
    by_cases h1 : -(n : Int) ≤ i
    · rw [if_pos h1] at h
      have e : (i + n).toNat = j := Option.some.inj h
      exact ⟨by rw [seqIndex_neg (by omega) h1, e], by omega, h1, by omega⟩
    · rw [if_neg h1] at h; cases h
theorem atI_get {α : Type} {xs : List α} {i : Int} {v : α} (h : atI xs i = some v) : ∃ j, seqIndex? i xs.length = some j ∧ xs[j]? = some v ∧ j < xs.length ∧ -(xs.length : Int) ≤ i ∧ i < xs.length := by
  unfold atI at h
  cases e : ixN xs.length i with
  | none => rw [e] at h; cases h
  | some j =>
    rw [e] at h
    obtain ⟨h1, h2, h3, h4⟩ := ixN_seq e
    exact ⟨j, h1, h, h2, h3, h4⟩
theorem atI_nat {α : Type} {xs : List α} {j : Nat} {v : α} (h : xs[j]? = some v) : atI xs (j : Int) = some v := by
  have hj : j < xs.length := (List.getElem?_eq_some_iff.mp h).1
  have e : ixN xs.length (j : Int) = some j := by
    unfold ixN
    rw [if_pos (by omega), if_pos (by omega)]; simp
  unfold atI; rw [e]; exact h
theorem atI_last {α : Type} (xs : List α) (v : α) : atI (xs ++ [v]) (-1) = some v := by
  have hl : (xs ++ [v]).length = xs.length + 1 := by simp
  have e : ixN (xs ++ [v]).length (-1) = some xs.length := by
    unfold ixN
    rw [hl, if_neg (by decide), if_pos (by omega)]
    congr 1
    omega
  unfold atI
  rw [e]
  show (xs ++ [v])[xs.length]? = some v
  simp

/-! ### what may be subscripted -/
/-- what stands as an index of a plain subscript -/
def PlainIx (b : Expr) : Prop := ∀ o i, subscripted b false o i = operate [o, i] (getItem o i)
/-- a subscript by values -/
def IxR (X : Cx) (r : R2) : Prop :=
  ∀ (value slice : Expr) (pins : List (Addr × Obj)) (s : Shared) (σ : St) (H : Hp) (x y : V) (v u : Value) (Q : VK), Inv X pins σ H s → RelV x v → RelV y u → r x y H Q →
    subscripted slice false v u = operate [v, u] (getItem v u) → wpAny (model X.prog X.w) X.A (subscriptTail value slice v u) (EP X pins σ Q) X.xe s
/-- a call of a builtin's method by values: the receiver, the arguments -/
def MtR (X : Cx) (id : String) (r : V → List V → Hp → VK → Prop) : Prop :=
  ∀ (pins : List (Addr × Obj)) (s : Shared) (σ : St) (H : Hp) (x : V) (xs : List V) (v : Value) (us : List Value) (Q : VK), Inv X pins σ H s → RelV x v → Vals xs us → r x xs H Q →
    wpAny (model X.prog X.w) X.A (call (.builtin id) (v :: us)) (EP X pins σ Q) X.xe s
section
variable {X : Cx} {a b : Expr} {ta tb : TE} {pos : Pos}
theorem IxR.or {r r' : R2} (h : IxR X r) (h' : IxR X r') : IxR X (fun x y H Q => r x y H Q ∨ r' x y H Q) := by
  intro value slice pins s σ H x y v u Q I rx ry q hs
  rcases q with q | q
  · exact h value slice pins s σ H x y v u Q I rx ry q hs
  · exact h' value slice pins s σ H x y v u Q I rx ry q hs
theorem MtR.or {id : String} {r r' : V → List V → Hp → VK → Prop} (h : MtR X id r) (h' : MtR X id r') : MtR X id (fun x xs H Q => r x xs H Q ∨ r' x xs H Q) := by
  intro pins s σ H x xs v us Q I rx rs q
  rcases q with q | q
  · exact h pins s σ H x xs v us Q I rx rs q
  · exact h' pins s σ H x xs v us Q I rx rs q
/-- a[b] -/
theorem pe_ix {r : R2} (hr : IxR X r) (ha : PE X a ta) (hb : PE X b tb) (hs : PlainIx b) : PE X (.Subscript a b pos) (tOp r ta tb) := by
  intro pins s σ H Q I h
  exact Subscript_ (binT ha hb I h fun v u s2 x y H2 I2 rx ry q => hr a b pins s2 σ H2 x y v u Q I2 rx ry q (hs _ _))

def rIxL (K : PySem.W.Frag) : R2 := fun x y H Q => ∃ p xs i v, x = .ref p ∧ y = .int i ∧ SqL K H p xs ∧ atI xs i = some v ∧ Q v H
def rIxT (K : PySem.W.Frag) : R2 := fun x y H Q => ∃ p xs i v, x = .ref p ∧ y = .int i ∧ SqT K H p xs ∧ atI xs i = some v ∧ Q v H
theorem ix_list : IxR X (rIxL X.K) := by
  intro value slice pins s σ H x y v u Q I rx ry h hs
  obtain ⟨p, xs, i, z, rfl, rfl, hq, he, q⟩ := h
  cases rx
  obtain ⟨t, rfl⟩ := ry
  obtain ⟨its, r, pl, hz⟩ := I.list hq
  obtain ⟨j, h1, h2, h3, h4, h5⟩ := atI_get he
  obtain ⟨w, ew, rw'⟩ := r.get h2
  have hl := r.length
  have hn := line63
  have fin : EP X pins σ Q w s := ⟨z, H, I, rw', q⟩
  by_cases h0 : 0 ≤ i
  · have hj : i.toNat = j := by
      rw [seqIndex_of h0 h5] at h1
      exact Option.some.inj h1
    exact item_listR pl.isList h0 (by omega) (by rw [hj]; simpa using ew) fin hs
  · have hj : (i + (its.toArray.size : Int)).toNat = j := by
      rw [seqIndex_neg (by omega) h4] at h1
      rw [List.size_toArray, ← hl]
      exact Option.some.inj h1
    exact subscriptTail_builtinR (x := w) pl.isList.typeIs slot_list_getitem.lookup
      (wpAny_getItem_list_neg (Q := fun r s' => r = w ∧ EP X pins σ Q r s') pl.isList (by omega) (by rw [List.size_toArray] <;> omega) (by omega) (by rw [hj]; simpa using ew) ⟨rfl, fin⟩) hs
theorem ix_tup : IxR X (rIxT X.K) := by
  intro value slice pins s σ H x y v u Q I rx ry h hs
  obtain ⟨p, xs, i, z, rfl, rfl, hq, he, q⟩ := h
  cases rx
  obtain ⟨t, rfl⟩ := ry
  obtain ⟨its, r, pl, hz⟩ := I.tuple hq
  obtain ⟨j, h1, h2, h3, h4, h5⟩ := atI_get he
  obtain ⟨w, ew, rw'⟩ := r.get h2
  have hl := r.length
  have hn := line63
  have fin : EP X pins σ Q w s := ⟨z, H, I, rw', q⟩
  exact subscriptTail_builtinR (x := w) pl.typeIs slot_tuple_getitem.lookup
    (getItem_tuple (j := j) (Q := fun r s' => r = w ∧ EP X pins σ Q r s') pl (by omega) (by omega) (by rw [List.size_toArray, ← hl]; exact h1) (by simpa using ew) ⟨rfl, fin⟩) hs
/-! ### xs[i] = v, any sign -/
/-- the list's object behind a store -/
theorem mapSeq_set (its : List Value) (n j : Nat) (u : Value) : Obj.mapSeq (·.setIfInBounds j u) { cls := .type "list", data := .seq its.toArray n } = { cls := .type "list", data := .seq (its.set j u).toArray n } := by
  simp [Obj.mapSeq]
theorem Inv.lst {pins : List (Addr × Obj)} {σ : St} {H : Hp} {s : Shared} {p : Addr} {xs : List V} (I : Inv X pins σ H s) (h : H p = some (.lst xs)) :
    ∃ (its : List Value) (n : Nat), Vals xs its ∧ s.heap.get? p = some { cls := .type "list", data := .seq its.toArray n } ∧ xs.length ≤ sizeLine := by
  obtain ⟨z, its, n, r, e⟩ := I.hok p _ h
  exact ⟨its, n, r, e, z⟩
/-- the list at p is written by an update of its object -/
theorem Inv.lstUpd {pins : List (Addr × Obj)} {σ : St} {H : Hp} {s : Shared} {p : Addr} {xs ys : List V} {its its' : List Value} {n n' : Nat} {f : Obj → Obj} (I : Inv X pins σ H s) (h : H p = some (.lst xs))
    (ho : s.heap.get? p = some { cls := .type "list", data := .seq its.toArray n }) (hf : f { cls := .type "list", data := .seq its.toArray n } = { cls := .type "list", data := .seq its'.toArray n' }) (r : Vals ys its') (hz : ys.length ≤ sizeLine) (t : Nat) :
    Inv X pins σ (upd H p (.lst ys)) { s with heap := s.heap.update p f, toks := t } := by
  have e : (s.heap.update p f).get? p = some { cls := .type "list", data := .seq its'.toArray n' } := by
    rw [Heap.get?_update_self f ho (by rw [hf] <;> rfl), hf]
  refine I.write (x := p) (e := p) (by rw [h]; trivial) (.inl rfl) (fun b u hb q => (Heap.get?_update_other _ _ (Ne.symm hb)).trans q) ⟨_, e⟩ ?_
  exact ⟨hz, its', n', r, e⟩
def rSetL : V → V → V → Hp → (Hp → Prop) → Prop := fun o i v H Q => ∃ p xs k j, o = .ref p ∧ i = .int k ∧ H p = some (.lst xs) ∧ ixN xs.length k = some j ∧ Q (upd H p (.lst (xs.set j v)))
theorem set_list : PSet X rSetL := by
  intro pins s σ H o i v ov iv u Q I ro ri rv h
  obtain ⟨p, xs, k, j, rfl, rfl, hp, hj, q⟩ := h
  cases ro
  obtain ⟨t, rfl⟩ := ri
  obtain ⟨its, n, r, ho, hz⟩ := I.lst hp
  obtain ⟨h1, h2, h3, h4⟩ := ixN_seq hj
  have hl := r.length
  have hn := line63
  have I' : Inv X pins σ (upd H p (.lst (xs.set j v))) { s with heap := s.heap.update p (Obj.mapSeq (·.setIfInBounds j u)) } :=
    I.lstUpd hp ho (mapSeq_set its n j u) (r.set rv j) (by rw [List.length_set]; exact hz) s.toks
  by_cases h0 : 0 ≤ k
  · have hk : k.toNat = j := by
      rw [seqIndex_of h0 h4] at h1
      exact Option.some.inj h1
    exact PySem.W.ki_setAt ho h0 (by omega) (by rw [List.size_toArray, ← hl]; exact h4) (by rw [hk]; exact ⟨_, I', q⟩)
  · have hk : (k + (its.toArray.size : Int)).toNat = j := by
      rw [seqIndex_neg (by omega) h3] at h1
      rw [List.size_toArray, ← hl]
      exact Option.some.inj h1
    exact PySem.W.ki_setBack ho (by omega) (by rw [List.size_toArray, ← hl]; exact h3) (by omega) (by rw [hk]; exact ⟨_, I', q⟩)

/-! ### slices -/
theorem slice_bounds (lo hi : Option Int) (n : Nat) : (sliceBounds lo hi none n).1 = ((HT.sIx n 0 lo : Nat) : Int) ∧ (sliceBounds lo hi none n).2.1 = ((HT.sIx n n hi : Nat) : Int) ∧ (sliceBounds lo hi none n).2.2 = 1 := by
  refine ⟨?_, ?_, rfl⟩
  · cases lo with
    | none => simp [sliceBounds, HT.sIx]
    | some i =>
      simp only [sliceBounds, HT.sIx, Option.getD_none, show (1 : Int) > 0 by decide, if_true]
      by_cases h : i < 0
      · simp only [h, if_true] <;> omega
      · simp only [h, if_false] <;> omega
  · cases hi with
    | none => simp [sliceBounds, HT.sIx]
    | some i =>
      simp only [sliceBounds, HT.sIx, Option.getD_none, show (1 : Int) > 0 by decide, if_true]
      by_cases h : i < 0
      · simp only [h, if_true] <;> omega
      · simp only [h, if_false] <;> omega
theorem slicePick_cut (its : List Value) (lo hi : Option Int) : slicePick its.toArray lo hi none = ((its.drop (HT.sIx its.length 0 lo)).take (HT.sIx its.length its.length hi - HT.sIx its.length 0 lo)).toArray := by
  obtain ⟨h1, h2, h3⟩ := slice_bounds lo hi its.toArray.size
  unfold slicePick
  rw [h1, h2, h3]
  simp only [sliceRange_one, pick_run, List.size_toArray] <;> rfl
/-- xs[lo:hi] of a list: a new list -/
def rSlL (K : PySem.W.Frag) : V → Option Int → Option Int → Hp → VK → Prop := fun x lo hi H Q => ∃ a xs, x = .ref a ∧ SqL K H a xs ∧ ∀ p, H p = none → Q (.ref p) (upd H p (.lst (cutV xs lo hi)))
theorem sl_list : SlR X (rSlL X.K) := by
  intro pins s σ H x v vl vu lo hi sl Q I rx hs pl pu h
  obtain ⟨a, xs, rfl, hx, q⟩ := h
  cases rx
  obtain ⟨its, r, ht, hz⟩ := I.list hx
  have hlen := r.length
  refine ⟨"list", _, slot_list_getitem.lookup, ht.isList.typeIs, ?_⟩
  refine wpAny_getItem_list_slice ht.isList hs pl pu .none (by simp) ?_ (by rw [List.size_toArray] <;> omega)
  rw [slicePick_cut, ← hlen]
  refine ⟨.ref s.heap.objs.size, _, I.laid (t' := s.toks) (o := .lst (cutV xs lo hi)) (fun b ob q => Heap.get?_push_of_some _ q) (Nat.le_refl _) ?_, rfl, q _ (I.hok.fresh (Nat.le_refl _))⟩
  exact ⟨Nat.le_trans (cutV_length xs lo hi) hz, _, 0, (r.drop (HT.sIx xs.length 0 lo)).take (HT.sIx xs.length xs.length hi - HT.sIx xs.length 0 lo), Heap.get?_push_size _ rfl⟩

/-! ### in, not in: flat items -/
/-! ### len, list(x), tuple(x) of any list or tuple that is read -/
theorem call_len_seq : CallR X (.builtin "len") (fun xs H Q => ∃ p ys, xs = [.ref p] ∧ (SqL X.K H p ys ∨ SqT X.K H p ys) ∧ Q (.int ys.length) H) := by
  intro pins s σ H xs us Q I r h
  obtain ⟨p, ys, rfl, hq, q⟩ := h
  obtain ⟨u, rfl, rx⟩ := vals1 r
  cases rx
  have hn := line63
  rcases hq with hq | hq
  · obtain ⟨its, r', pl, hz⟩ := I.list hq
    have hlen := r'.length
    exact Calls.call_len_list pl.isList (by simp only [List.size_toArray] <;> omega) ⟨.int ys.length, H, I.tok _, ⟨s.toks + 1, by rw [List.size_toArray, hlen]⟩, q⟩
  · obtain ⟨its, r', pl, hz⟩ := I.tuple hq
    have hlen := r'.length
    exact len_tuple pl (by simp only [List.size_toArray] <;> omega) ⟨.int ys.length, H, I.tok _, ⟨s.toks + 1, by rw [List.size_toArray, hlen]⟩, q⟩
theorem CallR.or {f : Value} {r r' : List V → Hp → VK → Prop} (h : CallR X f r) (h' : CallR X f r') : CallR X f (fun xs H Q => r xs H Q ∨ r' xs H Q) := by
  intro pins s σ H xs us Q I rs q
  rcases q with q | q
  · exact h pins s σ H xs us Q I rs q
  · exact h' pins s σ H xs us Q I rs q
theorem call_list_of : CallR X (.type "list") (fun xs H Q => ∃ p ys, xs = [.ref p] ∧ (SqL X.K H p ys ∨ SqT X.K H p ys) ∧ ∀ l, H l = none → Q (.ref l) (upd H l (.lst ys))) := by
  intro pins s σ H xs us Q I r h
  obtain ⟨p, ys, rfl, hq, q⟩ := h
  obtain ⟨u, rfl, rx⟩ := vals1 r
  cases rx
  have fin : ∀ (its : List Value), Vals ys its → ys.length ≤ sizeLine → ∀ (h' : Heap) (c' : Nat), (∀ b o', s.heap.get? b = some o' → h'.get? b = some o') →
      h'.get? s.heap.objs.size = some { cls := .type "list", dict := none, data := .seq its.toArray c', slots := #[] } → EP X pins σ Q (.ref s.heap.objs.size) { s with heap := h' } := fun its r' hz h' c' kp e =>
    ⟨.ref s.heap.objs.size, _, I.laid (t' := s.toks) kp (Nat.le_refl _) (show ObjOk X.prog X.w _ h' _ (.lst ys) from ⟨hz, its, c', r', e⟩), rfl, q _ (I.hok.fresh (Nat.le_refl _))⟩
  rcases hq with hq | hq
  · obtain ⟨its, r', pl, hz⟩ := I.list hq
    have hlen := r'.length
    obtain ⟨o, ho, hc, n, hd⟩ := pl.isList
    exact call_list_seq p (.inl rfl) ho hc hd (fun h' c' kp e => fin its r' hz h' c' kp e) (by simp only [List.size_toArray] <;> omega)
  · obtain ⟨its, r', pl, hz⟩ := I.tuple hq
    have hlen := r'.length
    obtain ⟨o, ho, hc, n, hd⟩ := pl
    exact call_list_seq p (.inr rfl) ho hc hd (fun h' c' kp e => fin its r' hz h' c' kp e) (by simp only [List.size_toArray] <;> omega)
/-! ### the call of a builtin's method: o.m(..) -/
/-- the value is of that builtin type -/
def tyV (K : PySem.W.Frag) (T : String) (x : V) (H : Hp) : Prop := match x with
  | .str _ => T = "str"
  | .int _ => T = "int"
  | .ref p => (T = "list" ∧ ∃ xs, SqL K H p xs) ∨ (T = "tuple" ∧ ∃ o, K.lookup p = some o ∧ o.cls = .type "tuple" ∧ o.dict = none) ∨
      (T = "dict" ∧ ((∃ kvs, H p = some (.dK kvs)) ∨ ∃ kvs, H p = some (.dT kvs))) ∨ (T = "set" ∧ ∃ S n, H p = some (.set S n))
  | _ => False
theorem tyV_is {pins : List (Addr × Obj)} {σ : St} {H : Hp} {s : Shared} {T : String} {x : V} {v : Value} (I : Inv X pins σ H s) (r : RelV x v) (ty : tyV X.K T x H) :
    s.TypeIs v T ∧ ∀ a, v = .ref a → ∃ ob, s.heap.get? a = some ob ∧ ob.dict = none := by
  cases x with
  | str z =>
    obtain ⟨t, rfl⟩ := r
    cases (show T = "str" from ty)
    exact ⟨typeIs_str s z t, fun _ e => nomatch e⟩
  | int i =>
    obtain ⟨t, rfl⟩ := r
    cases (show T = "int" from ty)
    exact ⟨typeIs_int s i t, fun _ e => nomatch e⟩
  | ref p =>
    cases r
    rcases ty with ⟨rfl, xs, hq⟩ | ⟨rfl, o, hk, hc, hd⟩ | ⟨rfl, hk⟩ | ⟨rfl, S, n, hk⟩
    · obtain ⟨its, _, pl, _⟩ := I.list hq
      refine ⟨pl.isList.typeIs, fun a e => ?_⟩
      cases e
      obtain ⟨o, n, e, c, hd, _⟩ := pl
      exact ⟨o, e, hd⟩
    · refine ⟨⟨o, I.kIn p o hk, hc⟩, fun a e => ?_⟩
      cases e
      exact ⟨o, I.kIn _ o hk, hd⟩
    · have z : ∃ o, s.heap.get? p = some o ∧ o.ExactDict := by
        rcases hk with ⟨kvs, hk⟩ | ⟨kvs, hk⟩
        · obtain ⟨_, _, _, _, o, _, _, e, ex, _⟩ := I.hok p _ hk
          exact ⟨o, e, ex⟩
        · obtain ⟨_, _, _, _, o, _, _, e, ex, _⟩ := I.hok p _ hk
          exact ⟨o, e, ex⟩
      obtain ⟨o, e, ex⟩ := z
      refine ⟨⟨o, e, ex.1⟩, fun a e2 => ?_⟩
      cases e2
      exact ⟨o, e, ex.2.1⟩
    · obtain ⟨o, _, _, _, e, ex, _⟩ := I.hok p _ hk
      refine ⟨⟨o, e, ex.1⟩, fun a e2 => ?_⟩
      cases e2
      exact ⟨o, e, ex.2.1⟩
  | _ => exact False.elim ty
def tBM (K : PySem.W.Frag) (T : String) (r : V → List V → Hp → VK → Prop) (to : TE) (t : TA) : TE := fun σ H Q => to σ H fun x H1 => tyV K T x H1 ∧ t σ H1 fun xs H2 => r x xs H2 Q
variable {o e : Expr} {es : List Expr} {to : TE} {t : TA} {name : Str} {apos cpos : Pos} {T id : String} {r : V → List V → Hp → VK → Prop}
theorem pe_bm (pa : PlainAttrs T) (slot : Slot T name id) (hty : typeOf (.builtin id) = pure (.type "method_descriptor")) (hm : MtR X id r) (ho : PE X o to) (ha : PA X (e :: es) t)
    (hbase : attributeBase o name X.env (eval o X.env) = eval o X.env := by rfl)
    (hfew : ((backTo cpos (starEach (e :: es) X.env)).all (fun x => !x.1) && (backToKw cpos (keywordEach [] X.env)).all (fun x => x.1.isSome)
      && decide ((e :: es).length + ([] : List Keyword).length + (if ([] : List Keyword).isEmpty then 0 else 1) < 30)) = true := by rfl)
    (hline : (apos.endLine == cpos.line) = true := by rfl) (hs : starEach (e :: es) X.env = (false, eval e X.env) :: starEach es X.env := by rfl) (hplain : (backTo cpos (starEach es X.env)).any (·.1) = false := by rfl) :
    PE X (.Call (.Attribute o name apos) (e :: es) [] cpos) (tBM X.K T r to t) := by
  intro pins s σ H Q I h
  refine wpAny_Call_method_late hbase hfew hline rfl (thn (ho pins s σ H _ I h) fun v s1 ⟨x, H1, I1, r1, ty, q1⟩ => ?_)
  obtain ⟨h1, h2⟩ := tyV_is I1 r1 ty
  refine ⟨T, id, pa, slot, hty, h1, h2, ?_⟩
  have hA := ha cpos pins s1 σ H1 _ I1 q1
  rw [hs] at hA ⊢
  refine Calls.callWith_builtin (by show (false || (backTo cpos (starEach es X.env)).any (·.1)) = false; rw [hplain] <;> rfl) (Calls.evalArgs_plain ?_)
  exact thn hA fun us s2 ⟨vs, H2, I2, r2, q2⟩ => hm pins s2 σ H2 x vs v us Q I2 r1 r2 q2
/- xs.append(e), list.index on a module's tuple .. are MtR facts of 06m -/
end
end L2

namespace L2
open PySem PySem.Spec PyProof.Rows

def MtM (X : Cx) (id : String) (r : V → List V → Hp → VK → Prop) : Prop :=
  ∀ (pins : List (Addr × Obj)) (s : Shared) (σ : St) (H : Hp) (x : V) (xs : List V) (v : Value) (us : List Value) (Q : VK), Inv X pins σ H s → RelV x v → Vals xs us → r x xs H Q →
    wpAny (model X.prog X.w) X.A (call (.builtin id) (v :: us)) (EP X pins σ Q) X.xe s

/-! ### lists of values -/
theorem Vals.one : ∀ {x : V} {us : List Value}, Vals [x] us → ∃ u, us = [u] ∧ RelV x u
  | _, _, .cons r .nil => ⟨_, rfl, r⟩
theorem Vals.two : ∀ {x y : V} {us : List Value}, Vals [x, y] us → ∃ u v, us = [u, v] ∧ RelV x u ∧ RelV y v
  | _, _, _, .cons r (.cons q .nil) => ⟨_, _, rfl, r, q⟩
theorem Vals.zero : ∀ {us : List Value}, Vals [] us → us = []
  | _, .nil => rfl
theorem Vals.reverse {xs : List V} {us : List Value} (h : Vals xs us) : Vals xs.reverse us.reverse := by
  induction h with
  | nil => exact .nil
  | cons r t ih => rw [List.reverse_cons, List.reverse_cons]; exact Vals.append ih (.cons r .nil)
theorem Vals.rep {xs : List V} {us : List Value} (h : Vals xs us) : ∀ k : Nat, Vals (List.replicate k xs).flatten (List.replicate k us).flatten
  | 0 => .nil
  | k + 1 => by
    rw [List.replicate_succ, List.replicate_succ, List.flatten_cons, List.flatten_cons]
    exact Vals.append h (Vals.rep h k)
theorem foldl_rep (its : List Value) : ∀ (k : Nat) (acc : List Value),
    List.foldl (fun x1 x2 => x1 ++ x2) acc.toArray (List.replicate k its.toArray) = (acc ++ (List.replicate k its).flatten).toArray
  | 0, acc => by simp
  | k + 1, acc => by
    have e : acc.toArray ++ its.toArray = (acc ++ its).toArray := by simp
    have e2 : (acc ++ its) ++ (List.replicate k its).flatten = acc ++ (List.replicate (k + 1) its).flatten := by
      rw [List.replicate_succ, List.flatten_cons, List.append_assoc]
    rw [← e2, ← foldl_rep its k (acc ++ its), ← e, List.replicate_succ, List.foldl_cons]

section
variable {X : Cx} {pins : List (Addr × Obj)} {σ : St} {H : Hp} {s : Shared} {l b : Addr} {xs ys zs : List V}

/-! ### the two steps: a tracked list is rewritten, a new list is laid -/
theorem Inv.lset {its its' : List Value} {n : Nat} {f : Array Value → Array Value} {t' : Nat} (I : Inv X pins σ H s) (hH : H l = some (.lst xs))
    (e : s.heap.get? l = some { cls := .type "list", data := .seq its.toArray n }) (hf : f its.toArray = its'.toArray) (hv : Vals ys its') (hz : ys.length ≤ sizeLine) :
    Inv X pins σ (upd H l (.lst ys)) { s with heap := s.heap.update l (Obj.mapSeq f), toks := t' } := by
  have q := PySem.IsL.update e f
  rw [hf] at q
  refine I.write (x := l) (e := l) (by rw [hH]; exact trivial) (.inl rfl) (fun b' u hb hu => (Heap.get?_update_other s.heap (Obj.mapSeq f) (Ne.symm hb)).trans hu) ⟨_, q⟩ ?_
  exact ⟨hz, its', _, hv, q⟩
theorem Inv.lnew {its : List Value} {t' : Nat} (I : Inv X pins σ H s) (hv : Vals ys its) (hz : ys.length ≤ sizeLine) :
    Inv X pins σ (upd H s.heap.objs.size (.lst ys)) { s with heap := s.heap.push { cls := .type "list", data := .seq its.toArray }, toks := t' } :=
  I.laid (fun _ _ q => Heap.get?_push_of_some _ q) (Nat.le_refl _) ⟨hz, its, 0, hv, Heap.get?_push_size _ rfl⟩
theorem Inv.fresh (I : Inv X pins σ H s) : H s.heap.objs.size = none := I.hok.fresh (Nat.le_refl _)
theorem Inv.lstM (I : Inv X pins σ H s) (hH : H l = some (.lst xs)) : xs.length ≤ sizeLine ∧ ∃ (its : List Value) (n : Nat), Vals xs its ∧ xs.length = its.length ∧ s.heap.get? l = some { cls := .type "list", data := .seq its.toArray n } := by
  obtain ⟨z, its, n, r, e⟩ := I.hok l _ hH
  exact ⟨z, its, n, r, r.length, e⟩

theorem notLongL {n : Nat} (h : n ≤ sizeLine) : Builtin.List.listTooLong n = false := by
  unfold Builtin.List.listTooLong
  exact decide_eq_false (by omega)
end

section
variable {X : Cx}

/-! ### methods -/
def rAppend : V → List V → Hp → VK → Prop := fun x vs H Q => ∃ l xs y, x = .ref l ∧ vs = [y] ∧ H l = some (.lst xs) ∧ xs.length < sizeLine ∧ Q .non (upd H l (.lst (xs ++ [y])))
theorem mt_append : MtM X "list.append" rAppend := by
  intro pins s σ H x vs v us Q I rx rv h
  obtain ⟨l, xs, y, rfl, rfl, hH, hz, q⟩ := h
  cases rx
  obtain ⟨u, rfl, ru⟩ := rv.one
  obtain ⟨z, its, n, r, hl, e⟩ := I.lstM hH
  refine call_meets F.slot_list_append ⟨_, e, rfl⟩ F.entry_list_append (F.args_list_append_2 _ _) (PySem.list_append l its.toArray n u (by rw [List.size_toArray]; omega)) ⟨e, ?_⟩
  refine ⟨.non, _, I.lset (its' := its ++ [u]) hH e (by simp) (r.append (.cons ru .nil)) ?_, rfl, q⟩
  rw [List.length_append, List.length_singleton]
  omega

/-! ### list + list, list += list, list * int -/
/-- a list times an int (a negative one is nothing) -/
def rRep : R2 := fun x y H Q => ∃ l k xs, x = .ref l ∧ y = .int k ∧ H l = some (.lst xs) ∧ -(2 ^ 63) ≤ k ∧ k < 2 ^ 63 ∧ xs.length * k.toNat ≤ sizeLine ∧
  ∀ p, H p = none → Q (.ref p) (upd H p (.lst (List.replicate k.toNat xs).flatten))
theorem len_rep {α : Type} (xs : List α) (k : Nat) : (List.replicate k xs).flatten.length = k * xs.length := by
  induction k with
  | zero => simp
  | succ k ih => rw [List.replicate_succ, List.flatten_cons, List.length_append, ih, Nat.succ_mul, Nat.add_comm]
theorem op_rep : OpR X (binaryOp .Mult) rRep := by
  intro pins s σ H x y v u Q I rx ry h
  obtain ⟨l, k, xs, rfl, rfl, hH, h1, h2, hz, q⟩ := h
  cases rx
  obtain ⟨t, rfl⟩ := ry
  obtain ⟨z, its, n, r, hl, e⟩ := I.lstM hH
  have hlen : its.toArray.size * k.toNat ≤ sizeLine := by rw [List.size_toArray, ← hl]; exact hz
  have hcap : ¬ its.toArray.size * k.toNat > (2 ^ 63 - 1) / 8 := by
    have : (sizeLine : Nat) ≤ (2 ^ 63 - 1) / 8 := by decide
    omega
  have hfit : ¬ (!Builtin.List.listFitsIndex k) = true := by
    rw [fitsIndex_both h1 h2]
    exact Bool.false_ne_true
  have hlong : ¬ Builtin.List.listTooLong (its.toArray.size * k.toNat) = true := by
    rw [notLongL hlen]
    exact Bool.false_ne_true
  have hnew : List.foldl (fun x1 x2 => x1 ++ x2) #[] (List.replicate (if its.toArray.isEmpty = true then 0 else k.toNat) its.toArray) = (List.replicate k.toNat its).flatten.toArray := by
    have f0 : ∀ m : Nat, List.foldl (fun x1 x2 => x1 ++ x2) #[] (List.replicate m its.toArray) = (List.replicate m its).flatten.toArray := fun m => by
      have := foldl_rep its m []
      rw [List.nil_append] at this
      exact this
    rw [f0]
    cases its with
    | nil => simp
    | cons a r' => rw [if_neg (by simp)]
  refine wpAny_binaryOp_repeat_ref (T := "list") (U := "int") (by decide) ⟨_, e, rfl⟩ (fun s' => typeIs_int s' k t) noFill_list_mul F.fills_int_mul F.slot_int_rmul repeat_list F.slot_int_index.lookup
    (call_meets F.slot_int_rmul (typeIs_int s k t) F.entry_int_rmul (F.args_int_rmul_2 _ _) (int___rmul___int_list k t l its.toArray n)
      ⟨e, rfl, ⟨_, e, rfl⟩, call_meets F.slot_list_mul ⟨_, e, rfl⟩ F.entry_list_mul (F.args_list_mul_2 _ _) (AutoListH.list___mul___list_int_3 l its.toArray n k t hfit hcap hlong) ⟨e, ?_⟩⟩)
  rw [hnew]
  exact ⟨.ref _, _, I.lnew (t' := s.toks) (r.rep k.toNat) (by rw [len_rep, Nat.mul_comm]; exact hz), rfl, q _ I.fresh⟩

/-! ### del xs[i] -/
end

/-! ### xs[a:b] = ys -/
section
variable {prog : Program} {w : World} {A : Around} {E : Value → Shared → Prop} {s : Shared}
end

section
variable {X : Cx}
end
end L2

namespace Att
open PySem PySem.W PySem.Calls PyProof.Rows

/-! ### the script -/
theorem ints_of_wellAll {P : Params} {h : Heap} : ∀ (ns : List Int) (vs : List Value), WellAll P h vs (ns.map WData.int) → IntsAre vs ns := by
  intro ns
  induction ns with
  | nil =>
    intro vs w
    rw [List.map_nil] at w
    cases w
    exact .nil
  | cons n ns ih =>
    intro vs w
    rw [List.map_cons] at w
    cases w with
    | cons a b =>
      cases a
      exact .cons _ _ (ih _ b)

theorem script_of {l : OpenLaw} {n : Nat} (hn : l.most = some n) {P : Params} {h : Heap} {args : List WData} {vals : List Value}
    (hpre : l.row.toRowW.claim.pre args = true) (hwl : WellAll P h vals args) :
    ∃ a vs ns, vals = [Value.ref a] ∧ args = [WData.list (ns.map WData.int)] ∧ h.get? a = some { cls := .type "list", data := .seq vs.toArray } ∧ IntsAre vs ns ∧ ns.length ≤ n := by
  have hsh : WShape.hasAll [] args [.list .int] = true := (pre_splitW hpre).1
  have hc : l.pre.holds [] { args := args } = true := (pre_splitW hpre).2
  obtain ⟨d, r, rfl, h1, h2⟩ := hasAllW_cons hsh
  obtain rfl := hasAllW_nil h2
  obtain ⟨xs, rfl, h3⟩ := hasW_list h1
  obtain ⟨ns, rfl⟩ := items_int h3
  have hlen : ns.length ≤ n := by
    unfold OpenLaw.pre at hc
    have h4 : (WTm.not (.lt (.lit (.int (n : Int))) (.len (.arg 0)))).holds [] { args := [.list (ns.map .int)] } = true := by
      have h4 := (holds_andW hc).1
      rw [hn] at h4
      exact h4
    have h5 := condW_of h4 (w_not (w_lt w_lit (w_len_list (w_arg rfl))))
    rw [List.length_map] at h5
    refine Nat.le_of_not_lt fun q => ?_
    have q' : (n : Int) < ((ns.length : Nat) : Int) := by omega
    first
      | (rw [decide_eq_true q'] at h5; exact absurd h5 (by decide))
      | (simp at h5; omega)
  cases hwl with
  | cons w1 w2 =>
    cases w2
    cases w1 with
    | list ho hall => exact ⟨_, _, ns, rfl, rfl, ho, ints_of_wellAll ns _ hall, hlen⟩

theorem post_true (l : OpenLaw) (args : List WData) : l.row.toRowW.claim.post args (.bool true) args = true :=
  postW_of (r := l.row.toRowW) (X := (true == true))
    (show WShape.has [] (.bool true) .bool = true by first | rfl | decide | simp [WShape.has, WShape.arms, WShape.armsAll])
    (show (WTm.eq .res (.lit (.bool true))).value [] { args := args, res := some (.bool true), after := args } = some (.bool (true == true)) from w_eq_bool (w_res rfl) w_lit) rfl

/-! ### the attachment: holds_open's last premise (the goal 'hc' behind k_head) from a wpAny of the law's body -/
/-- the same from a codeAny of the CALL (for a layer whose function contracts speak of calls) -/
theorem attach_call {l : OpenLaw} {n : Nat} {q : Program} {loose : List Str} {XP : (Str → Option Value) → Heap → Prop} {YP : World → Heap → Prop} {d : DefRec}
    (hn : l.most = some n) (hdf : d.params.defaults = [])
    (call : ∀ (w : World) (s₀ s₁ : Shared) (mg mb : Str → Option Value) (fa : Addr) (o : Obj) (pm cd doc : Value) (a : Addr) (vs : List Value) (ns : List Int),
      Ground q loose [] XP w s₀ mg mb s₁.heap → YP w s₁.heap →
      s₁.heap.get? fa = some o → o.data = .func (docDef d.name d.params d.body d.scope pm cd doc) → s₁.heap.CodeRec cd d.name → mg d.name = some (.ref fa) →
      s₁.heap.get? a = some { cls := .type "list", data := .seq vs.toArray } → IntsAre vs ns → ns.length ≤ n → s₁.gens = #[] →
      codeAny (model l.prog w) callerA (.call (.ref fa) ⟨[.ref a], []⟩) (fun r s' => r = .ok (.ret (.bool true)) ∧ OldK s₁.heap s'.heap ∧ s'.os = s₁.os ∧ AllBare s'.gens) s₁) :
    WalkO q loose XP YP l.row.toRowW d [] (fun f vs => PySem.call f vs) := by
  intro w s₀ s₁ mg mb G Y fa o pm cd doc dV kV ho hd hcd hD hmg hg args vals as hpre hlay hrd hwl hlo
  obtain rfl : dV = .none := Dflts.none hD hdf
  obtain rfl : kV = .none := Dflts.noKw hD
  obtain ⟨a, vs, ns, rfl, rfl, hobj, hints, hlen⟩ := script_of hn hpre hwl
  refine enter_call (codeAny_mono (call w s₀ s₁ mg mb fa o pm cd doc a vs ns G Y ho (fd_plain hd) hcd hmg hobj hints hlen hg) fun r s' hq => ?_)
  obtain ⟨rfl, h2, h3, h4⟩ := hq
  exact ⟨.inl ⟨.bool true, .bool true, [], rfl, fun _ => rfl, .bool true, post_true l _, fun _ => ⟨List.Pairwise.nil, fun _ hm => (nomatch hm)⟩⟩, h2, h3, h4⟩

/-! ### rules over ANY heap (no ledger) from facts about the written part K: the library's own take a ledger (News) for what they write -/
section
variable {prog : Program} {w : World} {A : Around} {E : Value → Shared → Prop} {s : Shared} {K : Frag}

/-! the whole heap as the ledger: makes every rule that writes through a ledger a rule over any heap -/
def ledger (h : Heap) (L d : Addr) : List (Addr × Obj) := (List.range h.objs.size).filterMap fun a => if a = L ∨ a = d then none else (h.get? a).map fun o => (a, o)
end
end Att

namespace L2
open PySem PySem.Spec PyProof.Rows

theorem vals_ints : ∀ {vs : List Value} {ns : List Int}, IntsAre vs ns → Vals (ns.map V.int) vs
  | _, _, .nil => .nil
  | _, _, .cons n t h => .cons ⟨t, rfl⟩ (vals_ints h)

/-- nothing is tracked but the script, known to the object (or it is an object of the module) -/
def Only (H : Hp) : Prop := ∀ b, H b = none ∨ ∃ o xs, H b = some (.frz o (.lst xs))

/-- THE HEAD: the law's promise, at the heap behind the top. F, the promise of the law's def, may use that base is part of the heap (so K.In base, base.Ns mainGlobals mg stand in Mod) -/
theorem law_call {P : Program} {w : World} {K : PySem.W.Frag} {mg mb : Str → Option Value} {CX : CXT} {k : Nat} {fa a : Addr} {fd : FuncData} {x : Str} {sp : Sp} {s₁ : Shared} {vs : List Value} {ns : List Int}
    (KX : K.In s₁.heap) (hns : s₁.heap.Ns mainGlobals mg) (hb : s₁.heap.Ns builtinsNs mb) (hbb : ∀ x : Str, x ≠ "__name__" → mb x = bootBuiltins x) (hlim : s₁.heap.NoLimit) (hg : s₁.gens = #[])
    (ha : s₁.heap.get? a = some { cls := .type "list", data := .seq vs.toArray }) (hi : IntsAre vs ns) (hl : ns.length ≤ sizeLine) (hr : Room k callerA)
    (F : ∀ base : Heap, K.In base → base.Ns mainGlobals mg → FnOk P w K mg base CX k fa fd [x] sp) (hbind : ∀ (s : Shared) (u : Value), BindsTo s fd ⟨[u], []⟩ [(x, u)])
    (hsp : ∀ H : Hp, Only H → SqL K H a (ns.map V.int) → sp [.ref a] H (fun v _ => v = .bl true) fun _ _ _ => False)
    (hCX : ∀ H e s', CX [] H s₁ (fun _ _ _ => False) e s' → False) :
    codeAny (model P w) callerA (.call (.ref fa) ⟨[.ref a], []⟩) (fun r s' => r = .ok (.ret (.bool true)) ∧ OldK s₁.heap s'.heap ∧ s'.os = s₁.os ∧ AllBare s'.gens) s₁ := by
  have rv := vals_ints hi
  have lenV := hi.length
  -- from an abstract heap in which nothing but the script may be tracked
  have core : ∀ H : Hp, Only H → SqL K H a (ns.map V.int) → HOk P w H s₁.heap → (∀ b, H b ≠ none → b = a) → (H a ≠ none → K.lookup a = none) →
      codeAny (model P w) callerA (.call (.ref fa) ⟨[.ref a], []⟩) (fun r s' => r = .ok (.ret (.bool true)) ∧ OldK s₁.heap s'.heap ∧ s'.os = s₁.os ∧ AllBare s'.gens) s₁ := by
    intro H hO hS hok hA hK
    have base_of : ∀ {b : Addr} {o : Obj}, s₁.heap.get? b = some o → H b = none → (hidT s₁.heap H).get? b = some o := fun e n => hidT_get e n
    have noA : ∀ {b : Addr} {o : Obj} {es : Array DictEntry} {ep : Nat}, s₁.heap.get? b = some o → o.data = .dict es ep → H b = none := fun {b o es ep} e d => by
      cases q : H b with
      | none => rfl
      | some u =>
        have e' : b = a := hA b (by rw [q]; simp)
        subst e'
        rw [ha] at e; cases e
        have d' : Data.seq vs.toArray _ = Data.dict es ep := d
        cases d'
    have nsK : ∀ {b : Addr} {m : Str → Option Value}, s₁.heap.Ns b m → (hidT s₁.heap H).Ns b m := fun {b m} ⟨o, es, ep, e, d, r⟩ => ⟨o, es, ep, base_of e (noA e d), d, r⟩
    have hKb : K.In (hidT s₁.heap H) := fun b o e => base_of (KX b o e) (by
      cases q : H b with
      | none => rfl
      | some u =>
        have e' : b = a := hA b (by rw [q]; simp)
        subst e'
        rw [hK (by rw [q]; simp)] at e; cases e)
    have hM : Mod K mg (hidT s₁.heap H) := ⟨hKb, nsK hns, ⟨mb, nsK hb, hbb⟩, let ⟨mc, h1, h2⟩ := hlim; ⟨mc, nsK h1, h2⟩⟩
    have e0 : Env0 P w K mg (hidT s₁.heap H) callerA [] s₁ H := ⟨rfl, hM, fun b o e => of_hidT e, Nat.le_of_eq (hidT_size _ _), trivial, fun b hb => absurd (show b ∈ ([] : List Addr) from hb) (by simp), hok, .of_eq hg⟩
    refine codeAny_mono ((F _ hKb (nsK hns)).run callerA [] s₁ H ⟨[.ref a], []⟩ [.ref a] [.ref a] _ _ hr e0 (hbind s₁ (.ref a)) (.cons rfl .nil) (hsp H hO hS)) fun r s' h => ?_
    cases r with
    | error e => exact (hCX H e s' h).elim
    | ok fl =>
      cases fl with
      | next => exact False.elim h
      | brk => exact False.elim h
      | cont => exact False.elim h
      | ret u =>
        obtain ⟨v, H', os, bare, un, hok', r', q⟩ := h
        have q' : v = .bl true := q
        subst q'
        obtain rfl : u = Value.bool true := r'
        refine ⟨rfl, OldK.of_keep fun b o e => ?_, os, bare⟩
        cases q : H b with
        | none => exact un.keep b o e q (by intro z; exact absurd (show b ∈ ([] : List Addr) from z) (by simp)) (by simp)
        | some u =>
          rcases hO b with z | ⟨ob, xs, z⟩
          · rw [q] at z; cases z
          · have z2 := un.frzs b ob _ z
            obtain ⟨e1, _⟩ := hok b _ z
            obtain ⟨e2, _⟩ := hok' b _ z2
            rw [e] at e1; cases e1
            exact e2
  cases hk : K.lookup a with
  | some o =>
    -- the script is one of the module's own objects
    have e := KX a o hk
    rw [ha] at e
    cases e
    refine core (fun _ => none) (fun _ => .inl rfl) (.inr ⟨_, vs.toArray, _, hk, rfl, rfl, rfl, by rw [List.size_toArray, lenV]; exact hl, by simpa using rv⟩) (fun b u z => by have z' : (none : Option HO) = some u := z; cases z') (fun b z => absurd rfl z) fun z => absurd rfl z
  | none =>
    refine core (fun b => if b = a then some (.frz { cls := .type "list", data := .seq vs.toArray } (.lst (ns.map V.int))) else none) (fun b => ?_) (.inl (.inr ⟨{ cls := .type "list", data := .seq vs.toArray }, if_pos rfl⟩)) (fun b u z => ?_) (fun b z => ?_) fun _ => hk
    · by_cases hb : b = a
      · exact .inr ⟨_, _, if_pos hb⟩
      · exact .inl (if_neg hb)
    · by_cases hb : b = a
      · have z' := (if_pos hb).symm.trans z
        cases z'
        subst hb
        exact ⟨ha, by rw [List.length_map]; exact hl, vs, _, rv, ha⟩
      · have z' := (if_neg hb).symm.trans z
        cases z'
    · by_cases hb : b = a
      · exact hb
      · exact absurd (if_neg hb) z
end L2

namespace L2
open PySem PySem.Spec PyProof.Rows

abbrev KOf {K : PySem.W.Frag} {h : Heap} (_ : K.In h) : PySem.W.Frag := K

/-- the goal that k_head leaves (case hc), from the law's promise. F gives the function object fd (K's own) once, then the promise over every base -/
theorem walk_of {l : PySem.W.OpenLaw} {n k : Nat} {q : Program} {loose : List Str} {XP : (Str → Option Value) → Heap → Prop} {YP : World → Heap → Prop} {d : DefRec} {K : Params → PySem.W.Frag} {CX : World → CXT} {sp : World → Sp} {x : Str}
    (hn : l.most = some n) (hn2 : n ≤ sizeLine) (hdf : d.params.defaults = []) (hr : Room k callerA)
    (hY : ∀ (w : World) (h : Heap), YP w h → (K w.params).In h)
    (F : ∀ (w : World) (mg : Str → Option Value) (fa : Addr) (h : Heap), (K w.params).In h → h.Ns mainGlobals mg → mg d.name = some (.ref fa) →
      ∃ fd : FuncData, (∀ (s : Shared) (u : Value), BindsTo s fd ⟨[u], []⟩ [(x, u)]) ∧
        ∀ base : Heap, (K w.params).In base → base.Ns mainGlobals mg → FnOk l.prog w (K w.params) mg base (CX w) k fa fd [x] (sp w))
    (hsp : ∀ (w : World) (H : Hp) (a : Addr) (ns : List Int), ns.length ≤ n → Only H → SqL (K w.params) H a (ns.map V.int) → sp w [.ref a] H (fun v _ => v = .bl true) fun _ _ _ => False)
    (hCX : ∀ (w : World) (H : Hp) (s : Shared) (e : Value) (s' : Shared), CX w [] H s (fun _ _ _ => False) e s' → False) :
    PySem.W.WalkO q loose XP YP l.row.toRowW d [] (fun f vs => PySem.call f vs) := by
  refine Att.attach_call hn hdf fun w s₀ s₁ mg mb fa o pm cd doc a vs ns G Y ho hd hcd hmg hobj hints hlen hg => ?_
  have KX := hY w _ Y
  obtain ⟨fd, hb, hF⟩ := F w mg fa _ KX G.T.g hmg
  exact law_call KX G.T.g G.T.b G.T.builtins G.T.nolimit hg hobj hints (Nat.le_trans hlen hn2) hr hF hb (fun H hO hS => hsp w H a ns hlen hO hS) fun H e s' => hCX w H s₁ e s'
end L2

/- THE LAST THEOREM (shape; LID, My.* are yours):
   My.Adr: a structure of the addresses that your layer names (classes, functions); My.Txt K t: a structure (Prop) of the equations over K;
   My.txt_mk : {K} {implicit addresses ..} (e1 : nsIn K mainGlobals "law" = some (some (.ref f))) (e2 : K.lookup f = some ⟨oc, od, .func (fnOf "law" "law" params body scope dV kV doc pm an cdv ct), sl⟩) (e3 : codeIn K cdv "law" = true) .. : ∃ t, My.Txt K t

set_option maxRecDepth 100000 in
set_option maxHeartbeats 0 in
theorem PySem.Challenge.cw_LID_holds : PySem.Challenge.rw_LID.Holds := by
  w_on; o_law; k_head; (case hw => w_witness2)
  k_fill
  refine L2.walk_of (l := PySem.Challenge.rw_LID) (n := 63) (k := 40) (x := "script") (CX := fun w => ..) (sp := fun _ => My.sp_law) rfl (by decide) rfl ⟨rfl, by decide, by decide⟩ (fun w h Y => PySem.W.kIn_of Y) ?F ?S ?C
  case F =>
    intro w mg fa h KX G hmg
    have T : ∃ t, My.Txt (L2.KOf KX) t := by
      dsimp only [L2.KOf]                          -- K must stand as «<heap const> w.params» for k_is
      refine' My.txt_mk ?e1 ?e2 ?e3 ..
      (case e1 => PySem.W.k_is)                    -- in the order: a name -> its address -> its object -> its parts
      (case e2 => PySem.W.k_is)
      ..
    obtain ⟨t, T⟩ := T
    have e0 := hmg.symm.trans (PySem.W.mg_of KX G T.law)
    cases e0                                       -- fa is the law's own address
    exact ⟨_, fun s u => .of_eq rfl, fun base kb nb => My.law_fn T kb nb⟩     -- if «.of_eq rfl» comes too early: refine' ⟨_, ?b, fun base kb nb => My.law_fn T kb nb⟩; exact fun s u => .of_eq rfl
  case S => exact fun w H a ns hl hO hS => ..
  case C => exact ..
(the tactic k_is has no namespace: write k_is) -/

/-! SHORT WORDS over the layer: a def of the text, its body, what a loop and a test want. -/
namespace L2
open PySem PySem.Spec PyProof.Rows

/-! ### the text by places -/
/-- the j-th statement of a class's body -/
def inClass (s : Stmt) (j : Nat) : Stmt := match s with
  | .ClassDef _ _ _ body _ _ _ _ _ _ _ => body.getD j (.Pass ⟨0, 0, 0, 0⟩)
  | _ => .Pass ⟨0, 0, 0, 0⟩
def defArgs (s : Stmt) : Arguments := match s with
  | .FunctionDef _ a _ _ _ _ _ _ _ _ => a
  | _ => { posonlyargs := [], args := [], vararg := none, kwonlyargs := [], kw_defaults := [], kwarg := none, defaults := [] }
def defBody (s : Stmt) : List Stmt := match s with
  | .FunctionDef _ _ b _ _ _ _ _ _ _ => b
  | _ => []
def defScope (s : Stmt) : Scope := match s with
  | .FunctionDef _ _ _ _ _ _ sc _ _ _ => sc
  | _ => { kind := .function, names := [], isGenerator := false, isCoroutine := false }

/-! ### no exception leaves a def -/
abbrev CX0 : CXT := fun _ _ _ _ _ _ => False
abbrev E0 : XK := fun _ _ _ => False
theorem pass0 {X : Cx} : Passes CX0 X E0 := fun _ _ _ _ _ _ _ h => h.elim

/-! ### a def (or method) of the text as it stands behind the top -/
structure Fun (K : PySem.W.Frag) (x qual : Str) (st : Stmt) (f : Addr) (fd : FuncData) : Prop where
  ex : ∃ (oc : Value) (od : Option Addr) (kV doc pm : Value) (an : Option Addr) (cdv ct : Value) (osl : Array (Option Value)),
    fd = PySem.W.fnOf x qual (defArgs st) (defBody st) (defScope st) .none kV doc pm an cdv ct ∧ K.lookup f = some ⟨oc, od, .func fd, osl⟩ ∧ PySem.W.codeIn K cdv qual = true
  kp : PySem.W.keepIn K (.ref f) = true
section
variable {P : Program} {w : World} {K : PySem.W.Frag} {mg : Str → Option Value} {base : Heap}
/-- THE RULE for a def: its body as a term of rules, and the reading of that term -/
theorem Fun.ok {x qual : Str} {st : Stmt} {f : Addr} {fd : FuncData} {N ps : List Str} {k : Nat} {sp : Sp} (F : Fun K x qual st f fd) (S : FnScope N ps (defScope st)) (len : ∀ vs H Q E, sp vs H Q E → vs.length = ps.length)
    (hbody : ∀ (cdv : Value) (A : Around) (outer : List Env) (s : Shared) (H : Hp) (vs : List V) (Q : VK) (E : XK), Room k (A.deeper (envOfC qual (defScope st) s.heap.objs.size f cdv)) → sp vs H Q E →
      ∃ t, PSs (cxOf CX0 P w K mg base N qual (defScope st) f cdv A outer s H E).nox (defBody st) t ∧ t { nx := fun _ H' => Q .non H', rt := Q } (start N vs) H) : FnOk P w K mg base CX0 (k + 1) f fd ps sp := by
  obtain ⟨oc, od, kV, doc, pm, an, cdv, ct, osl, rfl, lk, hcd⟩ := F.ex
  refine fn_of lk hcd S len fun A outer s H vs Q E hr hsp => ?_
  obtain ⟨t, h, q⟩ := hbody cdv A outer s H vs Q E hr hsp
  exact ⟨t, h.nox, q⟩
/-- how its arguments bind (no defaults): h is «fun _ _ _ _ _ _ us hl => match us, hl with | [_, _], _ => rfl», one _ a parameter -/
theorem Fun.binds {x qual : Str} {st : Stmt} {f : Addr} {fd : FuncData} {ps : List Str} (F : Fun K x qual st f fd)
    (h : ∀ (kV doc pm : Value) (an : Option Addr) (cdv ct : Value) (us : List Value), us.length = ps.length → bindArgs (PySem.W.fnOf x qual (defArgs st) (defBody st) (defScope st) .none kV doc pm an cdv ct) ⟨us, []⟩ = pure (ps.zip us)) : Binds K fd ps [] := by
  obtain ⟨oc, od, kV, doc, pm, an, cdv, ct, osl, rfl, lk, hcd⟩ := F.ex
  exact .all (h kV doc pm an cdv ct)
theorem fun_mk {x qual : Str} {st : Stmt} {f : Addr} {oc : Value} {od an : Option Addr} {osl : Array (Option Value)} {kV doc pm cdv ct : Value} (l : K.lookup f = some ⟨oc, od, .func (PySem.W.fnOf x qual (defArgs st) (defBody st) (defScope st) .none kV doc pm an cdv ct), osl⟩)
    (c : PySem.W.codeIn K cdv qual = true) (k : PySem.W.keepIn K (.ref f) = true) : Fun K x qual st f (PySem.W.fnOf x qual (defArgs st) (defBody st) (defScope st) .none kV doc pm an cdv ct) := ⟨⟨oc, od, kV, doc, pm, an, cdv, ct, osl, rfl, l, c⟩, k⟩
end
/-! ### expressions in short: the name that stands in the i-th slot -/
section
variable {X : Cx}
theorem pv (i : Nat) {x : Str} {pos : Pos} (hN : X.N[i]? = some x := by rfl) (hv : Vis X.env.scope x := by first | exact Or.inl rfl | exact Or.inr (Or.inl rfl) | exact Or.inr (Or.inr rfl)) (hd : (x == ("__debug__" : Str)) = false := by decide)
    (hcd : (x == ("__classdict__" : Str)) = false := by decide) : PE X (.Name x pos) (tVar i) := pe_var hN hv hd hcd
end

/-! ### tests -/
/-! ### heaps -/
/-- all that was tracked is as it was -/
def Same (H H' : Hp) : Prop := ∀ b o, H b = some o → H' b = some o
theorem Same.refl (H : Hp) : Same H H := fun _ _ h => h
theorem Same.trans {H H1 H2 : Hp} (a : Same H H1) (b : Same H1 H2) : Same H H2 := fun c o h => b c o (a c o h)
theorem Same.free {H H' : Hp} (e : Same H H') {l : Addr} (h : H' l = Option.none) : H l = Option.none := by
  cases q : H l with
  | none => rfl
  | some o =>
    rw [e l o q] at h
    cases h
theorem Same.seq {K : PySem.W.Frag} {H H' : Hp} {a : Addr} {xs : List V} (e : Same H H') (h : SqL K H a xs) : SqL K H' a xs := by
  rcases h with (h | ⟨o, h⟩) | h
  · exact .inl (.inl (e _ _ h))
  · exact .inl (.inr ⟨o, e _ _ h⟩)
  · exact .inr h

end L2

set_option maxHeartbeats 4000000
/-! EXT 1: list comprehensions over the hand layer -/
namespace L2
open PySem PySem.Spec PyProof.Rows

/-- the context of a comprehension's block; no exception leaves it -/
def cxIn (X : Cx) (N : List Str) (scope : Scope) (cl : List (Str × Addr)) (C : Addr) (s₀ : Shared) (H₀ : Hp) (ex : List Addr) : Cx where
  prog := X.prog
  w := X.w
  K := X.K
  mg := X.mg
  base := X.base
  A := X.A
  N := N
  s₀ := s₀
  H₀ := H₀
  env := compEnvC scope cl C X.env
  outer := X.stack
  stack := X.stack
  ex := ex
  fn := fun _ => false
  calm := X.calm
  pn := []
  xe := fun _ _ => False

/-- what the block's scope must have; own: its own names, fr: the names it reads from around, js: their slots there -/
structure CompOk (X : Cx) (fr : List Str) (js : List Nat) (scope : Scope) (cl : List (Str × Addr)) : Prop where
  clos : closureFor scope X.env = pure cl
  cell : ∀ y ∈ scope.names, y.2 ≠ .cell
  kind : scope.kind = .function
  names : ∀ y ∈ scope.names, y.2 = .local → scope.names.lookup y.1 = some .local
  clin : ∀ p ∈ cl, X.env.cells.lookup p.1 = some p.2
  has : scope.names.all (fun p => p.2 != .free || (cl.lookup p.1).isSome) = true
  fre : Paired (fun (x : Str) (j : Nat) => X.N[j]? = some x ∧ (X.env.scope.names.lookup x = some .cell ∨ X.env.scope.names.lookup x = some .free) ∧ scope.names.lookup x = some .free) fr js

theorem relabel_inv {env : Env} {x : Str} {k' : NameKind} : ∀ {names : List (Str × NameKind)},
    (names.map fun (n, k) => if (k == NameKind.free && env.scope.kind == .function && env.kindOf n == some .cell) then (n, NameKind.cell) else (n, k)).lookup x = some k' →
    ∃ k, names.lookup x = some k ∧ (k' = k ∨ (k = .free ∧ k' = .cell))
  | [], h => by simp at h
  | (n, k) :: r, h => by
    have ih := @relabel_inv env x k' r
    change List.lookup x ((if (k == NameKind.free && env.scope.kind == .function && env.kindOf n == some .cell) = true then (n, NameKind.cell) else (n, k)) :: _) = _ at h
    by_cases hc : (k == NameKind.free && env.scope.kind == .function && env.kindOf n == some .cell) = true
    · rw [if_pos hc] at h
      cases hx : x == n with
      | true =>
        simp only [List.lookup_cons, hx] at h ⊢
        cases h
        refine ⟨k, rfl, .inr ⟨?_, rfl⟩⟩
        simp only [Bool.and_eq_true, beq_iff_eq] at hc
        exact hc.1.1
      | false =>
        simp only [List.lookup_cons, hx] at h ⊢
        exact ih h
    · rw [if_neg hc] at h
      cases hx : x == n with
      | true =>
        simp only [List.lookup_cons, hx] at h ⊢
        cases h
        exact ⟨_, rfl, .inl rfl⟩
      | false =>
        simp only [List.lookup_cons, hx] at h ⊢
        exact ih h
theorem relabel_free {env : Env} {x : Str} : ∀ {names : List (Str × NameKind)}, names.lookup x = some .free →
    (names.map fun (n, k) => if (k == NameKind.free && env.scope.kind == .function && env.kindOf n == some .cell) then (n, NameKind.cell) else (n, k)).lookup x = some .cell ∨
    (names.map fun (n, k) => if (k == NameKind.free && env.scope.kind == .function && env.kindOf n == some .cell) then (n, NameKind.cell) else (n, k)).lookup x = some .free
  | [], h => by simp at h
  | (n, k) :: r, h => by
    have ih := @relabel_free env x r
    show List.lookup x ((if (k == NameKind.free && env.scope.kind == .function && env.kindOf n == some .cell) = true then (n, NameKind.cell) else (n, k)) :: _) = _ ∨ List.lookup x ((if (k == NameKind.free && env.scope.kind == .function && env.kindOf n == some .cell) = true then (n, NameKind.cell) else (n, k)) :: _) = _
    by_cases hc : (k == NameKind.free && env.scope.kind == .function && env.kindOf n == some .cell) = true
    · rw [if_pos hc]
      cases hx : x == n with
      | true => simp only [List.lookup_cons, hx]; exact .inl trivial
      | false => simp only [List.lookup_cons, hx] at h ⊢; exact ih h
    · rw [if_neg hc]
      cases hx : x == n with
      | true =>
        simp only [List.lookup_cons, hx] at h ⊢
        cases h
        exact .inr rfl
      | false => simp only [List.lookup_cons, hx] at h ⊢; exact ih h

/-- the slots at the block's begin -/
def inSt (n : Nat) (js : List Nat) (σ : St) : St := List.replicate n none ++ js.map fun j => (σ[j]?).join

/-- W: the invariant by the turn, a measure, what is made so far, the block's slots -/
def CompR (n : Nat) (js : List Nat) (g : TG) (te : TE) (σ : St) (Q : VK) (J : It) (H1 : Hp) : Prop := ∃ W : Nat → Nat → List V → St → Hp → Prop, (∃ m, W 0 m [] (inSt n js σ) H1) ∧
  ∀ i m ys σ' H', W i m ys σ' H' →
    (J.stop i H' ∧ ∀ p, H' p = none → Q (.ref p) (upd H' p (.lst ys))) ∨
    (J.go i H' ∧ ys.length < sizeLine ∧ ∃ N : V → St → Hp → Prop, (∀ y σ'' H'', N y σ'' H'' → ∃ m', m' < m ∧ W (i + 1) m' (ys ++ [y]) σ'' H'') ∧ ∀ x H2, J.yld i H' x H2 → g x σ' H2 fun σ3 H3 => te σ3 H3 fun y H4 => N y σ3 H4)
def tComp (n : Nat) (js : List Nat) (wi : TI) (g : TG) (te : TE) : TE := fun σ H Q => wi σ H fun J H1 => CompR n js g te σ Q J H1

def CompFin (X : Cx) (pins : List (Addr × Obj)) (σ : St) (Q : VK) (D C : Addr) (s' : Shared) : Prop :=
  ∃ H2, Inv X pins σ H2 s' ∧ Q (.ref D) H2 ∧ H2 C = none ∧ C ≠ X.env.locals ∧ X.s₀.heap.objs.size ≤ C ∧ (∀ x c, X.env.cells.lookup x = some c → c ≠ C) ∧ (∀ p ∈ X.pn ++ pins, p.1 ≠ C) ∧ ∃ m, s'.heap.Ns C m

section
variable {X : Cx} {own fr : List Str} {js : List Nat} {scope : Scope} {cl : List (Str × Addr)} {elt target iter : Expr} {pos : Pos} {wi : TI} {g : TG} {te : TE}

theorem cells_in (O : CompOk X fr js scope cl) {x : Str} {c : Addr} (e : cl.lookup x = some c) : X.env.cells.lookup x = some c := O.clin (x, c) (PySem.mem_of_lookup e)

/-- the block's context is sound -/
theorem cxIn_ok {pins : List (Addr × Obj)} {σ : St} {H : Hp} {s : Shared} {fp : List Addr} {C : Addr} (O : CompOk X fr js scope cl) (I : Inv X pins σ H s) (hC : s.heap.objs.size ≤ C) (hf : ∀ b ∈ fp, FpOk X pins H b) (ho : ∀ b ∈ fp, b < s.heap.objs.size) :
    (cxIn X (own ++ fr) scope cl C s H fp).Ok := by
  refine ⟨I.ok.mod, O.kind, I.ok.glob, I.ok.blt, hC, fun x y c h1 h2 => I.ok.inj x y c (cells_in O h1) (cells_in O h2), fun x hx => ?_, fun x c h => (by cases h), I.ok.hd, I.ok.frames, .inl rfl, fun b hb => ?_, I.bs, ?_, fun b o e hb => ?_, fun b hb hb' => ?_, I.stack, I.stkFree⟩
  · have key : scope.names.lookup x = some .free := by
      have hx' : (scope.names.map fun (n, k) => if (k == NameKind.free && X.env.scope.kind == .function && X.env.kindOf n == some .cell) then (n, NameKind.cell) else (n, k)).lookup x = some .cell ∨
        (scope.names.map fun (n, k) => if (k == NameKind.free && X.env.scope.kind == .function && X.env.kindOf n == some .cell) then (n, NameKind.cell) else (n, k)).lookup x = some .free := hx
      rcases hx' with h | h
      · obtain ⟨k, e, z⟩ := relabel_inv h
        rcases z with z | ⟨z, _⟩
        · subst z; exact absurd rfl (O.cell _ (PySem.mem_of_lookup e))
        · subst z; exact e
      · obtain ⟨k, e, z⟩ := relabel_inv h
        rcases z with z | ⟨_, z⟩
        · subst z; exact e
        · cases z
    have hm := List.all_eq_true.mp O.has _ (PySem.mem_of_lookup key)
    have hs : (cl.lookup x).isSome = true := by simpa using hm
    exact Option.isSome_iff_exists.mp hs
  · obtain ⟨f0, f1, f2, f3, f4, f5⟩ := hf b hb
    exact ⟨Nat.ne_of_lt (Nat.lt_of_lt_of_le (ho b hb) hC), fun x c e => f4 x c (cells_in O e)⟩
  · exact Nat.le_trans I.ok.bsz I.sz
  · obtain ⟨f0, f1, f2, f3, f4, f5⟩ := hf b hb
    rcases f3 with z | z
    · exact I.ok.noex b o e z
    · exact absurd (Nat.lt_of_lt_of_le (Heap.lt_size e) (Nat.le_trans I.ok.bsz z)) (Nat.lt_irrefl _)
  · obtain ⟨f0, f1, f2, f3, f4, f5⟩ := hf b hb
    rcases List.mem_cons.mp (I.stkSub b hb') with z | z
    · exact f1 z
    · exact f2 z

theorem Paired.idx {α β : Type} {F : α → β → Prop} : ∀ {l₁ : List α} {l₂ : List β}, Paired F l₁ l₂ → ∀ (i : Nat) (a : α) (b : β), l₁[i]? = some a → l₂[i]? = some b → F a b
  | _, _, .nil, _, _, _, h, _ => by simp at h
  | _, _, .cons r _, 0, a, b, h1, h2 => by simp at h1 h2; subst h1; subst h2; exact r
  | _, _, .cons _ t, i + 1, a, b, h1, h2 => Paired.idx t i a b (by simpa using h1) (by simpa using h2)

/-- the block begins -/
theorem cxIn_inv {pins : List (Addr × Obj)} {σ : St} {H : Hp} {s s' : Shared} {fp : List Addr} {C : Addr} {m : Str → Option Value} (O : CompOk X fr js scope cl) (hl : fr.length = js.length) (I : Inv X pins σ H s) (hC : s.heap.objs.size ≤ C) (hf : ∀ b ∈ fp, FpOk X pins H b)
    (ho : ∀ b ∈ fp, b < s.heap.objs.size) (os : s'.os = s.os) (hg : s'.gens = s.gens) (old : ∀ b o, s.heap.get? b = some o → s'.heap.get? b = some o) (hn : s'.heap.Ns C m) :
    Inv (cxIn X (own ++ fr) scope cl C s H fp) [] (inSt own.length js σ) H s' := by
  refine ⟨cxIn_ok O I hC hf ho, os, by rw [hg]; exact I.bare, Un.kept old, ⟨m, hn, fun i x v e1 e2 e3 => ?_⟩, fun x c e => ?_, I.hok.fresh hC, fun x c e => I.freeC x c (cells_in O e), fun p hp => absurd (show p ∈ ([] : List (Addr × Obj)) from hp) (by simp), I.hok.kept old, ?_⟩
  · unfold inSt at e2
    have e1' : (own ++ fr)[i]? = some x := e1
    by_cases hi : i < own.length
    · rw [List.getElem?_append_left (by simpa using hi), List.getElem?_replicate] at e2
      split at e2 <;> cases e2
    · have hi' : own.length ≤ i := Nat.le_of_not_lt hi
      rw [List.getElem?_append_right (by simpa using hi'), List.length_replicate, List.getElem?_map] at e2
      rw [List.getElem?_append_right hi'] at e1'
      cases ej : js[i - own.length]? with
      | none => rw [ej] at e2; cases e2
      | some j =>
        rw [ej] at e2
        have e2' : (σ[j]?).join = some v := Option.some.inj e2
        have eσ : σ[j]? = some (some v) := by
          cases q : σ[j]? with
          | none => rw [q] at e2'; cases e2'
          | some o => rw [q] at e2'; simp at e2'; rw [e2']
        obtain ⟨hN, hk, hs⟩ := Paired.idx O.fre _ x j e1' ej
        obtain ⟨mo, hmo, hlo⟩ := I.loc
        have vis : Vis X.env.scope x := hk.elim (fun z => .inr (.inl z)) fun z => .inr (.inr z)
        obtain ⟨u, r, l⟩ := hlo j x v hN eσ vis
        refine ⟨u, r, .inr ⟨relabel_free hs, ?_⟩⟩
        have hm := List.all_eq_true.mp O.has _ (PySem.mem_of_lookup hs)
        have hs' : (cl.lookup x).isSome = true := by simpa using hm
        obtain ⟨c, ec⟩ := Option.isSome_iff_exists.mp hs'
        refine ⟨c, ec, ?_⟩
        rcases l with ⟨k, _⟩ | ⟨_, c', e', z⟩
        · have k' : X.env.scope.names.lookup x = some .local := k
          rcases hk with q | q <;> (rw [q] at k'; cases k')
        · have := cells_in O ec
          rw [e'] at this
          cases this
          obtain ⟨oc, hoc, hd⟩ := z
          exact ⟨oc, old _ _ hoc, hd⟩
  · obtain ⟨v, oc, hoc, hd⟩ := I.cell x c (cells_in O e)
    exact ⟨v, oc, old _ _ hoc, hd⟩
  · unfold inSt
    show _ = (own ++ fr).length
    rw [List.length_append, List.length_append, List.length_replicate, List.length_map, hl]

theorem Un.adopt {fs ex : List Addr} {H H1 : Hp} {h h1 : Heap} {a : Addr} {o : HO} (u : Un fs ex H H1 h h1) (ha : h.objs.size ≤ a) (hn : H a = none) : Un fs ex H (upd H1 a o) h h1 where
  keep := u.keep
  slot := u.slot
  free := fun b ob q n hx => by rw [upd_ne (Nat.ne_of_lt (Nat.lt_of_lt_of_le (Heap.lt_size q) ha))]; exact u.free b ob q n hx
  there := u.there
  tups := fun b xs q => by rw [upd_ne (ne_of_none q hn)]; exact u.tups b xs q
  frzs := fun b ob xs q => by rw [upd_ne (ne_of_none q hn)]; exact u.frzs b ob xs q
  tbls := fun b ps q => by rw [upd_ne (ne_of_none q hn)]; exact u.tbls b ps q
theorem HOk.adopt {P : Program} {w : World} {H : Hp} {h : Heap} {a : Addr} {o : HO} (x : HOk P w H h) (hn : H a = none) (new : ObjOk P w (upd H a o) h a o) : HOk P w (upd H a o) h := fun b u e => by
  by_cases hb : b = a
  · subst hb; rw [upd_same] at e; cases e; exact new
  · rw [upd_ne hb] at e
    exact (x b u e).stay (fun c v _ q => q) (fun c q => by rw [upd_ne (ne_of_none q hn)]; exact q) fun c xs q => by rw [upd_ne (ne_of_none q hn)]; exact q

theorem comp_core {pins : List (Addr × Obj)} {σ : St} {H : Hp} {s : Shared} {fp : List Addr} {it : Addr} {tn : Nat → Heap → Prop} {J : It} {E : Value → Shared → Prop} {Q : VK} {RR : Value → Addr → Result → Shared → Prop} (O : CompOk X fr js scope cl) (hl : fr.length = js.length) (hcm : X.calm = true)
    (I : Inv X pins σ H s) (T : Turn X.prog X.w X.K target J fp it tn) (st : tn 0 s.heap) (hf : ∀ b ∈ fp, FpOk X pins H b)
    (hg : ∀ C s₀ H₀ ex, PG (cxIn X (own ++ fr) scope cl C s₀ H₀ ex) target g) (he : ∀ C s₀ H₀ ex, PE (cxIn X (own ++ fr) scope cl C s₀ H₀ ex) elt te)
    (W : Nat → Nat → List V → St → Hp → Prop) {m0 : Nat} (w0 : W 0 m0 [] (inSt own.length js σ) H)
    (turn : ∀ i m ys σ' H', W i m ys σ' H' →
      (J.stop i H' ∧ ∀ p, H' p = none → Q (.ref p) (upd H' p (.lst ys))) ∨
      (J.go i H' ∧ ys.length < sizeLine ∧ ∃ N : V → St → Hp → Prop, (∀ y σ'' H'', N y σ'' H'' → ∃ m', m' < m ∧ W (i + 1) m' (ys ++ [y]) σ'' H'') ∧ ∀ x H2, J.yld i H' x H2 → g x σ' H2 fun σ3 H3 => te σ3 H3 fun y H4 => N y σ3 H4))
    (hRR : ∀ D C s', CompFin X pins σ Q D C s' → RR (.ref D) C (.ok .next) s') :
    wpAny (model X.prog X.w) X.A (newList []) (fun acc s₃ => wpAny (model X.prog X.w) X.A (newFunctionEnv scope X.env.globals cl [] X.env.qual none .none (some X.env)) (fun cenv s₄ =>
      codeAny (model X.prog X.w) X.A (.compStart (.ListComp elt [⟨target, iter, [], 0⟩] scope pos) 0 (.ref it) acc { cenv with scope := relabel scope X.env }) (RR acc cenv.locals) s₄) E s₃) E s := by
  refine wpAny_newObj_type (wpAny_newFunctionEnv O.cell (by intro y hy; simp at hy) (fun h₁ hns₁ hsb₁ => ?_) O.kind)
  dsimp only at hns₁ hsb₁ ⊢
  generalize hH2 : s.heap.push { cls := .type "list", dict := none, data := .seq ([] : List Value).toArray } = H2 at hns₁ hsb₁ ⊢
  have hCs : H2.objs.size = s.heap.objs.size + 1 := by rw [← hH2, Heap.size_push]
  have hDC : s.heap.objs.size ≠ H2.objs.size := by rw [hCs]; exact Nat.ne_of_lt (Nat.lt_succ_self _)
  have hCge : s.heap.objs.size ≤ H2.objs.size := by rw [hCs]; exact Nat.le_succ _
  have below : ∀ b, b < s.heap.objs.size → b ≠ H2.objs.size ∧ b ≠ s.heap.objs.size := fun b hb => ⟨by rw [hCs]; exact Nat.ne_of_lt (Nat.lt_succ_of_lt hb), Nat.ne_of_lt hb⟩
  have old : ∀ b o, s.heap.get? b = some o → h₁.get? b = some o := fun b o e => hsb₁.extBut b o (below b (Heap.lt_size e)).1 (Heap.get?_push_of_some _ (hH2 ▸ Heap.get?_push_of_some _ e))
  have hacc : h₁.get? s.heap.objs.size = some { cls := .type "list", data := .seq ([] : List Value).toArray 0 } := hsb₁.extBut _ _ hDC (Heap.get?_push_of_some _ (hH2 ▸ Heap.get?_push_size _ rfl))
  have ho : ∀ b ∈ fp, b < s.heap.objs.size := fun b hb => by obtain ⟨o, e, _⟩ := T.obj 0 _ st b hb; exact Heap.lt_size e
  generalize hDe : s.heap.objs.size = D at *
  generalize hCe : H2.objs.size = C at *
  let X' : Cx := cxIn X (own ++ fr) scope cl C s H fp
  have ok' : X'.Ok := cxIn_ok O I (by rw [hDe]; exact hCge) hf (by rw [hDe]; exact ho)
  have hDfs : D ∉ X'.fs := by
    intro z
    rcases List.mem_cons.mp (I.stkSub D z) with q | q
    · exact absurd I.lt (by rw [← q, hDe]; exact Nat.lt_irrefl _)
    · exact I.nofs (Nat.le_of_eq hDe) q
  have hDfp : ∀ b ∈ fp, D ≠ b := fun b hb z => absurd (ho b hb) (by rw [z]; exact Nat.lt_irrefl _)
  have hDcell : ∀ x c, cl.lookup x = some c → c ≠ D := fun x c e z => by
    obtain ⟨v, q⟩ := I.cell x c (cells_in O e)
    exact absurd q.lt (by rw [z, hDe]; exact Nat.lt_irrefl _)
  have fpok : ∀ {H' : Hp} {pins' : List (Addr × Obj)}, (∀ p ∈ pins', p.1 = D) → (∀ b ∈ fp, H' b = none) → ∀ b ∈ fp, FpOk X' pins' H' b := fun {H' pins'} hp hn b hb => by
    obtain ⟨f0, f1, f2, f3, f4, f5⟩ := hf b hb
    refine ⟨hn b hb, (below b (ho b hb)).1, fun z => ?_, .inl hb, fun x c e => f4 x c (cells_in O e), fun p hp' => ?_⟩
    · rcases List.mem_cons.mp (I.stkSub b z) with q | q
      · exact f1 q
      · exact f2 q
    · have hp'' : p ∈ pins' := by simpa [X', cxIn] using hp'
      rw [hp p hp'']; exact hDfp b hb
  have loop : ∀ s₃ : Shared, s₃ = { s with heap := h₁, toks := s.toks + ([] : List (Str × Value)).length } →
      codeAny (model X.prog X.w) X.A (.compLoop (.ListComp elt [⟨target, iter, [], 0⟩] scope pos) 0 (.ref it) (.ref D) (compEnvC scope cl C X.env)) (RR (.ref D) C) s₃ := by
    rintro s₃ rfl
    refine PySem.W.kcp_loop (fun k s' => ∃ i σ' H' ys its nn, Inv X' [] σ' H' s' ∧ tn i s'.heap ∧ (∀ b ∈ fp, H' b = none) ∧ H' D = none ∧ s'.heap.get? D = some { cls := .type "list", data := .seq (its : List Value).toArray nn } ∧ Vals ys its ∧ ys.length ≤ sizeLine ∧ W i k ys σ' H') ?_ m0
      ⟨0, _, H, [], [], 0, cxIn_inv O hl I (by rw [hDe]; exact hCge) hf (by rw [hDe]; exact ho) rfl rfl (by intro b o e; exact old b o e) hns₁, T.keep _ _ _ st fun b _ o e => old b o e, fun b hb => (hf b hb).1, I.hok.fresh (Nat.le_of_eq hDe), hacc, .nil, Nat.zero_le _, w0⟩
    rintro k s' ⟨i, σ', H', ys, its, nn, I', st', hfn, hDn, hDo, rv, hz, w⟩
    have hlen := rv.length
    have hpD : ∀ p ∈ [(D, ({ cls := .type "list", data := .seq its.toArray nn } : Obj))], p.1 = D := fun p hp => by rw [List.mem_singleton.mp hp]
    have Ip : Inv X' [(D, ({ cls := .type "list", data := .seq its.toArray nn } : Obj))] σ' H' s' := I'.pins_of fun p hp => by
      rw [List.mem_singleton.mp hp]
      exact ⟨hDo, hDn, hDC, hDfs, fun v z => by cases z⟩
    rcases turn i k ys σ' H' w with ⟨stop, fin⟩ | ⟨go, hlt, N, hN, step⟩
    · refine wpAny_mono (T.done X' rfl rfl rfl hcm i _ s' σ' H' (fun _ _ => False) Ip (fpok hpD hfn) st' stop) (fun r s4 ⟨hr, I4⟩ => ?_) fun _ _ z => False.elim z
      subst hr
      refine hRR D C s4 ?_
      have hD4 : s4.heap.get? D = some { cls := .type "list", data := .seq its.toArray nn } := (I4.pin _ (List.mem_append_right _ (List.mem_singleton.mpr rfl))).1
      have un : Un (frs X.stack) fp H (upd H' D (.lst ys)) s.heap s4.heap := Un.adopt I4.base (Nat.le_of_eq hDe) (I.hok.fresh (Nat.le_of_eq hDe))
      have hok : HOk X.prog X.w (upd H' D (.lst ys)) s4.heap := HOk.adopt I4.hok hDn ⟨hz, its, nn, rv, hD4⟩
      refine ⟨upd H' D (.lst ys), I.call' I4.os un hok I4.bare fun b hb => ?_, fin D hDn, ?_, ?_, ?_, fun x c e z => ?_, fun p hp z => ?_, ?_⟩
      · obtain ⟨f0, f1, f2, f3, f4, f5⟩ := hf b hb
        exact ⟨f3, f1, f4, f5⟩
      · rw [upd_ne (Ne.symm hDC)]
        exact I4.free
      · exact Nat.ne_of_gt (Nat.lt_of_lt_of_le I.lt (by rw [hDe]; exact hCge))
      · exact Nat.le_trans I.sz (by rw [hDe]; exact hCge)
      · obtain ⟨v, q⟩ := I.cell x c e
        exact absurd (Nat.lt_of_lt_of_le q.lt (by rw [hDe, z]; exact hCge)) (Nat.lt_irrefl _)
      · exact absurd (Nat.lt_of_lt_of_le (Heap.lt_size (I.pin p hp).1) (by rw [hDe, z]; exact hCge)) (Nat.lt_irrefl _)
      · obtain ⟨m', hn', _⟩ := I4.loc
        exact ⟨m', hn'⟩
    · refine wpAny_mono (T.item X' rfl rfl rfl hcm i _ s' σ' H' (fun _ _ => False) Ip (fpok hpD hfn) st' go) (fun r s4 ⟨u, hr, h4⟩ => ?_) fun _ _ z => False.elim z
      subst hr
      refine wpAny_mono h4 (fun _ s5 ⟨x, H5, I5, r5, y5, st5, fr5⟩ => ?_) fun _ _ z => False.elim z
      have I5' := I5.pinned (fpok hpD fr5) (T.obj _ _ st5)
      refine wpAny_mono (hg C s H fp _ s5 σ' H5 x u _ I5' r5 (step x H5 y5)) (fun _ s6 ⟨σ6, H6, I6, q6⟩ => ?_) fun _ _ z => False.elim z
      refine wpAny_mono (he C s H fp _ s6 σ6 H6 _ I6 q6) (fun v s7 ⟨y, H7, I7, r7, n7⟩ => ?_) fun _ _ z => False.elim z
      obtain ⟨m', hm', w7⟩ := hN y σ6 H7 n7
      have hD7 := I7.pin (D, { cls := .type "list", data := .seq its.toArray nn }) (List.mem_append_right _ (List.mem_append_left _ (List.mem_singleton.mpr rfl)))
      refine append_at hD7.1 (fun h8 sb hD8 => ?_) (by rw [List.size_toArray, ← hlen]; exact hz)
      have I7' : Inv X' [] σ6 H7 s7 := I7.pins_of fun p hp => absurd hp (by simp)
      have I8 : Inv X' [] σ6 H7 { s7 with heap := h8 } := I7'.turned (t' := s7.toks) (it := D) (fun b o hb e => (sb.2 b hb).trans e) hD7.2.1 hDC (.inr (Nat.le_of_eq hDe)) hDcell (fun p hp => absurd (show p ∈ ([] : List (Addr × Obj)) from hp) (by simp))
      refine ⟨m', hm', i + 1, σ6, H7, ys ++ [y], its ++ [v], nn + 1, I8, T.keep _ _ _ st5 fun b hb o e => ?_, fun b hb => ?_, hD7.2.1, ?_, rv.append (.cons r7 .nil), ?_, w7⟩
      · exact (sb.2 b (fun z => hDfp b hb z.symm)).trans (I7.pin (b, o) (List.mem_append_right _ (List.mem_append_right _ (mem_pinsAt hb e)))).1
      · obtain ⟨o, e, d⟩ := T.obj _ _ st5 b hb
        exact (I7.pin (b, o) (List.mem_append_right _ (List.mem_append_right _ (mem_pinsAt hb e)))).2.1
      · rw [hD8, List.push_toArray]
      · rw [List.length_append, List.length_singleton]; exact hlt
  exact codeAny_compStart_list (loop _ rfl) (T.self _ 0 _ _ _ (T.keep _ _ _ st fun b _ o e => old b o e) (loop _ rfl))

/-- [elt for target in iter] -/
theorem pe_comp (O : CompOk X fr js scope cl) (hcm : X.calm = true) (hi : PI X target iter wi) (hg : ∀ C s₀ H₀ ex, PG (cxIn X (own ++ fr) scope cl C s₀ H₀ ex) target g) (he : ∀ C s₀ H₀ ex, PE (cxIn X (own ++ fr) scope cl C s₀ H₀ ex) elt te)
    (hs : ∀ x, foldedSetIterable iter X.env x = pure x := by intro _; rfl) : PE X (.ListComp elt [⟨target, iter, [], 0⟩] scope pos) (tComp own.length js wi g te) := by
  intro pins s σ H Q I h
  rw [eval_ListComp]
  refine wpAny_comprehension_free (use := none) rfl hs O.clos O.kind O.names (thn (hi pins s σ H _ I h) fun x s1 h1 => thn h1 fun itv s2 h2 => ?_)
  obtain ⟨it, fp, tn, J, H2, rfl, I2, T, st, hf, W, ⟨m0, w0⟩, turn⟩ := h2
  refine comp_core (RR := fun acc C => compPost (model X.prog X.w) X.A X.xe none (EP X pins σ Q) acc C) O (Paired.length O.fre) hcm I2 T st hf hg he W w0 turn ?_
  rintro D C s' ⟨H3, I3, q, c1, c2, c3, c4, c5, m, hn⟩
  exact ⟨m, hn, fun h' sb => ⟨.ref D, H3, I3.turned (t' := s'.toks) (it := C) (fun b o hb e => (sb.2 b hb).trans e) c1 c2 (.inr c3) c4 c5, rfl, q⟩⟩

/-- name = [elt for target in iter] -/
theorem ps_setComp {i : Nat} {y : Str} {py spos : Pos} (hN : X.N.Nodup) (hy : X.N[i]? = some y) (hly : Loc X.env.scope y) (O : CompOk X fr js scope cl) (hcm : X.calm = true) (hi : PI X target iter wi) (hg : ∀ C s₀ H₀ ex, PG (cxIn X (own ++ fr) scope cl C s₀ H₀ ex) target g)
    (he : ∀ C s₀ H₀ ex, PE (cxIn X (own ++ fr) scope cl C s₀ H₀ ex) elt te) (hsw : swapsWith (.ListComp elt [⟨target, iter, [], 0⟩] scope pos) (some (.Name y py)) spos.line X.env = pure true)
    (hf : X.fn y = true ∨ X.env.scope.names.lookup y = some .local := by first | exact .inl rfl | exact .inr rfl | assumption) (hs : ∀ x, foldedSetIterable iter X.env x = pure x := by intro _; rfl) :
    PS X (.Assign [.Name y py] (.ListComp elt [⟨target, iter, [], 0⟩] scope pos) spos) (tAsg (tComp own.length js wi g te) (gName i)) := by
  intro pins s σ H D I h
  rw [exec_Assign_Name_used _ _ _ _ hsw]
  refine wpAny_bind (wpAny_standAt (wpAny_bind ?_))
  show wpAny _ X.A (do let _ ← comprehension (.ListComp elt [⟨target, iter, [], 0⟩] scope pos) scope X.env _ (newList []) false (eval iter X.env) (some (assign (.Name y py) X.env))) _ _ s
  refine wpAny_bind (wpAny_mono (wpAny_comprehension_free (use := some (assign (.Name y py) X.env)) (Q := fun _ s' => SP X pins D .next s') rfl hs O.clos O.kind O.names
    (thn (hi pins s σ H _ I h) fun x s1 h1 => thn h1 fun itv s2 h2 => ?_)) (fun _ s' hq => wpAny_pure (wpAny_pure hq)) fun _ _ e => e)
  obtain ⟨it, fp, tn, J, H2, rfl, I2, T, st, hfp, W, ⟨m0, w0⟩, turn⟩ := h2
  refine comp_core (Q := fun x H1 => gName i x σ H1 D.nx) (RR := fun acc C => compPost (model X.prog X.w) X.A X.xe (some (assign (.Name y py) X.env)) (fun _ s' => SP X pins D .next s') acc C) O (Paired.length O.fre) hcm I2 T st hfp hg he W w0 turn ?_
  rintro DD C s' ⟨H3, I3, q, c1, c2, c3, c4, c5, m, hn⟩
  show wpAny _ _ (assign (.Name y py) X.env (.ref DD)) _ _ s'
  refine wpAny_assign_Name (store_ok2 I3 hN hy hly (v := .ref DD) rfl (fun s4 I4 ⟨a, sb, ha⟩ => ?_) hf)
  have hCa : C ≠ a := by
    rcases ha with rfl | ha
    · exact c2
    · exact fun z => c4 y a ha z.symm
  refine ⟨m, hn.sameBut sb hCa, fun h' sb' => ⟨_, H3, I4.turned (t' := s4.toks) (it := C) (fun b o hb e => (sb'.2 b hb).trans e) c1 c2 (.inr c3) c4 c5, q⟩⟩
end
/-- over a list that the element leaves as it is -/
theorem comp_list {n : Nat} {js : List Nat} {K : PySem.W.Frag} {a : Addr} {xs : List V} {g : TG} {te : TE} {σ0 : St} {H : Hp} {Q : VK} (Pv : Nat → List V → St → Hp → Prop) (hz : xs.length ≤ sizeLine) (h0 : Pv 0 [] (inSt n js σ0) H) (hl : ∀ i ys σ H, i ≤ xs.length → Pv i ys σ H → SqL K H a xs ∧ ys.length ≤ i)
    (hs : ∀ i x ys σ H, xs[i]? = some x → Pv i ys σ H → g x σ H fun σ2 H2 => te σ2 H2 fun y H3 => Pv (i + 1) (ys ++ [y]) σ2 H3) (hd : ∀ ys σ H p, Pv xs.length ys σ H → H p = none → Q (.ref p) (upd H p (.lst ys))) :
    CompR n js g te σ0 Q (Itl K a) H := by
  refine ⟨fun i m ys σ H => m = xs.length - i ∧ i ≤ xs.length ∧ Pv i ys σ H, ⟨xs.length, by simp, Nat.zero_le _, h0⟩, ?_⟩
  rintro i m ys σ H ⟨rfl, hi, p⟩
  obtain ⟨q, hy⟩ := hl i ys σ H hi p
  by_cases hlt : i < xs.length
  · refine .inr ⟨⟨xs, xs[i], q, by simp [hlt]⟩, by omega, fun y σ'' H'' => Pv (i + 1) (ys ++ [y]) σ'' H'', fun y σ' H' p' => ⟨xs.length - (i + 1), by omega, rfl, hlt, p'⟩, fun x H' y => ?_⟩
    obtain ⟨e, y⟩ := y
    subst e
    exact hs i x ys σ _ (y xs q) p
  · have e : i = xs.length := by omega
    subst e
    exact .inl ⟨⟨xs, q, Nat.le_refl _⟩, fun r hr => hd ys σ H r p hr⟩
/-- over a range -/
theorem comp_range {k : Nat} {js : List Nat} {lo : Int} {n : Nat} {g : TG} {te : TE} {σ0 : St} {H : Hp} {Q : VK} (Pv : Nat → List V → St → Hp → Prop) (hz : n ≤ sizeLine) (h0 : Pv 0 [] (inSt k js σ0) H) (hl : ∀ i ys σ H, i ≤ n → Pv i ys σ H → ys.length ≤ i)
    (hs : ∀ i ys σ H, i < n → Pv i ys σ H → g (.int (lo + i)) σ H fun σ2 H2 => te σ2 H2 fun y H3 => Pv (i + 1) (ys ++ [y]) σ2 H3) (hd : ∀ ys σ H p, Pv n ys σ H → H p = none → Q (.ref p) (upd H p (.lst ys))) :
    CompR k js g te σ0 Q (Itr lo n) H := by
  refine ⟨fun i m ys σ H => m = n - i ∧ i ≤ n ∧ Pv i ys σ H, ⟨n, by simp, Nat.zero_le _, h0⟩, ?_⟩
  rintro i m ys σ H ⟨rfl, hi, p⟩
  have hy := hl i ys σ H hi p
  by_cases hlt : i < n
  · refine .inr ⟨hlt, by omega, fun y σ'' H'' => Pv (i + 1) (ys ++ [y]) σ'' H'', fun y σ' H' p' => ⟨n - (i + 1), by omega, rfl, hlt, p'⟩, fun x H' y => ?_⟩
    obtain ⟨e, y⟩ := y
    subst e y
    exact hs i ys σ _ hlt p
  · have e : i = n := by omega
    subst e
    exact .inl ⟨Nat.le_refl _, fun r hr => hd ys σ H r p hr⟩
end L2

/-! EXT 2: more rules of operations, and the readings by their heads -/
namespace L2
open PySem PySem.Spec PyProof.Rows

/-! ### numbers of many bits -/
def Bits (k : Nat) (i : Int) : Prop := i.natAbs < 2 ^ k
theorem Bits.mono {j k : Nat} {i : Int} (h : Bits j i) (hk : j ≤ k) : Bits k i := Nat.lt_of_lt_of_le h (Nat.pow_le_pow_right (by decide) hk)
theorem Bits.mul {j k : Nat} {a b : Int} (ha : Bits j a) (hb : Bits k b) : Bits (j + k) (a * b) := by
  unfold Bits at *
  rw [Int.natAbs_mul, Nat.pow_add]
  exact Nat.mul_lt_mul_of_lt_of_lt ha hb
theorem Bits.add {k : Nat} {a b : Int} (ha : Bits k a) (hb : Bits k b) : Bits (k + 1) (a + b) := by
  unfold Bits at *
  have := Int.natAbs_add_le a b
  rw [Nat.pow_succ]; omega
theorem Bits.neg {k : Nat} {a : Int} (ha : Bits k a) : Bits k (-a) := by unfold Bits at *; rwa [Int.natAbs_neg]
theorem Bits.sub {k : Nat} {a b : Int} (ha : Bits k a) (hb : Bits k b) : Bits (k + 1) (a - b) := by rw [Int.sub_eq_add_neg]; exact ha.add hb.neg
theorem Bits.of_le {k : Nat} {a b : Int} (hb : Bits k b) (h : a.natAbs ≤ b.natAbs) : Bits k a := Nat.lt_of_le_of_lt h hb
theorem Bits.zero {k : Nat} : Bits k 0 := Nat.pow_pos (by decide)
theorem Bits.log {k : Nat} {i : Int} (h : Bits k i) (hk : 0 < k) : i.natAbs.log2 < k := by
  by_cases h0 : i.natAbs = 0
  · rw [h0]; simpa using hk
  · exact (Nat.log2_lt h0).mpr h
theorem Bits.int {k : Nat} {i : Int} (h : Bits k i) (hk : k ≤ 1000000) : Builtin.Int.intBits i ≤ 2 ^ 20 := by
  have e : (2 : Nat) ^ 20 = 1048576 := by decide
  unfold Builtin.Int.intBits
  split
  · exact Nat.zero_le _
  · rename_i hn
    have h0 : i.natAbs ≠ 0 := by
      intro z
      have : i = 0 := Int.natAbs_eq_zero.mp z
      exact hn (by simp [this])
    have := (Nat.log2_lt h0).mpr h
    omega

section
variable {X : Cx} {a b : Expr} {ta tb : TE} {pos : Pos}
def CMulB (i j : Int) : Prop := Bits 1000000 i ∧ Bits 1000000 j
theorem op_mulB : OpR X (binaryOp .Mult) (rI CMulB fun i j => .int (i * j)) := opI fun _ _ _ _ _ _ _ hc q => mul_int q (.of_bits (hc.1.int (Nat.le_refl _)) (hc.2.int (Nat.le_refl _)))
/-- % by a number above 0 -/
theorem op_modP : OpR X (binaryOp .Mod) (rI (fun _ j => 0 < j) fun i j => .int (i % j)) := op_mod
/-- // by a number above 0 of at most 9000 bits -/
def CDivP (_ j : Int) : Prop := 0 < j ∧ Bits 9000 j
theorem op_fdivP : OpR X (binaryOp .FloorDiv) (rI CDivP fun i j => .int (i / j)) := opI fun i j _ _ _ _ _ hc q => by
  refine floordiv_int (Int.ne_of_gt hc.1) ?_ (.inl (PyProof.noPylong_of_log2 (hc.2.log (by decide))))
  rw [Int.fdiv_eq_ediv_of_nonneg _ (Int.le_of_lt hc.1)]
  exact q
/-- // by any number but 0 of at most 9000 bits -/
def CDivB (_ j : Int) : Prop := j ≠ 0 ∧ Bits 9000 j
theorem op_fdivB : OpR X (binaryOp .FloorDiv) (rI CDivB fun i j => .int (i.fdiv j)) := opI fun _ _ _ _ _ _ _ hc q => floordiv_int hc.1 q (.inl (PyProof.noPylong_of_log2 (hc.2.log (by decide))))
theorem op_eqI : OpR X (compareOp .Eq) (rI0 fun i j => .bl (decide (i = j))) := opB0 fun _ _ _ _ _ _ _ q => eq_int (by rw [Bool.beq_eq_decide_eq]; exact q)
theorem op_neI : OpR X (compareOp .NotEq) (rI0 fun i j => .bl (!decide (i = j))) := opB0 fun _ _ _ _ _ _ _ q => ne_int (by rw [bne, Bool.beq_eq_decide_eq]; exact q)

/-! ### two lists of ints -/
def rEqL (K : PySem.W.Frag) : R2 := fun x y H Q => ∃ (a b : Addr) (ns ms : List Int), x = .ref a ∧ y = .ref b ∧ SqL K H a (ns.map V.int) ∧ SqL K H b (ms.map V.int) ∧ Q (.bl (decide (ns = ms))) H
def rNeL (K : PySem.W.Frag) : R2 := fun x y H Q => ∃ (a b : Addr) (ns ms : List Int), x = .ref a ∧ y = .ref b ∧ SqL K H a (ns.map V.int) ∧ SqL K H b (ms.map V.int) ∧ Q (.bl (!decide (ns = ms))) H
theorem op_eqL (hu : X.A.units + 64 < cLine) : OpR X (compareOp .Eq) (rEqL X.K) := by
  intro pins s σ H x y v u Q I rx ry h
  obtain ⟨a, b, ns, ms, rfl, rfl, ha, hb, q⟩ := h
  cases rx; cases ry
  obtain ⟨i1, r1, p1, _⟩ := I.list ha
  obtain ⟨i2, r2, p2, _⟩ := I.list hb
  exact PySem.W.eq_intsK p1.isList (intsAre_of r1) p2.isList (intsAre_of r2) hu ⟨.bl _, H, I, rfl, q⟩
theorem op_neL (hu : X.A.units + 64 < cLine) : OpR X (compareOp .NotEq) (rNeL X.K) := by
  intro pins s σ H x y v u Q I rx ry h
  obtain ⟨a, b, ns, ms, rfl, rfl, ha, hb, q⟩ := h
  cases rx; cases ry
  obtain ⟨i1, r1, p1, _⟩ := I.list ha
  obtain ⟨i2, r2, p2, _⟩ := I.list hb
  exact PySem.W.ne_intsK p1.isList (intsAre_of r1) p2.isList (intsAre_of r2) hu ⟨.bl _, H, I, rfl, q⟩

/-! ### insert -/
/-! ### isinstance -/
def rIsI (K : PySem.W.Frag) : List V → Hp → VK → Prop := fun xs H Q => ∃ (x : V) (t c : Value) (n : V) (k : Bool), xs = [x, n] ∧ RelV n c ∧ (∀ u, RelV n u → u = c) ∧ TyOf K H x t ∧ PySem.W.kitOne K t c = some k ∧ Q (.bl k) H
theorem call_isinst : CallR X (.builtin "isinstance") (rIsI X.K) := by
  intro pins s σ H xs us Q I r h
  obtain ⟨x, t, c, n, k, rfl, rn, hn, ty, e, q⟩ := h
  obtain ⟨u1, u2, rfl, r1, r2⟩ := r.two
  obtain rfl := hn u2 r2
  exact isinst_ok I r1 ty e fun tk => ⟨.bl k, H, I.tok tk, rfl, q⟩
theorem isI_ty {K : PySem.W.Frag} {H : Hp} {Q : VK} {x : V} {n : String} {t : Value} {k : Bool} (ty : TyOf K H x t) (e : PySem.W.kitOne K t (.type n) = some k) (q : Q (.bl k) H) : rIsI K [x, .ty n] H Q :=
  ⟨x, t, .type n, .ty n, k, rfl, rfl, fun _ h => h, ty, e, q⟩
end

/-! ### the readings, by their heads -/
section
variable {D : Ends} {σ : St} {H : Hp} {Q : VK} {t u : TS} {te ta tb : TE} {c : TT} {i : Nat} {v : V} {r : R2}
theorem rd_seq (h : t { D with nx := u D } σ H) : tSeq t u D σ H := h
/-- the rest first -/
theorem rd_cut (P : St → Hp → Prop) (h1 : ∀ σ' H', P σ' H' → u D σ' H') (h2 : (∀ σ' H', P σ' H' → u D σ' H') → t { D with nx := u D } σ H) : tSeq t u D σ H := h2 h1
/-- state and heap anew, by what is known of them -/
theorem rd_gen (P : St → Hp → Prop) (h : P σ H) (h1 : ∀ σ' H', P σ' H' → u D σ' H') : u D σ H := h1 σ H h
theorem rd_sa (h : te σ H fun x H1 => u D (σ.set i (some x)) H1) : tSeq (tAsg te (gName i)) u D σ H := h
theorem rd_sd (h : te σ H fun _ H1 => u D σ H1) : tSeq (tDrop te) u D σ H := h
/-- an if that only returns -/
theorem rd_sr {t1 : TS} (h : c σ H fun b H1 => if b = true then t1 { D with nx := u D } σ H1 else u D σ H1) : tSeq (tIfS c t1 tNext) u D σ H := h
theorem rd_isI {K : PySem.W.Frag} {n : V} (h : ta σ H fun x H1 => rIsI K [x, n] H1 Q) : tCB (rIsI K) (tCons ta (tCons (tC n) tNil)) σ H Q := h
/-- the rest behind an if first -/
theorem rd_cutIf {t1 t2 : TS} (P : St → Hp → Prop) (h1 : ∀ σ' H', P σ' H' → u D σ' H') (h2 : (∀ σ' H', P σ' H' → u D σ' H') → c σ H fun b H1 => if b = true then t1 { D with nx := u D } σ H1 else t2 { D with nx := u D } σ H1) : tSeq (tIfS c t1 t2) u D σ H := h2 h1
theorem rd_asg (h : te σ H fun x H1 => D.nx (σ.set i (some x)) H1) : tAsg te (gName i) D σ H := h
theorem rd_ret (h : te σ H D.rt) : tRet te D σ H := h
theorem rd_drop (h : te σ H fun _ H1 => D.nx σ H1) : tDrop te D σ H := h
theorem rd_if (h : c σ H fun b H1 => if b = true then t D σ H1 else u D σ H1) : tIfS c t u D σ H := h
theorem rd_B {K : Bool → Hp → Prop} (h : te σ H fun x H' => ∃ k, x = .bl k ∧ K k H') : tB te σ H K := h
theorem rd_not {K : Bool → Hp → Prop} {tt : TT} (h : tt σ H fun k H1 => K (!k) H1) : tNot tt σ H K := h
theorem rd_and {K : Bool → Hp → Prop} {t1 t2 : TT} (h : t1 σ H fun k H1 => if k = true then t2 σ H1 K else K false H1) : tAnd t1 t2 σ H K := h
theorem rd_or {K : Bool → Hp → Prop} {t1 t2 : TT} (h : t1 σ H fun k H1 => if k = true then K true H1 else t2 σ H1 K) : tOr t1 t2 σ H K := h
theorem rd_andV (h : ta σ H fun x H1 => ∃ k, x = .bl k ∧ if k = true then tb σ H1 Q else Q (.bl false) H1) : tAndV ta tb σ H Q := h
theorem rd_notV (h : ta σ H fun x H1 => ∃ k, x = .bl k ∧ Q (.bl (!k)) H1) : tNotV ta σ H Q := h
theorem rd_ifE {tt : TT} (h : tt σ H fun k H1 => if k = true then ta σ H1 Q else tb σ H1 Q) : tIf tt ta tb σ H Q := h
theorem rd_eqT {a b : Int} (e : a = b) (h : Q (.bl true) H) : Q (.bl (decide (a = b))) H := by rw [decide_eq_true e]; exact h
theorem rd_true {A B : Prop} (h : A) : if true = true then A else B := by rw [if_pos rfl]; exact h
theorem rd_false {A B : Prop} (h : B) : if false = true then A else B := by rw [if_neg Bool.false_ne_true]; exact h
theorem rd_dec {p A B : Prop} [Decidable p] (h1 : p → A) (h2 : ¬ p → B) : if decide p = true then A else B := by
  by_cases hp : p
  · rw [if_pos (decide_eq_true hp)]; exact h1 hp
  · rw [if_neg (by rw [decide_eq_false hp]; exact Bool.false_ne_true)]; exact h2 hp
theorem rd_ndec {p A B : Prop} [Decidable p] (h1 : ¬ p → A) (h2 : p → B) : if (!decide p) = true then A else B := by
  by_cases hp : p
  · rw [if_neg (by rw [decide_eq_true hp]; exact Bool.false_ne_true)]; exact h2 hp
  · rw [if_pos (by rw [decide_eq_false hp]; rfl)]; exact h1 hp
end

/-- what a def of the text is, for its callers -/
structure Cal (P : Program) (w : World) (K : PySem.W.Frag) (mg : Str → Option Value) (base : Heap) (k : Nat) (x : Str) (ps : List Str) (sp : Sp) (f : Addr) (fd : FuncData) : Prop where
  ok : FnOk P w K mg base CX0 k f fd ps sp
  mg : mg x = some (.ref f)
  kp : PySem.W.keepIn K (.ref f) = true
  bd : Binds K fd ps []

/-- a new object leaves what is there -/
theorem Same.upd_new {H : Hp} {p : Addr} {o : HO} (h : H p = none) : Same H (upd H p o) := fun b u e => by rw [upd_ne (ne_of_none e h)]; exact e
theorem Same.then_new {H H1 : Hp} {p : Addr} {o : HO} (s : Same H H1) (h : H1 p = none) : Same H (upd H1 p o) := s.trans (Same.upd_new h)
theorem Same.ne {H H1 : Hp} {a p : Addr} {o : HO} (s : Same H H1) (e : H a = some o) (h : H1 p = none) : a ≠ p := ne_of_none (s a o e) h
end L2
/-! ### the same rules with the fragment as a letter (for a comprehension's block) -/
namespace L2
open PySem PySem.Spec PyProof.Rows
section
variable {X : Cx} {K : PySem.W.Frag}
theorem ix_listK (h : X.K = K) : IxR X (rIxL K) := by subst h; exact ix_list
theorem ix_tupK (h : X.K = K) : IxR X (rIxT K) := by subst h; exact ix_tup
theorem sl_listK (h : X.K = K) : SlR X (rSlL K) := by subst h; exact sl_list
def rLenL (K : PySem.W.Frag) : List V → Hp → VK → Prop := fun xs H Q => ∃ p ys, xs = [.ref p] ∧ (SqL K H p ys ∨ SqT K H p ys) ∧ Q (.int ys.length) H
theorem call_lenK (h : X.K = K) : CallR X (.builtin "len") (rLenL K) := by subst h; exact call_len_seq
def rListOf (K : PySem.W.Frag) : List V → Hp → VK → Prop := fun xs H Q => ∃ p ys, xs = [.ref p] ∧ (SqL K H p ys ∨ SqT K H p ys) ∧ ∀ l, H l = none → Q (.ref l) (upd H l (.lst ys))
theorem call_listK (h : X.K = K) : CallR X (.type "list") (rListOf K) := by subst h; exact call_list_of
theorem op_eqLK (h : X.K = K) (hu : X.A.units + 64 < cLine) : OpR X (compareOp .Eq) (rEqL K) := by subst h; exact op_eqL hu
theorem op_neLK (h : X.K = K) (hu : X.A.units + 64 < cLine) : OpR X (compareOp .NotEq) (rNeL K) := by subst h; exact op_neL hu
theorem call_isinstK (h : X.K = K) : CallR X (.builtin "isinstance") (rIsI K) := by subst h; exact call_isinst
theorem pi_listK {tg l : Expr} {tl : TE} (h : X.K = K) (hl : PE X l tl) : PI X tg l (iList K tl) := by subst h; exact pi_list hl
theorem pe_fldK {e : Expr} {ta : TE} {f : Str} {pos : Pos} (h : X.K = K) (he : PE X e ta) (hb : attributeBase e f X.env (eval e X.env) = eval e X.env) : PE X (.Attribute e f pos) (tFld K ta f) := by subst h; exact pe_fld he hb
end
end L2

/-! EXT 3: enumerate(list), reversed(list), range with a step -/
namespace L2
open PySem PySem.Spec PyProof.Rows

/-- i, the i-th item, as a new pair, of the list at a -/
def Ite (K : PySem.W.Frag) (a : Addr) : It :=
  ⟨fun i H => ∃ xs x, SqL K H a xs ∧ xs[i]? = some x, fun i H x H' => ∃ v p, x = .ref p ∧ H p = none ∧ H' = upd H p (.tup [.int i, v]) ∧ ∀ xs, SqL K H a xs → xs[i]? = some v, fun i H => ∃ xs, SqL K H a xs ∧ xs.length ≤ i⟩
theorem turn_enum {P : Program} {w : World} {K : PySem.W.Frag} {es : List Expr} {x1 : Nat} {tp : Pos} (a e it : Addr) (hne : e ≠ it) : Turn P w K (.Tuple es x1 tp) (Ite K a) [e, it] e (fun i h => (∃ old, IsEnum h e it (i : Int) old) ∧ h.IsListIter it a i) where
  mem := by simp
  obj := fun i h st b hb => by
    obtain ⟨⟨old, he⟩, hi⟩ := st
    rcases List.mem_cons.mp hb with rfl | hb
    · exact ⟨_, he, fun v z => by cases z⟩
    · have q : b = it := by simpa using hb
      subst q
      obtain ⟨o, e, c, d⟩ := hi
      exact ⟨o, e, fun v z => by rw [d] at z; cases z⟩
  keep := fun i h h' st k => by
    obtain ⟨⟨old, he⟩, hi⟩ := st
    exact ⟨⟨old, k e (by simp) _ he⟩, hi.at fun o q => k it (by simp) o q⟩
  item := by
    intro X hP hw hK hc i pins s σ H E I hf st hg
    subst hP hw hK
    obtain ⟨⟨old, he⟩, hi⟩ := st
    obtain ⟨xs, x, hq, hx⟩ := hg
    obtain ⟨its, rv, p, hz⟩ := I.list hq
    obtain ⟨u, hu, ru⟩ := rv.get hx
    refine wpAny_pyNext_enum_item he hi p.isList (x := u) (by simpa using hu) hne fun h' out hit' htup hsz kk => ?_
    have hfp : H s.heap.objs.size = none := I.hok.fresh (Nat.le_refl _)
    have nfp : ∀ b o, H b = some o → b ≠ e ∧ b ≠ it := fun b o q => ⟨fun z => (by rw [z, (hf e (by simp)).1] at q; cases q), fun z => (by rw [z, (hf it (by simp)).1] at q; cases q)⟩
    have I1 : Inv X pins σ (upd H s.heap.objs.size (.tup [.int i, x])) { s with heap := h', toks := s.toks + 1 } := by
      refine I.step (g' := s.gens) (d' := s.drawn) (ch := [e, it]) (fun b hb => ?_) (fun b o _ _ hc q _ => kk b o (fun z => hc (by simp [z])) (fun z => hc (by simp [z])) q)
        (fun b o _ _ hc q _ => ⟨o.slots, kk b o (fun z => hc (by simp [z])) (fun z => hc (by simp [z])) q⟩) (fun b o _ q n => by rw [upd_ne (Nat.ne_of_lt (Heap.lt_size q))]; exact n)
        (fun b o hc q => ⟨o, kk b o (fun z => hc (by simp [z])) (fun z => hc (by simp [z])) q⟩) (fun b ys q => by rw [upd_ne (ne_of_none q hfp)]; exact q) (fun b o ys q => by rw [upd_ne (ne_of_none q hfp)]; exact q)
        (fun b ps q => ⟨#[], by rw [upd_ne (ne_of_none q hfp), q]; simp⟩) (fun m hm => ?_) (fun b o q => ?_) I.bare
      · obtain ⟨f0, f1, f2, f3, f4, f5⟩ := hf b hb
        exact ⟨f3, f1, f4, f5⟩
      · obtain ⟨o, es', ep', ho, r⟩ := hm
        exact ⟨o, es', ep', kk _ o (Ne.symm (hf e (by simp)).2.1) (Ne.symm (hf it (by simp)).2.1) ho, r⟩
      · by_cases hb : b = s.heap.objs.size
        · subst hb
          rw [upd_same] at q
          cases q
          exact ⟨by show 2 ≤ sizeLine; decide, [.int i s.toks, u], .cons ⟨_, rfl⟩ (.cons ru .nil), ⟨_, htup, rfl, _, rfl⟩⟩
        · rw [upd_ne hb] at q
          refine (I.hok b o q).stay (fun c v hc z => ?_) (fun c z => by rw [upd_ne (ne_of_none z hfp)]; exact z) fun c ys z => by rw [upd_ne (ne_of_none z hfp)]; exact z
          rcases hc with rfl | hc
          · exact kk c v (nfp c o q).1 (nfp c o q).2 z
          · exact kk c v (nfp c _ hc).1 (nfp c _ hc).2 z
    refine ⟨_, rfl, wpAny_letOwnedTupleGo_enum out fun h'' he'' sb => ?_⟩
    obtain ⟨f0, f1, f2, f3, f4, f5⟩ := hf e (by simp)
    have hen : upd H s.heap.objs.size (.tup [.int i, x]) e = none := by
      rw [upd_ne (Nat.ne_of_lt (Heap.lt_size he))]; exact f0
    have I2 := I1.turned (h' := h'') (t' := s.toks + 1) (it := e) (fun b o hb q => (sb.2 b hb).trans q) hen f1 f3 f4 f5
    refine ⟨.ref s.heap.objs.size, _, I2, rfl, ⟨x, _, rfl, hfp, rfl, fun ys hy => by rw [I.list_inj hy hq]; exact hx⟩, ⟨⟨u, ?_⟩, hit'.at fun o q => (sb.2 it (Ne.symm hne)).trans q⟩, fun b hb => ?_⟩
    · have : ((i + 1 : Nat) : Int) = (i : Int) + 1 := by omega
      rw [this]; exact he''
    · have hlt : b < s.heap.objs.size := by
        rcases List.mem_cons.mp hb with rfl | hb
        · exact Heap.lt_size he
        · have q : b = it := by simpa using hb
          subst q
          obtain ⟨o, e1, _⟩ := hi
          exact Heap.lt_size e1
      rw [upd_ne (Nat.ne_of_lt hlt)]
      exact (hf b hb).1
  done := by
    intro X hP hw hK hc i pins s σ H E I hf st hg
    subst hP hw hK
    obtain ⟨⟨old, he⟩, hi⟩ := st
    obtain ⟨xs, hq, hx⟩ := hg
    obtain ⟨its, rv, p, hz⟩ := I.list hq
    obtain ⟨f0, f1, f2, f3, f4, f5⟩ := hf it (by simp)
    have hl := rv.length
    exact wpAny_pyNext_enum_end (I.ok.hd hc) he hi p.isList (by simp; omega) fun h' eb => ⟨rfl, I.turned (t' := s.toks) (fun b o hb e => eb b o hb e) f0 f1 f3 f4 f5⟩
  self := fun _ _ _ _ _ st h => by
    obtain ⟨⟨old, he⟩, hi⟩ := st
    exact wpAny_pyIter_enum he h
section
variable {X : Cx}
def iEnum (K : PySem.W.Frag) (ta : TA) : TI := fun σ H R => ta σ H fun vs H1 => ∃ a, vs = [.ref a] ∧ (∃ xs, SqL K H1 a xs) ∧ R (Ite K a) H1
theorem pi_enum {es : List Expr} {x1 : Nat} {tp : Pos} {a : Expr} {ta : TA} {p pos : Pos} (hg : Gl X "enumerate") (hm : X.mg "enumerate" = none) (ha : PA X [a] ta) (hs : starEach [a] X.env = [(false, eval a X.env)] := by rfl) : PI X (.Tuple es x1 tp) (.Call (.Name "enumerate" p) [a] [] pos) (iEnum X.K ta) := by
  intro pins s σ H R I h
  refine Call_ (ld_blt I hg hm boot_enumerate (PyProof.Rows.callWith_type1 (thn (ha pos pins s σ H _ I h) fun us s1 ⟨vs, H1, I1, r1, q1⟩ => ?_) hs rfl))
  obtain ⟨a', e, ⟨xs, hq⟩, q⟩ := q1
  subst e
  obtain ⟨u, rfl, ru⟩ := r1.one
  cases ru
  obtain ⟨its, rv, pl, hz⟩ := I1.list hq
  refine call_enumerate_list pl.isList fun h' he hit hsz hk => ?_
  have I2 : Inv X pins σ H1 { s1 with heap := h' } := I1.kept (t' := s1.toks) hk
  refine wpAny_pyIter_enum he ?_
  refine ⟨s1.heap.objs.size + 1, [s1.heap.objs.size + 1, s1.heap.objs.size], _, _, H1, rfl, I2, turn_enum a' _ _ (Nat.succ_ne_self _), ⟨⟨_, he⟩, hit⟩, fun b hb => ?_, q⟩
  have hb' : s1.heap.objs.size ≤ b := by
    rcases List.mem_cons.mp hb with rfl | hb
    · exact Nat.le_succ _
    · have q : b = s1.heap.objs.size := by simpa using hb
      subst q; exact Nat.le_refl _
  exact I1.fpOk hb' (I1.hok.fresh hb')
end
/-- over enumerate of a list that the body leaves as it is; the pairs lie about -/
theorem for_enum {K : PySem.W.Frag} {a : Addr} {xs : List V} {g : TG} {tb : TS} {D : Ends} {σ : St} {H : Hp} (Pv : Nat → St → Hp → Prop) (h0 : Pv 0 σ H) (hl : ∀ i σ H, i ≤ xs.length → Pv i σ H → SqL K H a xs)
    (hs : ∀ i x σ H p, xs[i]? = some x → Pv i σ H → H p = none → g (.ref p) σ (upd H p (.tup [.int i, x])) fun σ2 H2 => tb { D with nx := Pv (i + 1), ct := Pv (i + 1), bk := D.nx } σ2 H2) (hd : ∀ σ H, Pv xs.length σ H → D.nx σ H) :
    ∃ W : Nat → Nat → St → Hp → Prop, (∃ m, W 0 m σ H) ∧ ∀ i m σ H, W i m σ H →
      ((Ite K a).stop i H ∧ D.nx σ H) ∨ ((Ite K a).go i H ∧ ∃ N : St → Hp → Prop, (∀ σ' H', N σ' H' → ∃ m', m' < m ∧ W (i + 1) m' σ' H') ∧ ∀ x H', (Ite K a).yld i H x H' → g x σ H' fun σ2 H2 => tb { D with nx := N, ct := N, bk := D.nx } σ2 H2) := by
  refine ⟨fun i m σ H => m = xs.length - i ∧ i ≤ xs.length ∧ Pv i σ H, ⟨xs.length, by simp, Nat.zero_le _, h0⟩, ?_⟩
  rintro i m σ H ⟨rfl, hi, p⟩
  have q := hl i σ H hi p
  by_cases hlt : i < xs.length
  · refine .inr ⟨⟨xs, xs[i], q, by simp [hlt]⟩, Pv (i + 1), fun σ' H' p' => ⟨xs.length - (i + 1), by omega, rfl, hlt, p'⟩, fun x H' y => ?_⟩
    obtain ⟨v, r, rfl, hr, rfl, y⟩ := y
    exact hs i v σ _ r (y xs q) p hr
  · have e : i = xs.length := by omega
    subst e
    exact .inl ⟨⟨xs, q, Nat.le_refl _⟩, hd σ H p⟩
theorem comp_enum {n : Nat} {js : List Nat} {K : PySem.W.Frag} {a : Addr} {xs : List V} {g : TG} {te : TE} {σ0 : St} {H : Hp} {Q : VK} (Pv : Nat → List V → St → Hp → Prop) (hz : xs.length ≤ sizeLine) (h0 : Pv 0 [] (inSt n js σ0) H) (hl : ∀ i ys σ H, i ≤ xs.length → Pv i ys σ H → SqL K H a xs ∧ ys.length ≤ i)
    (hs : ∀ i x ys σ H p, xs[i]? = some x → Pv i ys σ H → H p = none → g (.ref p) σ (upd H p (.tup [.int i, x])) fun σ2 H2 => te σ2 H2 fun y H3 => Pv (i + 1) (ys ++ [y]) σ2 H3) (hd : ∀ ys σ H p, Pv xs.length ys σ H → H p = none → Q (.ref p) (upd H p (.lst ys))) :
    CompR n js g te σ0 Q (Ite K a) H := by
  refine ⟨fun i m ys σ H => m = xs.length - i ∧ i ≤ xs.length ∧ Pv i ys σ H, ⟨xs.length, by simp, Nat.zero_le _, h0⟩, ?_⟩
  rintro i m ys σ H ⟨rfl, hi, p⟩
  obtain ⟨q, hy⟩ := hl i ys σ H hi p
  by_cases hlt : i < xs.length
  · refine .inr ⟨⟨xs, xs[i], q, by simp [hlt]⟩, by omega, fun y σ'' H'' => Pv (i + 1) (ys ++ [y]) σ'' H'', fun y σ' H' p' => ⟨xs.length - (i + 1), by omega, rfl, hlt, p'⟩, fun x H' y => ?_⟩
    obtain ⟨v, r, rfl, hr, rfl, y⟩ := y
    exact hs i v ys σ _ r (y xs q) p hr
  · have e : i = xs.length := by omega
    subst e
    exact .inl ⟨⟨xs, q, Nat.le_refl _⟩, fun r hr => hd ys σ H r p hr⟩

/-- the list at a from its end, as it stood (n items) -/
def Itv (K : PySem.W.Frag) (a : Addr) (xs : List V) : It :=
  ⟨fun i H => SqL K H a xs ∧ i < xs.length, fun i H x H' => H' = H ∧ xs[xs.length - 1 - i]? = some x, fun i H => xs.length ≤ i⟩
theorem turn_rev {P : Program} {w : World} {K : PySem.W.Frag} {tg : Expr} (a it : Addr) (xs : List V) : Turn P w K tg (Itv K a xs) [it] it (fun i h => i ≤ xs.length ∧ h.IsRevIter it a ((xs.length : Int) - 1 - i)) where
  mem := by simp
  obj := fun i h st b hb => by
    have e : b = it := by simpa using hb
    subst e
    obtain ⟨_, o, e, c, d⟩ := st
    exact ⟨o, e, fun v z => by rw [d] at z; cases z⟩
  keep := fun i h h' st k => ⟨st.1, st.2.at fun o e => k it (by simp) o e⟩
  item := by
    intro X hP hw hK hc i pins s σ H E I hf st hg
    subst hP hw hK
    obtain ⟨hq, hlt⟩ := hg
    obtain ⟨its, rv, p, hz⟩ := I.list hq
    have hl := rv.length
    obtain ⟨x, hx⟩ : ∃ x, xs[xs.length - 1 - i]? = some x := ⟨_, List.getElem?_eq_getElem (by omega)⟩
    obtain ⟨u, hu, ru⟩ := rv.get hx
    obtain ⟨f0, f1, f2, f3, f4, f5⟩ := hf it (by simp)
    have e1 : (xs.length : Int) - 1 - i = ((xs.length - 1 - i : Nat) : Int) := by omega
    have hit := st.2
    rw [e1] at hit
    refine wpAny_pyNext_rev_item hit p.isList (x := u) (by simpa using hu) fun h' st' sb => ?_
    have I1 : Inv X pins σ H { s with heap := h' } := I.turned (t' := s.toks) (fun b o hb e => (sb.2 b hb).trans e) f0 f1 f3 f4 f5
    obtain ⟨o, e, c, d⟩ := id st'
    refine ⟨u, rfl, go_of (s := { s with heap := h' }) e c d (by decide) ⟨x, H, I1, ru, ⟨rfl, hx⟩, ⟨hlt, ?_⟩, fun b hb => (hf b hb).1⟩⟩
    have e2 : (xs.length : Int) - 1 - ((i + 1 : Nat) : Int) = ((xs.length - 1 - i : Nat) : Int) - 1 := by omega
    rw [e2]; exact st'
  done := by
    intro X hP hw hK hc i pins s σ H E I hf st hg
    subst hP hw hK
    obtain ⟨f0, f1, f2, f3, f4, f5⟩ := hf it (by simp)
    have hle : xs.length ≤ i := hg
    have e1 : (xs.length : Int) - 1 - i = -1 := by have := st.1; omega
    have hit := st.2
    rw [e1] at hit
    exact wpAny_pyNext_rev_end (I.ok.hd hc) hit fun h' eb => ⟨rfl, I.turned (t' := s.toks) (fun b o hb e => eb b o hb e) f0 f1 f3 f4 f5⟩
  self := fun _ _ _ _ _ st h => wpAny_pyIter_revIter st.2 h
section
variable {X : Cx} {tg : Expr}
def iRev (K : PySem.W.Frag) (ta : TA) : TI := fun σ H R => ta σ H fun vs H1 => ∃ a xs, vs = [.ref a] ∧ SqL K H1 a xs ∧ R (Itv K a xs) H1
theorem pi_rev {a : Expr} {ta : TA} {p pos : Pos} (hg : Gl X "reversed") (hm : X.mg "reversed" = none) (ha : PA X [a] ta) (hs : starEach [a] X.env = [(false, eval a X.env)] := by rfl) : PI X tg (.Call (.Name "reversed" p) [a] [] pos) (iRev X.K ta) := by
  intro pins s σ H R I h
  refine Call_ (ld_blt I hg hm boot_reversed (PyProof.Rows.callWith_type1 (thn (ha pos pins s σ H _ I h) fun us s1 ⟨vs, H1, I1, r1, q1⟩ => ?_) hs rfl))
  obtain ⟨a', xs, e, hq, q⟩ := q1
  subst e
  obtain ⟨u, rfl, ru⟩ := r1.one
  cases ru
  obtain ⟨its, rv, pl, hz⟩ := I1.list hq
  have hl := rv.length
  refine call_reversed_list pl.isList ?_
  have hit : (s1.heap.push (revObj a' ((its.toArray.size : Int) - 1))).IsRevIter s1.heap.objs.size a' ((xs.length : Int) - 1 - ((0 : Nat) : Int)) := by
    have e1 : (xs.length : Int) - 1 - ((0 : Nat) : Int) = (its.toArray.size : Int) - 1 := by rw [List.size_toArray]; omega
    rw [e1]
    exact ⟨_, Heap.get?_push_size _ rfl, rfl, rfl⟩
  have I2 : Inv X pins σ H1 { s1 with heap := s1.heap.push (revObj a' ((its.toArray.size : Int) - 1)) } := I1.kept (t' := s1.toks) fun b o e => Heap.get?_push_of_some _ e
  refine wpAny_pyIter_revIter (s := { s1 with heap := s1.heap.push (revObj a' ((its.toArray.size : Int) - 1)) }) hit ?_
  refine ⟨s1.heap.objs.size, [s1.heap.objs.size], _, _, H1, rfl, I2, turn_rev a' _ xs, ⟨Nat.zero_le _, hit⟩, fun b hb => ?_, q⟩
  have e : b = s1.heap.objs.size := by simpa using hb
  subst e
  exact I1.fpOk (Nat.le_refl _) (I1.hok.fresh (Nat.le_refl _))
end
theorem for_rev {K : PySem.W.Frag} {a : Addr} {xs : List V} {g : TG} {tb : TS} {D : Ends} {σ : St} {H : Hp} (Pv : Nat → St → Hp → Prop) (h0 : Pv 0 σ H) (hl : ∀ i σ H, i ≤ xs.length → Pv i σ H → SqL K H a xs)
    (hs : ∀ i x σ H, i < xs.length → xs[xs.length - 1 - i]? = some x → Pv i σ H → g x σ H fun σ2 H2 => tb { D with nx := Pv (i + 1), ct := Pv (i + 1), bk := D.nx } σ2 H2) (hd : ∀ σ H, Pv xs.length σ H → D.nx σ H) :
    ∃ W : Nat → Nat → St → Hp → Prop, (∃ m, W 0 m σ H) ∧ ∀ i m σ H, W i m σ H →
      ((Itv K a xs).stop i H ∧ D.nx σ H) ∨ ((Itv K a xs).go i H ∧ ∃ N : St → Hp → Prop, (∀ σ' H', N σ' H' → ∃ m', m' < m ∧ W (i + 1) m' σ' H') ∧ ∀ x H', (Itv K a xs).yld i H x H' → g x σ H' fun σ2 H2 => tb { D with nx := N, ct := N, bk := D.nx } σ2 H2) := by
  refine ⟨fun i m σ H => m = xs.length - i ∧ i ≤ xs.length ∧ Pv i σ H, ⟨xs.length, by simp, Nat.zero_le _, h0⟩, ?_⟩
  rintro i m σ H ⟨rfl, hi, p⟩
  by_cases hlt : i < xs.length
  · refine .inr ⟨⟨hl i σ H hi p, hlt⟩, Pv (i + 1), fun σ' H' p' => ⟨xs.length - (i + 1), by omega, rfl, hlt, p'⟩, fun x H' y => ?_⟩
    obtain ⟨e, y⟩ := y
    subst e
    exact hs i x σ _ hlt y p
  · have e : i = xs.length := by omega
    subst e
    exact .inl ⟨Nat.le_refl _, hd σ H p⟩
end L2

/-! EXT 4: defs with defaults, methods and classes for their callers -/
namespace L2
open PySem PySem.Spec PyProof.Rows
/-- a def whose defaults lie at dV -/
structure FunD (K : PySem.W.Frag) (x qual : Str) (st : Stmt) (dV : Value) (f : Addr) (fd : FuncData) : Prop where
  ex : ∃ (oc : Value) (od : Option Addr) (kV doc pm : Value) (an : Option Addr) (cdv ct : Value) (osl : Array (Option Value)),
    fd = PySem.W.fnOf x qual (defArgs st) (defBody st) (defScope st) dV kV doc pm an cdv ct ∧ K.lookup f = some ⟨oc, od, .func fd, osl⟩ ∧ PySem.W.codeIn K cdv qual = true
  kp : PySem.W.keepIn K (.ref f) = true
section
variable {P : Program} {w : World} {K : PySem.W.Frag} {mg : Str → Option Value} {base : Heap}
theorem FunD.ok {x qual : Str} {st : Stmt} {dV : Value} {f : Addr} {fd : FuncData} {N ps : List Str} {k : Nat} {sp : Sp} (F : FunD K x qual st dV f fd) (S : FnScope N ps (defScope st)) (len : ∀ vs H Q E, sp vs H Q E → vs.length = ps.length)
    (hbody : ∀ (cdv : Value) (A : Around) (outer : List Env) (s : Shared) (H : Hp) (vs : List V) (Q : VK) (E : XK), Room k (A.deeper (envOfC qual (defScope st) s.heap.objs.size f cdv)) → sp vs H Q E →
      ∃ t, PSs (cxOf CX0 P w K mg base N qual (defScope st) f cdv A outer s H E).nox (defBody st) t ∧ t { nx := fun _ H' => Q .non H', rt := Q } (start N vs) H) : FnOk P w K mg base CX0 (k + 1) f fd ps sp := by
  obtain ⟨oc, od, kV, doc, pm, an, cdv, ct, osl, rfl, lk, hcd⟩ := F.ex
  refine fn_of lk hcd S len fun A outer s H vs Q E hr hsp => ?_
  obtain ⟨t, h, q⟩ := hbody cdv A outer s H vs Q E hr hsp
  exact ⟨t, h.nox, q⟩
theorem FunD.binds {x qual : Str} {st : Stmt} {dV : Value} {f : Addr} {fd : FuncData} {ps : List Str} (F : FunD K x qual st dV f fd)
    (h : ∀ (kV doc pm : Value) (an : Option Addr) (cdv ct : Value) (us : List Value), us.length = ps.length → bindArgs (PySem.W.fnOf x qual (defArgs st) (defBody st) (defScope st) dV kV doc pm an cdv ct) ⟨us, []⟩ = pure (ps.zip us)) : Binds K fd ps [] := by
  obtain ⟨oc, od, kV, doc, pm, an, cdv, ct, osl, rfl, lk, hcd⟩ := F.ex
  exact .all (h kV doc pm an cdv ct)
/-- the last parameters are filled by the tuple of defaults at T -/
theorem FunD.bindsD {x qual : Str} {st : Stmt} {T : Addr} {f : Addr} {fd : FuncData} {ps : List Str} {ds tup : List Value} {o : Obj} {n : Nat} (m : Nat) (F : FunD K x qual st (.ref T) f fd) (lo : K.lookup T = some o) (hs : o.data = .seq tup.toArray n) (hm : m + ds.length = ps.length)
    (h : ∀ (kV doc pm : Value) (an : Option Addr) (cdv ct : Value) (us : List Value), us.length = m → ∃ k : Option (Array Value) → Sem (List (Str × Value)),
      bindArgs (PySem.W.fnOf x qual (defArgs st) (defBody st) (defScope st) (.ref T) kV doc pm an cdv ct) ⟨us, []⟩ = seqItems? (.ref T) >>= k ∧ k (some tup.toArray) = pure (ps.zip (us ++ ds))) : Binds K fd ps ds := by
  obtain ⟨oc, od, kV, doc, pm, an, cdv, ct, osl, rfl, lk, hcd⟩ := F.ex
  intro s us KX hl
  rw [List.length_append] at hl
  obtain ⟨k, h1, h2⟩ := h kV doc pm an cdv ct us (by omega)
  exact PySem.W.binds_K (k := k) KX rfl lo hs h1 h2
theorem funD_mk {x qual : Str} {st : Stmt} {f : Addr} {oc : Value} {od an : Option Addr} {osl : Array (Option Value)} {dV kV doc pm cdv ct : Value} (l : K.lookup f = some ⟨oc, od, .func (PySem.W.fnOf x qual (defArgs st) (defBody st) (defScope st) dV kV doc pm an cdv ct), osl⟩)
    (c : PySem.W.codeIn K cdv qual = true) (k : PySem.W.keepIn K (.ref f) = true) : FunD K x qual st dV f (PySem.W.fnOf x qual (defArgs st) (defBody st) (defScope st) dV kV doc pm an cdv ct) := ⟨⟨oc, od, kV, doc, pm, an, cdv, ct, osl, rfl, l, c⟩, k⟩
end
/-- a class, for those who make its instances; ds: the defaults of __init__ -/
structure KCal (P : Program) (w : World) (K : PySem.W.Frag) (mg : Str → Option Value) (base : Heap) (k : Nat) (C : Addr) (x : Str) (ps : List Str) (sp : Sp) (f : Addr) (fd : FuncData) (ds : List Value) (dvs : List V) : Prop where
  ok : FnOk P w K mg base CX0 k f fd ps sp
  mkr : Mk K C f
  mg : mg x = some (.ref C)
  bd : Binds K fd ps []
  bdD : Binds K fd ps ds
  vd : Vals dvs ds
end L2

/-! EXT 5: list(reversed(xs)) -/
namespace L2
open PySem PySem.Spec PyProof.Rows
section
variable {prog : Program} {w : World} {A : Around} {E : Value → Shared → Prop} {s : Shared}
end
section
variable {X : Cx} {K : PySem.W.Frag}
theorem pg_tupK {pos : Pos} {es : List Expr} {k : Nat} {t : TGs} {n : Nat} (hK : X.K = K) (hc : X.calm = true) (h : PGs X es t) (hn : (assignEach es X.env).length = n) (hst : (assignEach es X.env).findIdx? (·.1) = none) : PG X (.Tuple es k pos) (gTup K n t) := by subst hK; exact pg_tup hc h hn hst
end
end L2

/-! EXT 7: an exception of an own class is raised, and flies through defs (behind Ext4) -/
namespace L2
open PySem PySem.Spec PyProof.Rows
theorem Un.back {fs : List Addr} {H H1 : Hp} {h h1 h2 : Heap} (u : Un fs [] H H1 h h1) (k : ∀ b o, h.get? b = some o → b ∉ fs → ∃ o', h1.get? b = some o' ∧ h2.get? b = some o')
    (hf : ∀ b ∈ fs, H b = none) (hd : ∀ b ∈ fs, ∀ o, h1.get? b = some o → ∀ vs, o.data ≠ .fields vs) (sl : h1.UpToSlots h2) : Un fs [] H H1 h h2 where
  keep := fun b o e n hb hx => by
    obtain ⟨o', e1, e2⟩ := k b o e hb
    rw [u.keep b o e n hb hx] at e1
    cases e1
    exact e2
  slot := fun b o e n hb hx => by
    obtain ⟨s1, e1⟩ := u.slot b o e n hb hx
    obtain ⟨s2, e2⟩ := sl b _ e1 (hd b hb _ e1)
    exact ⟨s2, e2⟩
  free := u.free
  there := fun b o e hx => by
    by_cases hb : b ∈ fs
    · obtain ⟨s1, e1⟩ := u.slot b o e (hf b hb) hb hx
      obtain ⟨s2, e2⟩ := sl b _ e1 (hd b hb _ e1)
      exact ⟨_, e2⟩
    · obtain ⟨o', _, e2⟩ := k b o e hb
      exact ⟨o', e2⟩
  tups := u.tups
  frzs := u.frzs
  tbls := u.tbls
theorem HOk.back {P : Program} {w : World} {H : Hp} {h h' B : Heap} (x : HOk P w H h) (k : ∀ b y, H b = some y → ∃ o', h.get? b = some o' ∧ B.get? b = some o') (st : B.StaysIn h') : HOk P w H h' := fun a o e => by
  refine (x a o e).stay (fun b u hb q => ?_) (fun _ z => z) fun _ _ z => z
  have hn : ∃ y, H b = some y := by
    rcases hb with rfl | hb
    · exact ⟨_, e⟩
    · exact ⟨_, hb⟩
  obtain ⟨y, hy⟩ := hn
  obtain ⟨o', e1, e2⟩ := k b y hy
  rw [q] at e1
  cases e1
  exact st _ _ e2
section
variable {P : Program} {w : World} {K : PySem.W.Frag} {mg : Str → Option Value} {base : Heap} {N : List Str} {qual : Str} {scope : Scope} {f : Addr} {cd : Value} {A : Around} {outer : List Env} {s : Shared} {H : Hp} {E : XK} {pins : List (Addr × Obj)} {σ : St} {H1 : Hp} {s1 : Shared}
end
end L2

/-! EXT 11: range(lo, hi, -1) -/
namespace L2
open PySem PySem.Spec PyProof.Rows
def ItrD (lo : Int) (n : Nat) : It := ⟨fun i _ => i < n, fun i H x H' => H' = H ∧ x = .int (lo + i * -1), fun i _ => n ≤ i⟩
theorem turn_rangeD {P : Program} {w : World} {K : PySem.W.Frag} {tg : Expr} (it : Addr) (lo : Int) (n : Nat) : Turn P w K tg (ItrD lo n) [it] it (fun i h => IsRangeIter h it (lo + (i : Nat) * -1) ((n : Int) - (i : Nat)) (-1)) where
  mem := by simp
  obj := fun i h st b hb => by
    have e : b = it := by simpa using hb
    subst e
    exact ⟨_, st, fun v z => by
      have z' : Data.fields _ = Data.cell v := z
      cases z'⟩
  keep := fun i h h' st k => k it (by simp) _ st
  item := by
    intro X hP hw hK hc i pins s σ H E I hf st hg
    subst hP hw hK
    obtain ⟨f0, f1, f2, f3, f4, f5⟩ := hf it (by simp)
    have W := Walks.range (prog := X.prog) (w := X.w) (I.ok.hd hc) it lo (-1) n
    refine W.item i s _ _ hg st fun v h' tk hv st' kk => ?_
    obtain ⟨t, rfl⟩ := hv
    have I1 : Inv X pins σ H { s with heap := h', toks := tk } := I.turned (fun b o hb e => kk b o (by simpa using hb) e) f0 f1 f3 f4 f5
    exact ⟨_, rfl, go_of (s := { s with heap := h', toks := tk }) (n := "range_iterator") st' rfl rfl (by decide) ⟨.int (lo + i * -1), H, I1, ⟨t, rfl⟩, ⟨rfl, rfl⟩, st', fun b hb => (hf b hb).1⟩⟩
  done := by
    intro X hP hw hK hc i pins s σ H E I hf st hg
    subst hP hw hK
    obtain ⟨f0, f1, f2, f3, f4, f5⟩ := hf it (by simp)
    exact wpAny_pyNext_range_end (I.ok.hd hc) st (by have : n ≤ i := hg; omega) fun h' eb => ⟨rfl, I.turned (t' := s.toks) (fun b o hb e => eb b o hb e) f0 f1 f3 f4 f5⟩
  self := fun _ _ _ _ _ st h => wpAny_pyIter_rangeiter st h
theorem rangeSize_down (a b : Int) : Builtin.Range.rangeSize a b (-1) = if b < a then a - b else 0 := by
  unfold Builtin.Range.rangeSize
  rw [if_neg (by decide)]
  show (if a > b then (a - b - 1) / 1 + 1 else 0) = _
  rw [Int.ediv_one]
  split <;> omega
theorem small_down {a b : Int} (ha : -(2 ^ 61) ≤ a) (ha' : a < 2 ^ 61) (hb : -(2 ^ 61) ≤ b) (hb' : b < 2 ^ 61) : Builtin.Range.small a b (-1) = true := by
  unfold Builtin.Range.small
  rw [rangeSize_down]
  simp only [Builtin.Range.rangeFitsLong, Bool.and_eq_true, Bool.or_eq_true, decide_eq_true_eq, beq_iff_eq, show ¬ ((-1 : Int) > 0) by decide, if_false]
  split <;> omega
section
variable {X : Cx} {tg : Expr}
theorem range_itD {pins : List (Addr × Obj)} {σ : St} {H : Hp} {s : Shared} {R : It → Hp → Prop} {E : Value → Shared → Prop} {lo hi : Int} {t u v : Tok} {tk : Nat} (I : Inv X pins σ H s) (h1 : -(2 ^ 61) ≤ lo) (h2 : lo < 2 ^ 61) (h3 : -(2 ^ 61) ≤ hi) (h4 : hi < 2 ^ 61)
    (q : R (ItrD lo (lo - hi).toNat) H) : wpAny (model X.prog X.w) X.A (pyIter (.ref s.heap.objs.size)) (PIE X pins σ tg R) E { s with heap := s.heap.push { cls := .type "range", data := .fields #[.int lo t, .int hi u, .int (-1) v] }, toks := tk } := by
  refine wpAny_pyIter_range (IsRange.new ..) (small_down h1 h2 h3 h4) ?_
  have I1 : Inv X pins σ H { s with heap := s.heap.push { cls := .type "range", data := .fields #[.int lo t, .int hi u, .int (-1) v] }, toks := tk } := I.kept fun b o e => Heap.get?_push_of_some _ e
  refine ⟨(s.heap.push { cls := .type "range", data := .fields #[.int lo t, .int hi u, .int (-1) v] }).objs.size, [(s.heap.push { cls := .type "range", data := .fields #[.int lo t, .int hi u, .int (-1) v] }).objs.size], _, _, H, rfl,
    I1.kept (t' := tk) fun b o e => Heap.get?_push_of_some _ e, turn_rangeD _ lo (lo - hi).toNat, ?_, fun b hb => ?_, q⟩
  · have e1 : lo + ((0 : Nat) : Int) * -1 = lo := by simp
    have e2 : (((lo - hi).toNat : Nat) : Int) - ((0 : Nat) : Int) = Builtin.Range.rangeSize lo hi (-1) := by rw [rangeSize_down]; split <;> omega
    show IsRangeIter _ _ (lo + ((0 : Nat) : Int) * -1) ((((lo - hi).toNat : Nat) : Int) - ((0 : Nat) : Int)) (-1)
    rw [e1, e2]
    exact Heap.get?_push_size _ rfl
  · have e : b = (s.heap.push { cls := .type "range", data := .fields #[.int lo t, .int hi u, .int (-1) v] }).objs.size := by simpa using hb
    subst e
    exact I1.fpOk (Nat.le_refl _) (I1.hok.fresh (Nat.le_refl _))
def iRngD (ta : TA) : TI := fun σ H R => ta σ H fun vs H1 => ∃ i j : Int, vs = [.int i, .int j, .int (-1)] ∧ (-(2 ^ 61) ≤ i ∧ i < 2 ^ 61 ∧ -(2 ^ 61) ≤ j ∧ j < 2 ^ 61) ∧ R (ItrD i (i - j).toNat) H1
theorem pi_rangeD {a b c : Expr} {ta : TA} {p pos : Pos} (hg : Gl X "range") (hm : X.mg "range" = none) (ha : PA X [a, b, c] ta) (hs : starEach [a, b, c] X.env = [(false, eval a X.env), (false, eval b X.env), (false, eval c X.env)] := by rfl) (hs2 : starEach [b, c] X.env = [(false, eval b X.env), (false, eval c X.env)] := by rfl) :
    PI X tg (.Call (.Name "range" p) [a, b, c] [] pos) (iRngD ta) := by
  intro pins s σ H R I h
  refine Call_ (ld_blt I hg hm boot_range (PyProof.Rows.callWith_type1 (thn (ha pos pins s σ H _ I h) fun us s1 ⟨vs, H1, I1, r1, q1⟩ => ?_) (by rw [hs, hs2]) (by rw [hs2]; rfl)))
  obtain ⟨i, j, e, ⟨q1, q2, q3, q4⟩, q⟩ := q1
  subst e
  cases r1 with
  | cons r rr =>
    cases rr with
    | cons r' rr =>
      cases rr with
      | cons r'' rr =>
        cases rr
        obtain ⟨t, rfl⟩ := r
        obtain ⟨t', rfl⟩ := r'
        obtain ⟨t'', rfl⟩ := r''
        exact call_range_3 (by decide) (range_itD I1 q1 q2 q3 q4 q) (Or.inl (PyProof.noPylong_small (by decide)))
end
theorem for_rangeD {lo : Int} {n : Nat} {g : TG} {tb : TS} {D : Ends} {σ : St} {H : Hp} (Pv : Nat → St → Hp → Prop) (h0 : Pv 0 σ H)
    (hs : ∀ i σ H, i < n → Pv i σ H → g (.int (lo + i * -1)) σ H fun σ2 H2 => tb { D with nx := Pv (i + 1), ct := Pv (i + 1), bk := D.nx } σ2 H2) (hd : ∀ σ H, Pv n σ H → D.nx σ H) :
    ∃ W : Nat → Nat → St → Hp → Prop, (∃ m, W 0 m σ H) ∧ ∀ i m σ H, W i m σ H →
      ((ItrD lo n).stop i H ∧ D.nx σ H) ∨ ((ItrD lo n).go i H ∧ ∃ N : St → Hp → Prop, (∀ σ' H', N σ' H' → ∃ m', m' < m ∧ W (i + 1) m' σ' H') ∧ ∀ x H', (ItrD lo n).yld i H x H' → g x σ H' fun σ2 H2 => tb { D with nx := N, ct := N, bk := D.nx } σ2 H2) := by
  refine ⟨fun i m σ H => m = n - i ∧ i ≤ n ∧ Pv i σ H, ⟨n, by simp, Nat.zero_le _, h0⟩, ?_⟩
  rintro i m σ H ⟨rfl, hi, p⟩
  by_cases hlt : i < n
  · refine .inr ⟨hlt, Pv (i + 1), fun σ' H' p' => ⟨n - (i + 1), by omega, rfl, hlt, p'⟩, fun x H' y => ?_⟩
    obtain ⟨e, y⟩ := y
    subst e y
    exact hs i σ _ hlt p
  · have e : i = n := by omega
    subst e
    exact .inl ⟨Nat.le_refl _, hd σ H p⟩
end L2

/-! EXT 14: lists of lists of ints (behind Ext2) -/
namespace L2
open PySem PySem.Spec PyProof.Rows
theorem refs_of : ∀ {ps : List Addr} {us : List Value}, Vals (ps.map V.ref) us → us = ps.map Value.ref
  | [], _, h => by cases h; rfl
  | p :: ps, _, h => by
    cases h with
    | cons r rr =>
      cases r
      rw [refs_of rr]; rfl
section
variable {X : Cx} {K : PySem.W.Frag}
end
end L2

namespace L2
open PySem PySem.Spec PyProof.Rows
theorem law_callS {P : Program} {w : World} {K : PySem.W.Frag} {mg mb : Str → Option Value} {CX : CXT} {k : Nat} {fa a : Addr} {fd : FuncData} {x : Str} {sp : Sp} {s₁ : Shared} {vs : List Value} {ns : List Int}
    (KX : K.In s₁.heap) (hns : s₁.heap.Ns mainGlobals mg) (hb : s₁.heap.Ns builtinsNs mb) (hbb : ∀ x : Str, x ≠ "__name__" → mb x = bootBuiltins x) (hlim : s₁.heap.NoLimit) (hse : s₁.heap.NoSeer) (hg : s₁.gens = #[])
    (ha : s₁.heap.get? a = some { cls := .type "list", data := .seq vs.toArray }) (hi : IntsAre vs ns) (hl : ns.length ≤ sizeLine) (hr : Room k callerA)
    (F : ∀ base : Heap, K.In base → base.Ns mainGlobals mg → base.NoSeer → FnOk P w K mg base CX k fa fd [x] sp) (hbind : ∀ (s : Shared) (u : Value), BindsTo s fd ⟨[u], []⟩ [(x, u)])
    (hsp : ∀ H : Hp, Only H → SqL K H a (ns.map V.int) → sp [.ref a] H (fun v _ => v = .bl true) fun _ _ _ => False)
    (hCX : ∀ H e s', CX [] H s₁ (fun _ _ _ => False) e s' → False) :
    codeAny (model P w) callerA (.call (.ref fa) ⟨[.ref a], []⟩) (fun r s' => r = .ok (.ret (.bool true)) ∧ OldK s₁.heap s'.heap ∧ s'.os = s₁.os ∧ AllBare s'.gens) s₁ := by
  have rv := vals_ints hi
  have lenV := hi.length
  -- from an abstract heap in which nothing but the script may be tracked
  have core : ∀ H : Hp, Only H → SqL K H a (ns.map V.int) → HOk P w H s₁.heap → (∀ b, H b ≠ none → b = a) → (H a ≠ none → K.lookup a = none) →
      codeAny (model P w) callerA (.call (.ref fa) ⟨[.ref a], []⟩) (fun r s' => r = .ok (.ret (.bool true)) ∧ OldK s₁.heap s'.heap ∧ s'.os = s₁.os ∧ AllBare s'.gens) s₁ := by
    intro H hO hS hok hA hK
    have base_of : ∀ {b : Addr} {o : Obj}, s₁.heap.get? b = some o → H b = none → (hidT s₁.heap H).get? b = some o := fun e n => hidT_get e n
    have noA : ∀ {b : Addr} {o : Obj} {es : Array DictEntry} {ep : Nat}, s₁.heap.get? b = some o → o.data = .dict es ep → H b = none := fun {b o es ep} e d => by
      cases q : H b with
      | none => rfl
      | some u =>
        have e' : b = a := hA b (by rw [q]; simp)
        subst e'
        rw [ha] at e; cases e
        have d' : Data.seq vs.toArray _ = Data.dict es ep := d
        cases d'
    have nsK : ∀ {b : Addr} {m : Str → Option Value}, s₁.heap.Ns b m → (hidT s₁.heap H).Ns b m := fun {b m} ⟨o, es, ep, e, d, r⟩ => ⟨o, es, ep, base_of e (noA e d), d, r⟩
    have hKb : K.In (hidT s₁.heap H) := fun b o e => base_of (KX b o e) (by
      cases q : H b with
      | none => rfl
      | some u =>
        have e' : b = a := hA b (by rw [q]; simp)
        subst e'
        rw [hK (by rw [q]; simp)] at e; cases e)
    have hM : Mod K mg (hidT s₁.heap H) := ⟨hKb, nsK hns, ⟨mb, nsK hb, hbb⟩, let ⟨mc, h1, h2⟩ := hlim; ⟨mc, nsK h1, h2⟩⟩
    have hSb : (hidT s₁.heap H).NoSeer := by
      obtain ⟨⟨mc, c1, c2, c3⟩, ⟨mm, m1, m2⟩, ⟨mb', b1, b2⟩, ⟨mg', bm, ob, g1, g2, g3, g4, g5⟩⟩ := hse
      refine ⟨⟨mc, nsK c1, c2, c3⟩, ⟨mm, nsK m1, m2⟩, ⟨mb', nsK b1, b2⟩, ⟨mg', bm, ob, nsK g1, g2, base_of g3 ?_, g4, g5⟩⟩
      cases q : H bm with
      | none => rfl
      | some u =>
        have e' : bm = a := hA bm (by rw [q]; simp)
        rw [e', ha] at g3
        cases g3
        exact absurd (Value.type.inj g4) (by decide)
    have e0 : Env0 P w K mg (hidT s₁.heap H) callerA [] s₁ H := ⟨rfl, hM, fun b o e => of_hidT e, Nat.le_of_eq (hidT_size _ _), trivial, fun b hb => absurd (show b ∈ ([] : List Addr) from hb) (by simp), hok, .of_eq hg⟩
    refine codeAny_mono ((F _ hKb (nsK hns) hSb).run callerA [] s₁ H ⟨[.ref a], []⟩ [.ref a] [.ref a] _ _ hr e0 (hbind s₁ (.ref a)) (.cons rfl .nil) (hsp H hO hS)) fun r s' h => ?_
    cases r with
    | error e => exact (hCX H e s' h).elim
    | ok fl =>
      cases fl with
      | next => exact False.elim h
      | brk => exact False.elim h
      | cont => exact False.elim h
      | ret u =>
        obtain ⟨v, H', os, bare, un, hok', r', q⟩ := h
        have q' : v = .bl true := q
        subst q'
        obtain rfl : u = Value.bool true := r'
        refine ⟨rfl, OldK.of_keep fun b o e => ?_, os, bare⟩
        cases q : H b with
        | none => exact un.keep b o e q (by intro z; exact absurd (show b ∈ ([] : List Addr) from z) (by simp)) (by simp)
        | some u =>
          rcases hO b with z | ⟨ob, xs, z⟩
          · rw [q] at z; cases z
          · have z2 := un.frzs b ob _ z
            obtain ⟨e1, _⟩ := hok b _ z
            obtain ⟨e2, _⟩ := hok' b _ z2
            rw [e] at e1; cases e1
            exact e2
  cases hk : K.lookup a with
  | some o =>
    -- the script is one of the module's own objects
    have e := KX a o hk
    rw [ha] at e
    cases e
    refine core (fun _ => none) (fun _ => .inl rfl) (.inr ⟨_, vs.toArray, _, hk, rfl, rfl, rfl, by rw [List.size_toArray, lenV]; exact hl, by simpa using rv⟩) (fun b u z => by have z' : (none : Option HO) = some u := z; cases z') (fun b z => absurd rfl z) fun z => absurd rfl z
  | none =>
    refine core (fun b => if b = a then some (.frz { cls := .type "list", data := .seq vs.toArray } (.lst (ns.map V.int))) else none) (fun b => ?_) (.inl (.inr ⟨{ cls := .type "list", data := .seq vs.toArray }, if_pos rfl⟩)) (fun b u z => ?_) (fun b z => ?_) fun _ => hk
    · by_cases hb : b = a
      · exact .inr ⟨_, _, if_pos hb⟩
      · exact .inl (if_neg hb)
    · by_cases hb : b = a
      · have z' := (if_pos hb).symm.trans z
        cases z'
        subst hb
        exact ⟨ha, by rw [List.length_map]; exact hl, vs, _, rv, ha⟩
      · have z' := (if_neg hb).symm.trans z
        cases z'
    · by_cases hb : b = a
      · exact hb
      · exact absurd (if_neg hb) z
theorem walk_ofS {l : PySem.W.OpenLaw} {n k : Nat} {q : Program} {loose : List Str} {XP : (Str → Option Value) → Heap → Prop} {YP : World → Heap → Prop} {d : DefRec} {K : Params → PySem.W.Frag} {CX : World → CXT} {sp : World → Sp} {x : Str}
    (hi : PyProof.Rows.importsNone q = true) (hn : l.most = some n) (hn2 : n ≤ sizeLine) (hdf : d.params.defaults = []) (hr : Room k callerA)
    (hY : ∀ (w : World) (h : Heap), YP w h → (K w.params).In h)
    (F : ∀ (w : World) (mg : Str → Option Value) (fa : Addr) (h : Heap), (K w.params).In h → h.Ns mainGlobals mg → mg d.name = some (.ref fa) →
      ∃ fd : FuncData, (∀ (s : Shared) (u : Value), BindsTo s fd ⟨[u], []⟩ [(x, u)]) ∧
        ∀ base : Heap, (K w.params).In base → base.Ns mainGlobals mg → base.NoSeer → FnOk l.prog w (K w.params) mg base (CX w) k fa fd [x] (sp w))
    (hsp : ∀ (w : World) (H : Hp) (a : Addr) (ns : List Int), ns.length ≤ n → Only H → SqL (K w.params) H a (ns.map V.int) → sp w [.ref a] H (fun v _ => v = .bl true) fun _ _ _ => False)
    (hCX : ∀ (w : World) (H : Hp) (s : Shared) (e : Value) (s' : Shared), CX w [] H s (fun _ _ _ => False) e s' → False) :
    PySem.W.WalkO q loose XP YP l.row.toRowW d [] (fun f vs => PySem.call f vs) := by
  refine Att.attach_call hn hdf fun w s₀ s₁ mg mb fa o pm cd doc a vs ns G Y ho hd hcd hmg hobj hints hlen hg => ?_
  have KX := hY w _ Y
  obtain ⟨fd, hb, hF⟩ := F w mg fa _ KX G.T.g hmg
  exact law_callS KX G.T.g G.T.b G.T.builtins G.T.nolimit (G.T.seer hi) hg hobj hints (Nat.le_trans hlen hn2) hr hF hb (fun H hO hS => hsp w H a ns hlen hO hS) fun H e s' => hCX w H s₁ e s'
end L2
/-! EXT 16: // by numbers of any size: what the big division asks of the heap stands from the start (ext16.py makes the rest) -/
namespace L2
open PySem PySem.Spec PyProof.Rows
section
variable {X : Cx} {e : Env} {l : List Env}
theorem room_big {pins : List (Addr × Obj)} {σ : St} {H : Hp} {s : Shared} (hs : X.base.NoSeer) (ht : X.prog.given.tree = none) (hd : X.A.depth + 100 < recursionLimit) (hst : X.stack = e :: l) (h1 : e.scope.isGenerator = false) (h2 : e.scope.isCoroutine = false) (h3 : e.builtins = builtinsNs) (h4 : e.globals = mainGlobals) (I : Inv X pins σ H s) : PylongRoom (model X.prog X.w) X.A s :=
  PylongRoom.of (I.ok.mod.nolimit.keeps I.bk) hd (SeerAt.of (hs.keeps I.bk) ht (by rw [I.ok.frames, hst]) h1 h2 h3 h4)
/-- // by a number above 0 of any size -/
theorem op_fdivS (hs : X.base.NoSeer) (ht : X.prog.given.tree = none) (hd : X.A.depth + 100 < recursionLimit) (hst : X.stack = e :: l) (h1 : e.scope.isGenerator = false) (h2 : e.scope.isCoroutine = false) (h3 : e.builtins = builtinsNs) (h4 : e.globals = mainGlobals) : OpR X (binaryOp .FloorDiv) (rI (fun _ j => 0 < j) fun i j => .int (i / j)) := by
  intro pins s σ H x y v u Q I rx ry h
  obtain ⟨i, j, rfl, rfl, hj, q⟩ := h
  obtain ⟨t, rfl⟩ := rx
  obtain ⟨t', rfl⟩ := ry
  have hj' : (0 : Int) < j := hj
  refine floordiv_int (Int.ne_of_gt hj') ?_ (.inr (room_big hs ht hd hst h1 h2 h3 h4 I))
  rw [Int.fdiv_eq_ediv_of_nonneg _ (Int.le_of_lt hj')]
  exact ⟨.int (i / j), H, I.tok _, ⟨_, rfl⟩, q⟩
end
end L2

/-! EXT 18: a list of ints in a list of such lists (behind Ext14) -/
namespace L2
open PySem PySem.Spec PyProof.Rows
def rNinLL (K : PySem.W.Frag) : R2 := fun x y H Q => ∃ (a p : Addr) (ps : List Addr) (xss : List (List Int)) (xs : List Int), x = .ref p ∧ y = .ref a ∧ H p = some (.lst (xs.map V.int)) ∧ SqL K H a (ps.map V.ref) ∧ ps.length = xss.length ∧ (∀ (i : Nat) (p : Addr) (xs : List Int), ps[i]? = some p → xss[i]? = some xs → H p = some (.lst (xs.map V.int))) ∧ Q (.bl (!decide (xs ∈ xss))) H
theorem ints_inj {xs ys : List Int} (h : xs.map V.int = ys.map V.int) : xs = ys := by
  refine List.ext_getElem? fun i => ?_
  have := congrArg (fun l : List V => l[i]?) h
  simp only [List.getElem?_map] at this
  cases e1 : xs[i]? <;> cases e2 : ys[i]? <;> rw [e1, e2] at this <;> simp at this
  rw [this]
open Classical in
noncomputable def eRow (H : Hp) (xs : List Int) (w : Value) : Bool := match w with
  | .ref q => decide (H q = some (.lst (xs.map V.int)))
  | _ => false
theorem eRow_iff {H : Hp} {xs : List Int} {q : Addr} : eRow H xs (.ref q) = true ↔ H q = some (.lst (xs.map V.int)) := by unfold eRow; exact @decide_eq_true_iff _ (_)
section
variable {X : Cx} {K : PySem.W.Frag}
theorem op_ninLL (hu : X.A.units + 66 < cLine) : OpR X (compareOp .NotIn) (rNinLL X.K) := by
  intro pins s σ H x y v u Q I rx ry h
  obtain ⟨a, p, ps, xss, xs, rfl, rfl, hp, ha, hl, hr, q⟩ := h
  cases rx; cases ry
  obtain ⟨i0, r0, p0, _⟩ := I.list (SqL.of (K := X.K) hp)
  obtain ⟨i1, r1, p1, _⟩ := I.list ha
  obtain rfl := refs_of r1
  refine SeqAt.notIn_listAt (eRow H xs) p1.isList (fun w hw => ?_) ⟨.bl _, H, I, rfl, ?_⟩
  · obtain ⟨q, hq, rfl⟩ := List.mem_map.mp (by simpa using hw)
    obtain ⟨i, hi, rfl⟩ := List.getElem_of_mem hq
    have hx : xss[i]? = some (xss[i]'(by omega)) := List.getElem?_eq_getElem (by omega)
    have h1 := hr i ps[i] _ (List.getElem?_eq_getElem hi) hx
    obtain ⟨i2, r2, p2, _⟩ := I.list (SqL.of (K := X.K) h1)
    have e := PySem.W.keq_ints (A := X.A) p2.isList (intsAre_of r2) p0.isList (intsAre_of r0) (by show X.A.units + 1 + 64 < cLine; omega)
    have ee : eRow H xs (.ref ps[i]) = decide (xss[i]'(by omega) = xs) := by
      rw [Bool.eq_iff_iff, eRow_iff, h1, decide_eq_true_eq]
      constructor
      · intro z; injection z with z; injection z with z; exact ints_inj z
      · intro z; rw [z]
    rw [ee]
    exact e
  · have e : (ps.map Value.ref).toArray.any (eRow H xs) = decide (xs ∈ xss) := by
      rw [show (ps.map Value.ref).toArray.any (eRow H xs) = (ps.map Value.ref).any (eRow H xs) by simp, Bool.eq_iff_iff, List.any_eq_true, decide_eq_true_eq]
      constructor
      · rintro ⟨w, hw, z⟩
        obtain ⟨q, hq, rfl⟩ := List.mem_map.mp hw
        obtain ⟨i, hi, rfl⟩ := List.getElem_of_mem hq
        have hx : xss[i]? = some (xss[i]'(by omega)) := List.getElem?_eq_getElem (by omega)
        have h1 := hr i ps[i] _ (List.getElem?_eq_getElem hi) hx
        have z' : H ps[i] = _ := eRow_iff.mp z
        rw [h1] at z'
        injection z' with z'; injection z' with z'
        rw [← ints_inj z']
        exact List.getElem_mem _
      · intro hm
        obtain ⟨i, hi, rfl⟩ := List.getElem_of_mem hm
        refine ⟨.ref (ps[i]'(by omega)), List.mem_map.mpr ⟨_, List.getElem_mem _, rfl⟩, ?_⟩
        exact eRow_iff.mpr (hr i _ _ (List.getElem?_eq_getElem (by omega)) (List.getElem?_eq_getElem hi))
    rw [e]
    exact q
theorem op_ninLLK (h : X.K = K) (hu : X.A.units + 66 < cLine) : OpR X (compareOp .NotIn) (rNinLL K) := by subst h; exact op_ninLL hu
end
end L2

/-! EXT 25: list comprehensions with one test (behind Ext1) -/
namespace L2
open PySem PySem.Spec PyProof.Rows
theorem loopT {prog : Program} {w : World} {A : Around} {s : Shared} {elt target iter cond : Expr} {scope : Scope} {pos : Pos} {it acc : Value} {env : Env} {R : Result → Shared → Prop} (J : Nat → Shared → Prop)
    (turn : ∀ n s, J n s → wpAny (model prog w) A (pyNext it) (fun r a => match r with
      | none => R (.ok .next) a
      | some v => wpAny (model prog w) A (letOwnedTupleGo target it v) (fun _ b => wpAny (model prog w) A (assign target env v) (fun _ c =>
          wpAny (model prog w) A (isTrue cond env (eval cond env)) (fun ok d =>
            if ok = true then wpAny (model prog w) A (eval elt env) (fun x f =>
              wpAny (model prog w) A (call (.builtin "list.append") [acc, x]) (fun _ g => ∃ m, m < n ∧ J m g) (notedBy (model prog w) A env fun e z => R (.error e) z) f) (notedBy (model prog w) A env fun e z => R (.error e) z) d
            else ∃ m, m < n ∧ J m d) (notedBy (model prog w) A env fun e z => R (.error e) z) c)
          (notedBy (model prog w) A env fun e z => R (.error e) z) b) (notedBy (model prog w) A env fun e z => R (.error e) z) a) (notedBy (model prog w) A env fun e z => R (.error e) z) s)
    (n : Nat) (h : J n s) : codeAny (model prog w) A (.compLoop (.ListComp elt [⟨target, iter, [cond], 0⟩] scope pos) 0 it acc env) R s := by
  refine codeAny_loop rfl J (fun n s hJ => ?_) n h
  change wpAny _ A ((compTurn (.ListComp elt [⟨target, iter, [cond], 0⟩] scope pos) 0 it acc env).onRaise (fun x => do noteFrame x env; theTreesLotGoes x)) _ _ s
  refine wpAny_noted ?_
  rw [compTurn_list]
  refine wpAny_bind (wpAny_standAt (wpAny_bind (wpAny_mono (turn n s hJ) (fun r a h1 => ?_) fun _ _ z => z)))
  cases r with
  | none => exact wpAny_pure h1
  | some v =>
    refine wpAny_bind (wpAny_mono h1 (fun _ b h2 => ?_) fun _ _ z => z)
    refine wpAny_bind (wpAny_mono h2 (fun _ c h3 => ?_) fun _ _ z => z)
    refine wpAny_bind (wpAny_tests_one (wpAny_mono h3 (fun ok d h4 => ?_) fun _ _ z => z))
    cases ok with
    | false => exact wpAny_pure ⟨rfl, h4⟩
    | true => exact wpAny_bind (wpAny_bind (wpAny_mono h4 (fun x f h5 => wpAny_bind (wpAny_mono h5 (fun _ g h6 => wpAny_pure (wpAny_pure ⟨rfl, h6⟩)) fun _ _ z => z)) fun _ _ z => z))
/-- the invariant as in CompR; what is made at a turn: an item or none -/
def CompRT (n : Nat) (js : List Nat) (g : TG) (tt : TT) (te : TE) (σ : St) (Q : VK) (J : It) (H1 : Hp) : Prop := ∃ W : Nat → Nat → List V → St → Hp → Prop, (∃ m, W 0 m [] (inSt n js σ) H1) ∧
  ∀ i m ys σ' H', W i m ys σ' H' →
    (J.stop i H' ∧ ∀ p, H' p = none → Q (.ref p) (upd H' p (.lst ys))) ∨
    (J.go i H' ∧ ys.length < sizeLine ∧ ∃ N : Option V → St → Hp → Prop, (∀ y σ'' H'', N y σ'' H'' → ∃ m', m' < m ∧ W (i + 1) m' (ys ++ y.toList) σ'' H'') ∧ ∀ x H2, J.yld i H' x H2 → g x σ' H2 fun σ3 H3 => tt σ3 H3 fun kk H4 => if kk = true then te σ3 H4 fun y H5 => N (some y) σ3 H5 else N none σ3 H4)
def tCompT (n : Nat) (js : List Nat) (wi : TI) (g : TG) (tt : TT) (te : TE) : TE := fun σ H Q => wi σ H fun J H1 => CompRT n js g tt te σ Q J H1
section
variable {X : Cx} {own fr : List Str} {js : List Nat} {scope : Scope} {cl : List (Str × Addr)} {elt target iter : Expr} {pos : Pos} {wi : TI} {g : TG} {te : TE} {cond : Expr} {tt : TT}
theorem comp_coreT {pins : List (Addr × Obj)} {σ : St} {H : Hp} {s : Shared} {fp : List Addr} {it : Addr} {tn : Nat → Heap → Prop} {J : It} {E : Value → Shared → Prop} {Q : VK} {RR : Value → Addr → Result → Shared → Prop} (O : CompOk X fr js scope cl) (hl : fr.length = js.length) (hcm : X.calm = true)
    (I : Inv X pins σ H s) (T : Turn X.prog X.w X.K target J fp it tn) (st : tn 0 s.heap) (hf : ∀ b ∈ fp, FpOk X pins H b)
    (hg : ∀ C s₀ H₀ ex, PG (cxIn X (own ++ fr) scope cl C s₀ H₀ ex) target g) (he : ∀ C s₀ H₀ ex, PE (cxIn X (own ++ fr) scope cl C s₀ H₀ ex) elt te) (hc : ∀ C s₀ H₀ ex, PT (cxIn X (own ++ fr) scope cl C s₀ H₀ ex) cond tt)
    (W : Nat → Nat → List V → St → Hp → Prop) {m0 : Nat} (w0 : W 0 m0 [] (inSt own.length js σ) H)
    (turn : ∀ i m ys σ' H', W i m ys σ' H' →
      (J.stop i H' ∧ ∀ p, H' p = none → Q (.ref p) (upd H' p (.lst ys))) ∨
      (J.go i H' ∧ ys.length < sizeLine ∧ ∃ N : Option V → St → Hp → Prop, (∀ y σ'' H'', N y σ'' H'' → ∃ m', m' < m ∧ W (i + 1) m' (ys ++ y.toList) σ'' H'') ∧ ∀ x H2, J.yld i H' x H2 → g x σ' H2 fun σ3 H3 => tt σ3 H3 fun kk H4 => if kk = true then te σ3 H4 fun y H5 => N (some y) σ3 H5 else N none σ3 H4))
    (hRR : ∀ D C s', CompFin X pins σ Q D C s' → RR (.ref D) C (.ok .next) s') :
    wpAny (model X.prog X.w) X.A (newList []) (fun acc s₃ => wpAny (model X.prog X.w) X.A (newFunctionEnv scope X.env.globals cl [] X.env.qual none .none (some X.env)) (fun cenv s₄ =>
      codeAny (model X.prog X.w) X.A (.compStart (.ListComp elt [⟨target, iter, [cond], 0⟩] scope pos) 0 (.ref it) acc { cenv with scope := relabel scope X.env }) (RR acc cenv.locals) s₄) E s₃) E s := by
  refine wpAny_newObj_type (wpAny_newFunctionEnv O.cell (by intro y hy; simp at hy) (fun h₁ hns₁ hsb₁ => ?_) O.kind)
  dsimp only at hns₁ hsb₁ ⊢
  generalize hH2 : s.heap.push { cls := .type "list", dict := none, data := .seq ([] : List Value).toArray } = H2 at hns₁ hsb₁ ⊢
  have hCs : H2.objs.size = s.heap.objs.size + 1 := by rw [← hH2, Heap.size_push]
  have hDC : s.heap.objs.size ≠ H2.objs.size := by rw [hCs]; exact Nat.ne_of_lt (Nat.lt_succ_self _)
  have hCge : s.heap.objs.size ≤ H2.objs.size := by rw [hCs]; exact Nat.le_succ _
  have below : ∀ b, b < s.heap.objs.size → b ≠ H2.objs.size ∧ b ≠ s.heap.objs.size := fun b hb => ⟨by rw [hCs]; exact Nat.ne_of_lt (Nat.lt_succ_of_lt hb), Nat.ne_of_lt hb⟩
  have old : ∀ b o, s.heap.get? b = some o → h₁.get? b = some o := fun b o e => hsb₁.extBut b o (below b (Heap.lt_size e)).1 (Heap.get?_push_of_some _ (hH2 ▸ Heap.get?_push_of_some _ e))
  have hacc : h₁.get? s.heap.objs.size = some { cls := .type "list", data := .seq ([] : List Value).toArray 0 } := hsb₁.extBut _ _ hDC (Heap.get?_push_of_some _ (hH2 ▸ Heap.get?_push_size _ rfl))
  have ho : ∀ b ∈ fp, b < s.heap.objs.size := fun b hb => by obtain ⟨o, e, _⟩ := T.obj 0 _ st b hb; exact Heap.lt_size e
  generalize hDe : s.heap.objs.size = D at *
  generalize hCe : H2.objs.size = C at *
  let X' : Cx := cxIn X (own ++ fr) scope cl C s H fp
  have ok' : X'.Ok := cxIn_ok O I (by rw [hDe]; exact hCge) hf (by rw [hDe]; exact ho)
  have hDfs : D ∉ X'.fs := by
    intro z
    rcases List.mem_cons.mp (I.stkSub D z) with q | q
    · exact absurd I.lt (by rw [← q, hDe]; exact Nat.lt_irrefl _)
    · exact I.nofs (Nat.le_of_eq hDe) q
  have hDfp : ∀ b ∈ fp, D ≠ b := fun b hb z => absurd (ho b hb) (by rw [z]; exact Nat.lt_irrefl _)
  have hDcell : ∀ x c, cl.lookup x = some c → c ≠ D := fun x c e z => by
    obtain ⟨v, q⟩ := I.cell x c (cells_in O e)
    exact absurd q.lt (by rw [z, hDe]; exact Nat.lt_irrefl _)
  have fpok : ∀ {H' : Hp} {pins' : List (Addr × Obj)}, (∀ p ∈ pins', p.1 = D) → (∀ b ∈ fp, H' b = none) → ∀ b ∈ fp, FpOk X' pins' H' b := fun {H' pins'} hp hn b hb => by
    obtain ⟨f0, f1, f2, f3, f4, f5⟩ := hf b hb
    refine ⟨hn b hb, (below b (ho b hb)).1, fun z => ?_, .inl hb, fun x c e => f4 x c (cells_in O e), fun p hp' => ?_⟩
    · rcases List.mem_cons.mp (I.stkSub b z) with q | q
      · exact f1 q
      · exact f2 q
    · have hp'' : p ∈ pins' := by simpa [X', cxIn] using hp'
      rw [hp p hp'']; exact hDfp b hb
  have loop : ∀ s₃ : Shared, s₃ = { s with heap := h₁, toks := s.toks + ([] : List (Str × Value)).length } →
      codeAny (model X.prog X.w) X.A (.compLoop (.ListComp elt [⟨target, iter, [cond], 0⟩] scope pos) 0 (.ref it) (.ref D) (compEnvC scope cl C X.env)) (RR (.ref D) C) s₃ := by
    rintro s₃ rfl
    refine loopT (fun k s' => ∃ i σ' H' ys its nn, Inv X' [] σ' H' s' ∧ tn i s'.heap ∧ (∀ b ∈ fp, H' b = none) ∧ H' D = none ∧ s'.heap.get? D = some { cls := .type "list", data := .seq (its : List Value).toArray nn } ∧ Vals ys its ∧ ys.length ≤ sizeLine ∧ W i k ys σ' H') ?_ m0
      ⟨0, _, H, [], [], 0, cxIn_inv O hl I (by rw [hDe]; exact hCge) hf (by rw [hDe]; exact ho) rfl rfl (by intro b o e; exact old b o e) hns₁, T.keep _ _ _ st fun b _ o e => old b o e, fun b hb => (hf b hb).1, I.hok.fresh (Nat.le_of_eq hDe), hacc, .nil, Nat.zero_le _, w0⟩
    rintro k s' ⟨i, σ', H', ys, its, nn, I', st', hfn, hDn, hDo, rv, hz, w⟩
    have hlen := rv.length
    have hpD : ∀ p ∈ [(D, ({ cls := .type "list", data := .seq its.toArray nn } : Obj))], p.1 = D := fun p hp => by rw [List.mem_singleton.mp hp]
    have Ip : Inv X' [(D, ({ cls := .type "list", data := .seq its.toArray nn } : Obj))] σ' H' s' := I'.pins_of fun p hp => by
      rw [List.mem_singleton.mp hp]
      exact ⟨hDo, hDn, hDC, hDfs, fun v z => by cases z⟩
    rcases turn i k ys σ' H' w with ⟨stop, fin⟩ | ⟨go, hlt, N, hN, step⟩
    · refine wpAny_mono (T.done X' rfl rfl rfl hcm i _ s' σ' H' (fun _ _ => False) Ip (fpok hpD hfn) st' stop) (fun r s4 ⟨hr, I4⟩ => ?_) fun _ _ z => False.elim z
      subst hr
      refine hRR D C s4 ?_
      have hD4 : s4.heap.get? D = some { cls := .type "list", data := .seq its.toArray nn } := (I4.pin _ (List.mem_append_right _ (List.mem_singleton.mpr rfl))).1
      have un : Un (frs X.stack) fp H (upd H' D (.lst ys)) s.heap s4.heap := Un.adopt I4.base (Nat.le_of_eq hDe) (I.hok.fresh (Nat.le_of_eq hDe))
      have hok : HOk X.prog X.w (upd H' D (.lst ys)) s4.heap := HOk.adopt I4.hok hDn ⟨hz, its, nn, rv, hD4⟩
      refine ⟨upd H' D (.lst ys), I.call' I4.os un hok I4.bare fun b hb => ?_, fin D hDn, ?_, ?_, ?_, fun x c e z => ?_, fun p hp z => ?_, ?_⟩
      · obtain ⟨f0, f1, f2, f3, f4, f5⟩ := hf b hb
        exact ⟨f3, f1, f4, f5⟩
      · rw [upd_ne (Ne.symm hDC)]
        exact I4.free
      · exact Nat.ne_of_gt (Nat.lt_of_lt_of_le I.lt (by rw [hDe]; exact hCge))
      · exact Nat.le_trans I.sz (by rw [hDe]; exact hCge)
      · obtain ⟨v, q⟩ := I.cell x c e
        exact absurd (Nat.lt_of_lt_of_le q.lt (by rw [hDe, z]; exact hCge)) (Nat.lt_irrefl _)
      · exact absurd (Nat.lt_of_lt_of_le (Heap.lt_size (I.pin p hp).1) (by rw [hDe, z]; exact hCge)) (Nat.lt_irrefl _)
      · obtain ⟨m', hn', _⟩ := I4.loc
        exact ⟨m', hn'⟩
    · refine wpAny_mono (T.item X' rfl rfl rfl hcm i _ s' σ' H' (fun _ _ => False) Ip (fpok hpD hfn) st' go) (fun r s4 ⟨u, hr, h4⟩ => ?_) fun _ _ z => False.elim z
      subst hr
      refine wpAny_mono h4 (fun _ s5 ⟨x, H5, I5, r5, y5, st5, fr5⟩ => ?_) fun _ _ z => False.elim z
      have I5' := I5.pinned (fpok hpD fr5) (T.obj _ _ st5)
      refine wpAny_mono (hg C s H fp _ s5 σ' H5 x u _ I5' r5 (step x H5 y5)) (fun _ s6 ⟨σ6, H6, I6, q6⟩ => ?_) fun _ _ z => False.elim z
      refine wpAny_mono (hc C s H fp _ s6 σ6 H6 _ I6 q6) (fun ok s6' hok => ?_) fun _ _ z => False.elim z
      obtain ⟨H6', I6', q6'⟩ := hok
      cases ok with
      | false =>
        obtain ⟨m', hm', w7⟩ := hN none σ6 H6' q6'
        have hD7 := I6'.pin (D, { cls := .type "list", data := .seq its.toArray nn }) (List.mem_append_right _ (List.mem_append_left _ (List.mem_singleton.mpr rfl)))
        have I7' : Inv X' [] σ6 H6' s6' := I6'.pins_of fun p hp => absurd hp (by simp)
        refine ⟨m', hm', i + 1, σ6, H6', ys, its, nn, I7', T.keep _ _ _ st5 fun b hb o e => ?_, fun b hb => ?_, hD7.2.1, hD7.1, rv, hz, by simpa using w7⟩
        · exact (I6'.pin (b, o) (List.mem_append_right _ (List.mem_append_right _ (mem_pinsAt hb e)))).1
        · obtain ⟨o, e, d⟩ := T.obj _ _ st5 b hb
          exact (I6'.pin (b, o) (List.mem_append_right _ (List.mem_append_right _ (mem_pinsAt hb e)))).2.1
      | true =>
        refine wpAny_mono (he C s H fp _ s6' σ6 H6' _ I6' q6') (fun v s7 ⟨y, H7, I7, r7, n7⟩ => ?_) fun _ _ z => False.elim z
        obtain ⟨m', hm', w7⟩ := hN (some y) σ6 H7 n7
        have hD7 := I7.pin (D, { cls := .type "list", data := .seq its.toArray nn }) (List.mem_append_right _ (List.mem_append_left _ (List.mem_singleton.mpr rfl)))
        refine append_at hD7.1 (fun h8 sb hD8 => ?_) (by rw [List.size_toArray, ← hlen]; exact hz)
        have I7' : Inv X' [] σ6 H7 s7 := I7.pins_of fun p hp => absurd hp (by simp)
        have I8 : Inv X' [] σ6 H7 { s7 with heap := h8 } := I7'.turned (t' := s7.toks) (it := D) (fun b o hb e => (sb.2 b hb).trans e) hD7.2.1 hDC (.inr (Nat.le_of_eq hDe)) hDcell (fun p hp => absurd (show p ∈ ([] : List (Addr × Obj)) from hp) (by simp))
        refine ⟨m', hm', i + 1, σ6, H7, ys ++ [y], its ++ [v], nn + 1, I8, T.keep _ _ _ st5 fun b hb o e => ?_, fun b hb => ?_, hD7.2.1, ?_, rv.append (.cons r7 .nil), ?_, w7⟩
        · exact (sb.2 b (fun z => hDfp b hb z.symm)).trans (I7.pin (b, o) (List.mem_append_right _ (List.mem_append_right _ (mem_pinsAt hb e)))).1
        · obtain ⟨o, e, d⟩ := T.obj _ _ st5 b hb
          exact (I7.pin (b, o) (List.mem_append_right _ (List.mem_append_right _ (mem_pinsAt hb e)))).2.1
        · rw [hD8, List.push_toArray]
        · rw [List.length_append, List.length_singleton]; exact hlt
  exact codeAny_compStart_list (loop _ rfl) (T.self _ 0 _ _ _ (T.keep _ _ _ st fun b _ o e => old b o e) (loop _ rfl))

/-- name = [elt for target in iter if cond] -/
theorem ps_setCompT {i : Nat} {y : Str} {py spos : Pos} (hN : X.N.Nodup) (hy : X.N[i]? = some y) (hly : Loc X.env.scope y) (O : CompOk X fr js scope cl) (hcm : X.calm = true) (hi : PI X target iter wi) (hg : ∀ C s₀ H₀ ex, PG (cxIn X (own ++ fr) scope cl C s₀ H₀ ex) target g)
    (he : ∀ C s₀ H₀ ex, PE (cxIn X (own ++ fr) scope cl C s₀ H₀ ex) elt te) (hc : ∀ C s₀ H₀ ex, PT (cxIn X (own ++ fr) scope cl C s₀ H₀ ex) cond tt) (hsw : swapsWith (.ListComp elt [⟨target, iter, [cond], 0⟩] scope pos) (some (.Name y py)) spos.line X.env = pure true)
    (hf : X.fn y = true ∨ X.env.scope.names.lookup y = some .local := by first | exact .inl rfl | exact .inr rfl | assumption) (hs : ∀ x, foldedSetIterable iter X.env x = pure x := by intro _; rfl) :
    PS X (.Assign [.Name y py] (.ListComp elt [⟨target, iter, [cond], 0⟩] scope pos) spos) (tAsg (tCompT own.length js wi g tt te) (gName i)) := by
  intro pins s σ H D I h
  rw [exec_Assign_Name_used _ _ _ _ hsw]
  refine wpAny_bind (wpAny_standAt (wpAny_bind ?_))
  show wpAny _ X.A (do let _ ← comprehension (.ListComp elt [⟨target, iter, [cond], 0⟩] scope pos) scope X.env _ (newList []) false (eval iter X.env) (some (assign (.Name y py) X.env))) _ _ s
  refine wpAny_bind (wpAny_mono (wpAny_comprehension_free (use := some (assign (.Name y py) X.env)) (Q := fun _ s' => SP X pins D .next s') rfl hs O.clos O.kind O.names
    (thn (hi pins s σ H _ I h) fun x s1 h1 => thn h1 fun itv s2 h2 => ?_)) (fun _ s' hq => wpAny_pure (wpAny_pure hq)) fun _ _ e => e)
  obtain ⟨it, fp, tn, J, H2, rfl, I2, T, st, hfp, W, ⟨m0, w0⟩, turn⟩ := h2
  refine comp_coreT (Q := fun x H1 => gName i x σ H1 D.nx) (RR := fun acc C => compPost (model X.prog X.w) X.A X.xe (some (assign (.Name y py) X.env)) (fun _ s' => SP X pins D .next s') acc C) O (Paired.length O.fre) hcm I2 T st hfp hg he hc W w0 turn ?_
  rintro DD C s' ⟨H3, I3, q, c1, c2, c3, c4, c5, m, hn⟩
  show wpAny _ _ (assign (.Name y py) X.env (.ref DD)) _ _ s'
  refine wpAny_assign_Name (store_ok2 I3 hN hy hly (v := .ref DD) rfl (fun s4 I4 ⟨a, sb, ha⟩ => ?_) hf)
  have hCa : C ≠ a := by
    rcases ha with rfl | ha
    · exact c2
    · exact fun z => c4 y a ha z.symm
  refine ⟨m, hn.sameBut sb hCa, fun h' sb' => ⟨_, H3, I4.turned (t' := s4.toks) (it := C) (fun b o hb e => (sb'.2 b hb).trans e) c1 c2 (.inr c3) c4 c5, q⟩⟩
end
/-- over a list that test and element leave as it is -/
theorem comp_listT {n : Nat} {js : List Nat} {K : PySem.W.Frag} {a : Addr} {xs : List V} {g : TG} {tt : TT} {te : TE} {σ0 : St} {H : Hp} {Q : VK} (Pv : Nat → List V → St → Hp → Prop) (hz : xs.length ≤ sizeLine) (h0 : Pv 0 [] (inSt n js σ0) H) (hl : ∀ i ys σ H, i ≤ xs.length → Pv i ys σ H → SqL K H a xs ∧ ys.length ≤ i)
    (hs : ∀ i x ys σ H, xs[i]? = some x → Pv i ys σ H → g x σ H fun σ2 H2 => tt σ2 H2 fun kk H3 => if kk = true then te σ2 H3 fun y H4 => Pv (i + 1) (ys ++ [y]) σ2 H4 else Pv (i + 1) ys σ2 H3) (hd : ∀ ys σ H p, Pv xs.length ys σ H → H p = none → Q (.ref p) (upd H p (.lst ys))) :
    CompRT n js g tt te σ0 Q (Itl K a) H := by
  refine ⟨fun i m ys σ H => m = xs.length - i ∧ i ≤ xs.length ∧ Pv i ys σ H, ⟨xs.length, by simp, Nat.zero_le _, h0⟩, ?_⟩
  rintro i m ys σ H ⟨rfl, hi, p⟩
  obtain ⟨q, hy⟩ := hl i ys σ H hi p
  by_cases hlt : i < xs.length
  · refine .inr ⟨⟨xs, xs[i], q, by simp [hlt]⟩, by omega, fun y σ'' H'' => Pv (i + 1) (ys ++ y.toList) σ'' H'', fun y σ' H' p' => ⟨xs.length - (i + 1), by omega, rfl, hlt, p'⟩, fun x H' y => ?_⟩
    obtain ⟨e, y⟩ := y
    subst e
    have := hs i x ys σ _ (y xs q) p
    simpa using this
  · have e : i = xs.length := by omega
    subst e
    exact .inl ⟨⟨xs, q, Nat.le_refl _⟩, fun r hr => hd ys σ H r p hr⟩
end L2

/-! EXT 26: reversed(range(n)) (behind Ext11) -/
namespace L2
open PySem PySem.Spec PyProof.Rows
theorem rr_meets (r : Addr) (a b c : Int) (t u v : Tok) (hs : ¬ (!(Builtin.Range.rangeFitsLong a && Builtin.Range.rangeFitsLong b && Builtin.Range.rangeFitsLong c && Builtin.Range.rangeFitsLong (-c) && Builtin.Range.rangeFitsLong (a - c) && Builtin.Range.rangeFitsLong (Builtin.Range.rangeSize a b c))) = true) :
    Meets (Builtin.«range.__reversed__» ⟨[.ref r], []⟩) (fun _ R s => s.heap.get? r = some { cls := .type "range", dict := none, data := .fields #[.int a t, .int b u, .int c v], slots := #[] } ∧
      R (.ok (.ret (Value.ref s.heap.objs.size))) { s with heap := s.heap.push { cls := Value.type (if (Builtin.Range.rangeFitsLong a && Builtin.Range.rangeFitsLong b && Builtin.Range.rangeFitsLong c && Builtin.Range.rangeFitsLong (-c) && Builtin.Range.rangeFitsLong (a - c) && Builtin.Range.rangeFitsLong (Builtin.Range.rangeSize a b c)) = true then "range_iterator" else "longrange_iterator"), data := Data.fields #[rawInt (a + (Builtin.Range.rangeSize a b c - 1) * c), rawInt (Builtin.Range.rangeSize a b c), rawInt (-c)] }, toks := s.toks }) :=
  .of_wp fun prog w A R s h => by obtain ⟨hp, g, d, tk, os⟩ := s; obtain ⟨hl, h⟩ := h; wp_walk; exact ⟨_, rfl, h⟩
section
variable {prog : Program} {w : World} {A : Around} {E : Value → Shared → Prop} {s : Shared}
def rIt (x n : Int) : Obj := { cls := .type "range_iterator", data := .fields #[rawInt x, rawInt n, rawInt (-1)] }
theorem rev_range_call {l : Addr} {n : Int} {t u v : Tok} {Q : Value → Shared → Prop} (hl : IsRange s.heap l 0 n 1 t u v) (h0 : 0 ≤ n) (hn : n < 2 ^ 61) (h : Q (.ref s.heap.objs.size) { s with heap := s.heap.push (rIt (n - 1) n) }) : wpAny (model prog w) A (call (.builtin "range.__reversed__") [.ref l]) Q E s := by
  have hT : s.TypeIs (.ref l) "range" := ⟨_, hl, rfl⟩
  have hz : Builtin.Range.rangeSize 0 n 1 = n := by rw [rangeSize_one]; split <;> omega
  have hsm : (Builtin.Range.rangeFitsLong 0 && Builtin.Range.rangeFitsLong n && Builtin.Range.rangeFitsLong 1 && Builtin.Range.rangeFitsLong (-1) && Builtin.Range.rangeFitsLong (0 - 1) && Builtin.Range.rangeFitsLong (Builtin.Range.rangeSize 0 n 1)) = true := by
    rw [hz]
    simp only [Builtin.Range.rangeFitsLong, Bool.and_eq_true, decide_eq_true_eq]
    omega
  refine call_meets PySem.F.slot_range_reversed hT PySem.F.entry_range_reversed (PySem.F.args_range_reversed_1 _) (rr_meets l 0 n 1 t u v (by rw [hsm]; decide)) ⟨hl, ?_⟩
  rw [if_pos hsm, hz]
  have e : (0 : Int) + (n - 1) * 1 = n - 1 := by omega
  rw [e]
  exact h
theorem rev_range_new {l : Addr} {n : Int} {t u v : Tok} {Q₁ : Value → Shared → Prop} (hl : IsRange s.heap l 0 n 1 t u v) (h0 : 0 ≤ n) (hn : n < 2 ^ 61) (h : Q₁ (.ref s.heap.objs.size) { s with heap := s.heap.push (rIt (n - 1) n) }) :
    codeAny (model prog w) A (.call (.builtin "reversed.__new__") ⟨[.type "reversed", .ref l], []⟩) (wants Q₁ E) s := by
  have hT : s.TypeIs (.ref l) "range" := ⟨_, hl, rfl⟩
  refine codeAny_of_tree ?_
  change wpAny _ A.in1 (do checkBuiltinCall "reversed.__new__" ⟨[.type "reversed", .ref l], []⟩; again (.builtin "reversed.__new__" ⟨[.type "reversed", .ref l], []⟩)) _ _ s
  refine wpAny_bind (wpAny_of_eq (PySem.F.newCall_reversed_1 _) (wpAny_pure ⟨plainId_quiet PySem.F.plain_reversed_new _, codeAny_builtin PySem.F.entry_reversed_new ?_⟩))
  rw [Around.under_plainId PySem.F.plain_reversed_new _]
  unfold Builtin.«reversed.__new__»
  refine wpAny_bind (wpAny_of_eq (newClass_reversed _) ?_)
  try dsimp only
  refine wpAny_bind (wpAny_of_eq (a := ()) (by first | rfl | kernel_rfl) ?_)
  refine wpAny_bind (wpAny_of_eq (a := ()) (by first | rfl | kernel_rfl) ?_)
  try dsimp only
  refine wpAny_bind (wpAny_specialOf hT PySem.F.slot_range_reversed.lookup ?_)
  try dsimp only
  refine wpAny_bind (wpAny_of_eq (PySem.F.slot_range_reversed.bind _) ?_)
  try dsimp only
  have hno : ¬ ((Value.builtin "range.__reversed__" == Value.none) = true) := Bool.false_ne_true
  first
  | rw [if_neg hno]
  | (show wpAny _ _ (if (Value.builtin "range.__reversed__" == Value.none) = true then _ else _) _ _ _; rw [if_neg hno])
  refine wpAny_bind (wpAny_rule ?_)
  refine wpAny_bind (m := runValue (.call (.builtin "range.__reversed__") ⟨[.ref l], []⟩)) (show wpAny _ _ (call (.builtin "range.__reversed__") [.ref l]) _ _ _ from rev_range_call hl h0 hn ?_)
  first
  | exact wpAny_pure h
  | exact wpAny_bind (wpAny_pure (wpAny_pure h))
theorem sub_ri_reversed : isSubtype (.type "range_iterator") (.type "reversed") = pure false := by rw [isSubtype_type]; kernel_rfl
theorem rev_range {l : Addr} {n : Int} {t u v : Tok} {Q : Value → Shared → Prop} (hl : IsRange s.heap l 0 n 1 t u v) (h0 : 0 ≤ n) (hn : n < 2 ^ 61) (h : Q (.ref s.heap.objs.size) { s with heap := s.heap.push (rIt (n - 1) n) }) : wpAny (model prog w) A (call (.type "reversed") [.ref l]) Q E s := by
  refine callType_other (U := "range_iterator") (Q₁ := fun obj z => obj = .ref s.heap.objs.size ∧ z = { s with heap := s.heap.push (rIt (n - 1) n) }) (by decide +kernel) PySem.F.create_reversed ⟨_, _, PySem.F.mro_reversed⟩ PySem.F.made_reversed sub_ri_reversed (PySem.F.typeCall_reversed_1 _) (rev_range_new hl h0 hn ⟨rfl, rfl⟩) ?_
  rintro obj z ⟨rfl, rfl⟩
  exact ⟨⟨_, Heap.get?_push_size _ rfl, rfl⟩, h⟩
end
section
variable {X : Cx} {tg : Expr}
def iRevR (ta : TA) : TI := fun σ H R => ta σ H fun vs H1 => ∃ n : Int, vs = [.int n] ∧ 0 ≤ n ∧ n < 2 ^ 61 ∧ R (ItrD (n - 1) n.toNat) H1
theorem pi_revR {a : Expr} {ta : TA} {p p' pos pos' : Pos} (hg : Gl X "reversed") (hm : X.mg "reversed" = none) (hg' : Gl X "range") (hm' : X.mg "range" = none) (ha : PA X [a] ta) (hs : starEach [a] X.env = [(false, eval a X.env)] := by rfl)
    (hs' : starEach [Expr.Call (.Name "range" p') [a] [] pos'] X.env = [(false, eval (.Call (.Name "range" p') [a] [] pos') X.env)] := by rfl) : PI X tg (.Call (.Name "reversed" p) [.Call (.Name "range" p') [a] [] pos'] [] pos) (iRevR ta) := by
  intro pins s σ H R I h
  refine Call_ (ld_blt I hg hm boot_reversed (PyProof.Rows.callWith_type1 ?_ hs' rfl))
  rw [hs']
  refine Calls.spliced_cons ?_
  refine Call_ (ld_blt I hg' hm' boot_range (PyProof.Rows.callWith_type1 (thn (ha pos' pins s σ H _ I h) fun us s1 ⟨vs, H1, I1, r1, q1⟩ => ?_) hs rfl))
  obtain ⟨n, e, q1, q2, q⟩ := q1
  subst e
  obtain ⟨x, rfl, rx⟩ := r1.one
  obtain ⟨t, rfl⟩ := rx
  refine call_range_1 ?_
  refine Calls.spliced_nil ?_
  have I2 : Inv X pins σ H1 { s1 with heap := s1.heap.push { cls := .type "range", data := .fields #[.int 0 s1.toks, .int n t, .int 1 (s1.toks + 1)] }, toks := s1.toks + 1 + 1 } := I1.kept fun b o e => Heap.get?_push_of_some _ e
  refine rev_range (IsRange.new ..) q1 q2 ?_
  generalize hS : ({ s1 with heap := s1.heap.push { cls := .type "range", data := .fields #[.int 0 s1.toks, .int n t, .int 1 (s1.toks + 1)] }, toks := s1.toks + 1 + 1 } : Shared) = s2 at I2 ⊢
  have I3 : Inv X pins σ H1 { s2 with heap := s2.heap.push (rIt (n - 1) n) } := I2.kept (t' := s2.toks) fun b o e => Heap.get?_push_of_some _ e
  have hit : IsRangeIter (s2.heap.push (rIt (n - 1) n)) s2.heap.objs.size (n - 1 + ((0 : Nat) : Int) * -1) ((n.toNat : Int) - ((0 : Nat) : Int)) (-1) := by
    have e1 : n - 1 + ((0 : Nat) : Int) * -1 = n - 1 := by simp
    have e2 : (n.toNat : Int) - ((0 : Nat) : Int) = n := by omega
    rw [e1, e2]
    exact Heap.get?_push_size _ rfl
  refine wpAny_pyIter_rangeiter (s := { s2 with heap := s2.heap.push (rIt (n - 1) n) }) hit ?_
  refine ⟨s2.heap.objs.size, [s2.heap.objs.size], _, _, H1, rfl, I3, turn_rangeD _ (n - 1) n.toNat, hit, fun b hb => ?_, q⟩
  have e : b = s2.heap.objs.size := by simpa using hb
  subst e
  exact I2.fpOk (Nat.le_refl _) (I2.hok.fresh (Nat.le_refl _))
end
end L2

/-! Lists of coefficients: plain mathematics -/
namespace RM

/-- the coefficient at place k -/
def cf (l : List Int) (k : Nat) : Int := l.getD k 0
theorem cf_nil (k : Nat) : cf [] k = 0 := by simp [cf]
theorem cf_zero (x : Int) (l : List Int) : cf (x :: l) 0 = x := rfl
theorem cf_succ (x : Int) (l : List Int) (k : Nat) : cf (x :: l) (k + 1) = cf l k := rfl
theorem cf_ge {l : List Int} {k : Nat} (h : l.length ≤ k) : cf l k = 0 := by
  unfold cf; rw [List.getD, List.getElem?_eq_none_iff.mpr h]; rfl
theorem cf_lt {l : List Int} {k : Nat} (h : k < l.length) : cf l k = l[k] := by
  unfold cf; rw [List.getD, List.getElem?_eq_getElem h]; rfl
theorem cf_some {l : List Int} {k : Nat} {x : Int} (h : l[k]? = some x) : cf l k = x := by
  unfold cf; rw [List.getD, h]; rfl
theorem get_cf {l : List Int} {k : Nat} (h : k < l.length) : l[k]? = some (cf l k) := by
  rw [cf_lt h, List.getElem?_eq_getElem h]
theorem cf_append_left {l r : List Int} {k : Nat} (h : k < l.length) : cf (l ++ r) k = cf l k := by
  unfold cf; rw [List.getD, List.getD, List.getElem?_append_left h]
theorem cf_append_right {l r : List Int} {k : Nat} (h : l.length ≤ k) : cf (l ++ r) k = cf r (k - l.length) := by
  unfold cf; rw [List.getD, List.getD, List.getElem?_append_right h]
theorem cf_set {l : List Int} {j k : Nat} {x : Int} (h : j < l.length) : cf (l.set j x) k = if k = j then x else cf l k := by
  unfold cf; rw [List.getD, List.getD, List.getElem?_set]
  by_cases e : j = k
  · subst e; simp [h]
  · rw [if_neg e, if_neg (fun z => e z.symm)]
theorem cf_replicate (n k : Nat) : cf (List.replicate n 0) k = 0 := by
  unfold cf; rw [List.getD, List.getElem?_replicate]; split <;> rfl
theorem cf_map_range (f : Nat → Int) (n k : Nat) : cf ((List.range n).map f) k = if k < n then f k else 0 := by
  unfold cf; rw [List.getD, List.getElem?_map]
  by_cases h : k < n
  · rw [if_pos h, List.getElem?_range h]; rfl
  · rw [if_neg h, List.getElem?_eq_none_iff.mpr (by simpa using h)]; rfl
theorem ext_cf {a b : List Int} (hl : a.length = b.length) (h : ∀ k, k < a.length → cf a k = cf b k) : a = b := by
  apply List.ext_getElem hl
  intro k h1 h2
  rw [← cf_lt h1, ← cf_lt h2]; exact h k h1

/-- noughts at the end left out -/
def trim (l : List Int) : List Int := (l.reverse.dropWhile (· == 0)).reverse
theorem trim_snoc_zero (l : List Int) : trim (l ++ [0]) = trim l := by
  unfold trim; rw [List.reverse_append]; rfl
theorem trim_snoc_ne (l : List Int) {x : Int} (h : x ≠ 0) : trim (l ++ [x]) = l ++ [x] := by
  unfold trim
  rw [List.reverse_append]
  show ((x :: l.reverse).dropWhile (· == 0)).reverse = _
  rw [List.dropWhile_cons_of_neg (by simpa using h)]
  simp
/-- its last one is not 0 -/
def Tr (l : List Int) : Prop := ∀ n, l.length = n + 1 → cf l n ≠ 0
theorem snoc_cases (l : List Int) : l = [] ∨ ∃ r x, l = r ++ [x] := by
  cases h : l.reverse with
  | nil => left; simpa using h
  | cons x r => right; exact ⟨r.reverse, x, by rw [← List.reverse_reverse l, h]; simp⟩
theorem cf_last (r : List Int) (x : Int) : cf (r ++ [x]) r.length = x := by
  rw [cf_append_right (Nat.le_refl _), Nat.sub_self]; rfl
theorem tr_nil : Tr [] := fun n h => by simp at h
theorem tr_snoc {r : List Int} {x : Int} : Tr (r ++ [x]) ↔ x ≠ 0 := by
  constructor
  · intro h
    have := h r.length (by simp)
    rwa [cf_last] at this
  · intro h n hn
    have e : n = r.length := by simp at hn; omega
    subst e
    rwa [cf_last]
theorem trim_spec : ∀ (n : Nat) (l : List Int), l.length = n → Tr (trim l) ∧ (trim l).length ≤ l.length ∧ ∀ k, cf (trim l) k = cf l k
  | 0, l, h => by
    have : l = [] := List.length_eq_zero_iff.mp h
    subst this
    exact ⟨tr_nil, Nat.le_refl _, fun _ => rfl⟩
  | n + 1, l, h => by
    rcases snoc_cases l with rfl | ⟨r, x, rfl⟩
    · simp at h
    · by_cases hx : x = 0
      · subst hx
        obtain ⟨h1, h2, h3⟩ := trim_spec n r (by simpa using h)
        rw [trim_snoc_zero]
        refine ⟨h1, by rw [List.length_append]; exact Nat.le_trans h2 (Nat.le_add_right _ _), fun k => ?_⟩
        rw [h3]
        by_cases hk : k < r.length
        · rw [cf_append_left hk]
        · rw [cf_append_right (Nat.le_of_not_lt hk), cf_ge (Nat.le_of_not_lt hk)]
          cases e : k - r.length with
          | zero => rfl
          | succ j => rw [cf_succ, cf_nil]
      · rw [trim_snoc_ne r hx]
        exact ⟨tr_snoc.mpr hx, Nat.le_refl _, fun _ => rfl⟩
theorem tr_trim (l : List Int) : Tr (trim l) := (trim_spec _ l rfl).1
theorem length_trim (l : List Int) : (trim l).length ≤ l.length := (trim_spec _ l rfl).2.1
theorem cf_trim (l : List Int) (k : Nat) : cf (trim l) k = cf l k := (trim_spec _ l rfl).2.2 k
theorem trim_of_tr {l : List Int} (h : Tr l) : trim l = l := by
  rcases snoc_cases l with rfl | ⟨r, x, rfl⟩
  · rfl
  · exact trim_snoc_ne r (tr_snoc.mp h)
/-- polynomials are alike where their coefficients are -/
theorem eq_of_cf {a b : List Int} (ha : Tr a) (hb : Tr b) (h : ∀ k, cf a k = cf b k) : a = b := by
  have le : ∀ {a b : List Int}, Tr a → (∀ k, cf a k = cf b k) → a.length ≤ b.length := fun {a b} ha h => by
    cases e : a.length with
    | zero => exact Nat.zero_le _
    | succ n =>
      apply Classical.byContradiction
      intro hn
      exact ha n e (by rw [h n, cf_ge (by omega)])
  have hl : a.length = b.length := Nat.le_antisymm (le ha h) (le hb fun k => (h k).symm)
  exact ext_cf hl fun k _ => h k
theorem trim_take_zero {l : List Int} {n : Nat} (hn : n < l.length) (h : cf l n = 0) : trim (l.take (n + 1)) = trim (l.take n) := by
  rw [List.take_add_one, get_cf hn, h]
  exact trim_snoc_zero _
theorem trim_take_ne {l : List Int} {n : Nat} (hn : n < l.length) (h : cf l n ≠ 0) : trim (l.take (n + 1)) = l.take (n + 1) := by
  rw [List.take_add_one, get_cf hn]
  exact trim_snoc_ne _ h
end RM

namespace RM
/-- the sum of two rows, place by place, the second times a factor -/
def linL (f : Int) (a b : List Int) : List Int := (List.range (max a.length b.length)).map fun k => cf a k + f * cf b k
theorem cf_linL (f : Int) (a b : List Int) (k : Nat) : cf (linL f a b) k = cf a k + f * cf b k := by
  unfold linL
  rw [cf_map_range]
  by_cases h : k < max a.length b.length
  · rw [if_pos h]
  · have h1 : a.length ≤ k := by omega
    have h2 : b.length ≤ k := by omega
    rw [if_neg h, cf_ge h1, cf_ge h2]; simp
def subL (a b : List Int) : List Int := trim (linL (-1) a b)

/-- the terms of a product's coefficient -/
def tm (a b : List Int) (n i : Nat) : Int := if i ≤ n then cf a i * cf b (n - i) else 0
def sm (a b : List Int) (n : Nat) : Nat → Int
  | 0 => 0
  | j + 1 => sm a b n j + tm a b n j
def mulc (a b : List Int) (n : Nat) : Int := sm a b n a.length
def mulL (a b : List Int) : List Int := if a = [] ∨ b = [] then [] else (List.range (a.length + b.length - 1)).map (mulc a b)
theorem tm_zero_left {a b : List Int} {n i : Nat} (h : a.length ≤ i) : tm a b n i = 0 := by
  unfold tm; split
  · rw [cf_ge h, Int.zero_mul]
  · rfl
theorem tm_zero_right {a b : List Int} {n i : Nat} (h : b.length ≤ n - i) : tm a b n i = 0 := by
  unfold tm; split
  · rw [cf_ge h, Int.mul_zero]
  · rfl
theorem sm_zero {a b : List Int} {n : Nat} : ∀ {j : Nat}, (∀ i, i < j → tm a b n i = 0) → sm a b n j = 0
  | 0, _ => rfl
  | j + 1, h => by
    rw [sm, sm_zero fun i hi => h i (Nat.lt_succ_of_lt hi), h j (Nat.lt_succ_self _)]; rfl
theorem mulc_big {a b : List Int} {n : Nat} (h : a.length + b.length ≤ n + 1) : mulc a b n = 0 := by
  apply sm_zero
  intro i hi
  exact tm_zero_right (by omega)
theorem mulc_top {a b : List Int} {la lb : Nat} (ha : a.length = la + 1) (hb : b.length = lb + 1) : mulc a b (la + lb) = cf a la * cf b lb := by
  unfold mulc
  rw [ha, sm, sm_zero fun i hi => tm_zero_right (by omega)]
  unfold tm
  rw [if_pos (Nat.le_add_right _ _), Nat.add_sub_cancel_left, Int.zero_add]
theorem cf_mulL (a b : List Int) (n : Nat) : cf (mulL a b) n = mulc a b n := by
  unfold mulL
  by_cases h : a = [] ∨ b = []
  · rw [if_pos h, cf_nil]
    symm
    apply sm_zero
    intro i hi
    rcases h with rfl | rfl
    · simp at hi
    · exact tm_zero_right (Nat.zero_le _)
  · rw [if_neg h, cf_map_range]
    by_cases hn : n < a.length + b.length - 1
    · rw [if_pos hn]
    · rw [if_neg hn, mulc_big (by omega)]
theorem tr_mulL {a b : List Int} (ha : Tr a) (hb : Tr b) : Tr (mulL a b) := by
  intro n hn
  rw [cf_mulL]
  by_cases h : a = [] ∨ b = []
  · unfold mulL at hn; rw [if_pos h] at hn; simp at hn
  · have h1 : a ≠ [] := fun z => h (.inl z)
    have h2 : b ≠ [] := fun z => h (.inr z)
    obtain ⟨la, ea⟩ : ∃ la, a.length = la + 1 := ⟨a.length - 1, by have := List.length_pos_iff.mpr h1; omega⟩
    obtain ⟨lb, eb⟩ : ∃ lb, b.length = lb + 1 := ⟨b.length - 1, by have := List.length_pos_iff.mpr h2; omega⟩
    unfold mulL at hn
    rw [if_neg h, List.length_map, List.length_range] at hn
    have e : n = la + lb := by omega
    subst e
    rw [mulc_top ea eb]
    exact Int.mul_ne_zero (ha la ea) (hb lb eb)
/-- one more term laid on -/
theorem mul_step {a b acc : List Int} {j k : Nat} (hj : j < a.length) (hk : k < b.length) (hl : j + k < acc.length)
    (h : ∀ n, n < acc.length → cf acc n = sm a b n j + (if j ≤ n ∧ n - j < k then tm a b n j else 0)) :
    ∀ n, n < (acc.set (j + k) (cf acc (j + k) + cf a j * cf b k)).length → cf (acc.set (j + k) (cf acc (j + k) + cf a j * cf b k)) n = sm a b n j + (if j ≤ n ∧ n - j < k + 1 then tm a b n j else 0) := by
  intro n hn
  rw [List.length_set] at hn
  rw [cf_set hl]
  by_cases e : n = j + k
  · subst e
    rw [if_pos rfl, h _ hl, if_neg (by omega), if_pos ⟨by omega, by omega⟩]
    unfold tm
    rw [if_pos (by omega), Nat.add_sub_cancel_left, Int.add_zero]
  · rw [if_neg e, h n hn]
    congr 1
    by_cases h1 : j ≤ n ∧ n - j < k
    · rw [if_pos h1, if_pos ⟨h1.1, by omega⟩]
    · rw [if_neg h1, if_neg (by omega)]
theorem mul_row {a b acc : List Int} {j : Nat} (h : ∀ n, n < acc.length → cf acc n = sm a b n j + (if j ≤ n ∧ n - j < b.length then tm a b n j else 0)) : ∀ n, n < acc.length → cf acc n = sm a b n (j + 1) := by
  intro n hn
  rw [h n hn, sm]
  congr 1
  by_cases h1 : j ≤ n ∧ n - j < b.length
  · rw [if_pos h1]
  · rw [if_neg h1]
    by_cases h2 : j ≤ n
    · rw [tm_zero_right (by omega)]
    · unfold tm; rw [if_neg h2]
theorem mul_start {a b acc : List Int} {j : Nat} (h : ∀ n, n < acc.length → cf acc n = sm a b n j) : ∀ n, n < acc.length → cf acc n = sm a b n j + (if j ≤ n ∧ n - j < 0 then tm a b n j else 0) := by
  intro n hn
  rw [if_neg (by omega), Int.add_zero]; exact h n hn
theorem mul_end {a b acc : List Int} (hl : a.length + b.length ≤ acc.length + 1) (h : ∀ n, n < acc.length → cf acc n = sm a b n a.length) (n : Nat) : cf acc n = mulc a b n := by
  by_cases hn : n < acc.length
  · exact h n hn
  · rw [cf_ge (Nat.le_of_not_lt hn), mulc_big (by omega)]
end RM
namespace RM
theorem subL_eq (a b : List Int) : trim ((List.range (max a.length b.length)).map fun k => cf a k - cf b k) = subL a b := by
  unfold subL linL
  congr 2; funext k; omega
end RM

/-! Fractions in lowest terms: plain mathematics -/
namespace RM
/-- the divisor with the bottom's sign -/
def dv (t b : Int) : Int := if b < 0 then -((Nat.gcd t.natAbs b.natAbs : Nat) : Int) else ((Nat.gcd t.natAbs b.natAbs : Nat) : Int)
def rt (t b : Int) : Int := t.fdiv (dv t b)
def rb (t b : Int) : Int := b.fdiv (dv t b)
theorem gcd_pos {t b : Int} (hb : b ≠ 0) : 0 < Nat.gcd t.natAbs b.natAbs := Nat.gcd_pos_of_pos_right _ (Int.natAbs_pos.mpr hb)
theorem dv_ne {t b : Int} (hb : b ≠ 0) : dv t b ≠ 0 := by
  have := @gcd_pos t b hb
  unfold dv; split <;> omega
theorem dv_abs (t b : Int) : (dv t b).natAbs = Nat.gcd t.natAbs b.natAbs := by unfold dv; split <;> omega
theorem dv_dvd_left (t b : Int) : dv t b ∣ t := Int.natAbs_dvd_natAbs.mp (by rw [dv_abs]; exact Nat.gcd_dvd_left _ _)
theorem dv_dvd_right (t b : Int) : dv t b ∣ b := Int.natAbs_dvd_natAbs.mp (by rw [dv_abs]; exact Nat.gcd_dvd_right _ _)
theorem fdiv_of_dvd {a d : Int} (hd : d ≠ 0) (h : d ∣ a) : d * a.fdiv d = a := by
  obtain ⟨c, rfl⟩ := h
  rw [Int.mul_fdiv_cancel_left c hd]
theorem rt_eq {t b : Int} (hb : b ≠ 0) : dv t b * rt t b = t := fdiv_of_dvd (dv_ne hb) (dv_dvd_left t b)
theorem rb_eq {t b : Int} (hb : b ≠ 0) : dv t b * rb t b = b := fdiv_of_dvd (dv_ne hb) (dv_dvd_right t b)
theorem r_cross {t b : Int} (hb : b ≠ 0) : rt t b * b = t * rb t b := by
  have e1 := @rt_eq t b hb
  have e2 := @rb_eq t b hb
  calc rt t b * b = rt t b * (dv t b * rb t b) := by rw [e2]
    _ = (dv t b * rt t b) * rb t b := by rw [← Int.mul_assoc, Int.mul_comm (rt t b)]
    _ = t * rb t b := by rw [e1]
theorem rt_abs {t b : Int} (hb : b ≠ 0) : (rt t b).natAbs ≤ t.natAbs := by
  have h1 : t.natAbs = Nat.gcd t.natAbs b.natAbs * (rt t b).natAbs := by rw [← dv_abs, ← Int.natAbs_mul, rt_eq hb]
  rw [h1]; exact Nat.le_mul_of_pos_left _ (gcd_pos hb)
theorem rb_abs {t b : Int} (hb : b ≠ 0) : (rb t b).natAbs ≤ b.natAbs := by
  have h1 : b.natAbs = Nat.gcd t.natAbs b.natAbs * (rb t b).natAbs := by rw [← dv_abs, ← Int.natAbs_mul, rb_eq hb]
  rw [h1]; exact Nat.le_mul_of_pos_left _ (gcd_pos hb)
/-- the sign -/
def sg (x : Int) : Int := if x < 0 then -1 else if 0 < x then 1 else 0
theorem sg_neg (x : Int) : sg (-x) = -sg x := by unfold sg; split <;> split <;> (try split) <;> (try split) <;> omega
theorem sg_mul_pos {x p : Int} (hp : 0 < p) : sg (x * p) = sg x := by
  unfold sg
  by_cases h1 : x < 0
  · rw [if_pos h1, if_pos (Int.mul_neg_of_neg_of_pos h1 hp)]
  · by_cases h2 : 0 < x
    · have := Int.mul_pos h2 hp
      rw [if_neg h1, if_pos h2, if_neg (by omega), if_pos this]
    · obtain rfl : x = 0 := by omega
      simp
end RM

/-! The value of a row at t/b, cleared of bottoms (behind MathPoly, MathRatio) -/
namespace RM
def hv (t b : Int) : List Int → Int
  | [] => 0
  | v :: l => v * b ^ (l.length + 1) + t * hv t b l
theorem hv_nil (t b : Int) : hv t b [] = 0 := rfl
theorem hv_cons (t b v : Int) (l : List Int) : hv t b (v :: l) = v * b ^ (l.length + 1) + t * hv t b l := rfl
/-- a row times (b x - a), with what is carried in -/
def mb (a b : Int) : Int → List Int → List Int
  | c, [] => [c]
  | c, x :: l => (-a * x + c) :: mb a b (b * x) l
theorem cf_two (x y : Int) (k : Nat) : cf [x, y] k = if k = 0 then x else if k = 1 then y else 0 := by
  rcases k with _ | _ | k
  · rfl
  · rfl
  · rw [if_neg (by omega), if_neg (by omega)]; exact cf_ge (by simp)
/-- t and b over one divisor -/
theorem hv_scale (g t b : Int) : ∀ l : List Int, hv (g * t) (g * b) l = g ^ l.length * hv t b l
  | [] => by simp [hv_nil]
  | v :: l => by
    rw [hv_cons, hv_cons, hv_scale g t b l, Int.mul_pow]
    show v * (g ^ (l.length + 1) * b ^ (l.length + 1)) + g * t * (g ^ l.length * hv t b l) = g ^ (l.length + 1) * (v * b ^ (l.length + 1) + t * hv t b l)
    rw [Int.pow_succ g l.length]
    generalize b ^ (l.length + 1) = p
    generalize g ^ l.length = q
    generalize hv t b l = h
    grind
theorem pow_ne {g : Int} (h : g ≠ 0) (n : Nat) : g ^ n ≠ 0 := by
  induction n with
  | zero => simp
  | succ n ih => rw [Int.pow_succ]; exact Int.mul_ne_zero ih h
theorem pow_pos' {g : Int} (h : 0 < g) (n : Nat) : 0 < g ^ n := by
  induction n with
  | zero => simp
  | succ n ih => rw [Int.pow_succ]; exact Int.mul_pos ih h
/-- the word that the row's value at t/b is top/bot -/
def At (l : List Int) (t b top bot : Int) : Prop := hv t b l * bot = top * b ^ l.length
/-- the value as a fraction in least terms -/
theorem At.value {l : List Int} {t b top bot : Int} (hb : 0 < b) (h : At l t b top bot) : rt (hv t b l) (b ^ l.length) * bot = top * rb (hv t b l) (b ^ l.length) := by
  unfold At at h
  have hp : b ^ l.length ≠ 0 := pow_ne (Int.ne_of_gt hb) _
  have c := r_cross (t := hv t b l) hp
  refine Int.eq_of_mul_eq_mul_right hp ?_
  generalize b ^ l.length = p at *
  generalize hv t b l = x at *
  generalize rt x p = r at *
  generalize rb x p = s at *
  grind
theorem At.sign {l : List Int} {t b top bot : Int} (hb : 0 < b) (hbot : 0 < bot) (h : At l t b top bot) : sg (hv t b l) = sg top := by
  unfold At at h
  rw [← sg_mul_pos (x := hv t b l) hbot, h, sg_mul_pos (pow_pos' hb _)]
theorem hv_one (t u c : Int) : hv t u [c] = c * u := by
  show c * u ^ 1 + t * 0 = c * u
  grind
theorem drop_hv (t b : Int) {l : List Int} {n : Nat} (h : n < l.length) : hv t b (l.drop n) = cf l n * b ^ (l.length - n) + t * hv t b (l.drop (n + 1)) := by
  rw [List.drop_eq_getElem_cons h, hv_cons, List.length_drop, cf_lt h]
  have e : l.length - (n + 1) + 1 = l.length - n := by omega
  rw [e]
end RM

/-! Changes of sign (behind MathEval) -/
namespace RM
def lv (t b : Int) : List Int → Int
  | [] => 0
  | v :: l => v * b ^ l.length + t * lv t b l
theorem hv_lv (t b : Int) : ∀ l : List Int, hv t b l = b * lv t b l
  | [] => by show (0 : Int) = b * 0; simp
  | v :: l => by
    show v * b ^ (l.length + 1) + t * hv t b l = b * (v * b ^ l.length + t * lv t b l)
    rw [hv_lv t b l, Int.pow_succ]
    generalize b ^ l.length = p
    generalize lv t b l = x
    grind
theorem sg_red {t b : Int} (hb : 0 < b) (l : List Int) : sg (hv (rt t b) (rb t b) l) = sg (lv t b l) := by
  have h0 : b ≠ 0 := Int.ne_of_gt hb
  have hd : 0 < dv t b := by
    have h1 := dv_ne (t := t) h0
    unfold dv at *
    rw [if_neg (by omega)] at *
    omega
  have e := hv_scale (dv t b) (rt t b) (rb t b) l
  rw [rt_eq h0, rb_eq h0, hv_lv] at e
  have e1 : sg (b * lv t b l) = sg (lv t b l) := by rw [Int.mul_comm]; exact sg_mul_pos hb
  have e2 : sg (dv t b ^ l.length * hv (rt t b) (rb t b) l) = sg (hv (rt t b) (rb t b) l) := by rw [Int.mul_comm]; exact sg_mul_pos (pow_pos' hd _)
  rw [← e1, e, e2]
theorem drop_lv (t b : Int) {l : List Int} {n : Nat} (h : n < l.length) : lv t b (l.drop n) = cf l n * b ^ (l.length - (n + 1)) + t * lv t b (l.drop (n + 1)) := by
  have e : l.drop n = cf l n :: l.drop (n + 1) := by rw [cf_lt h]; exact List.drop_eq_getElem_cons h
  rw [e]
  show cf l n * b ^ (l.drop (n + 1)).length + _ = _
  rw [List.length_drop]
def chF (z : Int × Int) (s : Int) : Int × Int := (if s * z.2 < 0 then z.1 + 1 else z.1, if s = 0 then z.2 else s)
def chS (l : List Int) : Int × Int := l.foldl chF (0, 0)
theorem chS_snoc (l : List Int) (s : Int) : chS (l ++ [s]) = chF (chS l) s := by unfold chS; rw [List.foldl_append]; rfl
theorem sg_zero (x : Int) : sg x = 0 ↔ x = 0 := by unfold sg; split <;> (try split) <;> omega
theorem sg_cases (x : Int) : (x < 0 ∧ sg x = -1) ∨ (x = 0 ∧ sg x = 0) ∨ (0 < x ∧ sg x = 1) := by unfold sg; split <;> (try split) <;> omega
theorem chS_small' : ∀ (n : Nat) (l : List Int), l.length = n → (∀ s ∈ l, s.natAbs ≤ 1) → (chS l).2.natAbs ≤ 1 ∧ 0 ≤ (chS l).1 ∧ (chS l).1 ≤ l.length
  | n, l, hn, h => by
    rcases snoc_cases l with rfl | ⟨r, s, rfl⟩
    · decide
    · have hr : r.length + 1 = n := by rw [← hn, List.length_append]; rfl
      obtain ⟨i1, i2, i3⟩ := chS_small' (n - 1) r (by omega) (fun x hx => h x (List.mem_append_left _ hx))
      have hs := h s (by simp)
      rw [chS_snoc]
      unfold chF
      refine ⟨?_, ?_, ?_⟩
      · dsimp only; split
        · exact i1
        · exact hs
      · dsimp only; split <;> omega
      · dsimp only; rw [List.length_append]; show _ ≤ ((r.length + 1 : Nat) : Int); split <;> omega
termination_by n => n
theorem chS_small (l : List Int) (h : ∀ s ∈ l, s.natAbs ≤ 1) : (chS l).2.natAbs ≤ 1 ∧ 0 ≤ (chS l).1 ∧ (chS l).1 ≤ l.length := chS_small' _ l rfl h
theorem sg_small (x : Int) : (sg x).natAbs ≤ 1 := by unfold sg; split <;> (try split) <;> decide
end RM

/-! Division of coefficient lists without fractions: plain mathematics (behind MathPoly) -/
namespace RM
/-- the step of the quotient: times c, and l laid down at place p -/
theorem sm_lay {q q' b : List Int} {c l : Int} {p n : Nat} (h : ∀ k, cf q' k = c * cf q k + (if k = p then l else 0)) :
    ∀ j, sm q' b n j = c * sm q b n j + (if p < j ∧ p ≤ n then l * cf b (n - p) else 0)
  | 0 => by rw [sm, sm, if_neg (by omega)]; simp
  | j + 1 => by
    rw [sm, sm, sm_lay h j]
    unfold tm
    by_cases hj : j ≤ n
    · rw [if_pos hj, if_pos hj, h j]
      by_cases e : j = p
      · subst e
        rw [if_pos rfl, if_neg (by omega), if_pos ⟨by omega, hj⟩]; grind
      · rw [if_neg e]
        by_cases h2 : p < j ∧ p ≤ n
        · rw [if_pos h2, if_pos ⟨by omega, h2.2⟩]; grind
        · rw [if_neg h2, if_neg (by omega)]; grind
    · rw [if_neg hj, if_neg hj]
      by_cases h2 : p < j ∧ p ≤ n
      · rw [if_pos h2, if_pos ⟨by omega, h2.2⟩]; grind
      · rw [if_neg h2, if_neg (by omega)]; grind
theorem mulc_lay {q q' b : List Int} {c l : Int} {p n : Nat} (hl : q'.length = q.length) (hp : p < q.length) (h : ∀ k, cf q' k = c * cf q k + (if k = p then l else 0)) :
    mulc q' b n = c * mulc q b n + (if p ≤ n then l * cf b (n - p) else 0) := by
  unfold mulc
  rw [hl, sm_lay h]
  by_cases h2 : p ≤ n
  · rw [if_pos h2, if_pos ⟨hp, h2⟩]
  · rw [if_neg h2, if_neg (by omega)]
def scL (c : Int) (l : List Int) : List Int := l.map fun x => c * x
theorem length_scL (c : Int) (l : List Int) : (scL c l).length = l.length := by unfold scL; rw [List.length_map]
theorem cf_scL (c : Int) (l : List Int) (k : Nat) : cf (scL c l) k = c * cf l k := by
  by_cases h : k < l.length
  · unfold cf scL; simp [h]
  · rw [cf_ge (by rw [length_scL]; omega), cf_ge (by omega)]; simp
/-- what `lowered` tells: without the last, less l times b's coefficients from place p on -/
def lowL (r b : List Int) (p : Nat) (l : Int) : List Int := (List.range (r.length - 1)).map fun k => cf r k - (if p ≤ k then l * cf b (k - p) else 0)
theorem length_lowL (r b : List Int) (p : Nat) (l : Int) : (lowL r b p l).length = r.length - 1 := by unfold lowL; simp
theorem cf_lowL (r b : List Int) (p : Nat) (l : Int) (k : Nat) : cf (lowL r b p l) k = if k < r.length - 1 then cf r k - (if p ≤ k then l * cf b (k - p) else 0) else 0 := by
  unfold lowL; rw [cf_map_range]

theorem sg_self (x : Int) : sg x * x = (x.natAbs : Int) := by unfold sg; split <;> (try split) <;> omega
/-- one step of the division: (quotient, rest), i steps are still to go -/
def divStep (b : List Int) (z : List Int × List Int) (i : Nat) : List Int × List Int :=
  let s : Int := ((cf b (b.length - 1)).natAbs : Int)
  let l := sg (cf b (b.length - 1)) * cf z.2 (z.2.length - 1)
  ((scL s z.1).set i l, lowL (scL s z.2) b i l)
def divAt (a b : List Int) : Nat → List Int × List Int
  | 0 => (List.replicate (a.length + 1 - b.length) 0, a)
  | i + 1 => divStep b (divAt a b i) (a.length + 1 - b.length - 1 - i)
structure DivInv (a b : List Int) (i : Nat) : Prop where
  lq : (divAt a b i).1.length = a.length + 1 - b.length
  lr : (divAt a b i).2.length = a.length - i
  low : ∀ k, k + i < a.length + 1 - b.length → cf (divAt a b i).1 k = 0
  eqn : ∀ n, ((cf b (b.length - 1)).natAbs : Int) ^ i * cf a n = mulc (divAt a b i).1 b n + cf (divAt a b i).2 n
theorem mulc_zero {a b : List Int} {n : Nat} (h : ∀ k, cf a k = 0) : mulc a b n = 0 := by
  apply sm_zero; intro i _; unfold tm; rw [h i]; simp
theorem div_inv {a b : List Int} (hb : b ≠ []) : ∀ i, i ≤ a.length + 1 - b.length → DivInv a b i
  | 0, _ => ⟨by simp [divAt], by simp [divAt], fun k _ => by show cf (List.replicate _ 0) k = 0; rw [cf_replicate], fun n => by
      show _ = mulc (List.replicate _ 0) b n + cf a n
      rw [mulc_zero fun k => cf_replicate _ _]; simp⟩
  | i + 1, hi => by
    obtain ⟨lq, lr, low, eqn⟩ := div_inv (a := a) hb i (by omega)
    have hbl := List.length_pos_iff.mpr hb
    have e : divAt a b (i + 1) = divStep b (divAt a b i) (a.length + 1 - b.length - 1 - i) := rfl
    generalize hz : divAt a b i = z at lq lr low eqn
    have hp : a.length + 1 - b.length - 1 - i < (scL ((cf b (b.length - 1)).natAbs : Int) z.1).length := by rw [length_scL, lq]; omega
    have hq : ∀ k, cf (divStep b z (a.length + 1 - b.length - 1 - i)).1 k = ((cf b (b.length - 1)).natAbs : Int) * cf z.1 k + (if k = a.length + 1 - b.length - 1 - i then sg (cf b (b.length - 1)) * cf z.2 (z.2.length - 1) else 0) := by
      intro k
      unfold divStep
      dsimp only
      rw [cf_set hp, cf_scL]
      by_cases h : k = a.length + 1 - b.length - 1 - i
      · rw [if_pos h, if_pos h, low k (by omega)]; simp
      · rw [if_neg h, if_neg h]; simp
    have hlq : (divStep b z (a.length + 1 - b.length - 1 - i)).1.length = a.length + 1 - b.length := by
      unfold divStep; dsimp only; rw [List.length_set, length_scL, lq]
    refine ⟨?_, ?_, ?_, ?_⟩
    · rw [e, hz, hlq]
    · rw [e, hz]; unfold divStep; dsimp only; rw [length_lowL, length_scL, lr]; omega
    · intro k hk
      rw [e, hz, hq, if_neg (by omega), low k (by omega)]; simp
    · intro n
      rw [e, hz, mulc_lay (by rw [hlq, lq]) (by rw [lq]; omega) hq, Int.pow_succ]
      have en := eqn n
      unfold divStep
      dsimp only
      rw [cf_lowL, length_scL, cf_scL, lr]
      by_cases h1 : n < a.length - i - 1
      · rw [if_pos h1]
        by_cases h2 : a.length + 1 - b.length - 1 - i ≤ n
        · rw [if_pos h2]; grind
        · rw [if_neg h2]; grind
      · rw [if_neg h1]
        by_cases h3 : n = a.length - i - 1
        · have h2 : a.length + 1 - b.length - 1 - i ≤ n := by omega
          have h4 : n - (a.length + 1 - b.length - 1 - i) = b.length - 1 := by omega
          rw [if_pos h2, h4]
          have sg := sg_self (cf b (b.length - 1))
          rw [← h3]
          grind
        · have h2 : a.length + 1 - b.length - 1 - i ≤ n := by omega
          have hc : cf z.2 n = 0 := cf_ge (by rw [lr]; omega)
          rw [if_pos h2, cf_ge (l := b) (k := n - (a.length + 1 - b.length - 1 - i)) (by omega)]
          grind
def divN (a b : List Int) : Nat := a.length + 1 - b.length
def divF (a b : List Int) : Int := ((cf b (b.length - 1)).natAbs : Int) ^ divN a b
def divQ (a b : List Int) : List Int := (divAt a b (divN a b)).1
def divR (a b : List Int) : List Int := trim (divAt a b (divN a b)).2
theorem div_eqn {a b : List Int} (hb : b ≠ []) (n : Nat) : divF a b * cf a n = mulc (divQ a b) b n + cf (divR a b) n := by
  unfold divR divQ divF; rw [cf_trim]; exact (div_inv hb (divN a b) (Nat.le_refl _)).eqn n
theorem div_lenR {a b : List Int} (hb : b ≠ []) : (divR a b).length < b.length := by
  have h := (div_inv (a := a) hb (divN a b) (Nat.le_refl _)).lr
  have h2 := length_trim (divAt a b (divN a b)).2
  have hbl := List.length_pos_iff.mpr hb
  unfold divR
  unfold divN at *
  omega
theorem div_lenQ {a b : List Int} (hb : b ≠ []) : (divQ a b).length = divN a b := (div_inv (a := a) hb (divN a b) (Nat.le_refl _)).lq
theorem div_trR (a b : List Int) : Tr (divR a b) := tr_trim _
end RM

/-! What divides what: plain mathematics (behind MathDiv) -/
namespace RM
theorem sm_congr {a a' b b' : List Int} {n : Nat} (h1 : ∀ k, cf a k = cf a' k) (h2 : ∀ k, cf b k = cf b' k) : ∀ j, sm a b n j = sm a' b' n j
  | 0 => rfl
  | j + 1 => by rw [sm, sm, sm_congr h1 h2 j]; unfold tm; rw [h1 j, h2 (n - j)]
theorem sm_ge {a b : List Int} {n : Nat} : ∀ d, sm a b n (a.length + d) = mulc a b n
  | 0 => rfl
  | d + 1 => by rw [← Nat.add_assoc, sm, sm_ge d, tm_zero_left (by omega)]; omega
theorem sm_ge' {a b : List Int} {n N : Nat} (h : a.length ≤ N) : sm a b n N = mulc a b n := by
  obtain ⟨d, rfl⟩ := Nat.exists_eq_add_of_le h
  exact sm_ge d
theorem mulc_congr {a a' b b' : List Int} {n : Nat} (h1 : ∀ k, cf a k = cf a' k) (h2 : ∀ k, cf b k = cf b' k) : mulc a b n = mulc a' b' n := by
  rw [← sm_ge' (Nat.le_max_left a.length a'.length), ← sm_ge' (Nat.le_max_right a.length a'.length)]
  exact sm_congr h1 h2 _
theorem sm_lin {a b c q : List Int} {x y : Int} {n : Nat} (h : ∀ k, cf c k = x * cf a k + y * cf b k) : ∀ j, sm c q n j = x * sm a q n j + y * sm b q n j
  | 0 => by simp [sm]
  | j + 1 => by
    rw [sm, sm, sm, sm_lin h j]; unfold tm; rw [h j]
    by_cases hj : j ≤ n
    · rw [if_pos hj, if_pos hj, if_pos hj]; grind
    · rw [if_neg hj, if_neg hj, if_neg hj]; grind
theorem mulc_lin {a b c q : List Int} {x y : Int} {n : Nat} (h : ∀ k, cf c k = x * cf a k + y * cf b k) : mulc c q n = x * mulc a q n + y * mulc b q n := by
  have h1 : a.length ≤ a.length + b.length + c.length := by omega
  have h2 : b.length ≤ a.length + b.length + c.length := by omega
  have h3 : c.length ≤ a.length + b.length + c.length := by omega
  rw [← sm_ge' h1, ← sm_ge' h2, ← sm_ge' h3]
  exact sm_lin h _
theorem sm_right {a b b' : List Int} {c : Int} {n : Nat} (h : ∀ k, cf b' k = c * cf b k) : ∀ j, sm a b' n j = c * sm a b n j
  | 0 => by simp [sm]
  | j + 1 => by
    rw [sm, sm, sm_right h j]; unfold tm; rw [h (n - j)]
    by_cases hj : j ≤ n
    · rw [if_pos hj, if_pos hj]; grind
    · rw [if_neg hj, if_neg hj]; grind
theorem mulc_right {a b b' : List Int} {c : Int} {n : Nat} (h : ∀ k, cf b' k = c * cf b k) : mulc a b' n = c * mulc a b n := sm_right h _
theorem mulc_one' (c : Int) (l : List Int) (n : Nat) : mulc [c] l n = c * cf l n := by
  unfold mulc
  show sm [c] l n 0 + tm [c] l n 0 = _
  unfold sm tm
  rw [if_pos (Nat.zero_le _), cf_zero, Nat.sub_zero, Int.zero_add]
theorem nil_of_cf {l : List Int} (ht : Tr l) (h : ∀ k, cf l k = 0) : l = [] := by
  refine Classical.byContradiction fun hne => ?_
  have hl := List.length_pos_iff.mpr hne
  exact ht (l.length - 1) (by omega) (h _)
/-- what is times q of a degree less than q's is nought -/
theorem mulc_small {d q : List Int} (hq : q ≠ []) (hqt : Tr q) (h : ∀ n, q.length ≤ n + 1 → mulc d q n = 0) : ∀ k, cf d k = 0 := by
  have e : trim d = [] := by
    refine Classical.byContradiction fun hne => ?_
    have hl := List.length_pos_iff.mpr hne
    have hql := List.length_pos_iff.mpr hq
    have ht := tr_trim d ((trim d).length - 1) (by omega)
    have hb := hqt (q.length - 1) (by omega)
    have h1 := h ((trim d).length - 1 + (q.length - 1)) (by omega)
    rw [← mulc_congr (a := trim d) (b := q) (fun k => cf_trim d k) (fun _ => rfl), mulc_top (la := (trim d).length - 1) (lb := q.length - 1) (by omega) (by omega)] at h1
    exact Int.mul_ne_zero ht hb h1
  intro k
  rw [← cf_trim, e, cf_nil]
theorem divF_ne {a b : List Int} (hb : b ≠ []) (hbt : Tr b) : divF a b ≠ 0 := by
  have hbl := List.length_pos_iff.mpr hb
  have h := hbt (b.length - 1) (by omega)
  have h1 : ((cf b (b.length - 1)).natAbs : Int) ≠ 0 := by omega
  unfold divF
  generalize divN a b = n
  induction n with
  | zero => rw [Int.pow_zero]; decide
  | succ n ih => rw [Int.pow_succ]; exact Int.mul_ne_zero ih h1
end RM

/-! The shared divisor: plain mathematics -/
namespace RM

/-- the mirror of shared -/
def gcdF (d : Nat) (l : List Int) : Nat := l.foldl (fun d v => Nat.gcd d v.natAbs) d
def gcdL (l : List Int) : Nat := gcdF 0 l
theorem gcdF_nil (d : Nat) : gcdF d [] = d := rfl
theorem gcdF_cons (d : Nat) (v : Int) (l : List Int) : gcdF d (v :: l) = gcdF (Nat.gcd d v.natAbs) l := rfl
theorem gcdF_snoc (d : Nat) (l : List Int) (v : Int) : gcdF d (l ++ [v]) = Nat.gcd (gcdF d l) v.natAbs := by
  unfold gcdF; rw [List.foldl_append]; rfl
theorem gcdL_snoc (l : List Int) (v : Int) : gcdL (l ++ [v]) = Nat.gcd (gcdL l) v.natAbs := gcdF_snoc 0 l v
theorem dvd_gcdF {m : Nat} : ∀ {l : List Int} {d : Nat}, m ∣ gcdF d l ↔ m ∣ d ∧ ∀ v ∈ l, m ∣ v.natAbs
  | [], d => by simp [gcdF_nil]
  | v :: l, d => by
    rw [gcdF_cons, dvd_gcdF, Nat.dvd_gcd_iff]
    simp only [List.mem_cons, forall_eq_or_imp]
    exact ⟨fun ⟨⟨a, b⟩, c⟩ => ⟨a, b, c⟩, fun ⟨a, b, c⟩ => ⟨⟨a, b⟩, c⟩⟩
theorem dvd_gcdL {m : Nat} {l : List Int} : m ∣ gcdL l ↔ ∀ v ∈ l, m ∣ v.natAbs := by
  unfold gcdL; rw [dvd_gcdF]; exact ⟨fun h => h.2, fun h => ⟨Nat.dvd_zero m, h⟩⟩
theorem gcdL_dvd {l : List Int} {v : Int} (h : v ∈ l) : gcdL l ∣ v.natAbs := dvd_gcdL.mp (Nat.dvd_refl _) v h
theorem gcdL_one (v : Int) : gcdL [v] = v.natAbs := by
  show Nat.gcd 0 v.natAbs = _; exact Nat.gcd_zero_left _
/-- Euclid's turn -/
theorem gcd_turn {a b : Int} (ha : 0 ≤ a) (hb : 0 < b) : Nat.gcd b.natAbs (a % b).natAbs = Nat.gcd a.natAbs b.natAbs := by
  have e : (a % b).natAbs = a.natAbs % b.natAbs := by
    obtain ⟨x, rfl⟩ := Int.eq_ofNat_of_zero_le ha
    obtain ⟨y, rfl⟩ := Int.eq_ofNat_of_zero_le (Int.le_of_lt hb)
    rfl
  rw [e, Nat.gcd_comm, ← Nat.gcd_rec, Nat.gcd_comm]

end RM

/-! Shrunk and plain: plain mathematics (behind MathGcd, MathPoly) -/
namespace RM
def shrL (l : List Int) : List Int := l.map fun x => x / (gcdL l : Int)
def lastI (l : List Int) : Int := cf l (l.length - 1)
theorem lastI_snoc (r : List Int) (x : Int) : lastI (r ++ [x]) = x := by
  unfold lastI; rw [List.length_append]; exact cf_last r x
def posL (l : List Int) : List Int := if lastI l < 0 then l.map fun x => -x else l
def plainL (l : List Int) : List Int := posL (shrL l)
theorem trim_map {c : Int → Int} (h0 : ∀ x, c x = 0 ↔ x = 0) : ∀ (n : Nat) (l : List Int), l.length = n → trim (l.map c) = (trim l).map c
  | 0, l, h => by rw [List.length_eq_zero_iff.mp h]; rfl
  | n + 1, l, h => by
    rcases snoc_cases l with rfl | ⟨r, x, rfl⟩
    · rfl
    · rw [List.map_append]
      show trim (r.map c ++ [c x]) = _
      by_cases hx : x = 0
      · subst hx
        rw [(h0 0).mpr rfl, trim_snoc_zero, trim_snoc_zero]
        exact trim_map h0 n r (by simpa using h)
      · rw [trim_snoc_ne r hx, trim_snoc_ne _ (fun z => hx ((h0 x).mp z)), List.map_append]; rfl
/-- the shared divisor is 1, or there is nothing -/
def Prim (l : List Int) : Prop := l = [] ∨ gcdL l = 1
theorem shrL_prim {l : List Int} (h : Prim l) : shrL l = l := by
  rcases h with rfl | h
  · rfl
  · unfold shrL; rw [h]
    conv => rhs; rw [← List.map_id l]
    apply List.map_congr_left
    intro x _
    show x / 1 = x
    exact Int.ediv_one x
theorem gcdL_map_unit {l : List Int} {s : Int} (hs : s = 1 ∨ s = -1) : gcdL (l.map fun x => x * s) = gcdL l := by
  have key : ∀ m : Nat, m ∣ gcdL (l.map fun x => x * s) ↔ m ∣ gcdL l := by
    intro m
    rw [dvd_gcdL, dvd_gcdL]
    have e : ∀ x : Int, (x * s).natAbs = x.natAbs := fun x => by
      rcases hs with rfl | rfl
      · rw [Int.mul_one]
      · rw [Int.mul_neg, Int.mul_one, Int.natAbs_neg]
    constructor
    · intro h v hv
      have := h (v * s) (List.mem_map.mpr ⟨v, hv, rfl⟩)
      rwa [e] at this
    · intro h v hv
      obtain ⟨u, hu, rfl⟩ := List.mem_map.mp hv
      rw [e]; exact h u hu
  exact Nat.dvd_antisymm ((key _).mp (Nat.dvd_refl _)) ((key _).mpr (Nat.dvd_refl _))
theorem prim_neg {l : List Int} (h : Prim l) : Prim (l.map fun x => -x) := by
  rcases h with rfl | h
  · exact .inl rfl
  · right
    have e : (l.map fun x => -x) = l.map fun x => x * (-1) := by
      apply List.map_congr_left; intro x _; omega
    rw [e, gcdL_map_unit (.inr rfl), h]
theorem lastI_map_neg (l : List Int) : lastI (l.map fun x => -x) = -lastI l := by
  rcases snoc_cases l with rfl | ⟨r, x, rfl⟩
  · rfl
  · rw [List.map_append]
    show lastI (r.map _ ++ [-x]) = _
    rw [lastI_snoc, lastI_snoc]
theorem prim_posL {l : List Int} (h : Prim l) : Prim (posL l) := by
  unfold posL; split
  · exact prim_neg h
  · exact h
theorem tr_map {c : Int → Int} (h0 : ∀ x, c x = 0 ↔ x = 0) {l : List Int} (h : Tr l) : Tr (l.map c) := by
  rw [← trim_of_tr h, ← trim_map h0 _ l rfl]; exact tr_trim _
theorem tr_posL {l : List Int} (h : Tr l) : Tr (posL l) := by
  unfold posL; split
  · exact tr_map (fun x => by omega) h
  · exact h
end RM

/-! Plain lists that differ by a factor (behind MathShr, MathDiv) -/
namespace RM
theorem gcdF_scL (c : Int) : ∀ (l : List Int) (d : Nat), gcdF (c.natAbs * d) (scL c l) = c.natAbs * gcdF d l
  | [], d => rfl
  | v :: l, d => by
    show gcdF (Nat.gcd (c.natAbs * d) (c * v).natAbs) (scL c l) = c.natAbs * gcdF (Nat.gcd d v.natAbs) l
    rw [Int.natAbs_mul, Nat.gcd_mul_left, gcdF_scL c l]
theorem gcdL_scL (c : Int) (l : List Int) : gcdL (scL c l) = c.natAbs * gcdL l := by
  have h := gcdF_scL c l 0
  rw [Nat.mul_zero] at h
  exact h
theorem int_dvd_gcdL {l : List Int} {x : Int} (h : x ∈ l) : (gcdL l : Int) ∣ x := Int.ofNat_dvd_left.mpr (gcdL_dvd h)
theorem shrL_scL_pos {c : Int} (hc : 0 < c) (l : List Int) : shrL (scL c l) = shrL l := by
  unfold shrL
  rw [gcdL_scL]
  unfold scL
  rw [List.map_map]
  refine List.map_congr_left fun x _ => ?_
  show c * x / ((c.natAbs * gcdL l : Nat) : Int) = x / (gcdL l : Int)
  have e : ((c.natAbs * gcdL l : Nat) : Int) = c * (gcdL l : Int) := by rw [Int.natCast_mul]; congr 1; omega
  rw [e, Int.mul_ediv_mul_of_pos _ _ hc]
theorem shrL_scL_neg {c : Int} (hc : c < 0) (l : List Int) : shrL (scL c l) = (shrL l).map fun x => -x := by
  unfold shrL
  rw [gcdL_scL]
  unfold scL
  rw [List.map_map, List.map_map]
  refine List.map_congr_left fun x hx => ?_
  show c * x / ((c.natAbs * gcdL l : Nat) : Int) = -(x / (gcdL l : Int))
  have e : ((c.natAbs * gcdL l : Nat) : Int) = (-c) * (gcdL l : Int) := by rw [Int.natCast_mul]; congr 1; omega
  have e2 : c * x = (-c) * (-x) := by rw [Int.neg_mul_neg]
  rw [e, e2, Int.mul_ediv_mul_of_pos _ _ (by omega : 0 < -c), Int.neg_ediv_of_dvd (int_dvd_gcdL hx)]
theorem posL_neg {m : List Int} (h : Tr m) : posL (m.map fun x => -x) = posL m := by
  rcases snoc_cases m with rfl | ⟨r, x, rfl⟩
  · rfl
  have hx : x ≠ 0 := tr_snoc.mp h
  have h1 := lastI_map_neg (r ++ [x])
  rw [lastI_snoc] at h1
  unfold posL
  rw [h1, lastI_snoc]
  by_cases hn : x < 0
  · rw [if_neg (by omega), if_pos hn]
  · rw [if_pos (by omega), if_neg hn, List.map_map]
    rw [show ((fun x : Int => -x) ∘ fun x : Int => -x) = id from by funext y; simp]
    exact List.map_id _
theorem tr_shrL {l : List Int} (h : Tr l) : Tr (shrL l) := by
  intro n hn
  have hl : l.length = n + 1 := by rw [← hn]; unfold shrL; rw [List.length_map]
  have hx := h n hl
  have hm : cf l n ∈ l := by rw [cf_lt (by omega)]; exact List.getElem_mem _
  have e : cf (shrL l) n = cf l n / (gcdL l : Int) := by
    have h1 : n < l.length := by omega
    unfold shrL cf
    simp [List.getD, h1]
  rw [e]
  intro z
  have d := int_dvd_gcdL hm
  have := Int.mul_ediv_cancel' d
  rw [z, Int.mul_zero] at this
  exact hx this.symm
theorem plainL_scL {c : Int} (hc : c ≠ 0) {l : List Int} (h : Tr l) : plainL (scL c l) = plainL l := by
  unfold plainL
  by_cases hp : 0 < c
  · rw [shrL_scL_pos hp]
  · rw [shrL_scL_neg (by omega), posL_neg (tr_shrL h)]
theorem tr_scL {c : Int} (hc : c ≠ 0) {l : List Int} (h : Tr l) : Tr (scL c l) := by
  intro n hn
  rw [length_scL] at hn
  rw [cf_scL]
  exact Int.mul_ne_zero hc (h n hn)
theorem plain_prop {a b : List Int} {x y : Int} (hx : x ≠ 0) (hy : y ≠ 0) (ha : Tr a) (hb : Tr b) (h : ∀ k, x * cf a k = y * cf b k) : plainL a = plainL b := by
  have e : scL x a = scL y b := eq_of_cf (tr_scL hx ha) (tr_scL hy hb) fun k => by rw [cf_scL, cf_scL, h k]
  rw [← plainL_scL hx ha, e, plainL_scL hy hb]
end RM

/-! Slope, turned, flipped, lifted: plain mathematics (behind MathPoly) -/
namespace RM
def slopeL (l : List Int) : List Int := (List.range (l.length - 1)).map fun (k : Nat) => ((k : Int) + 1) * cf l (k + 1)
def lc (l : List Int) (m n : Nat) : Int := if n % m = 0 then cf l (n / m) else 0
end RM

/-! Rows of rests (behind MathDiv2, MathShr) -/
namespace RM
def rst (one other : List Int) : List Int := if other = [] then [] else divR one other
def nxt (one other : List Int) : List Int := shrL (subL [] (rst one other))
def rowS : Nat → List Int → List Int → List (List Int)
  | 0, _, _ => []
  | n + 1, one, other => if one = [] then [] else one :: rowS n other (nxt one other)
theorem rowS_nil (n : Nat) (o : List Int) : rowS n [] o = [] := by cases n with | zero => rfl | succ n => show (if ([] : List Int) = [] then _ else _) = _; rw [if_pos rfl]
end RM

/-! Rows of rests: another way to make the rests, the chain, the growth (behind MathRow, MathPlain) -/
namespace RM
theorem subL_nil {r : List Int} (h : Tr r) : subL [] r = scL (-1) r := by
  refine eq_of_cf (tr_trim _) (tr_scL (by decide) h) fun k => ?_
  unfold subL
  rw [cf_trim, cf_linL, cf_scL, cf_nil]; omega
/-- two rests of the same two lists, each with a factor above 0 -/
theorem rest_prop {xs ys r q : List Int} {f : Int} (hy : ys ≠ []) (hyt : Tr ys) (hr : r.length < ys.length) (h : ∀ n, f * cf xs n = mulc q ys n + cf r n) : ∀ n, f * cf (divR xs ys) n = divF xs ys * cf r n := by
  have key : ∀ n, mulc (linL (-(divF xs ys)) (scL f (divQ xs ys)) q) ys n = divF xs ys * cf r n - f * cf (divR xs ys) n := by
    intro n
    rw [mulc_lin (a := divQ xs ys) (b := q) (x := f) (y := -(divF xs ys)) (fun k => by rw [cf_linL, cf_scL])]
    have h1 := div_eqn (a := xs) hy n
    have h2 := h n
    grind
  have z := mulc_small hy hyt (d := linL (-(divF xs ys)) (scL f (divQ xs ys)) q) (fun n hn => by
    rw [key, cf_ge (l := divR xs ys) (by have := div_lenR (a := xs) hy; omega), cf_ge (l := r) (by omega)]; simp)
  intro n
  have hk := key n
  rw [mulc_zero z] at hk
  omega
theorem divF_pos {a b : List Int} (hb : b ≠ []) (hbt : Tr b) : 0 < divF a b := by
  have h := divF_ne (a := a) hb hbt
  have h2 : 0 ≤ divF a b := by
    unfold divF
    generalize divN a b = n
    induction n with
    | zero => rw [Int.pow_zero]; decide
    | succ n ih => rw [Int.pow_succ]; exact Int.mul_nonneg ih (Int.natCast_nonneg _)
  omega
theorem shr_same {a b : List Int} {x y : Int} (hx : 0 < x) (hy : 0 < y) (ha : Tr a) (hb : Tr b) (h : ∀ k, x * cf a k = y * cf b k) : shrL a = shrL b := by
  have e : scL x a = scL y b := eq_of_cf (tr_scL (Int.ne_of_gt hx) ha) (tr_scL (Int.ne_of_gt hy) hb) fun k => by rw [cf_scL, cf_scL, h k]
  rw [← shrL_scL_pos hx a, e, shrL_scL_pos hy b]
/-- the next one of the row, by any rest -/
theorem nxt_eq {xs ys r q : List Int} {f : Int} (hf : 0 < f) (hy : ys ≠ []) (hyt : Tr ys) (hr : r.length < ys.length) (hrt : Tr r) (h : ∀ n, f * cf xs n = mulc q ys n + cf r n) : nxt xs ys = shrL (scL (-1) r) := by
  unfold nxt rst
  rw [if_neg hy, subL_nil (div_trR _ _)]
  refine shr_same hf (divF_pos (a := xs) hy hyt) (tr_scL (by decide) (div_trR _ _)) (tr_scL (by decide) hrt) fun k => ?_
  rw [cf_scL, cf_scL]
  have := rest_prop hy hyt hr h k
  grind
theorem rowS_len_one {n : Nat} {one : List Int} (h : one ≠ []) (hn : 0 < n) : rowS n one [] = [one] := by
  obtain ⟨m, rfl⟩ : ∃ m, n = m + 1 := ⟨n - 1, by omega⟩
  show (if one = [] then [] else one :: rowS m [] (nxt one [])) = _
  rw [if_neg h, rowS_nil]
/-- r is the row of one and other, and it ends before the steps do -/
def Ends : Nat → List Int → List Int → Prop
  | 0, one, _ => one = []
  | n + 1, one, other => one = [] ∨ Ends n other (nxt one other)
/-- how the figures may grow: each at most twice the one ahead and the one before it -/
def gr (B : Nat) : Nat → Nat
  | 0 => B
  | 1 => 2 * B
  | k + 2 => 2 * gr B (k + 1) + gr B k
theorem gr_le (B : Nat) : ∀ k, gr B k ≤ gr B (k + 1)
  | 0 => by show B ≤ 2 * B; omega
  | k + 1 => by show gr B (k + 1) ≤ 2 * gr B (k + 1) + gr B k; omega
theorem gr_mono (B : Nat) {j k : Nat} (h : j ≤ k) : gr B j ≤ gr B k := by
  induction h with
  | refl => exact Nat.le_refl _
  | step _ ih => exact Nat.le_trans ih (gr_le B _)
theorem gr_jump (B j : Nat) : ∀ d, gr B j + (d + 2) * gr B (j + 1) ≤ gr B (j + 2 + d)
  | 0 => by show gr B j + 2 * gr B (j + 1) ≤ 2 * gr B (j + 1) + gr B j; omega
  | d + 1 => by
    have ih := gr_jump B j d
    have e : gr B (j + 2 + (d + 1)) = 2 * gr B (j + 2 + d) + gr B (j + 1 + d) := by
      have : j + 2 + (d + 1) = (j + 1 + d) + 2 := by omega
      rw [this]
      show 2 * gr B (j + 1 + d + 1) + gr B (j + 1 + d) = _
      have e2 : j + 1 + d + 1 = j + 2 + d := by omega
      rw [e2]
    have hm : gr B (j + 1) ≤ gr B (j + 1 + d) := gr_mono B (by omega)
    rw [e, Nat.add_mul] at *
    have e3 : (d + 1) * gr B (j + 1) = d * gr B (j + 1) + gr B (j + 1) := by rw [Nat.add_mul, Nat.one_mul]
    omega
end RM

/-! The product's laws: by its first factor's items; commutative, associative (behind MathDiv2) -/
namespace RM
/-- the items one place up -/
def up (f : Nat → Int) (n : Nat) : Int := if n = 0 then 0 else f (n - 1)
theorem sm_cons (x : Int) (a b : List Int) (n : Nat) : ∀ j, sm (x :: a) b n (j + 1) = x * cf b n + (if n = 0 then 0 else sm a b (n - 1) j)
  | 0 => by
    show 0 + tm (x :: a) b n 0 = _
    unfold tm
    rw [if_pos (Nat.zero_le _)]
    rw [cf_zero, Nat.sub_zero]
    by_cases h : n = 0
    · rw [if_pos h]; omega
    · rw [if_neg h]; show _ = _ + 0; omega
  | j + 1 => by
    show sm (x :: a) b n (j + 1) + tm (x :: a) b n (j + 1) = _
    rw [sm_cons x a b n j]
    by_cases h : n = 0
    · rw [if_pos h, if_pos h]
      unfold tm
      rw [if_neg (by omega)]; omega
    · rw [if_neg h, if_neg h]
      show _ = _ + (sm a b (n - 1) j + tm a b (n - 1) j)
      have e : tm (x :: a) b n (j + 1) = tm a b (n - 1) j := by
        unfold tm
        rw [cf_succ]
        by_cases h2 : j + 1 ≤ n
        · rw [if_pos h2, if_pos (by omega)]
          congr 2; omega
        · rw [if_neg h2, if_neg (by omega)]
      rw [e]; omega
theorem mulc_cons (x : Int) (a b : List Int) (n : Nat) : mulc (x :: a) b n = x * cf b n + up (mulc a b) n := sm_cons x a b n a.length
theorem mulc_nil (b : List Int) (n : Nat) : mulc [] b n = 0 := rfl
theorem cf_cons_up (x : Int) (a : List Int) (n : Nat) : cf (x :: a) n = (if n = 0 then x else 0) + up (cf a) n := by
  cases n with
  | zero => show x = x + 0; omega
  | succ n => show cf a n = 0 + cf a n; omega
theorem mulc_cons_right (y : Int) (b : List Int) : ∀ (a : List Int) (n : Nat), mulc a (y :: b) n = y * cf a n + up (mulc a b) n
  | [], n => by
    rw [mulc_nil, cf_nil]
    unfold up
    split
    · simp
    · rw [mulc_nil]; simp
  | x :: a, n => by
    rw [mulc_cons, cf_cons_up, cf_cons_up]
    cases n with
    | zero =>
      show x * (y + 0) + 0 = y * (x + 0) + 0
      simp only [Int.add_zero]; exact Int.mul_comm _ _
    | succ n =>
      show x * (0 + cf b n) + mulc a (y :: b) n = y * (0 + cf a n) + mulc (x :: a) b n
      rw [mulc_cons_right y b a n, mulc_cons]
      simp only [Int.zero_add]
      omega
theorem mulc_nil_right : ∀ (a : List Int) (n : Nat), mulc a [] n = 0
  | [], n => rfl
  | x :: a, n => by
    rw [mulc_cons, cf_nil]
    unfold up
    split
    · simp
    · rw [mulc_nil_right a]; simp
theorem mulc_comm : ∀ (a b : List Int) (n : Nat), mulc a b n = mulc b a n
  | [], b, n => by rw [mulc_nil_right]; rfl
  | x :: a, b, n => by
    rw [mulc_cons, mulc_cons_right]
    congr 1
    unfold up
    split
    · rfl
    · exact mulc_comm a b _
/-- the second factor's parts -/
theorem mulc_lin_right {a b c q : List Int} {x y : Int} {n : Nat} (h : ∀ k, cf c k = x * cf a k + y * cf b k) : mulc q c n = x * mulc q a n + y * mulc q b n := by
  rw [mulc_comm q c, mulc_lin h, mulc_comm q a, mulc_comm q b]
theorem cf_shift (a : List Int) (n : Nat) : cf (0 :: a) n = up (cf a) n := by
  rw [cf_cons_up]; split <;> omega
theorem mulc_shift (a b : List Int) (n : Nat) : mulc (0 :: a) b n = up (mulc a b) n := by
  rw [mulc_cons]; omega
theorem mulc_assoc : ∀ (a b c : List Int) (n : Nat), mulc (mulL a b) c n = mulc a (mulL b c) n
  | [], b, c, n => by
    rw [mulc_nil, mulc_zero fun k => by rw [cf_mulL, mulc_nil]]
  | x :: a, b, c, n => by
    rw [mulc_cons, cf_mulL]
    have e : ∀ k, cf (mulL (x :: a) b) k = x * cf b k + 1 * cf (0 :: mulL a b) k := fun k => by
      rw [cf_mulL, mulc_cons, cf_shift, Int.one_mul]
      congr 1
      unfold up
      split
      · rfl
      · rw [cf_mulL]
    rw [mulc_lin e, mulc_shift, Int.one_mul]
    congr 1
    unfold up
    split
    · rfl
    · exact mulc_assoc a b c _
end RM

/-! Divisors, with any factor; what the chain of plain rests ends with (behind MathRing, MathPlain) -/
namespace RM
/-- d divides p, with fractions -/
def Dv (d p : List Int) : Prop := ∃ (c : Int) (q : List Int), c ≠ 0 ∧ ∀ n, c * cf p n = mulc q d n
theorem Dv.refl (d : List Int) : Dv d d := ⟨1, [1], by decide, fun n => by rw [mulc_one']⟩
theorem Dv.nil (d : List Int) : Dv d [] := ⟨1, [], by decide, fun n => by rw [cf_nil, mulc_nil]; rfl⟩
theorem Dv.trans {d e p : List Int} (h1 : Dv d e) (h2 : Dv e p) : Dv d p := by
  obtain ⟨c1, q1, hc1, e1⟩ := h1
  obtain ⟨c2, q2, hc2, e2⟩ := h2
  refine ⟨c1 * c2, mulL q2 q1, Int.mul_ne_zero hc1 hc2, fun n => ?_⟩
  rw [mulc_assoc, Int.mul_assoc, e2, ← mulc_right (b' := mulL q1 d) (fun k => by rw [cf_mulL, e1])]
/-- f a = q b + r: who divides b and r divides a, who divides a and b divides r -/
theorem Dv.up {d a b r q : List Int} {f : Int} (hf : f ≠ 0) (h : ∀ n, f * cf a n = mulc q b n + cf r n) (hb : Dv d b) (hr : Dv d r) : Dv d a := by
  obtain ⟨c1, q1, hc1, e1⟩ := hb
  obtain ⟨c2, q2, hc2, e2⟩ := hr
  refine ⟨c1 * c2 * f, linL c1 (scL c2 (mulL q q1)) q2, Int.mul_ne_zero (Int.mul_ne_zero hc1 hc2) hf, fun n => ?_⟩
  rw [mulc_lin (a := mulL q q1) (b := q2) (x := c2) (y := c1) (fun k => by rw [cf_linL, cf_scL]), mulc_assoc, ← e2, mulc_right (b := b) (b' := mulL q1 d) (c := c1) (fun k => by rw [cf_mulL, e1])]
  have := h n
  grind
theorem Dv.down {d a b r q : List Int} {f : Int} (h : ∀ n, f * cf a n = mulc q b n + cf r n) (ha : Dv d a) (hb : Dv d b) : Dv d r := by
  obtain ⟨c1, q1, hc1, e1⟩ := ha
  obtain ⟨c2, q2, hc2, e2⟩ := hb
  refine ⟨c1 * c2, linL (-c1) (scL (f * c2) q1) (mulL q q2), Int.mul_ne_zero hc1 hc2, fun n => ?_⟩
  rw [mulc_lin (a := q1) (b := mulL q q2) (x := f * c2) (y := -c1) (fun k => by rw [cf_linL, cf_scL]), mulc_assoc, ← e1, mulc_right (b := b) (b' := mulL q2 d) (c := c2) (fun k => by rw [cf_mulL, e2])]
  have := h n
  grind
theorem Dv.prop_right {d p p' : List Int} {x y : Int} (hx : x ≠ 0) (h : ∀ n, x * cf p' n = y * cf p n) (hd : Dv d p) : Dv d p' := by
  obtain ⟨c, q, hc, e⟩ := hd
  refine ⟨c * x, scL y q, Int.mul_ne_zero hc hx, fun n => ?_⟩
  rw [mulc_lin (a := q) (b := []) (x := y) (y := 0) (fun k => by rw [cf_scL]; simp), ← e]
  have := h n
  grind
theorem Dv.prop_left {d d' p : List Int} {x y : Int} (hx : x ≠ 0) (hy : y ≠ 0) (h : ∀ n, x * cf d' n = y * cf d n) (hd : Dv d p) : Dv d' p :=
  Dv.trans (Dv.prop_right hy (fun n => (h n).symm) (Dv.refl d')) hd
theorem plain_scale {l : List Int} (h : Tr l) : ∃ g : Int, g ≠ 0 ∧ ∀ n, cf l n = g * cf (plainL l) n := by
  by_cases hl : l = []
  · subst hl
    exact ⟨1, by decide, fun n => by rw [cf_nil]; show 0 = 1 * cf [] n; rw [cf_nil]; rfl⟩
  have hg : (gcdL l : Int) ≠ 0 := by
    obtain ⟨r, x, rfl⟩ := (snoc_cases l).resolve_left hl
    have hx : x ≠ 0 := tr_snoc.mp h
    have h1 : 0 < gcdL (r ++ [x]) := Nat.pos_of_dvd_of_pos (gcdL_dvd (by simp : x ∈ r ++ [x])) (Int.natAbs_pos.mpr hx)
    omega
  have e1 : ∀ n, cf l n = (gcdL l : Int) * cf (shrL l) n := fun n => by
    unfold shrL
    by_cases hn : n < l.length
    · rw [cf_lt hn, cf_lt (by rw [List.length_map]; exact hn), List.getElem_map]
      exact (Int.mul_ediv_cancel' (int_dvd_gcdL (List.getElem_mem hn))).symm
    · rw [cf_ge (by omega), cf_ge (by rw [List.length_map]; omega), Int.mul_zero]
  unfold plainL posL
  split
  · refine ⟨-(gcdL l : Int), by omega, fun n => ?_⟩
    have e2 : cf ((shrL l).map fun x => -x) n = -cf (shrL l) n := by
      by_cases hn : n < (shrL l).length
      · rw [cf_lt hn, cf_lt (by rw [List.length_map]; exact hn), List.getElem_map]
      · rw [cf_ge (l := shrL l) (by omega), cf_ge (l := (shrL l).map fun x => -x) (by rw [List.length_map]; omega)]; rfl
    rw [e1, e2]; grind
  · exact ⟨_, hg, e1⟩
theorem Dv.plain {d p : List Int} (hp : Tr p) : Dv d (plainL p) ↔ Dv d p := by
  obtain ⟨g, hg, e⟩ := plain_scale hp
  exact ⟨fun h => Dv.prop_right (x := 1) (y := g) (by decide) (fun n => by rw [e]; omega) h, fun h => Dv.prop_right (x := g) (y := 1) hg (fun n => by rw [← e]; omega) h⟩
theorem plain_len (l : List Int) : (plainL l).length = l.length := by
  unfold plainL posL shrL
  split <;> simp
theorem tr_plain {l : List Int} (h : Tr l) : Tr (plainL l) := tr_posL (tr_shrL h)
/-- what the chain of plain rests ends with -/
def comN : Nat → List Int → List Int → List Int
  | 0, one, _ => one
  | n + 1, one, other => if other = [] then one else comN n other (plainL (divR one other))
theorem comN_nil (n : Nat) (one : List Int) : comN n one [] = one := by cases n <;> rfl
theorem comN_step {n : Nat} {one other : List Int} (h : other ≠ []) : comN (n + 1) one other = comN n other (plainL (divR one other)) := by
  show (if other = [] then one else comN n other (plainL (divR one other))) = _
  rw [if_neg h]
theorem comN_spec : ∀ (n : Nat) (one other : List Int), other.length ≤ n → Tr one → Tr other → Tr (comN n one other) ∧ Dv (comN n one other) one ∧ Dv (comN n one other) other ∧ (∀ d, Dv d one → Dv d other → Dv d (comN n one other)) ∧ (one ≠ [] ∨ other ≠ [] → comN n one other ≠ []) ∧ (comN n one other = one ∨ comN n one other = other ∨ ∃ l, Tr l ∧ comN n one other = plainL l)
  | n, one, [], _, t1, _ => by
    rw [comN_nil]
    exact ⟨t1, Dv.refl _, Dv.nil _, fun d h _ => h, fun h => h.resolve_right fun z => z rfl, .inl rfl⟩
  | 0, one, x :: o, h, _, _ => absurd h (Nat.not_succ_le_zero _)
  | n + 1, one, x :: o, h, t1, t2 => by
    have hne : x :: o ≠ [] := fun z => nomatch z
    rw [comN_step hne]
    generalize x :: o = other at h t2 hne
    have tr := div_trR one other
    have hl := div_lenR (a := one) hne
    obtain ⟨c1, c2, c3, c4, c5, c6⟩ := comN_spec n other (plainL (divR one other)) (by rw [plain_len]; omega) t2 (tr_plain tr)
    have eq := fun k => div_eqn (a := one) hne k
    refine ⟨c1, Dv.up (divF_ne (a := one) hne t2) eq c2 ((Dv.plain tr).mp c3), c2, fun d h1 h2 => c4 d h2 ((Dv.plain tr).mpr (Dv.down eq h1 h2)), fun _ => c5 (.inl hne), ?_⟩
    rcases c6 with e | e | e
    · exact .inr (.inl e)
    · exact .inr (.inr ⟨_, tr, e⟩)
    · exact .inr (.inr e)
/-- no number above 1 divides m and all of a -/
def Cop (a : List Int) (m : Nat) : Prop := ∀ k : Nat, k ∣ m → (∀ n, (k : Int) ∣ cf a n) → k = 1
theorem gauss : ∀ (N : Nat) (a b : List Int) (m : Nat), a.length + b.length ≤ N → Cop a m → Cop b m → (∀ n, (m : Int) ∣ mulc a b n) → m = 1
  | _, [], b, m, _, h1, _, _ => h1 m (Nat.dvd_refl _) fun n => by rw [cf_nil]; exact Int.dvd_zero _
  | _, _ :: _, [], m, _, _, h2, _ => h2 m (Nat.dvd_refl _) fun n => by rw [cf_nil]; exact Int.dvd_zero _
  | 0, _ :: _, _ :: _, _, h, _, _, _ => absurd h (by simp)
  | N + 1, x :: a, y :: b, m, h, h1, h2, h3 => by
    have d1 : Nat.gcd m x.natAbs = 1 := by
      refine gauss N a (y :: b) _ (by simp at h ⊢; omega) (fun k hk hn => h1 k (Nat.dvd_trans hk (Nat.gcd_dvd_left _ _)) fun n => ?_) (fun k hk => h2 k (Nat.dvd_trans hk (Nat.gcd_dvd_left _ _))) fun n => ?_
      · cases n with
        | zero => exact Int.ofNat_dvd_left.mpr (Nat.dvd_trans hk (Nat.gcd_dvd_right _ _))
        | succ n => exact hn n
      · have e := mulc_cons x a (y :: b) (n + 1)
        have g1 : ((Nat.gcd m x.natAbs : Nat) : Int) ∣ mulc (x :: a) (y :: b) (n + 1) := Int.dvd_trans (Int.ofNat_dvd.mpr (Nat.gcd_dvd_left _ _)) (h3 _)
        have g2 : ((Nat.gcd m x.natAbs : Nat) : Int) ∣ x * cf (y :: b) (n + 1) := Int.dvd_mul_of_dvd_left (Int.ofNat_dvd_left.mpr (Nat.gcd_dvd_right _ _))
        have e2 : mulc a (y :: b) n = mulc (x :: a) (y :: b) (n + 1) - x * cf (y :: b) (n + 1) := by
          rw [e]; show _ = _ + mulc a (y :: b) n - _; omega
        rw [e2]; exact Int.dvd_sub g1 g2
    have d2 : Nat.gcd m y.natAbs = 1 := by
      refine gauss N (x :: a) b _ (by simp at h ⊢; omega) (fun k hk => h1 k (Nat.dvd_trans hk (Nat.gcd_dvd_left _ _))) (fun k hk hn => h2 k (Nat.dvd_trans hk (Nat.gcd_dvd_left _ _)) fun n => ?_) fun n => ?_
      · cases n with
        | zero => exact Int.ofNat_dvd_left.mpr (Nat.dvd_trans hk (Nat.gcd_dvd_right _ _))
        | succ n => exact hn n
      · have e := mulc_cons_right y b (x :: a) (n + 1)
        have g1 : ((Nat.gcd m y.natAbs : Nat) : Int) ∣ mulc (x :: a) (y :: b) (n + 1) := Int.dvd_trans (Int.ofNat_dvd.mpr (Nat.gcd_dvd_left _ _)) (h3 _)
        have g2 : ((Nat.gcd m y.natAbs : Nat) : Int) ∣ y * cf (x :: a) (n + 1) := Int.dvd_mul_of_dvd_left (Int.ofNat_dvd_left.mpr (Nat.gcd_dvd_right _ _))
        have e2 : mulc (x :: a) b n = mulc (x :: a) (y :: b) (n + 1) - y * cf (x :: a) (n + 1) := by
          rw [e]; show _ = _ + mulc (x :: a) b n - _; omega
        rw [e2]; exact Int.dvd_sub g1 g2
    have h0 := h3 0
    rw [mulc_cons] at h0
    have h0' : m ∣ x.natAbs * y.natAbs := by
      rw [← Int.natAbs_mul]
      refine Int.ofNat_dvd_left.mp ?_
      have e : x * cf (y :: b) 0 + up (mulc a (y :: b)) 0 = x * y := by
        show x * y + 0 = x * y; omega
      rwa [e] at h0
    have h4 : m ∣ y.natAbs := Nat.Coprime.dvd_of_dvd_mul_left d1 h0'
    rw [Nat.gcd_eq_left h4] at d2
    exact d2
theorem mem_cf {l : List Int} {v : Int} (h : v ∈ l) : ∃ n, n < l.length ∧ cf l n = v := by
  obtain ⟨n, hn, e⟩ := List.getElem_of_mem h
  exact ⟨n, hn, by rw [cf_lt hn, e]⟩
theorem cop_of {a : List Int} {m : Nat} (h : gcdL a = 1) : Cop a m := fun k _ hn => by
  have : k ∣ gcdL a := dvd_gcdL.mpr fun v hv => by
    obtain ⟨n, _, rfl⟩ := mem_cf hv
    exact Int.ofNat_dvd_left.mp (hn n)
  rw [h] at this
  exact Nat.dvd_one.mp this
theorem prim_mul {a b : List Int} (ha : gcdL a = 1) (hb : gcdL b = 1) : gcdL (mulL a b) = 1 := by
  refine gauss _ a b _ (Nat.le_refl _) (cop_of ha) (cop_of hb) fun n => ?_
  rw [← cf_mulL]
  by_cases hn : n < (mulL a b).length
  · rw [cf_lt hn]; exact int_dvd_gcdL (List.getElem_mem hn)
  · rw [cf_ge (by omega)]; exact Int.dvd_zero _
/-- a plain polynomial, not nought -/
structure Pln (l : List Int) : Prop where
  tr : Tr l
  ne : l ≠ []
  prim : gcdL l = 1
  pos : 0 < lastI l
theorem lastI_ne {l : List Int} (h : Tr l) (hne : l ≠ []) : lastI l ≠ 0 := by
  have := List.length_pos_iff.mpr hne
  exact h (l.length - 1) (by omega)
theorem Pln.plain {l : List Int} (h : Pln l) : plainL l = l := by
  unfold plainL
  rw [shrL_prim (.inr h.prim)]
  unfold posL
  rw [if_neg (by have := h.pos; omega)]
theorem shr_scale {l : List Int} : scL (gcdL l : Int) (shrL l) = l := by
  unfold scL shrL
  rw [List.map_map]
  refine (List.map_congr_left (g := id) fun x hx => ?_).trans (List.map_id _)
  exact Int.mul_ediv_cancel' (int_dvd_gcdL hx)
theorem pln_plain {l : List Int} (h : Tr l) (hne : l ≠ []) : Pln (plainL l) := by
  have hg : 0 < gcdL l := by
    obtain ⟨r, x, rfl⟩ := (snoc_cases l).resolve_left hne
    have hx : x ≠ 0 := tr_snoc.mp h
    exact Nat.pos_of_dvd_of_pos (gcdL_dvd (by simp : x ∈ r ++ [x])) (Int.natAbs_pos.mpr hx)
  have h1 : gcdL (shrL l) = 1 := by
    have e := gcdL_scL (gcdL l : Int) (shrL l)
    rw [shr_scale, Int.natAbs_natCast] at e
    exact Nat.eq_of_mul_eq_mul_left hg (by rw [← e, Nat.mul_one])
  have hs : shrL l ≠ [] := fun z => hne (by have := congrArg List.length z; unfold shrL at this; simpa using this)
  have hl := lastI_ne (tr_shrL h) hs
  have hp : gcdL (plainL l) = 1 := by
    rcases prim_posL (.inr h1 : Prim (shrL l)) with z | z
    · exact absurd (congrArg List.length z) (by
        have := plain_len l
        unfold plainL at this
        rw [this]
        exact fun q => hne (List.length_eq_zero_iff.mp q))
    · exact z
  refine ⟨tr_plain h, fun z => hne (List.length_eq_zero_iff.mp (by rw [← plain_len, z]; rfl)), hp, ?_⟩
  unfold plainL posL
  split
  · rw [lastI_map_neg]; omega
  · omega
theorem len_mulL {a b : List Int} (ha : a ≠ []) (hb : b ≠ []) : (mulL a b).length = a.length + b.length - 1 := by
  unfold mulL
  rw [if_neg (fun z => z.elim ha hb), List.length_map, List.length_range]
theorem last_mulL {a b : List Int} (ha : a ≠ []) (hb : b ≠ []) : lastI (mulL a b) = lastI a * lastI b := by
  have h1 := List.length_pos_iff.mpr ha
  have h2 := List.length_pos_iff.mpr hb
  unfold lastI
  rw [len_mulL ha hb, cf_mulL]
  have e : a.length + b.length - 1 - 1 = (a.length - 1) + (b.length - 1) := by omega
  rw [e, mulc_top (by omega) (by omega)]
theorem Pln.mul {a b : List Int} (ha : Pln a) (hb : Pln b) : Pln (mulL a b) := by
  refine ⟨tr_mulL ha.tr hb.tr, fun z => ?_, prim_mul ha.prim hb.prim, by rw [last_mulL ha.ne hb.ne]; exact Int.mul_pos ha.pos hb.pos⟩
  have h1 := List.length_pos_iff.mpr ha.ne
  have h2 := List.length_pos_iff.mpr hb.ne
  have := len_mulL ha.ne hb.ne
  rw [z] at this
  simp at this
  omega
/-- c p = q d, d plain: then plain q times d is plain p -/
theorem plain_mul {p q d : List Int} {c : Int} (hc : c ≠ 0) (hp : Tr p) (hpn : p ≠ []) (hq : Tr q) (hd : Pln d) (h : ∀ n, c * cf p n = mulc q d n) : mulL (plainL q) d = plainL p := by
  have hqn : q ≠ [] := fun z => by
    have h1 := List.length_pos_iff.mpr hpn
    have h2 := h (p.length - 1)
    rw [z, mulc_nil] at h2
    exact Int.mul_ne_zero hc (hp (p.length - 1) (by omega)) h2
  obtain ⟨g, hg, e⟩ := plain_scale hq
  have hm := (pln_plain hq hqn).mul hd
  rw [← hm.plain]
  refine plain_prop hg hc hm.tr hp fun k => ?_
  rw [h, cf_mulL, mulc_lin (a := plainL q) (b := []) (x := g) (y := 0) (c := q) (fun k => by rw [e]; simp), mulc_nil]
  simp
theorem Dv.trim {d p : List Int} (h : Dv d p) : ∃ (c : Int) (q : List Int), c ≠ 0 ∧ Tr q ∧ ∀ n, c * cf p n = mulc q d n := by
  obtain ⟨c, q, hc, e⟩ := h
  exact ⟨c, RM.trim q, hc, tr_trim q, fun n => by rw [e]; exact (mulc_congr (fun k => cf_trim q k) fun _ => rfl).symm⟩
/-- a plain divisor's fellow, whole -/
theorem Dv.fellow {d p : List Int} (hd : Pln d) (hp : Tr p) (hpn : p ≠ []) (h : Dv d p) : ∃ q, Pln q ∧ mulL q d = plainL p := by
  obtain ⟨c, q, hc, hq, e⟩ := h.trim
  have hqn : q ≠ [] := fun z => by
    have h1 := List.length_pos_iff.mpr hpn
    have h2 := e (p.length - 1)
    rw [z, mulc_nil] at h2
    exact Int.mul_ne_zero hc (hp (p.length - 1) (by omega)) h2
  exact ⟨plainL q, pln_plain hq hqn, plain_mul hc hp hpn hq hd e⟩
theorem Pln.const {l : List Int} (h : Pln l) (h1 : l.length = 1) : l = [1] := by
  obtain ⟨x, rfl⟩ : ∃ x, l = [x] := List.length_eq_one_iff.mp h1
  have h2 := h.prim
  rw [gcdL_one] at h2
  have h3 : 0 < x := h.pos
  have : x = 1 := by omega
  rw [this]
theorem one_mul (l : List Int) (h : Tr l) : mulL [1] l = l := by
  refine eq_of_cf (tr_mulL (tr_snoc (r := []).mpr (by decide)) h) h fun k => ?_
  rw [cf_mulL, mulc_one']; omega
/-- two plain ones that divide each other are one -/
theorem pln_same {a b : List Int} (ha : Pln a) (hb : Pln b) (h1 : Dv a b) (h2 : Dv b a) : a = b := by
  obtain ⟨q, hq, e⟩ := h1.fellow ha hb.tr hb.ne
  obtain ⟨r, hr, e'⟩ := h2.fellow hb ha.tr ha.ne
  rw [hb.plain] at e
  rw [ha.plain] at e'
  have l1 := len_mulL hq.ne ha.ne
  have l2 := len_mulL hr.ne hb.ne
  rw [e] at l1
  rw [e'] at l2
  have p1 := List.length_pos_iff.mpr hq.ne
  have p2 := List.length_pos_iff.mpr hr.ne
  have p3 := List.length_pos_iff.mpr ha.ne
  have hq1 := hq.const (by omega)
  rw [hq1, one_mul a ha.tr] at e
  exact e
theorem Dv.short {d r : List Int} (hd : d ≠ []) (hdt : Tr d) (hr : Tr r) (hl : r.length < d.length) (h : Dv d r) : r = [] := by
  obtain ⟨c, q, hc, e⟩ := h
  have z := mulc_small hd hdt (d := q) fun n hn => by rw [← e, cf_ge (by omega), Int.mul_zero]
  refine nil_of_cf hr fun k => ?_
  have h1 := e k
  rw [mulc_zero z] at h1
  exact (Int.mul_eq_zero.mp h1).resolve_left hc
theorem Dv.rest {d p : List Int} (hd : d ≠ []) (hdt : Tr d) (h : Dv d p) : divR p d = [] :=
  Dv.short hd hdt (div_trR _ _) (div_lenR hd) (Dv.down (fun n => div_eqn (a := p) hd n) h (Dv.refl d))
theorem Dv.mul_right (a b : List Int) : Dv b (mulL a b) := ⟨1, a, by decide, fun n => by rw [cf_mulL]; omega⟩
theorem Dv.mul_left (a b : List Int) : Dv a (mulL a b) := ⟨1, b, by decide, fun n => by rw [cf_mulL, mulc_comm]; omega⟩
end RM

/-! How great a factor's figures may be: told by its values at few places (behind MathCom) -/
namespace RM
def ev (t : Int) : List Int → Int
  | [] => 0
  | v :: l => v + t * ev t l
theorem cf_tail (l : List Int) (k : Nat) : cf l.tail k = cf l (k + 1) := by
  cases l with
  | nil => rw [List.tail_nil, cf_nil, cf_nil]
  | cons v l => rfl
theorem ev_tail (t : Int) (l : List Int) : ev t l = cf l 0 + t * ev t l.tail := by
  cases l with
  | nil => show (0 : Int) = cf [] 0 + t * 0; rw [cf_nil]; simp
  | cons v l => rfl
theorem ev_lin {t x y : Int} : ∀ (n : Nat) (a b c : List Int), a.length ≤ n → b.length ≤ n → c.length ≤ n → (∀ k, cf c k = x * cf a k + y * cf b k) → ev t c = x * ev t a + y * ev t b
  | 0, a, b, c, ha, hb, hc, _ => by
    rw [List.length_eq_zero_iff.mp (Nat.le_zero.mp ha), List.length_eq_zero_iff.mp (Nat.le_zero.mp hb), List.length_eq_zero_iff.mp (Nat.le_zero.mp hc)]
    show (0 : Int) = x * 0 + y * 0; simp
  | n + 1, a, b, c, ha, hb, hc, h => by
    have ih := ev_lin (t := t) (x := x) (y := y) n a.tail b.tail c.tail (by rw [List.length_tail]; omega) (by rw [List.length_tail]; omega) (by rw [List.length_tail]; omega) fun k => by rw [cf_tail, cf_tail, cf_tail, h]
    rw [ev_tail t a, ev_tail t b, ev_tail t c, ih, h 0]
    grind
theorem ev_lin' {t x y : Int} {a b c : List Int} (h : ∀ k, cf c k = x * cf a k + y * cf b k) : ev t c = x * ev t a + y * ev t b :=
  ev_lin (max a.length (max b.length c.length)) a b c (by omega) (by omega) (by omega) h
theorem ev_mul (t : Int) : ∀ a b : List Int, ev t (mulL a b) = ev t a * ev t b
  | [], b => by
    have : mulL [] b = [] := by unfold mulL; rw [if_pos (.inl rfl)]
    rw [this]; show (0 : Int) = 0 * _; simp
  | x :: a, b => by
    have e : ∀ k, cf (mulL (x :: a) b) k = x * cf b k + 1 * cf (0 :: mulL a b) k := fun k => by
      rw [cf_mulL, mulc_cons, cf_shift, Int.one_mul]
      congr 1
      unfold up
      split
      · rfl
      · rw [cf_mulL]
    rw [ev_lin' e]
    show x * ev t b + 1 * (0 + t * ev t (mulL a b)) = (x + t * ev t a) * ev t b
    rw [ev_mul t a b]
    grind
/-- (l - l(t)) / (x - t) -/
def syn (t : Int) : List Int → List Int
  | [] => []
  | _ :: l => linL t l (syn t l)
theorem syn_len (t : Int) : ∀ l : List Int, (syn t l).length ≤ l.length - 1
  | [] => Nat.le_refl _
  | v :: l => by
    have := syn_len t l
    show ((List.range (max l.length (syn t l).length)).map _).length ≤ (v :: l).length - 1
    rw [List.length_map, List.length_range, List.length_cons]; omega
theorem syn_ev (t u : Int) : ∀ l : List Int, ev u l = ev t l + (u - t) * ev u (syn t l)
  | [] => by show (0 : Int) = 0 + (u - t) * 0; simp
  | v :: l => by
    have ih := syn_ev t u l
    have e : ev u (linL t l (syn t l)) = 1 * ev u l + t * ev u (syn t l) := ev_lin' fun k => by rw [cf_linL]; omega
    show v + u * ev u l = v + t * ev t l + (u - t) * ev u (linL t l (syn t l))
    rw [e]
    grind
theorem syn_cf (t : Int) : ∀ (l : List Int) (k : Nat), cf l k = (if k = 0 then ev t l else 0) + up (cf (syn t l)) k - t * cf (syn t l) k
  | [], k => by
    show cf [] k = (if k = 0 then 0 else 0) + up (cf []) k - t * cf [] k
    unfold up
    simp only [cf_nil]
    split <;> simp
  | v :: l, k => by
    show cf (v :: l) k = (if k = 0 then v + t * ev t l else 0) + up (cf (linL t l (syn t l))) k - t * cf (linL t l (syn t l)) k
    cases k with
    | zero =>
      have ih := syn_cf t l 0
      rw [cf_linL, cf_zero]
      show v = (v + t * ev t l) + 0 - t * (cf l 0 + t * cf (syn t l) 0)
      have ih' : cf l 0 = ev t l + 0 - t * cf (syn t l) 0 := ih
      grind
    | succ k =>
      have ih := syn_cf t l (k + 1)
      have ih' : cf l (k + 1) = 0 + cf (syn t l) k - t * cf (syn t l) (k + 1) := ih
      rw [cf_succ, cf_linL]
      show cf l k = 0 + cf (linL t l (syn t l)) k - t * (cf l (k + 1) + t * cf (syn t l) (k + 1))
      rw [cf_linL]
      grind
/-- as many noughts as places: all is nought -/
theorem roots_all : ∀ (n : Nat) (l ts : List Int), l.length ≤ n → ts.length = n → ts.Nodup → (∀ t ∈ ts, ev t l = 0) → ∀ k, cf l k = 0
  | 0, l, ts, h, _, _, _ => fun k => cf_ge (by omega)
  | n + 1, l, [], _, h, _, _ => absurd h (by simp)
  | n + 1, l, t :: ts, h1, h2, h3, h4 => by
    have h3' := List.nodup_cons.mp h3
    have e0 := h4 t (List.mem_cons_self ..)
    have z := roots_all n (syn t l) ts (by have := syn_len t l; omega) (by simpa using h2) h3'.2 fun u hu => by
      have e := syn_ev t u l
      rw [h4 u (List.mem_cons_of_mem _ hu), e0] at e
      have hne : u - t ≠ 0 := fun z => h3'.1 (by have : u = t := by omega
                                                 exact this ▸ hu)
      have e' : (u - t) * ev u (syn t l) = 0 := by omega
      exact (Int.mul_eq_zero.mp e').resolve_left hne
    intro k
    rw [syn_cf t l k, e0]
    unfold up
    simp only [z]
    split <;> simp
theorem fac_bound : ∀ (n : Nat) (l ts : List Int) (V : Nat), l.length ≤ n → ts.length = n → ts.Nodup → (∀ t ∈ ts, t.natAbs ≤ 6 ∧ (ev t l).natAbs ≤ V) → ∀ k, (cf l k).natAbs ≤ 16 ^ n * V
  | 0, l, ts, V, h, _, _, _ => fun k => by rw [cf_ge (by omega)]; exact Nat.zero_le _
  | n + 1, l, [], _, _, h, _, _ => absurd h (by simp)
  | n + 1, l, t :: ts, V, h1, h2, h3, h4 => by
    have h3' := List.nodup_cons.mp h3
    obtain ⟨t6, e0⟩ := h4 t (List.mem_cons_self ..)
    have z := fac_bound n (syn t l) ts (2 * V) (by have := syn_len t l; omega) (by simpa using h2) h3'.2 fun u hu => by
      obtain ⟨u6, eu⟩ := h4 u (List.mem_cons_of_mem _ hu)
      refine ⟨u6, ?_⟩
      have e := syn_ev t u l
      have hne : u - t ≠ 0 := fun z => h3'.1 (by have : u = t := by omega
                                                 exact this ▸ hu)
      have e' : (u - t) * ev u (syn t l) = ev u l - ev t l := by omega
      have e2 := congrArg Int.natAbs e'
      rw [Int.natAbs_mul] at e2
      have h5 : 1 ≤ (u - t).natAbs := Int.natAbs_pos.mpr hne
      have h6 : (ev u l - ev t l).natAbs ≤ 2 * V := by omega
      exact Nat.le_trans (Nat.le_mul_of_pos_left _ h5) (by rw [e2]; exact h6)
    intro k
    have hW : ∀ j, (cf (syn t l) j).natAbs ≤ 16 ^ n * (2 * V) := z
    have hup : (up (cf (syn t l)) k).natAbs ≤ 16 ^ n * (2 * V) := by
      unfold up
      split
      · exact Nat.zero_le _
      · exact hW _
    have hmul : (t * cf (syn t l) k).natAbs ≤ 6 * (16 ^ n * (2 * V)) := by
      rw [Int.natAbs_mul]; exact Nat.mul_le_mul t6 (hW k)
    have hif : (if k = 0 then ev t l else 0).natAbs ≤ V := by
      split
      · exact e0
      · exact Nat.zero_le _
    rw [syn_cf t l k]
    have e16 : 16 ^ (n + 1) * V = 16 * (16 ^ n * V) := by rw [Nat.pow_succ]; grind
    have e2V : 16 ^ n * (2 * V) = 2 * (16 ^ n * V) := by grind
    have hV : V ≤ 16 ^ n * V := Nat.le_mul_of_pos_left _ (Nat.pow_pos (by decide))
    rw [e2V] at hup hmul
    rw [e16]
    omega
theorem ev_bound {t : Int} (ht : t.natAbs ≤ 6) {M : Nat} : ∀ l : List Int, (∀ x ∈ l, x.natAbs ≤ M) → (ev t l).natAbs ≤ M * 7 ^ l.length
  | [], _ => Nat.zero_le _
  | v :: l, h => by
    have ih := ev_bound ht l fun x hx => h x (List.mem_cons_of_mem _ hx)
    have hv := h v (List.mem_cons_self ..)
    have hm : (t * ev t l).natAbs ≤ 6 * (M * 7 ^ l.length) := by
      rw [Int.natAbs_mul]; exact Nat.mul_le_mul ht ih
    have e : M * 7 ^ (v :: l).length = 7 * (M * 7 ^ l.length) := by rw [List.length_cons, Nat.pow_succ]; grind
    have hM : M ≤ M * 7 ^ l.length := Nat.le_mul_of_pos_right _ (Nat.pow_pos (by decide))
    rw [e]
    show (v + t * ev t l).natAbs ≤ _
    omega
def pts : List Int := [-6, -5, -4, -3, -2, -1, 0, 1, 2, 3, 4, 5, 6]
theorem filt_len (f : Int → Bool) : ∀ l : List Int, (l.filter f).length + (l.filter fun x => !f x).length = l.length
  | [] => rfl
  | v :: l => by
    have ih := filt_len f l
    rw [List.filter_cons, List.filter_cons]
    cases f v <;> simp <;> omega
theorem factor_bound {q d p : List Int} {M : Nat} (hp : Tr p) (hne : p ≠ []) (hm : mulL q d = p) (hl : p.length ≤ 7) (hM : ∀ x ∈ p, x.natAbs ≤ M) (k : Nat) : (cf d k).natAbs ≤ 16 ^ 7 * (M * 7 ^ 7) := by
  have hq : q ≠ [] := fun z => hne (by rw [← hm, z]; unfold mulL; rw [if_pos (.inl rfl)])
  have hd : d ≠ [] := fun z => hne (by rw [← hm, z]; unfold mulL; rw [if_pos (.inr rfl)])
  have hdl : d.length ≤ 7 := by
    have := len_mulL hq hd
    have h1 := List.length_pos_iff.mpr hq
    rw [hm] at this
    omega
  have nd : pts.Nodup := by decide
  have hr : (pts.filter fun t => decide (ev t p = 0)).length ≤ 6 := by
    refine Classical.byContradiction fun h => ?_
    have z := roots_all 7 p ((pts.filter fun t => decide (ev t p = 0)).take 7) hl (by rw [List.length_take]; omega) ((nd.filter _).sublist (List.take_sublist _ _)) fun t ht => by
      have := (List.mem_filter.mp (List.mem_of_mem_take ht)).2
      exact of_decide_eq_true this
    have h1 := List.length_pos_iff.mpr hne
    exact hp (p.length - 1) (by omega) (z _)
  have hs := filt_len (fun t => decide (ev t p = 0)) pts
  have h13 : pts.length = 13 := rfl
  refine fac_bound 7 d ((pts.filter fun t => !decide (ev t p = 0)).take 7) _ hdl (by rw [List.length_take]; omega) ((nd.filter _).sublist (List.take_sublist _ _)) (fun t ht => ?_) k
  obtain ⟨m1, m2⟩ := List.mem_filter.mp (List.mem_of_mem_take ht)
  have t6 : t.natAbs ≤ 6 := by
    have : ∀ t ∈ pts, t.natAbs ≤ 6 := by decide
    exact this t m1
  have hz : ev t p ≠ 0 := by simpa using m2
  refine ⟨t6, ?_⟩
  have e := ev_mul t q d
  rw [hm] at e
  have hq0 : ev t q ≠ 0 := fun z => hz (by rw [e, z, Int.zero_mul])
  have h1 : 1 ≤ (ev t q).natAbs := Int.natAbs_pos.mpr hq0
  have h2 := ev_bound t6 p hM
  have h3 : (ev t d).natAbs ≤ (ev t p).natAbs := by
    rw [e, Int.natAbs_mul]; exact Nat.le_mul_of_pos_left _ h1
  exact Nat.le_trans h3 (Nat.le_trans h2 (Nat.mul_le_mul_left _ (Nat.pow_le_pow_right (by decide) hl)))
end RM

/-! Squares and layers: shapes are prime, what divides a product of them (behind MathCom, MathLift) -/
namespace RM
theorem mul_nilL (a : List Int) : mulL [] a = [] := by unfold mulL; rw [if_pos (.inl rfl)]
theorem mul_nilR (a : List Int) : mulL a [] = [] := by unfold mulL; rw [if_pos (.inr rfl)]
theorem mulC (a b : List Int) : mulL a b = mulL b a := by
  by_cases ha : a = []
  · rw [ha, mul_nilL, mul_nilR]
  by_cases hb : b = []
  · rw [hb, mul_nilL, mul_nilR]
  refine ext_cf ?_ fun k _ => ?_
  · rw [len_mulL ha hb, len_mulL hb ha]; omega
  · rw [cf_mulL, cf_mulL, mulc_comm]
theorem mul_neL {a b : List Int} (ha : a ≠ []) (hb : b ≠ []) : mulL a b ≠ [] := fun z => by
  have := len_mulL ha hb
  rw [z, List.length_nil] at this
  have := List.length_pos_iff.mpr ha
  have := List.length_pos_iff.mpr hb
  omega
theorem mulA (a b c : List Int) : mulL (mulL a b) c = mulL a (mulL b c) := by
  by_cases ha : a = []
  · rw [ha, mul_nilL, mul_nilL, mul_nilL]
  by_cases hb : b = []
  · rw [hb, mul_nilL, mul_nilR, mul_nilL]
  by_cases hc : c = []
  · rw [hc, mul_nilR, mul_nilR, mul_nilR]
  have h1 := mul_neL ha hb
  have h2 := mul_neL hb hc
  refine ext_cf ?_ fun k _ => ?_
  · have := List.length_pos_iff.mpr hb
    rw [len_mulL h1 hc, len_mulL ha h2, len_mulL ha hb, len_mulL hb hc]; omega
  · rw [cf_mulL, cf_mulL, mulc_assoc]
instance : Std.Commutative mulL := ⟨mulC⟩
instance : Std.Associative mulL := ⟨mulA⟩
theorem mul1 (a : List Int) : mulL [1] a = a := by
  by_cases ha : a = []
  · rw [ha, mul_nilR]
  refine ext_cf ?_ fun k _ => ?_
  · rw [len_mulL (by simp) ha]; simp
  · rw [cf_mulL, mulc_one']; omega
theorem mul1R (a : List Int) : mulL a [1] = a := by rw [mulC, mul1]
theorem pln_one : Pln [1] := ⟨tr_snoc (r := []).mpr (by decide), by simp, by decide, by decide⟩
theorem pln_len {a : List Int} (h : Pln a) : 1 ≤ a.length := List.length_pos_iff.mpr h.ne
/-- one is the other's multiple -/
def Sim (a b : List Int) : Prop := ∃ x y : Int, x ≠ 0 ∧ y ≠ 0 ∧ ∀ n, x * cf a n = y * cf b n
theorem Sim.refl (a : List Int) : Sim a a := ⟨1, 1, by decide, by decide, fun _ => rfl⟩
theorem Sim.dv {a b d : List Int} (h : Sim a b) (hd : Dv d b) : Dv d a := by
  obtain ⟨x, y, hx, hy, e⟩ := h
  exact Dv.prop_right hx e hd
theorem Sim.symm {a b : List Int} (h : Sim a b) : Sim b a := by
  obtain ⟨x, y, hx, hy, e⟩ := h
  exact ⟨y, x, hy, hx, fun n => (e n).symm⟩
theorem Dv.cancel {d a b : List Int} (hd : d ≠ []) (ht : Tr d) (h : Dv (mulL d a) (mulL d b)) : Dv a b := by
  obtain ⟨c, q, hc, e⟩ := h
  have key : ∀ k, cf (linL (-1) (scL c b) (mulL q a)) k = 0 := by
    refine mulc_small hd ht fun n _ => ?_
    rw [mulc_lin (a := b) (b := mulL q a) (x := c) (y := -1) (fun k => by rw [cf_linL, cf_scL])]
    have e1 : mulc (mulL q a) d n = mulc q (mulL d a) n := by
      rw [← cf_mulL, ← cf_mulL]
      congr 1
      rw [mulA, mulC a d]
    have e2 := e n
    rw [cf_mulL, mulc_comm] at e2
    rw [e1, ← e2]; omega
  refine ⟨c, q, hc, fun n => ?_⟩
  have := key n
  rw [cf_linL, cf_scL, cf_mulL] at this
  omega
def prd (ss : List (List Int)) : List Int := ss.foldr mulL [1]
theorem foldl_prd : ∀ (ss : List (List Int)) (acc : List Int), ss.foldl mulL acc = mulL acc (prd ss)
  | [], acc => (mul1R acc).symm
  | s :: ss, acc => by
    show ss.foldl mulL (mulL acc s) = mulL acc (mulL s (prd ss))
    rw [foldl_prd ss, mulA]
theorem prd_pln : ∀ (ss : List (List Int)), (∀ s ∈ ss, Pln s) → Pln (prd ss)
  | [], _ => pln_one
  | s :: ss, h => (h s (List.mem_cons_self ..)).mul (prd_pln ss fun x hx => h x (List.mem_cons_of_mem _ hx))
/-- a prime shape -/
structure Pri (s : List Int) : Prop where
  pln : Pln s
  two : 2 ≤ s.length
  or : ∀ a b, Dv s (mulL a b) → Dv s a ∨ Dv s b
theorem Pri.not_one {s : List Int} (h : Pri s) : ¬ Dv s [1] := fun z => by
  have := Dv.short h.pln.ne h.pln.tr pln_one.tr (by have := h.two; show 1 < s.length; omega) z
  exact absurd this (by simp)
theorem Pri.prd {s : List Int} (h : Pri s) : ∀ ss : List (List Int), Dv s (prd ss) → ∃ t ∈ ss, Dv s t
  | [], hd => absurd hd h.not_one
  | t :: ss, hd => by
    rcases h.or t (RM.prd ss) hd with z | z
    · exact ⟨t, List.mem_cons_self .., z⟩
    · obtain ⟨t', ht, z'⟩ := Pri.prd h ss z
      exact ⟨t', List.mem_cons_of_mem _ ht, z'⟩
theorem Pri.same {s t : List Int} (hs : Pri s) (ht : Pri t) (h : Dv s t) : s = t := by
  obtain ⟨q, hq, e⟩ := h.fellow hs.pln ht.pln.tr ht.pln.ne
  rw [ht.pln.plain] at e
  have l := len_mulL hq.ne hs.pln.ne
  rw [e] at l
  have := hs.two
  have := pln_len hq
  rcases ht.or q s (e ▸ Dv.refl _) with z | z
  · exact absurd (Dv.short ht.pln.ne ht.pln.tr hq.tr (by omega) z) hq.ne
  · exact pln_same hs.pln ht.pln h z
theorem div_prd : ∀ (ps : List (List Int)) {E : List Int}, (∀ p ∈ ps, Pri p) → Pln E → Dv E (prd ps) → E = [1] ∨ ∃ p ∈ ps, Dv p E
  | [], E, _, hE, h => by
    refine .inl (hE.const ?_)
    have := pln_len hE
    refine Classical.byContradiction fun z => ?_
    have := Dv.short hE.ne hE.tr pln_one.tr (by show 1 < E.length; omega) h
    exact absurd this (by simp)
  | p :: ps, E, hp, hE, h => by
    obtain ⟨c, q, hc, e⟩ := h
    have P := hp p (List.mem_cons_self ..)
    have d1 : Dv p (mulL q E) := Dv.prop_right (x := 1) (y := c) (by decide) (fun n => by
      show 1 * cf (mulL q E) n = c * cf (RM.prd (p :: ps)) n
      rw [e, cf_mulL]; omega) (Dv.mul_left p (prd ps))
    rcases P.or q E d1 with z | z
    · obtain ⟨c', q', hc', e'⟩ := z
      have d2 : Dv (mulL p E) (mulL p (prd ps)) := by
        refine ⟨c * c', q', Int.mul_ne_zero hc hc', fun n => ?_⟩
        have e1 := e n
        rw [show mulL p (prd ps) = RM.prd (p :: ps) from rfl]
        have e2 : mulc (mulL q' p) E n = c' * mulc q E n := by
          have := mulc_lin (a := q) (b := []) (x := c') (y := 0) (c := mulL q' p) (q := E) (n := n) (fun k => by rw [cf_mulL, ← e']; simp)
          rw [this]; simp
        rw [← mulc_assoc, e2, ← e1, Int.mul_comm c c', Int.mul_assoc]
      rcases div_prd ps (fun x hx => hp x (List.mem_cons_of_mem _ hx)) hE (Dv.cancel P.pln.ne P.pln.tr d2) with w | ⟨t, ht, w⟩
      · exact .inl w
      · exact .inr ⟨t, List.mem_cons_of_mem _ ht, w⟩
    · exact .inr ⟨p, List.mem_cons_self .., z⟩
/-- which one is the greatest common divisor -/
theorem com_is {A B C D L M : List Int} {ps : List (List Int)} (hC : Pln C) (cA : Dv C A) (cB : Dv C B) (call : ∀ d, Dv d A → Dv d B → Dv d C) (hD : Pln D) (sA : Sim A (mulL D L)) (sB : Sim B (mulL D M)) (hps : ∀ p ∈ ps, Pri p) (hL : L = prd ps) (hM : ∀ p ∈ ps, ¬ Dv p M) : C = D := by
  have dC : Dv D C := call D (sA.dv (Dv.mul_left _ _)) (sB.dv (Dv.mul_left _ _))
  obtain ⟨E, hE, e⟩ := dC.fellow hD hC.tr hC.ne
  rw [hC.plain, mulC] at e
  have EL : Dv E L := Dv.cancel hD.ne hD.tr (by rw [e]; exact sA.symm.dv cA)
  have EM : Dv E M := Dv.cancel hD.ne hD.tr (by rw [e]; exact sB.symm.dv cB)
  rw [hL] at EL
  rcases div_prd ps hps hE EL with z | ⟨p, hp, z⟩
  · rw [← e, z, mul1R]
  · exact absurd (z.trans EM) (hM p hp)
/-! ### the slope of a product -/
theorem cf_slope (l : List Int) (n : Nat) : cf (slopeL l) n = ((n : Int) + 1) * cf l (n + 1) := by
  unfold slopeL
  rw [cf_map_range]
  by_cases h : n < l.length - 1
  · rw [if_pos h]
  · rw [if_neg h, cf_ge (l := l) (by omega), Int.mul_zero]
theorem slope_cons (x : Int) (a : List Int) (n : Nat) : cf (slopeL (x :: a)) n = 1 * cf a n + 1 * cf (0 :: slopeL a) n := by
  rw [cf_slope, cf_succ, cf_shift]
  cases n with
  | zero => show (((0 : Nat) : Int) + 1) * cf a 0 = 1 * cf a 0 + 1 * 0; omega
  | succ n =>
    show (((n + 1 : Nat) : Int) + 1) * cf a (n + 1) = 1 * cf a (n + 1) + 1 * cf (slopeL a) n
    rw [cf_slope]
    have : ((n + 1 : Nat) : Int) = (n : Int) + 1 := by omega
    rw [this, Int.add_mul]; omega
theorem slope_mul : ∀ (a b : List Int) (n : Nat), cf (slopeL (mulL a b)) n = mulc (slopeL a) b n + mulc a (slopeL b) n
  | [], b, n => by
    rw [mul_nilL]
    show cf (slopeL []) n = mulc (slopeL []) b n + mulc [] (slopeL b) n
    have : slopeL [] = [] := rfl
    rw [this, cf_nil, mulc_nil, mulc_nil]; omega
  | x :: a, b, n => by
    rw [cf_slope, cf_mulL, mulc_cons, mulc_lin (q := b) (slope_cons x a), mulc_shift, mulc_cons, cf_slope]
    show ((n : Int) + 1) * (x * cf b (n + 1) + mulc a b n) = _
    cases n with
    | zero =>
      show (((0 : Nat) : Int) + 1) * (x * cf b 1 + mulc a b 0) = 1 * mulc a b 0 + 1 * 0 + (x * ((((0 : Nat) : Int) + 1) * cf b 1) + 0)
      simp
      omega
    | succ n =>
      have ih := slope_mul a b n
      rw [cf_slope, cf_mulL] at ih
      show (((n + 1 : Nat) : Int) + 1) * (x * cf b (n + 1 + 1) + mulc a b (n + 1)) = 1 * mulc a b (n + 1) + 1 * mulc (slopeL a) b n + (x * ((((n + 1 : Nat) : Int) + 1) * cf b (n + 1 + 1)) + mulc a (slopeL b) n)
      have : ((n + 1 : Nat) : Int) = (n : Int) + 1 := by omega
      rw [this]
      generalize mulc a b (n + 1) = z at *
      generalize mulc (slopeL a) b n = z1 at *
      generalize mulc a (slopeL b) n = z2 at *
      generalize cf b (n + 1 + 1) = z3 at *
      generalize (n : Int) = m at *
      grind
/-! ### powers, products of powers -/
def pw (s : List Int) : Nat → List Int
  | 0 => [1]
  | n + 1 => mulL s (pw s n)
theorem pw_one (s : List Int) : pw s 1 = s := mul1R s
theorem pw_add (s : List Int) : ∀ a b, mulL (pw s a) (pw s b) = pw s (a + b)
  | 0, b => by rw [Nat.zero_add]; exact mul1 _
  | a + 1, b => by
    rw [show a + 1 + b = a + b + 1 by omega]
    show mulL (mulL s (pw s a)) (pw s b) = mulL s (pw s (a + b))
    rw [mulA, pw_add s a b]
theorem pw_pln {s : List Int} (h : Pln s) : ∀ n, Pln (pw s n)
  | 0 => pln_one
  | n + 1 => h.mul (pw_pln h n)
theorem slope_pw (s : List Int) : ∀ (k n : Nat), cf (slopeL (pw s (k + 1))) n = ((k : Int) + 1) * mulc (slopeL s) (pw s k) n
  | 0, n => by
    rw [pw_one]
    show _ = (((0 : Nat) : Int) + 1) * mulc (slopeL s) [1] n
    rw [mulc_comm, mulc_one']; omega
  | k + 1, n => by
    show cf (slopeL (mulL s (pw s (k + 1)))) n = _
    rw [slope_mul]
    have e : mulc s (slopeL (pw s (k + 1))) n = ((k : Int) + 1) * mulc s (mulL (slopeL s) (pw s k)) n := mulc_right fun j => by rw [slope_pw s k j, cf_mulL]
    have e2 : mulc s (mulL (slopeL s) (pw s k)) n = mulc (slopeL s) (pw s (k + 1)) n := by
      show _ = mulc (slopeL s) (mulL s (pw s k)) n
      rw [← cf_mulL, ← cf_mulL]
      congr 1
      ac_rfl
    rw [e, e2]
    have : ((k + 1 : Nat) : Int) = (k : Int) + 1 := by omega
    rw [this, Int.add_mul ((k : Int) + 1) 1]; omega
def fP (g : Nat → Nat) (us : List (List Int × Nat)) : List Int := us.foldr (fun p acc => mulL (pw p.1 (g p.2)) acc) [1]
theorem fP_cons (g : Nat → Nat) (p : List Int × Nat) (us : List (List Int × Nat)) : fP g (p :: us) = mulL (pw p.1 (g p.2)) (fP g us) := rfl
theorem fP_mul (g h : Nat → Nat) : ∀ us, mulL (fP g us) (fP h us) = fP (fun m => g m + h m) us
  | [] => mul1 _
  | p :: us => by
    rw [fP_cons, fP_cons, fP_cons, ← fP_mul g h us, ← pw_add]
    ac_rfl
theorem fP_congr {g h : Nat → Nat} : ∀ us : List (List Int × Nat), (∀ p ∈ us, g p.2 = h p.2) → fP g us = fP h us
  | [], _ => rfl
  | p :: us, H => by
    rw [fP_cons, fP_cons, H p (List.mem_cons_self ..), fP_congr us fun x hx => H x (List.mem_cons_of_mem _ hx)]
theorem fP_pln {g : Nat → Nat} : ∀ us : List (List Int × Nat), (∀ p ∈ us, Pri p.1) → Pln (fP g us)
  | [], _ => pln_one
  | p :: us, h => (pw_pln (h p (List.mem_cons_self ..)).pln _).mul (fP_pln us fun x hx => h x (List.mem_cons_of_mem _ hx))
theorem fP_prd (c : Nat → Bool) : ∀ us : List (List Int × Nat), fP (fun m => if c m then 1 else 0) us = prd ((us.filter fun p => c p.2).map (·.1))
  | [] => rfl
  | p :: us => by
    rw [fP_cons, fP_prd c us, List.filter_cons]
    cases h : c p.2 with
    | true =>
      simp only [if_true, List.map_cons]
      rw [pw_one]; rfl
    | false =>
      simp only [Bool.false_eq_true, if_false]
      exact mul1 _
theorem fP_has {g : Nat → Nat} : ∀ (us : List (List Int × Nat)) {p : List Int × Nat}, p ∈ us → 0 < g p.2 → Dv p.1 (fP g us)
  | q :: us, p, hp, h0 => by
    rw [fP_cons]
    rcases List.mem_cons.mp hp with rfl | hp
    · obtain ⟨k, hk⟩ : ∃ k, g p.2 = k + 1 := ⟨g p.2 - 1, by omega⟩
      rw [hk]
      show Dv p.1 (mulL (mulL p.1 (pw p.1 k)) _)
      rw [mulA]
      exact Dv.mul_left _ _
    · exact (fP_has us hp h0).trans (Dv.mul_right _ _)
theorem Pri.pw {s t : List Int} (h : Pri s) : ∀ n, Dv s (pw t n) → 0 < n ∧ Dv s t
  | 0, hd => absurd hd h.not_one
  | n + 1, hd => by
    refine ⟨by omega, ?_⟩
    rcases h.or t (RM.pw t n) hd with z | z
    · exact z
    · exact (Pri.pw h n z).2
theorem Pri.fP {s : List Int} (h : Pri s) {g : Nat → Nat} : ∀ us : List (List Int × Nat), Dv s (fP g us) → ∃ p ∈ us, 0 < g p.2 ∧ Dv s p.1
  | [], hd => absurd hd h.not_one
  | p :: us, hd => by
    rcases h.or (RM.pw p.1 (g p.2)) (RM.fP g us) hd with z | z
    · exact ⟨p, List.mem_cons_self .., (h.pw _ z)⟩
    · obtain ⟨q, hq, z'⟩ := Pri.fP h us z
      exact ⟨q, List.mem_cons_of_mem _ hq, z'⟩
/-- shapes and how often -/
structure Use (us : List (List Int × Nat)) : Prop where
  pri : ∀ p ∈ us, Pri p.1
  pos : ∀ p ∈ us, 1 ≤ p.2
  nd : (us.map (·.1)).Nodup
theorem Use.tail {p : List Int × Nat} {us : List (List Int × Nat)} (h : Use (p :: us)) : Use us :=
  ⟨fun x hx => h.pri x (List.mem_cons_of_mem _ hx), fun x hx => h.pos x (List.mem_cons_of_mem _ hx), (List.nodup_cons.mp h.nd).2⟩
theorem Use.head {p q : List Int × Nat} {us : List (List Int × Nat)} (h : Use (p :: us)) (hq : q ∈ us) : p.1 ≠ q.1 := fun z =>
  (List.nodup_cons.mp h.nd).1 (List.mem_map.mpr ⟨q, hq, z.symm⟩)
theorem len_slope (l : List Int) : (slopeL l).length = l.length - 1 := by unfold slopeL; simp
theorem tr_slope {l : List Int} (h : Tr l) : Tr (slopeL l) := fun n hn => by
  rw [len_slope] at hn
  rw [cf_slope]
  exact Int.mul_ne_zero (by omega) (h (n + 1) (by omega))
theorem slope_fP : ∀ us : List (List Int × Nat), Use us → ∃ M, (∀ n, cf (slopeL (fP id us)) n = mulc (fP (· - 1) us) M n) ∧ ∀ q ∈ us, ¬ Dv q.1 M
  | [], _ => ⟨[], fun n => by
      show cf (slopeL [1]) n = mulc [1] [] n
      rw [mulc_nil_right]; exact cf_nil n, fun _ h => nomatch h⟩
  | p :: us, h => by
    obtain ⟨M', e', h'⟩ := slope_fP us h.tail
    obtain ⟨s, m⟩ := p
    have P : Pri s := h.pri _ (List.mem_cons_self ..)
    obtain ⟨k, hk⟩ : ∃ k, m = k + 1 := ⟨m - 1, by have := h.pos _ (List.mem_cons_self ..); simp at this; omega⟩
    subst hk
    have eF : fP id us = mulL (fP (· - 1) us) (fP (fun _ => 1) us) := by
      rw [fP_mul]
      exact fP_congr us fun p hp => by have := h.tail.pos p hp; show p.2 = p.2 - 1 + 1; omega
    have hX : ∀ n, cf (linL 1 (mulL (scL ((k : Int) + 1) (slopeL s)) (fP (fun _ => 1) us)) (mulL s M')) n = 1 * cf (mulL (scL ((k : Int) + 1) (slopeL s)) (fP (fun _ => 1) us)) n + 1 * cf (mulL s M') n := fun n => by rw [cf_linL]; omega
    refine ⟨linL 1 (mulL (scL ((k : Int) + 1) (slopeL s)) (fP (fun _ => 1) us)) (mulL s M'), fun n => ?_, fun q hq hd => ?_⟩
    · rw [fP_cons, fP_cons]
      show cf (slopeL (mulL (pw s (k + 1)) (fP id us))) n = mulc (mulL (pw s k) (fP (· - 1) us)) _ n
      rw [slope_mul, mulc_lin_right hX]
      have a1 : mulc (slopeL (pw s (k + 1))) (fP id us) n = mulc (mulL (pw s k) (fP (· - 1) us)) (mulL (scL ((k : Int) + 1) (slopeL s)) (fP (fun _ => 1) us)) n := by
        rw [eF]
        have : mulc (slopeL (pw s (k + 1))) (mulL (fP (· - 1) us) (fP (fun _ => 1) us)) n = mulc (mulL (scL ((k : Int) + 1) (slopeL s)) (pw s k)) (mulL (fP (· - 1) us) (fP (fun _ => 1) us)) n := by
          refine mulc_congr (fun j => ?_) fun _ => rfl
          rw [slope_pw, cf_mulL]
          have := mulc_lin (a := slopeL s) (b := []) (x := (k : Int) + 1) (y := 0) (c := scL ((k : Int) + 1) (slopeL s)) (q := pw s k) (n := j) (fun i => by rw [cf_scL]; simp)
          rw [this]; simp
        rw [this, ← cf_mulL, ← cf_mulL]
        congr 1
        ac_rfl
      have a2 : mulc (pw s (k + 1)) (slopeL (fP id us)) n = mulc (mulL (pw s k) (fP (· - 1) us)) (mulL s M') n := by
        rw [mulc_congr (a' := pw s (k + 1)) (b' := mulL (fP (· - 1) us) M') (fun _ => rfl) (fun j => by rw [e', cf_mulL])]
        show mulc (mulL s (pw s k)) _ n = _
        rw [← cf_mulL, ← cf_mulL]
        congr 1
        ac_rfl
      rw [a1, a2]; omega
    · have hX' : ∀ n, 1 * cf (linL 1 (mulL (scL ((k : Int) + 1) (slopeL s)) (fP (fun _ => 1) us)) (mulL s M')) n = mulc M' s n + cf (mulL (scL ((k : Int) + 1) (slopeL s)) (fP (fun _ => 1) us)) n := fun n => by
        rw [hX, cf_mulL s, mulc_comm s]; omega
      rcases List.mem_cons.mp hq with rfl | hq
      · have d1 := Dv.down hX' hd (Dv.refl _)
        rcases P.or _ _ d1 with z | z
        · have t : Tr (scL ((k : Int) + 1) (slopeL s)) := tr_scL (by omega) (tr_slope P.pln.tr)
          have l : (scL ((k : Int) + 1) (slopeL s)).length = s.length - 1 := by rw [length_scL, len_slope]
          have := P.two
          have n := Dv.short P.pln.ne P.pln.tr t (by omega) z
          rw [n] at l
          simp at l
          omega
        · obtain ⟨q', hq', _, w⟩ := P.fP us z
          exact h.head hq' (P.same (h.tail.pri q' hq') w)
      · have Q := h.tail.pri q hq
        have d0 : Dv q.1 (mulL (scL ((k : Int) + 1) (slopeL s)) (fP (fun _ => 1) us)) := (fP_has us hq (g := fun _ => 1) (by decide)).trans (Dv.mul_right _ _)
        have d1 : Dv q.1 (mulL s M') := Dv.down (f := 1) (q := [1]) (fun n => by rw [hX, mulc_one']; omega) hd d0
        rcases Q.or _ _ d1 with z | z
        · exact h.head hq (Q.same P z).symm
        · exact h' q hq z
/-! ### shapes are prime -/
theorem rests_dv {s a b : List Int} (hs : s ≠ []) (h : Dv s (mulL a b)) : Dv s (mulL (divR a s) (divR b s)) := by
  have e1 := fun n => div_eqn (a := a) hs n
  have e2 := fun n => div_eqn (a := b) hs n
  have d1 : Dv s (mulL (divR a s) b) := by
    refine Dv.down (f := divF a s) (q := mulL (divQ a s) b) (b := s) (fun n => ?_) h (Dv.refl _)
    rw [cf_mulL, cf_mulL]
    have l := mulc_lin (a := mulL (divQ a s) s) (b := divR a s) (x := 1) (y := 1) (c := scL (divF a s) a) (q := b) (n := n) (fun k => by rw [cf_scL, e1, cf_mulL]; omega)
    have l2 := mulc_lin (a := a) (b := []) (x := divF a s) (y := 0) (c := scL (divF a s) a) (q := b) (n := n) (fun k => by rw [cf_scL]; simp)
    have l3 : mulc (mulL (divQ a s) s) b n = mulc (mulL (divQ a s) b) s n := by
      rw [← cf_mulL, ← cf_mulL]
      congr 1
      ac_rfl
    rw [l2, l3] at l
    rw [mulc_nil] at l
    omega
  refine Dv.down (f := divF b s) (q := mulL (divR a s) (divQ b s)) (b := s) (fun n => ?_) d1 (Dv.refl _)
  rw [cf_mulL, cf_mulL]
  have l := mulc_lin_right (a := mulL (divQ b s) s) (b := divR b s) (x := 1) (y := 1) (c := scL (divF b s) b) (q := divR a s) (n := n) (fun k => by rw [cf_scL, e2, cf_mulL]; omega)
  have l2 := mulc_right (a := divR a s) (b := b) (b' := scL (divF b s) b) (c := divF b s) (n := n) (fun k => by rw [cf_scL])
  have l3 : mulc (divR a s) (mulL (divQ b s) s) n = mulc (mulL (divR a s) (divQ b s)) s n := by
    rw [← cf_mulL, ← cf_mulL]
    congr 1
    ac_rfl
  rw [l2, l3] at l
  omega
theorem dv_of_rest {s a : List Int} (hs : s ≠ []) (ht : Tr s) (h : divR a s = []) : Dv s a :=
  ⟨divF a s, divQ a s, divF_ne hs ht, fun n => by rw [div_eqn hs, h, cf_nil]; omega⟩
def rawQ (u e b : Int) : List Int := if e = 0 then [-u, b] else [u * u - e, -2 * b * u, b * b]
theorem tr_rawQ {u e b : Int} (hb : 1 ≤ b) : Tr (rawQ u e b) ∧ 2 ≤ (rawQ u e b).length := by
  unfold rawQ
  split
  · exact ⟨(tr_snoc (r := [-u])).mpr (by omega), by show 2 ≤ 2; decide⟩
  · exact ⟨(tr_snoc (r := [u * u - e, -2 * b * u])).mpr (Int.mul_ne_zero (by omega) (by omega)), by show 2 ≤ 3; decide⟩
theorem nosq {n e : Int} (hn : 0 ≤ n) (h1 : n * n < e) (h2 : e < (n + 1) * (n + 1)) : ∀ (k : Nat) (x y : Int), x.toNat ≤ k → 0 < x → 0 ≤ y → e * (x * x) = y * y → False
  | 0, x, y, hk, hx, _, _ => by omega
  | k + 1, x, y, hk, hx, hy, h => by
    have hxx : 0 < x * x := Int.mul_pos hx hx
    have a1 : n * x < y := by
      refine Int.not_le.mp fun z => ?_
      have := Int.mul_le_mul z z hy (Int.le_trans hy z)
      have := Int.mul_lt_mul_of_pos_right h1 hxx
      have e1 : n * x * (n * x) = n * n * (x * x) := by grind
      omega
    have a2 : y < (n + 1) * x := by
      refine Int.not_le.mp fun z => ?_
      have z0 : 0 ≤ (n + 1) * x := Int.mul_nonneg (by omega) (by omega)
      have := Int.mul_le_mul z z z0 hy
      have := Int.mul_lt_mul_of_pos_right h2 hxx
      have e1 : (n + 1) * x * ((n + 1) * x) = (n + 1) * (n + 1) * (x * x) := by grind
      omega
    have a3 : (n + 1) * x = n * x + x := by rw [Int.add_mul]; omega
    refine nosq hn h1 h2 k (y - n * x) ((e * x - n * y).natAbs : Int) (by omega) (by omega) (by omega) ?_
    rw [Int.natAbs_mul_self' (e * x - n * y)]
    grind
/-- no square -/
def NS (e : Int) : Prop := e ≤ 0 ∨ ∃ n : Int, 0 ≤ n ∧ n * n < e ∧ e < (n + 1) * (n + 1)
theorem NS.no {e x y : Int} (h : NS e) (he : e ≠ 0) (hx : x ≠ 0) (eq : x * x * e = y * y) : False := by
  rcases h with h | ⟨n, hn, h1, h2⟩
  · have hxx : 0 < x * x := by
      rcases Int.lt_or_gt_of_ne hx with z | z
      · exact Int.mul_pos_of_neg_of_neg z z
      · exact Int.mul_pos z z
    have : x * x * e < 0 := Int.mul_neg_of_pos_of_neg hxx (by omega)
    have : 0 ≤ y * y := by
      rcases Int.le_total 0 y with z | z
      · exact Int.mul_nonneg z z
      · exact Int.mul_nonneg_of_nonpos_of_nonpos z z
    omega
  · refine nosq hn h1 h2 _ (x.natAbs : Int) (y.natAbs : Int) (Nat.le_refl _) (by omega) (by omega) ?_
    rw [Int.natAbs_mul_self' x, Int.natAbs_mul_self' y, ← eq, Int.mul_comm]
theorem raw_or {u e b : Int} (hb : 1 ≤ b) (he : NS e) {p q : List Int} (h : Dv (rawQ u e b) (mulL p q)) : Dv (rawQ u e b) p ∨ Dv (rawQ u e b) q := by
  obtain ⟨tr, l2⟩ := tr_rawQ (u := u) (e := e) hb
  have hne : rawQ u e b ≠ [] := fun z => by rw [z] at l2; simp at l2
  by_cases hp : divR p (rawQ u e b) = []
  · exact .inl (dv_of_rest hne tr hp)
  by_cases hq : divR q (rawQ u e b) = []
  · exact .inr (dv_of_rest hne tr hq)
  exfalso
  have d := rests_dv hne h
  have t1 := div_trR p (rawQ u e b)
  have t2 := div_trR q (rawQ u e b)
  have n1 := div_lenR (a := p) hne
  have n2 := div_lenR (a := q) hne
  generalize divR p (rawQ u e b) = r1 at *
  generalize divR q (rawQ u e b) = r2 at *
  have lm := len_mulL hp hq
  have p1 := List.length_pos_iff.mpr hp
  have p2 := List.length_pos_iff.mpr hq
  by_cases hs : (mulL r1 r2).length < (rawQ u e b).length
  · exact mul_neL hp hq (Dv.short hne tr (tr_mulL t1 t2) hs d)
  by_cases h0 : e = 0
  · have : (rawQ u e b).length = 2 := by unfold rawQ; rw [if_pos h0]; rfl
    omega
  have er : rawQ u e b = [u * u - e, -2 * b * u, b * b] := by unfold rawQ; rw [if_neg h0]
  rw [er] at hs n1 n2 d hne tr
  simp only [List.length_cons, List.length_nil] at hs n1 n2
  obtain ⟨α, β, rfl⟩ : ∃ α β, r1 = [α, β] := by
    match r1, (show r1.length = 2 by omega) with
    | [α, β], _ => exact ⟨α, β, rfl⟩
  obtain ⟨γ, δ, rfl⟩ : ∃ γ δ, r2 = [γ, δ] := by
    match r2, (show r2.length = 2 by omega) with
    | [γ, δ], _ => exact ⟨γ, δ, rfl⟩
  have hβ : β ≠ 0 := (tr_snoc (r := [α])).mp t1
  have hδ : δ ≠ 0 := (tr_snoc (r := [γ])).mp t2
  have em : mulL [α, β] [γ, δ] = [α * γ, α * δ + β * γ, β * δ] := by
    refine ext_cf (by rw [lm]; rfl) fun k hk => ?_
    rw [lm] at hk
    rw [cf_mulL]
    have hk' : k < 3 := hk
    have : k = 0 ∨ k = 1 ∨ k = 2 := by omega
    rcases this with rfl | rfl | rfl
    · show (0 + (α * γ)) + 0 = α * γ; omega
    · show (0 + (α * δ)) + (β * γ) = α * δ + β * γ; omega
    · show (0 + α * cf [γ, δ] 2) + (β * δ) = β * δ
      have : cf [γ, δ] 2 = 0 := rfl
      rw [this]; simp
  rw [em] at d
  have hr := d.rest hne tr
  have eqn := fun n => div_eqn (a := [α * γ, α * δ + β * γ, β * δ]) hne n
  have hf := divF_ne (a := [α * γ, α * δ + β * γ, β * δ]) hne tr
  have lq := div_lenQ (a := [α * γ, α * δ + β * γ, β * δ]) hne
  generalize divF [α * γ, α * δ + β * γ, β * δ] [u * u - e, -2 * b * u, b * b] = f at *
  generalize divQ [α * γ, α * δ + β * γ, β * δ] [u * u - e, -2 * b * u, b * b] = Q at *
  rw [hr] at eqn
  have lq' : Q.length = 1 := lq
  obtain ⟨κ, rfl⟩ : ∃ κ, Q = [κ] := List.length_eq_one_iff.mp lq'
  have g0 := eqn 0
  have g1 := eqn 1
  have g2 := eqn 2
  rw [mulc_one', cf_nil] at g0 g1 g2
  replace g0 : f * (α * γ) = κ * (u * u - e) + 0 := g0
  replace g1 : f * (α * δ + β * γ) = κ * (-2 * b * u) + 0 := g1
  replace g2 : f * (β * δ) = κ * (b * b) + 0 := g2
  have hκ : κ ≠ 0 := fun z => by
    rw [z, Int.zero_mul] at g2
    exact Int.mul_ne_zero hf (Int.mul_ne_zero hβ hδ) (by omega)
  refine he.no h0 (x := 2 * κ * b) (y := f * (α * δ - β * γ)) (Int.mul_ne_zero (Int.mul_ne_zero (by decide) hκ) (by omega)) ?_
  have k1 : f * (α * δ - β * γ) * (f * (α * δ - β * γ)) = f * (α * δ + β * γ) * (f * (α * δ + β * γ)) - 4 * ((f * (α * γ)) * (f * (β * δ))) := by grind
  rw [k1, g0, g1, g2]
  grind
theorem raw_pri {u e b : Int} (hb : 1 ≤ b) (he : NS e) : Pri (plainL (rawQ u e b)) := by
  obtain ⟨tr, l2⟩ := tr_rawQ (u := u) (e := e) hb
  have hne : rawQ u e b ≠ [] := fun z => by rw [z] at l2; simp at l2
  obtain ⟨g, hg, eg⟩ := plain_scale tr
  have to : ∀ p, Dv (plainL (rawQ u e b)) p → Dv (rawQ u e b) p := fun p h => Dv.prop_left (x := 1) (y := g) (by decide) hg (fun n => by rw [eg]; omega) h
  have fr : ∀ p, Dv (rawQ u e b) p → Dv (plainL (rawQ u e b)) p := fun p h => Dv.prop_left (x := g) (y := 1) hg (by decide) (fun n => by rw [← eg]; omega) h
  refine ⟨pln_plain tr hne, by rw [plain_len]; exact l2, fun p q h => ?_⟩
  exact (raw_or hb he (to _ h)).imp (fr _) (fr _)
end RM

/-! Layers of a product of shapes, as common and part tell them (behind MathSq) -/
namespace RM
def com (xs ys : List Int) : List Int := comN 20 (plainL xs) (plainL ys)
structure ComOk (xs ys : List Int) : Prop where
  pln : xs ≠ [] ∨ ys ≠ [] → Pln (com xs ys)
  left : Dv (com xs ys) xs
  right : Dv (com xs ys) ys
  all : ∀ d, Dv d xs → Dv d ys → Dv d (com xs ys)
theorem com_ok {xs ys : List Int} (h2 : ys.length ≤ 19) (t1 : Tr xs) (t2 : Tr ys) : ComOk xs ys := by
  obtain ⟨c1, c2, c3, c4, c5, c6⟩ := comN_spec 20 (plainL xs) (plainL ys) (by rw [plain_len]; omega) (tr_plain t1) (tr_plain t2)
  refine ⟨fun h => ?_, (Dv.plain t1).mp c2, (Dv.plain t2).mp c3, fun d a b => c4 d ((Dv.plain t1).mpr a) ((Dv.plain t2).mpr b)⟩
  have hne : com xs ys ≠ [] := c5 (h.imp (fun z q => z (List.length_eq_zero_iff.mp (by rw [← plain_len, q]; rfl))) (fun z q => z (List.length_eq_zero_iff.mp (by rw [← plain_len, q]; rfl))))
  obtain ⟨l, tl, el⟩ : ∃ l, Tr l ∧ com xs ys = plainL l := by
    rcases c6 with e | e | e
    · exact ⟨xs, t1, e⟩
    · exact ⟨ys, t2, e⟩
    · exact e
  have hl : l ≠ [] := fun z => hne (by rw [el, z]; rfl)
  rw [el]; exact pln_plain tl hl
theorem com_eq {A B D L M : List Int} {ps : List (List Int)} (tA : Tr A) (nA : A ≠ []) (tB : Tr B) (lB : B.length ≤ 19) (hD : Pln D) (sA : Sim A (mulL D L)) (sB : Sim B (mulL D M)) (hps : ∀ p ∈ ps, Pri p) (hL : L = prd ps) (hM : ∀ p ∈ ps, ¬ Dv p M) : com A B = D :=
  have C := com_ok lB tA tB
  com_is (C.pln (.inl nA)) C.left C.right C.all hD sA sB hps hL hM
def eq1 (k m : Nat) : Nat := if m = k then 1 else 0
def one1 (_ : Nat) : Nat := 1
def mor (us : List (List Int × Nat)) (k : Nat) : List Int := fP (· - k) us
def flt (us : List (List Int × Nat)) : List Int := fP one1 us
variable {us : List (List Int × Nat)}
theorem flt_prd : flt us = prd (us.map (·.1)) := by
  have := fP_prd (fun _ => true) us
  have e : us.filter (fun p => (fun _ => true) p.2) = us := List.filter_eq_self.mpr fun _ _ => rfl
  rw [e] at this
  rw [← this]
  exact fP_congr us fun p _ => rfl
theorem fP_pln' (h : Use us) (g : Nat → Nat) : Pln (fP g us) := fP_pln us h.pri
/-- the whole -/
def whl (c : Int) (us : List (List Int × Nat)) : List Int := mulL [c] (fP id us)
theorem whl_sc (c : Int) : whl c us = scL c (fP id us) := by
  unfold whl
  by_cases h : fP id us = []
  · rw [h, mul_nilR]; rfl
  refine ext_cf ?_ fun k _ => ?_
  · rw [len_mulL (by simp) h, length_scL]; simp
  · rw [cf_mulL, mulc_one', cf_scL]
theorem whl_ok (h : Use us) {c : Int} (hc : c ≠ 0) : Tr (whl c us) ∧ whl c us ≠ [] ∧ plainL (whl c us) = fP id us := by
  have pl := fP_pln' h id
  rw [whl_sc]
  refine ⟨tr_scL hc pl.tr, fun z => pl.ne (List.length_eq_zero_iff.mp (by rw [← length_scL c, z]; rfl)), ?_⟩
  rw [plainL_scL hc pl.tr, pl.plain]
theorem whl_mul (h : Use us) : mulL (mor us 1) (flt us) = fP id us := by
  unfold mor flt
  rw [fP_mul]
  exact fP_congr us fun p hp => by have := h.pos p hp; show p.2 - 1 + 1 = p.2; omega
theorem whole_com (h : Use us) {c : Int} (hc : c ≠ 0) (hl : (whl c us).length ≤ 20) : com (whl c us) (slopeL (whl c us)) = mor us 1 := by
  obtain ⟨t, n, p⟩ := whl_ok h hc
  obtain ⟨M, eM, hM⟩ := slope_fP us h
  refine com_eq (L := flt us) (M := M) (ps := us.map (·.1)) t n (tr_slope t) (by rw [len_slope]; omega) (fP_pln' h _) ⟨1, c, by decide, hc, fun k => ?_⟩ ⟨1, c, by decide, hc, fun k => ?_⟩ (fun p hp => ?_) flt_prd (fun p hp => ?_)
  · rw [whl_mul h, whl_sc, cf_scL]; omega
  · rw [cf_mulL]
    have e := eM k
    rw [cf_slope] at e
    show 1 * cf (slopeL (whl c us)) k = c * mulc (fP (· - 1) us) M k
    rw [← e, cf_slope, whl_sc, cf_scL]
    grind
  · obtain ⟨q, hq, rfl⟩ := List.mem_map.mp hp
    exact h.pri q hq
  · obtain ⟨q, hq, rfl⟩ := List.mem_map.mp hp
    exact hM q hq
/-- once each -/
def once (us : List (List Int × Nat)) : List (List Int × Nat) := us.map fun p => (p.1, 1)
end RM

/-! The bound of a polynomial holds its roots, told by squares (behind MathCom, MathEval) -/
namespace RM
theorem hv_lin {t n x y : Int} : ∀ (a b c : List Int), a.length = c.length → b.length = c.length → (∀ k, cf c k = x * cf a k + y * cf b k) → hv t n c = x * hv t n a + y * hv t n b
  | [], [], [], _, _, _ => by simp [hv_nil]
  | u :: a, v :: b, w :: c, ha, hb, h => by
    have h0 : w = x * u + y * v := h 0
    have ih := hv_lin (t := t) (n := n) (x := x) (y := y) a b c (by simpa using ha) (by simpa using hb) (fun k => h (k + 1))
    have la : a.length = c.length := by simpa using ha
    have lb : b.length = c.length := by simpa using hb
    rw [hv_cons, hv_cons, hv_cons, ih, h0, la, lb]
    generalize n ^ (c.length + 1) = p
    grind
  | [], _ :: _, [], _, h, _ => by simp at h
  | _ :: _, _, [], h, _, _ => by simp at h
  | [], _, _ :: _, h, _, _ => by simp at h
  | _ :: _, [], _ :: _, _, h, _ => by simp at h
theorem hv_scL (t n g : Int) (l : List Int) : hv t n (scL g l) = g * hv t n l := by
  have := hv_lin (t := t) (n := n) (x := g) (y := 0) l l (scL g l) (by rw [length_scL]) (by rw [length_scL]) (fun k => by rw [cf_scL]; simp)
  rw [this]; simp
/-- noughts behind a row -/
theorem hv_zeros (t n : Int) : ∀ (k : Nat) (l : List Int), hv t n (l ++ List.replicate k 0) = n ^ k * hv t n l
  | k, [] => by
    rw [List.nil_append, hv_nil, Int.mul_zero]
    induction k with
    | zero => rfl
    | succ k ih => rw [List.replicate_succ, hv_cons, ih]; simp
  | k, v :: l => by
    rw [List.cons_append, hv_cons, hv_zeros t n k l, hv_cons]
    have : (l ++ List.replicate k (0 : Int)).length + 1 = l.length + 1 + k := by simp; omega
    rw [this, Int.pow_add]
    generalize n ^ (l.length + 1) = p
    generalize n ^ k = q
    grind
theorem cf_zeros (l : List Int) (k j : Nat) : cf (l ++ List.replicate k 0) j = cf l j := by
  by_cases h : j < l.length
  · rw [cf_append_left h]
  · rw [cf_append_right (by omega), cf_replicate, cf_ge (by omega)]
theorem hv_mulL (t n : Int) {b : List Int} (hb : b ≠ []) : ∀ {a : List Int}, a ≠ [] → n * hv t n (mulL a b) = hv t n a * hv t n b
  | [x], _ => by
    have e : mulL [x] b = scL x b := by
      apply ext_cf
      · rw [len_mulL (by simp) hb, length_scL]; simp
      · intro k _; rw [cf_mulL, mulc_one', cf_scL]
    rw [e, hv_scL, hv_one]
    grind
  | x :: y :: a, _ => by
    have ih := hv_mulL t n hb (a := y :: a) (by simp)
    have lm : (mulL (x :: y :: a) b).length = (y :: a).length + b.length := by rw [len_mulL (by simp) hb, List.length_cons]; omega
    have lm2 : (mulL (y :: a) b).length + 1 = (y :: a).length + b.length := by
      rw [len_mulL (by simp) hb]; have := List.length_pos_iff.mpr hb; rw [List.length_cons]; omega
    have e := hv_lin (t := t) (n := n) (x := x) (y := 1) (b ++ List.replicate (y :: a).length 0) (0 :: mulL (y :: a) b) (mulL (x :: y :: a) b) (by rw [lm, List.length_append, List.length_replicate]; omega) (by rw [lm, List.length_cons, lm2])
      (fun k => by rw [cf_mulL, mulc_cons, cf_zeros, cf_shift]; rw [Int.one_mul]; congr 1; unfold up; split <;> first | rfl | rw [cf_mulL])
    rw [e, hv_zeros, hv_cons (v := 0), hv_cons (v := x)]
    have : n * (x * (n ^ (y :: a).length * hv t n b) + 1 * (0 * n ^ ((mulL (y :: a) b).length + 1) + t * hv t n (mulL (y :: a) b))) = x * (n ^ (y :: a).length * n) * hv t n b + t * (n * hv t n (mulL (y :: a) b)) := by grind
    rw [this, ih, ← Int.pow_succ]
    grind

def pr (t n : Int) : List (List Int) → Int
  | [] => 1
  | s :: ss => hv t n s * pr t n ss
def sl : List (List Int) → Nat
  | [] => 0
  | s :: ss => s.length + sl ss
theorem mulL_ne {a b : List Int} (ha : a ≠ []) (hb : b ≠ []) : mulL a b ≠ [] := fun z => by
  have := len_mulL ha hb
  rw [z] at this
  have h1 := List.length_pos_iff.mpr ha
  have h2 := List.length_pos_iff.mpr hb
  rw [List.length_nil] at this
  omega
def prodL (acc : List Int) (ss : List (List Int)) : List Int := ss.foldl mulL acc
theorem prodL_snoc (acc : List Int) (ss : List (List Int)) (s : List Int) : prodL acc (ss ++ [s]) = mulL (prodL acc ss) s := by unfold prodL; rw [List.foldl_append]; rfl
theorem prodL_ok : ∀ (ss : List (List Int)) (acc : List Int), acc ≠ [] → Tr acc → (∀ s ∈ ss, s ≠ [] ∧ Tr s) → prodL acc ss ≠ [] ∧ Tr (prodL acc ss) ∧ (prodL acc ss).length + ss.length = acc.length + sl ss
  | [], acc, h1, h2, _ => ⟨h1, h2, by simp [prodL, sl]⟩
  | s :: ss, acc, h1, h2, h3 => by
    have hs := h3 s (List.mem_cons_self ..)
    obtain ⟨a, b, c⟩ := prodL_ok ss (mulL acc s) (mulL_ne h1 hs.1) (tr_mulL h2 hs.2) (fun x hx => h3 x (List.mem_cons_of_mem _ hx))
    refine ⟨a, b, ?_⟩
    have l := len_mulL h1 hs.1
    have p1 := List.length_pos_iff.mpr h1
    have p2 := List.length_pos_iff.mpr hs.1
    show (prodL (mulL acc s) ss).length + (ss.length + 1) = acc.length + (s.length + sl ss)
    omega
theorem hv_prod (t n : Int) : ∀ (ss : List (List Int)) (acc : List Int), acc ≠ [] → (∀ s ∈ ss, s ≠ []) → n ^ ss.length * hv t n (prodL acc ss) = hv t n acc * pr t n ss
  | [], acc, _, _ => by show n ^ 0 * hv t n acc = hv t n acc * 1; simp
  | s :: ss, acc, h1, h3 => by
    have hs := h3 s (List.mem_cons_self ..)
    have ih := hv_prod t n ss (mulL acc s) (mulL_ne h1 hs) (fun x hx => h3 x (List.mem_cons_of_mem _ hx))
    have e := hv_mulL t n hs h1
    show n ^ (ss.length + 1) * hv t n (prodL (mulL acc s) ss) = hv t n acc * (hv t n s * pr t n ss)
    rw [Int.pow_succ, Int.mul_comm _ n, Int.mul_assoc, ih, ← Int.mul_assoc, e, Int.mul_assoc]
end RM

/-! narrowing of any row: spread, moved, stretched, by values (behind MathEval) -/
namespace RM
theorem sg_pos_mul {x p : Int} (hp : 0 < p) : sg (p * x) = sg x := by rw [Int.mul_comm]; exact sg_mul_pos hp
end RM

/-! roots told by four numbers u, e, b, s: (u + s r) / b, r the root of e (behind MathSq, MathBound, MathNar) -/
namespace RM
def sureI (sq due : Int) : Int := if due < 0 ∨ due * due < sq then 1 else 0 - (if sq < due * due then 1 else 0)
def sideG (l : List Int) (t n : Int) : Int := if 0 < cf l 3 then sureI (cf l 1 * n * n) (cf l 2 * t - cf l 0 * n) else 0 - sureI (cf l 1 * n * n) (0 - (cf l 2 * t - cf l 0 * n))
theorem sure_cases (sq d : Int) : (sureI sq d = 1 ∧ (d < 0 ∨ d * d < sq)) ∨ (sureI sq d = 0 ∧ 0 ≤ d ∧ d * d = sq) ∨ (sureI sq d = -1 ∧ 0 ≤ d ∧ sq < d * d) := by
  unfold sureI
  by_cases h : d < 0 ∨ d * d < sq
  · rw [if_pos h]; exact .inl ⟨rfl, h⟩
  · rw [if_neg h]
    by_cases h2 : sq < d * d
    · rw [if_pos h2]; exact .inr (.inr ⟨rfl, by omega, h2⟩)
    · rw [if_neg h2]; exact .inr (.inl ⟨rfl, by omega, by omega⟩)
/-- a root's four numbers -/
structure Spt (l : List Int) : Prop where
  is : ∃ u e b s : Int, l = [u, e, b, s] ∧ 0 ≤ e ∧ 1 ≤ b ∧ (s = 1 ∨ s = -1)
theorem sq_le_of {x y : Int} (hx : 0 ≤ x) (h : x ≤ y) : x * x ≤ y * y := Int.mul_le_mul h h hx (by omega)
theorem sq_lt_of {x y : Int} (hx : 0 ≤ x) (h : x < y) : x * x < y * y := by
  have h1 : x * x ≤ x * y := Int.mul_le_mul_of_nonneg_left (Int.le_of_lt h) hx
  have h2 : x * y < y * y := Int.mul_lt_mul_of_pos_right h (by omega)
  omega
theorem lt_of_sq {x y : Int} (hy : 0 ≤ y) (h : x * x < y * y) : x < y := Int.not_le.mp fun z => by
  have := sq_le_of hy z
  omega
theorem le_of_sq {x y : Int} (hy : 0 ≤ y) (h : x * x ≤ y * y) : x ≤ y := Int.not_lt.mp fun z => by
  have := sq_lt_of hy z
  omega
theorem sure_scale {g sq d : Int} (hg : 0 < g) : sureI (sq * (g * g)) (g * d) = sureI sq d := by
  have hgg : 0 < g * g := Int.mul_pos hg hg
  have e1 : g * d * (g * d) = d * d * (g * g) := by grind
  have e2 : (g * d < 0) ↔ d < 0 := by
    constructor
    · intro h
      refine Int.not_le.mp fun z => ?_
      have := Int.mul_nonneg (Int.le_of_lt hg) z
      omega
    · intro h; exact Int.mul_neg_of_pos_of_neg hg h
  have e3 : ∀ x y : Int, (x * (g * g) < y * (g * g)) ↔ x < y := fun x y => ⟨fun h => Int.lt_of_mul_lt_mul_right h (Int.le_of_lt hgg), fun h => Int.mul_lt_mul_of_pos_right h hgg⟩
  unfold sureI
  rw [e1]
  simp only [e2, e3]
theorem side_scale {g t n : Int} (l : List Int) (hg : 0 < g) : sideG l (g * t) (g * n) = sideG l t n := by
  have e1 : cf l 1 * (g * n) * (g * n) = cf l 1 * n * n * (g * g) := by grind
  have e2 : cf l 2 * (g * t) - cf l 0 * (g * n) = g * (cf l 2 * t - cf l 0 * n) := by grind
  have e3 : 0 - g * (cf l 2 * t - cf l 0 * n) = g * (0 - (cf l 2 * t - cf l 0 * n)) := by grind
  unfold sideG
  rw [e1, e2, e3, sure_scale hg, sure_scale hg]
theorem side_cross {t n t' n' : Int} (l : List Int) (hn : 0 < n) (hn' : 0 < n') (e : t * n' = t' * n) : sideG l t n = sideG l t' n' := by
  rw [← side_scale (g := n') l hn', ← side_scale (g := n) (t := t') l hn]
  have e1 : n' * t = n * t' := by rw [Int.mul_comm, e, Int.mul_comm]
  rw [e1, Int.mul_comm n' n]
theorem side_cases (l : List Int) (t n : Int) : sideG l t n = 1 ∨ sideG l t n = 0 ∨ sideG l t n = -1 := by
  unfold sideG
  split
  · rcases sure_cases (cf l 1 * n * n) (cf l 2 * t - cf l 0 * n) with h | h | h <;> omega
  · rcases sure_cases (cf l 1 * n * n) (0 - (cf l 2 * t - cf l 0 * n)) with h | h | h <;> omega
/-- what lies at the root or behind it: all further on lies behind it -/
theorem side_less {l : List Int} (hl : Spt l) {t n t' n' : Int} (hn : 0 < n) (hn' : 0 < n') (h : t * n' < t' * n) (hs : sideG l t n ≤ 0) : sideG l t' n' = -1 := by
  obtain ⟨u, e, b, s, rfl, he, hb, hs1⟩ := hl
  have hlt : (b * t - u * n) * n' < (b * t' - u * n') * n := by
    have h1 : b * (t * n') < b * (t' * n) := Int.mul_lt_mul_of_pos_left h (by omega)
    have e1 : (b * t - u * n) * n' = b * (t * n') - u * n * n' := by grind
    have e2 : (b * t' - u * n') * n = b * (t' * n) - u * n * n' := by grind
    omega
  have hnn : 0 < n * n := Int.mul_pos hn hn
  have hnn' : 0 < n' * n' := Int.mul_pos hn' hn'
  rcases hs1 with rfl | rfl
  · have z0 : (0 : Int) < 1 := by decide
    have hs : sureI (e * n * n) (b * t - u * n) ≤ 0 := hs
    show sureI (e * n' * n') (b * t' - u * n') = -1
    generalize b * t - u * n = a at *
    generalize b * t' - u * n' = a' at *
    have k1 : 0 ≤ a ∧ e * n * n ≤ a * a := by rcases sure_cases (e * n * n) a with h | h | h <;> omega
    have k2 : 0 ≤ a * n' := Int.mul_nonneg k1.1 (Int.le_of_lt hn')
    have k3 : 0 < a' := Int.lt_of_mul_lt_mul_right (a := n) (by omega) (Int.le_of_lt hn)
    have k4 := sq_lt_of k2 hlt
    have k5 : e * n * n * (n' * n') ≤ a * a * (n' * n') := Int.mul_le_mul_of_nonneg_right k1.2 (Int.le_of_lt hnn')
    have k6 : e * n' * n' * (n * n) < a' * a' * (n * n) := by
      have e1 : e * n' * n' * (n * n) = e * n * n * (n' * n') := by grind
      have e2 : a' * a' * (n * n) = a' * n * (a' * n) := by grind
      have e3 : a * a * (n' * n') = a * n' * (a * n') := by grind
      omega
    have k7 := Int.lt_of_mul_lt_mul_right k6 (Int.le_of_lt hnn)
    rcases sure_cases (e * n' * n') a' with h | h | h <;> omega
  · have hs : 0 - sureI (e * n * n) (0 - (b * t - u * n)) ≤ 0 := hs
    show 0 - sureI (e * n' * n') (0 - (b * t' - u * n')) = -1
    generalize ha : 0 - (b * t - u * n) = a at *
    generalize ha' : 0 - (b * t' - u * n') = a' at *
    have hlt' : a' * n < a * n' := by
      have e1 : a' * n = -((b * t' - u * n') * n) := by rw [← ha']; grind
      have e2 : a * n' = -((b * t - u * n) * n') := by rw [← ha]; grind
      omega
    have k1 : a < 0 ∨ a * a ≤ e * n * n := by rcases sure_cases (e * n * n) a with h | h | h <;> omega
    have k2 : a' < 0 ∨ a' * a' < e * n' * n' := by
      by_cases z : a' < 0
      · exact .inl z
      right
      have p1 : 0 ≤ a' * n := Int.mul_nonneg (by omega) (Int.le_of_lt hn)
      have p2 : 0 < a := Int.lt_of_mul_lt_mul_right (a := n') (by omega) (Int.le_of_lt hn')
      have p3 := sq_lt_of p1 hlt'
      have k5 : a * a * (n' * n') ≤ e * n * n * (n' * n') := Int.mul_le_mul_of_nonneg_right (by omega) (Int.le_of_lt hnn')
      have k6 : a' * a' * (n * n) < e * n' * n' * (n * n) := by
        have e1 : e * n' * n' * (n * n) = e * n * n * (n' * n') := by grind
        have e2 : a' * a' * (n * n) = a' * n * (a' * n) := by grind
        have e3 : a * a * (n' * n') = a * n' * (a * n') := by grind
        omega
      exact Int.lt_of_mul_lt_mul_right k6 (Int.le_of_lt hnn)
    rcases sure_cases (e * n' * n') a' with h | h | h <;> omega
/-- the roots of one factor -/
def spF (f : List Int) : List (List Int) := (if 0 ≤ cf f 1 then [[cf f 0, cf f 1, cf f 2, 1]] else []) ++ (if 0 < cf f 1 then [[cf f 0, cf f 1, cf f 2, -1]] else [])
def spots (fs : List (List Int)) : List (List Int) := fs.flatMap spF
def spr (t n : Int) : List (List Int) → Int
  | [] => 1
  | l :: ls => -sideG l t n * spr t n ls
theorem spr_app (t n : Int) : ∀ a b, spr t n (a ++ b) = spr t n a * spr t n b
  | [], b => by show _ = 1 * _; rw [Int.one_mul]; rfl
  | x :: a, b => by show _ * spr t n (a ++ b) = _ * _ * _; rw [spr_app t n a b, Int.mul_assoc]
theorem spf_spt {f l : List Int} {u e b : Int} (hf : f = [u, e, b]) (hb : 1 ≤ b) (h : l ∈ spF f) : Spt l ∧ ∃ s, l = [u, e, b, s] ∧ 0 ≤ e ∧ (s = 1 ∨ s = -1 ∧ 0 < e) := by
  subst hf
  have hd : spF [u, e, b] = (if 0 ≤ e then [[u, e, b, 1]] else []) ++ (if 0 < e then [[u, e, b, -1]] else []) := rfl
  rw [hd] at h
  rcases List.mem_append.mp h with h | h
  · by_cases z : 0 ≤ e
    · rw [if_pos z] at h
      obtain rfl := List.mem_singleton.mp h
      exact ⟨⟨u, e, b, 1, rfl, z, hb, .inl rfl⟩, 1, rfl, z, .inl rfl⟩
    · rw [if_neg z] at h; cases h
  · by_cases z : 0 < e
    · rw [if_pos z] at h
      obtain rfl := List.mem_singleton.mp h
      exact ⟨⟨u, e, b, -1, rfl, by omega, hb, .inr rfl⟩, -1, rfl, by omega, .inr ⟨rfl, z⟩⟩
    · rw [if_neg z] at h; cases h
/-- the sign of (b x - u)^2 - e, or of b x - u, by the sides -/
theorem raw_sign {u e b t n : Int} (hn : 0 < n) : sg (hv t n (rawQ u e b)) = spr t n (spF [u, e, b]) := by
  have hd : spF [u, e, b] = (if 0 ≤ e then [[u, e, b, 1]] else []) ++ (if 0 < e then [[u, e, b, -1]] else []) := rfl
  rw [hd]
  by_cases h0 : e = 0
  · subst h0
    have er : rawQ u 0 b = [-u, b] := by unfold rawQ; rw [if_pos rfl]
    have ev : hv t n [-u, b] = n * (b * t - u * n) := by
      show -u * n ^ 2 + t * (b * n ^ 1 + t * 0) = _
      grind
    rw [er, ev, sg_pos_mul hn, if_pos (Int.le_refl _), if_neg (by omega)]
    show _ = -sureI (0 * n * n) (b * t - u * n) * 1
    generalize b * t - u * n = a
    rw [Int.zero_mul, Int.zero_mul]
    have : a < 0 ∨ a = 0 ∨ 0 < a := by omega
    rcases this with h | h | h
    · have h1 : sg a = -1 := by unfold sg; rw [if_pos h]
      rcases sure_cases 0 a with z | z | z <;> omega
    · subst h
      rfl
    · have h1 : sg a = 1 := by unfold sg; rw [if_neg (by omega), if_pos h]
      have h2 := Int.mul_pos h h
      rcases sure_cases 0 a with z | z | z <;> omega
  · have er : rawQ u e b = [u * u - e, -2 * b * u, b * b] := by unfold rawQ; rw [if_neg h0]
    have ev : hv t n [u * u - e, -2 * b * u, b * b] = n * ((b * t - u * n) * (b * t - u * n) - e * n * n) := by
      show (u * u - e) * n ^ 3 + t * ((-2 * b * u) * n ^ 2 + t * ((b * b) * n ^ 1 + t * 0)) = _
      grind
    rw [er, ev, sg_pos_mul hn]
    by_cases hp : 0 ≤ e
    · rw [if_pos hp, if_pos (by omega)]
      show _ = -sureI (e * n * n) (b * t - u * n) * (-(0 - sureI (e * n * n) (0 - (b * t - u * n))) * 1)
      generalize b * t - u * n = a
      have hE : 0 < e * n * n := Int.mul_pos (Int.mul_pos (by omega) hn) hn
      generalize e * n * n = E at *
      have e1 : (0 - a) * (0 - a) = a * a := by grind
      have h1 := sure_cases E a
      have h2 := sure_cases E (0 - a)
      rw [e1] at h2
      have az : a = 0 → a * a = 0 := fun z => by rw [z]; rfl
      have s3 : (a * a < E ∧ sg (a * a - E) = -1) ∨ (a * a = E ∧ sg (a * a - E) = 0) ∨ (E < a * a ∧ sg (a * a - E) = 1) := by
        unfold sg
        split <;> (try split) <;> omega
      generalize a * a = q at *
      rcases h1 with ⟨x1, x2⟩ | ⟨x1, x2⟩ | ⟨x1, x2⟩ <;> rcases h2 with ⟨y1, y2⟩ | ⟨y1, y2⟩ | ⟨y1, y2⟩ <;> rw [x1, y1] <;> simp <;> omega
    · rw [if_neg hp, if_neg (by omega)]
      have h1 : 0 ≤ (b * t - u * n) * (b * t - u * n) := by
        rcases Int.le_total 0 (b * t - u * n) with z | z
        · exact Int.mul_nonneg z z
        · exact Int.mul_nonneg_of_nonpos_of_nonpos z z
      have h2 : e * n * n < 0 := by rw [Int.mul_assoc]; exact Int.mul_neg_of_neg_of_pos (by omega) (Int.mul_pos hn hn)
      show sg _ = 1
      unfold sg
      rw [if_neg (by omega), if_pos (by omega)]
def shpQ (f : List Int) : List Int := plainL (rawQ (cf f 0) (cf f 1) (cf f 2))
theorem sg_mul (x y : Int) : sg (x * y) = sg x * sg y := by
  rcases Int.lt_trichotomy x 0 with hx | hx | hx
  · have h1 : sg x = -1 := by unfold sg; rw [if_pos hx]
    have e : x * y = -((-x) * y) := by grind
    rw [e, sg_neg, sg_pos_mul (by omega), h1]; omega
  · subst hx; rw [Int.zero_mul]; show (0 : Int) = 0 * _; rw [Int.zero_mul]
  · have h1 : sg x = 1 := by unfold sg; rw [if_neg (by omega), if_pos hx]
    rw [sg_pos_mul hx, h1, Int.one_mul]
theorem plain_pos {l : List Int} (h : Tr l) (hne : l ≠ []) (hp : 0 < lastI l) : ∃ g : Int, 0 < g ∧ l = scL g (plainL l) := by
  obtain ⟨g, hg, e⟩ := plain_scale h
  have e2 : l = scL g (plainL l) := by
    apply ext_cf
    · rw [length_scL, plain_len]
    · intro k _; rw [cf_scL, e k]
  have hP := pln_plain h hne
  refine ⟨g, ?_, e2⟩
  obtain ⟨r, x, er⟩ := (snoc_cases l).resolve_left hne
  have hx : lastI l = cf l r.length := by rw [er, lastI_snoc, cf_last]
  obtain ⟨r', x', er'⟩ := (snoc_cases (plainL l)).resolve_left hP.ne
  have hx' : lastI (plainL l) = cf (plainL l) r'.length := by rw [er', lastI_snoc, cf_last]
  have hl : r.length = r'.length := by
    have := plain_len l
    have h1 := congrArg List.length er
    have h2 := congrArg List.length er'
    simp at h1 h2; omega
  have h3 := e r.length
  rw [← hx, hl, ← hx'] at h3
  have h4 := hP.pos
  rw [h3] at hp
  rcases Int.lt_or_gt_of_ne hg with z | z
  · have := Int.mul_neg_of_neg_of_pos z h4
    omega
  · exact z
theorem shp_sign {u e b t n : Int} (hb : 1 ≤ b) (hn : 0 < n) : sg (hv t n (shpQ [u, e, b])) = spr t n (spF [u, e, b]) := by
  obtain ⟨tr, l2⟩ := tr_rawQ (u := u) (e := e) hb
  have hne : rawQ u e b ≠ [] := fun z => by rw [z] at l2; simp at l2
  have hlast : 0 < lastI (rawQ u e b) := by
    unfold rawQ
    split
    · show 0 < lastI ([-u] ++ [b]); rw [lastI_snoc]; omega
    · show 0 < lastI ([u * u - e, -2 * b * u] ++ [b * b]); rw [lastI_snoc]; exact Int.mul_pos (by omega) (by omega)
  obtain ⟨g, hg, eg⟩ := plain_pos tr hne hlast
  rw [← raw_sign hn]
  show sg (hv t n (plainL (rawQ u e b))) = _
  have e3 : hv t n (rawQ u e b) = g * hv t n (plainL (rawQ u e b)) := by
    calc hv t n (rawQ u e b) = hv t n (scL g (plainL (rawQ u e b))) := by rw [← eg]
      _ = _ := hv_scL _ _ _ _
  rw [e3, sg_pos_mul hg]
/-- factors as they are drawn -/
def FacQ (f : List Int) : Prop := ∃ u e b : Int, f = [u, e, b] ∧ 1 ≤ b
theorem pr_sign {t n : Int} (hn : 0 < n) : ∀ (fs : List (List Int)), (∀ f ∈ fs, FacQ f) → sg (pr t n (fs.map shpQ)) = spr t n (spots fs)
  | [], _ => rfl
  | f :: fs, h => by
    obtain ⟨u, e, b, rfl, hb⟩ := h f (List.mem_cons_self ..)
    have ih := pr_sign (t := t) hn fs fun x hx => h x (List.mem_cons_of_mem _ hx)
    have e1 : spots ([u, e, b] :: fs) = spF [u, e, b] ++ spots fs := by unfold spots; rw [List.flatMap_cons]
    show sg (hv t n (shpQ [u, e, b]) * pr t n (fs.map shpQ)) = _
    rw [sg_mul, shp_sign hb hn, ih, e1, spr_app]
theorem shpQ_ne {f : List Int} (h : FacQ f) : shpQ f ≠ [] ∧ Tr (shpQ f) := by
  obtain ⟨u, e, b, rfl, hb⟩ := h
  obtain ⟨tr, l2⟩ := tr_rawQ (u := u) (e := e) hb
  refine ⟨fun z => ?_, tr_plain tr⟩
  have := plain_len (rawQ u e b)
  have z' : plainL (rawQ u e b) = [] := z
  rw [z'] at this; simp at this; omega
/-- the sign of the whole product -/
theorem prod_sign {t n c : Int} (hn : 0 < n) {fs : List (List Int)} (h : ∀ f ∈ fs, FacQ f) : sg (hv t n (mulL [c] (prodL [1] (fs.map shpQ)))) = sg c * spr t n (spots fs) := by
  have hs : ∀ s ∈ fs.map shpQ, s ≠ [] ∧ Tr s := fun s hs => by
    obtain ⟨x, hx, rfl⟩ := List.mem_map.mp hs
    exact shpQ_ne (h x hx)
  obtain ⟨p1, p2, p3⟩ := prodL_ok (fs.map shpQ) [1] (by simp) ((tr_snoc (r := [])).mpr (by decide)) hs
  have e1 := hv_mulL t n (a := [c]) (b := prodL [1] (fs.map shpQ)) p1 (by simp)
  have e2 := hv_prod t n (fs.map shpQ) [1] (by simp) fun s h => (hs s h).1
  rw [hv_one] at e1 e2
  rw [← pr_sign hn fs h]
  have e3 : hv t n (mulL [c] (prodL [1] (fs.map shpQ))) = c * hv t n (prodL [1] (fs.map shpQ)) := by
    refine Int.eq_of_mul_eq_mul_left (Int.ne_of_gt hn) ?_
    rw [e1]; grind
  rw [e3, sg_mul]
  have e4 := congrArg sg e2
  rw [sg_pos_mul (Int.pow_pos hn), Int.one_mul, sg_pos_mul hn] at e4
  rw [e4]
end RM

/-! two roots of unlike factors do not lie in one narrow span, numbers up to 10^9 (behind MathSpot; in place of MathSpot2) -/
namespace RM
/-- the root lies above A / D, not above B / D -/
def inS (l : List Int) (A B D : Int) : Prop := 0 < sideG l A D ∧ sideG l B D ≤ 0
instance (l : List Int) (A B D : Int) : Decidable (inS l A B D) := inferInstanceAs (Decidable (_ ∧ _))
/-- small numbers -/
structure Fsm (u e b : Int) : Prop where
  u1 : -1000000000 ≤ u
  u2 : u ≤ 1000000000
  e0 : 0 ≤ e
  e1 : e ≤ 10000000000000000
  b1 : 1 ≤ b
  b2 : b ≤ 1000
theorem near_raw {u e b s A B D : Int} (h : Fsm u e b) (hs : s = 1 ∨ s = -1 ∧ 0 < e) (hD : 2 ^ 200 ≤ D) (hw : B = A + 128) (hi : inS [u, e, b, s] A B D) : ((b * A - u * D) * (b * A - u * D) - e * D * D).natAbs ≤ 30000000000000 * D.natAbs := by
  obtain ⟨u1, u2, e0, e1, b1, b2⟩ := h
  have hDD : 0 < D := by omega
  have eB : b * B - u * D = b * A - u * D + 128 * b := by rw [hw]; grind
  have h36 : e * D * D ≤ 100000000 * D * (100000000 * D) := by
    have h1 : e * (D * D) ≤ 10000000000000000 * (D * D) := Int.mul_le_mul_of_nonneg_right (by omega) (Int.le_of_lt (Int.mul_pos hDD hDD))
    have e2 : e * D * D = e * (D * D) := by grind
    have e3 : 100000000 * D * (100000000 * D) = 10000000000000000 * (D * D) := by grind
    omega
  have hE0 : 0 ≤ e * D * D := Int.mul_nonneg (Int.mul_nonneg e0 (by omega)) (by omega)
  have hbig : e = 0 ∨ 16384000000 < e * D * D := by
    rcases Int.lt_or_le 0 e with z | z
    · right
      have h1 : 1 * (D * D) ≤ e * (D * D) := Int.mul_le_mul_of_nonneg_right (by omega) (Int.le_of_lt (Int.mul_pos hDD hDD))
      have e2 : e * D * D = e * (D * D) := by grind
      have h2 : 1 * D ≤ D * D := Int.mul_le_mul_of_nonneg_right (by omega) (by omega)
      omega
    · left; omega
  rcases hs with rfl | ⟨rfl, hp⟩
  · have i1 : 0 < sureI (e * D * D) (b * A - u * D) := hi.1
    have i2 : sureI (e * D * D) (b * B - u * D) ≤ 0 := hi.2
    rw [eB] at i2
    generalize b * A - u * D = a at *
    have k1 : a < 0 ∨ a * a < e * D * D := by rcases sure_cases (e * D * D) a with z | z | z <;> omega
    have k2 : 0 ≤ a + 128 * b ∧ e * D * D ≤ (a + 128 * b) * (a + 128 * b) := by rcases sure_cases (e * D * D) (a + 128 * b) with z | z | z <;> omega
    by_cases ha : a < 0
    · have q1 := sq_le_of k2.1 (show a + 128 * b ≤ 128000 by omega)
      have z0 : e = 0 := by omega
      subst z0
      have q2 : (-a) * (-a) ≤ 128000 * 128000 := sq_le_of (by omega) (by omega)
      have q3 : (-a) * (-a) = a * a := by grind
      have q4 : 0 ≤ a * a := by rw [← q3]; exact Int.mul_nonneg (by omega) (by omega)
      rw [Int.zero_mul, Int.zero_mul]
      omega
    · have k3 : a * a < e * D * D := by omega
      have k4 : a < 100000000 * D := lt_of_sq (by omega) (by omega)
      have e3 : (a + 128 * b) * (a + 128 * b) = a * a + 256 * (b * a) + 16384 * (b * b) := by grind
      have k5 : b * a ≤ 1000 * a := Int.mul_le_mul_of_nonneg_right b2 (by omega)
      have k6 : b * b ≤ 1000000 := Int.mul_le_mul b2 b2 (by omega) (by omega)
      omega
  · have i1 : 0 < 0 - sureI (e * D * D) (0 - (b * A - u * D)) := hi.1
    have i2 : 0 - sureI (e * D * D) (0 - (b * B - u * D)) ≤ 0 := hi.2
    rw [eB] at i2
    have eq1 : (b * A - u * D) * (b * A - u * D) = (0 - (b * A - u * D)) * (0 - (b * A - u * D)) := by grind
    have eq2 : 0 - (b * A - u * D + 128 * b) = 0 - (b * A - u * D) - 128 * b := by omega
    rw [eq1]
    rw [eq2] at i2
    generalize 0 - (b * A - u * D) = c at *
    have k1 : 0 ≤ c ∧ e * D * D < c * c := by rcases sure_cases (e * D * D) c with z | z | z <;> omega
    have k2 : c - 128 * b < 0 ∨ (c - 128 * b) * (c - 128 * b) ≤ e * D * D := by rcases sure_cases (e * D * D) (c - 128 * b) with z | z | z <;> omega
    by_cases hc : c - 128 * b < 0
    · have q1 := sq_le_of k1.1 (show c ≤ 128000 by omega)
      omega
    · have k3 : (c - 128 * b) * (c - 128 * b) ≤ e * D * D := by omega
      have k4 : c - 128 * b ≤ 100000000 * D := le_of_sq (by omega) (by omega)
      have e3 : c * c = (c - 128 * b) * (c - 128 * b) + 256 * (b * c) - 16384 * (b * b) := by grind
      have k5 : b * c ≤ 1000 * c := Int.mul_le_mul_of_nonneg_right b2 (by omega)
      have k6 : 0 ≤ b * b := Int.mul_nonneg (by omega) (by omega)
      omega
/-- both roots of one factor are not in one narrow span -/
theorem twin_apart {u e b A B D : Int} (h : Fsm u e b) (he : 0 < e) (hD : 2 ^ 200 ≤ D) (hw : B = A + 128) (h1 : inS [u, e, b, 1] A B D) (h2 : inS [u, e, b, -1] A B D) : False := by
  obtain ⟨u1, u2, e0, e1, b1, b2⟩ := h
  have hDD : 0 < D := by omega
  have eB : b * B - u * D = b * A - u * D + 128 * b := by rw [hw]; grind
  have i1 : sureI (e * D * D) (b * B - u * D) ≤ 0 := h1.2
  have i2 : 0 < 0 - sureI (e * D * D) (0 - (b * A - u * D)) := h2.1
  rw [eB] at i1
  generalize b * A - u * D = a at *
  have k1 : 0 ≤ a + 128 * b := by rcases sure_cases (e * D * D) (a + 128 * b) with z | z | z <;> omega
  have k2 : 0 ≤ 0 - a ∧ e * D * D < (0 - a) * (0 - a) := by rcases sure_cases (e * D * D) (0 - a) with z | z | z <;> omega
  have k3 := sq_le_of k2.1 (show 0 - a ≤ 128000 by omega)
  have h3 : 1 * (D * D) ≤ e * (D * D) := Int.mul_le_mul_of_nonneg_right (by omega) (Int.le_of_lt (Int.mul_pos hDD hDD))
  have e2 : e * D * D = e * (D * D) := by grind
  have h4 : 1 * D ≤ D * D := Int.mul_le_mul_of_nonneg_right (by omega) (by omega)
  omega
theorem abs_mul_le {x y : Int} {a b : Nat} (hx : x.natAbs ≤ a) (hy : y.natAbs ≤ b) : (x * y).natAbs ≤ a * b := by rw [Int.natAbs_mul]; exact Nat.mul_le_mul hx hy
/-- unlike factors: the two equations cannot both nearly hold -/
theorem near_both {u e b u' e' b' A D : Int} (h : Fsm u e b) (h' : Fsm u' e' b') (hD : 2 ^ 200 ≤ D)
    (n1 : ((b * A - u * D) * (b * A - u * D) - e * D * D).natAbs ≤ 30000000000000 * D.natAbs) (n2 : ((b' * A - u' * D) * (b' * A - u' * D) - e' * D * D).natAbs ≤ 30000000000000 * D.natAbs) :
    4 * ((b * u' - u * b') * (b * u' - u * b')) * (b * b * e') = (b' * b' * e - b * b * e' - (b * u' - u * b') * (b * u' - u * b')) * (b' * b' * e - b * b * e' - (b * u' - u * b') * (b * u' - u * b')) := by
  obtain ⟨u1, u2, e0, e1, b1, b2⟩ := h
  obtain ⟨u1', u2', e0', e1', b1', b2'⟩ := h'
  obtain ⟨N, rfl⟩ := Int.eq_ofNat_of_zero_le (show 0 ≤ D by omega)
  rw [Int.natAbs_natCast] at n1 n2
  have hN : 1606938044258990275541962092341162602522202993782792835301376 ≤ N := by omega
  have q9 : (b' * b').natAbs ≤ 1000 * 1000 := abs_mul_le (a := 1000) (b := 1000) (by omega) (by omega)
  have q9' : (b * b).natAbs ≤ 1000 * 1000 := abs_mul_le (a := 1000) (b := 1000) (by omega) (by omega)
  have d1 := abs_mul_le q9 n1
  have d2 := abs_mul_le q9' n2
  have hU : (b * u' - u * b').natAbs ≤ 2000000000000 := by
    have a1 : (b * u').natAbs ≤ 1000 * 1000000000 := abs_mul_le (by omega) (by omega)
    have a2 : (u * b').natAbs ≤ 1000000000 * 1000 := abs_mul_le (by omega) (by omega)
    omega
  have hE1 : (b' * b' * e).natAbs ≤ 1000 * 1000 * 10000000000000000 := abs_mul_le q9 (by omega)
  have hE2 : (b * b * e').natAbs ≤ 1000 * 1000 * 10000000000000000 := abs_mul_le q9' (by omega)
  -- X = b' a, Y = b a', X = Y + U N
  have r1 : (b' * (b * A - u * N)) * (b' * (b * A - u * N)) = b' * b' * e * (N * N) + b' * b' * ((b * A - u * N) * (b * A - u * N) - e * N * N) := by grind
  have r2 : (b * (b' * A - u' * N)) * (b * (b' * A - u' * N)) = b * b * e' * (N * N) + b * b * ((b' * A - u' * N) * (b' * A - u' * N) - e' * N * N) := by grind
  have r3 : b' * (b * A - u * N) = b * (b' * A - u' * N) + (b * u' - u * b') * N := by grind
  generalize b' * b' * ((b * A - u * N) * (b * A - u * N) - e * N * N) = δ1 at *
  generalize b * b * ((b' * A - u' * N) * (b' * A - u' * N) - e' * N * N) = δ2 at *
  rw [r3] at r1
  generalize b * (b' * A - u' * N) = Y at *
  generalize b * u' - u * b' = U at *
  generalize b' * b' * e = E1 at *
  generalize b * b * e' = E2 at *
  clear n1 n2 q9 q9' r3 u1 u2 e0 e1 b1 b2 u1' u2' e0' e1' b1' b2' hD
  have hUU : (U * U).natAbs ≤ 2000000000000 * 2000000000000 := abs_mul_le hU hU
  have hW : (E1 - E2 - U * U).natAbs ≤ 4020000000000000000000000 := by omega
  generalize hWd : E1 - E2 - U * U = W at *
  -- 2 U N Y = W N N + (δ1 - δ2)
  have r4 : 2 * U * N * Y = W * (N * N) + (δ1 - δ2) := by rw [← hWd]; grind
  have r5 : (2 * U * N * Y) * (2 * U * N * Y) = 4 * (U * U) * (N * N) * (Y * Y) := by grind
  rw [r4, r2] at r5
  -- N^2 ((4 U^2 E2 - W^2) N^2 - ...) = 0
  have hM : (δ1 - δ2).natAbs ≤ 60000000000000000000 * N := by omega
  have hδ2 : δ2.natAbs ≤ 30000000000000000000 * N := by omega
  generalize δ1 - δ2 = δ at *
  have hNN : (0 : Int) < (N : Int) * N := Int.mul_pos (by omega) (by omega)
  have r6 : (4 * (U * U) * E2 - W * W) * (N * N) * (N * N) = 2 * W * δ * (N * N) + δ * δ - 4 * (U * U) * δ2 * (N * N) := by grind
  refine Int.sub_eq_zero.mp (Classical.byContradiction fun hne => ?_)
  generalize hZ : 4 * (U * U) * E2 - W * W = Z at *
  have hZ1 : 1 ≤ Z.natAbs := by omega
  have b1 : (Z * (N * N) * (N * N)).natAbs = Z.natAbs * (N * N) * (N * N) := by rw [Int.natAbs_mul, Int.natAbs_mul, Int.natAbs_mul, Int.natAbs_natCast]
  have t1 : (2 * W * δ * (N * N)).natAbs ≤ 2 * 4020000000000000000000000 * (60000000000000000000 * N) * (N * N) := by
    refine abs_mul_le (abs_mul_le (abs_mul_le (by decide) hW) hM) ?_
    rw [Int.natAbs_mul, Int.natAbs_natCast]; exact Nat.le_refl _
  have t2 : (δ * δ).natAbs ≤ 60000000000000000000 * N * (60000000000000000000 * N) := abs_mul_le hM hM
  have t3 : (4 * (U * U) * δ2 * (N * N)).natAbs ≤ 4 * (2000000000000 * 2000000000000) * (30000000000000000000 * N) * (N * N) := by
    refine abs_mul_le (abs_mul_le (abs_mul_le (by decide) hUU) hδ2) ?_
    rw [Int.natAbs_mul, Int.natAbs_natCast]; exact Nat.le_refl _
  have t4 : 1 * (N * N) * (N * N) ≤ Z.natAbs * (N * N) * (N * N) := Nat.mul_le_mul_right _ (Nat.mul_le_mul_right _ hZ1)
  rw [← b1, r6] at t4
  have e1 : 2 * 4020000000000000000000000 * (60000000000000000000 * N) * (N * N) = 482400000000000000000000000000000000000000000 * (N * N * N) := by grind
  have e2 : 60000000000000000000 * N * (60000000000000000000 * N) = 3600000000000000000000000000000000000000 * (N * N) := by grind
  have e3 : 4 * (2000000000000 * 2000000000000) * (30000000000000000000 * N) * (N * N) = 480000000000000000000000000000000000000000000 * (N * N * N) := by grind
  have e4 : 1 * (N * N) * (N * N) = N * (N * N * N) := by grind
  have m1 : 1 * (N * N) ≤ N * (N * N) := Nat.mul_le_mul_right _ (by omega)
  have m2 : 1606938044258990275541962092341162602522202993782792835301376 * (N * N * N) ≤ N * (N * N * N) := Nat.mul_le_mul_right _ hN
  have m3 : N * (N * N) = N * N * N := by grind
  have m4 : 0 < N * N * N := Nat.mul_pos (Nat.mul_pos (by omega) (by omega)) (by omega)
  generalize N * N * N = n3 at *
  omega
/-- unlike plain polynomials, unlike roots -/
theorem shape_eq {u e b u' e' b' : Int} (h : Fsm u e b) (h' : Fsm u' e' b') (hs : NS e) (hs' : NS e')
    (eq : 4 * ((b * u' - u * b') * (b * u' - u * b')) * (b * b * e') = (b' * b' * e - b * b * e' - (b * u' - u * b') * (b * u' - u * b')) * (b' * b' * e - b * b * e' - (b * u' - u * b') * (b * u' - u * b'))) : shpQ [u, e, b] = shpQ [u', e', b'] := by
  obtain ⟨u1, u2, e0, e1, b1, b2⟩ := h
  obtain ⟨u1', u2', e0', e1', b1', b2'⟩ := h'
  have key : b * u' - u * b' = 0 ∧ b' * b' * e = b * b * e' := by
    by_cases hz : e' = 0
    · subst hz
      have e3 : (b' * b' * e - (b * u' - u * b') * (b * u' - u * b')) * (b' * b' * e - (b * u' - u * b') * (b * u' - u * b')) = 0 := by
        have : b * b * (0 : Int) = 0 := Int.mul_zero _
        rw [this] at eq
        rw [Int.mul_zero] at eq
        have h9 : b' * b' * e - 0 - (b * u' - u * b') * (b * u' - u * b') = b' * b' * e - (b * u' - u * b') * (b * u' - u * b') := by omega
        rw [h9] at eq
        exact eq.symm
      have e4 : b' * b' * e = (b * u' - u * b') * (b * u' - u * b') := by
        rcases Int.mul_eq_zero.mp e3 with z | z <;> omega
      by_cases hz2 : e = 0
      · subst hz2
        rw [Int.mul_zero] at e4
        refine ⟨?_, by rw [Int.mul_zero, Int.mul_zero]⟩
        rcases Int.mul_eq_zero.mp e4.symm with z | z <;> exact z
      · exact (hs.no hz2 (by omega) e4).elim
    · by_cases hU : b * u' - u * b' = 0
      · rw [hU] at eq
        have e3 : (b' * b' * e - b * b * e') * (b' * b' * e - b * b * e') = 0 := by
          have h8 : 4 * ((0 : Int) * 0) * (b * b * e') = 0 := by rw [Int.mul_zero, Int.mul_zero, Int.zero_mul]
          rw [h8] at eq
          have h9 : b' * b' * e - b * b * e' - 0 * 0 = b' * b' * e - b * b * e' := by omega
          rw [h9] at eq; exact eq.symm
        refine ⟨hU, ?_⟩
        rcases Int.mul_eq_zero.mp e3 with z | z <;> omega
      · refine (hs'.no hz (x := 2 * (b * u' - u * b') * b) (Int.mul_ne_zero (Int.mul_ne_zero (by decide) hU) (by omega)) (Eq.trans ?_ eq)).elim
        grind
  obtain ⟨k1, k2⟩ := key
  show plainL (rawQ u e b) = plainL (rawQ u' e' b')
  obtain ⟨tr, l2⟩ := tr_rawQ (u := u) (e := e) b1
  obtain ⟨tr', l2'⟩ := tr_rawQ (u := u') (e := e') b1'
  have hne : rawQ u e b ≠ [] := fun z => by rw [z] at l2; simp at l2
  have hne' : rawQ u' e' b' ≠ [] := fun z => by rw [z] at l2'; simp at l2'
  have hz : e = 0 ↔ e' = 0 := by
    constructor
    · intro z; rw [z, Int.mul_zero] at k2
      rcases Int.mul_eq_zero.mp k2.symm with y | y
      · rcases Int.mul_eq_zero.mp y with y | y <;> omega
      · exact y
    · intro z; rw [z, Int.mul_zero] at k2
      rcases Int.mul_eq_zero.mp k2 with y | y
      · rcases Int.mul_eq_zero.mp y with y | y <;> omega
      · exact y
  have prop : ∃ x y : Int, x ≠ 0 ∧ y ≠ 0 ∧ ∀ n, x * cf (rawQ u' e' b') n = y * cf (rawQ u e b) n := by
    by_cases h0 : e = 0
    · have h0' := hz.mp h0
      refine ⟨b, b', by omega, by omega, fun n => ?_⟩
      unfold rawQ
      rw [if_pos h0, if_pos h0', cf_two, cf_two]
      split
      · have : b * u' = u * b' := by omega
        grind
      · split
        · grind
        · omega
    · have h0' : ¬ e' = 0 := fun z => h0 (hz.mpr z)
      refine ⟨b * b, b' * b', Int.mul_ne_zero (by omega) (by omega), Int.mul_ne_zero (by omega) (by omega), fun n => ?_⟩
      have k3 : b * u' = u * b' := by omega
      unfold rawQ
      rw [if_neg h0, if_neg h0']
      match n with
      | 0 =>
        show b * b * (u' * u' - e') = b' * b' * (u * u - e)
        have : (b * u') * (b * u') = (u * b') * (u * b') := by rw [k3]
        grind
      | 1 =>
        show b * b * (-2 * b' * u') = b' * b' * (-2 * b * u)
        have : b * b' * (b * u') = b * b' * (u * b') := by rw [k3]
        grind
      | 2 =>
        show b * b * (b' * b') = b' * b' * (b * b)
        grind
      | n + 3 =>
        show b * b * 0 = b' * b' * 0
        omega
  obtain ⟨x, y, hx, hy, hp⟩ := prop
  refine pln_same (pln_plain tr hne) (pln_plain tr' hne') ?_ ?_
  · rw [Dv.plain tr']
    refine Dv.prop_right hx hp ?_
    obtain ⟨g, hg, eg⟩ := plain_scale tr
    exact ⟨1, [g], by decide, fun n => by rw [mulc_one', ← eg]; omega⟩
  · rw [Dv.plain tr]
    refine Dv.prop_right (x := y) (y := x) hy (fun n => (hp n).symm) ?_
    obtain ⟨g, hg, eg⟩ := plain_scale tr'
    exact ⟨1, [g], by decide, fun n => by rw [mulc_one', ← eg]; omega⟩
/-- factors of three numbers -/
def FacG (f : List Int) : Prop := ∃ u e b : Int, f = [u, e, b] ∧ -1000000000 ≤ u ∧ u ≤ 1000000000 ∧ -10000000000000000 ≤ e ∧ e ≤ 10000000000000000 ∧ 1 ≤ b ∧ b ≤ 1000 ∧ NS e
theorem FacG.q {f : List Int} (h : FacG f) : FacQ f := by
  obtain ⟨u, e, b, rfl, _, _, _, _, h5, _⟩ := h
  exact ⟨u, e, b, rfl, h5⟩
def Apart (l l' : List Int) : Prop := ∀ A B D : Int, 2 ^ 200 ≤ D → B = A + 128 → inS l A B D → inS l' A B D → False
theorem spots_apart {fs : List (List Int)} (hF : ∀ f ∈ fs, FacG f) (hn : (fs.map shpQ).Nodup) : (spots fs).Pairwise Apart := by
  unfold spots
  rw [List.pairwise_flatMap]
  constructor
  · intro f hf
    obtain ⟨u, e, b, rfl, h1, h2, h3, h4, h5, h6, h7⟩ := hF f hf
    have hd : spF [u, e, b] = (if 0 ≤ e then [[u, e, b, 1]] else []) ++ (if 0 < e then [[u, e, b, -1]] else []) := rfl
    rw [hd]
    by_cases z : 0 < e
    · rw [if_pos (by omega), if_pos z]
      show List.Pairwise _ [[u, e, b, 1], [u, e, b, -1]]
      refine List.pairwise_pair.mpr fun A B D hD hw a1 a2 => ?_
      exact twin_apart ⟨h1, h2, by omega, h4, h5, h6⟩ z hD hw a1 a2
    · rw [if_neg z]
      split
      · exact List.pairwise_singleton _ _
      · exact List.Pairwise.nil
  · rw [List.nodup_iff_pairwise_ne, List.pairwise_map] at hn
    refine hn.imp_of_mem fun {f g} hf hg hne x hx y hy A B D hD hw a1 a2 => hne ?_
    obtain ⟨u, e, b, rfl, h1, h2, h3, h4, h5, h6, h7⟩ := hF f hf
    obtain ⟨u', e', b', rfl, h1', h2', h3', h4', h5', h6', h7'⟩ := hF g hg
    obtain ⟨_, s, rfl, he, hs⟩ := spf_spt rfl h5 hx
    obtain ⟨_, s', rfl, he', hs'⟩ := spf_spt rfl h5' hy
    have F1 : Fsm u e b := ⟨h1, h2, he, h4, h5, h6⟩
    have F2 : Fsm u' e' b' := ⟨h1', h2', he', h4', h5', h6'⟩
    exact shape_eq F1 F2 h7 h7' (near_both F1 F2 hD (near_raw F1 hs hD hw a1) (near_raw F2 hs' hD hw a2))
theorem spots_spt {fs : List (List Int)} (hF : ∀ f ∈ fs, FacQ f) {l : List Int} (hl : l ∈ spots fs) : Spt l := by
  obtain ⟨f, hf, hm⟩ := List.mem_flatMap.mp hl
  obtain ⟨u, e, b, rfl, hb⟩ := hF f hf
  exact (spf_spt rfl hb hm).1
end RM

/-! Sturm's theorem on short pieces, over fractions (behind MathChg, MathSq, MathRing) -/
namespace RM
def pv : List Int → Rat → Rat
  | [], _ => 0
  | c :: l, x => (c : Rat) + x * pv l x
theorem pv_lin : ∀ (N : Nat) (a b c : List Int) (u v : Int) (x : Rat), a.length ≤ N → b.length ≤ N → c.length ≤ N → (∀ n, cf c n = u * cf a n + v * cf b n) → pv c x = (u : Rat) * pv a x + (v : Rat) * pv b x
  | 0, a, b, c, u, v, x, ha, hb, hc, _ => by
    rw [List.eq_nil_of_length_eq_zero (Nat.le_zero.mp ha), List.eq_nil_of_length_eq_zero (Nat.le_zero.mp hb), List.eq_nil_of_length_eq_zero (Nat.le_zero.mp hc)]
    show (0 : Rat) = u * 0 + v * 0
    grind
  | N + 1, a, b, c, u, v, x, ha, hb, hc, h => by
    have key : ∀ l : List Int, l.length ≤ N + 1 → pv l x = (cf l 0 : Rat) + x * pv l.tail x ∧ l.tail.length ≤ N ∧ ∀ n, cf l.tail n = cf l (n + 1) := fun l hl => by
      cases l with
      | nil => exact ⟨by show (0 : Rat) = ((0 : Int) : Rat) + x * 0; grind, Nat.zero_le _, fun n => by rw [cf_nil]; rfl⟩
      | cons y l => exact ⟨rfl, by simpa using hl, fun n => rfl⟩
    obtain ⟨a1, a2, a3⟩ := key a ha
    obtain ⟨b1, b2, b3⟩ := key b hb
    obtain ⟨c1, c2, c3⟩ := key c hc
    have ih := pv_lin N a.tail b.tail c.tail u v x a2 b2 c2 fun n => by rw [a3, b3, c3, h]
    have h0 : (cf c 0 : Rat) = (u : Rat) * (cf a 0 : Rat) + (v : Rat) * (cf b 0 : Rat) := by rw [h 0, Rat.intCast_add, Rat.intCast_mul, Rat.intCast_mul]
    rw [a1, b1, c1, ih, h0]; grind
theorem pv_lin' {a b c : List Int} {u v : Int} (x : Rat) (h : ∀ n, cf c n = u * cf a n + v * cf b n) : pv c x = (u : Rat) * pv a x + (v : Rat) * pv b x :=
  pv_lin (a.length + b.length + c.length) a b c u v x (by omega) (by omega) (by omega) h
theorem pv_sc {a c : List Int} {u : Int} (x : Rat) (h : ∀ n, cf c n = u * cf a n) : pv c x = (u : Rat) * pv a x := by
  have := pv_lin' (a := a) (b := []) (c := c) (u := u) (v := 0) x fun n => by rw [h n, Int.zero_mul, Int.add_zero]
  rw [this]
  show _ + ((0 : Int) : Rat) * 0 = _
  grind
theorem pv_mul (x : Rat) : ∀ (a b c : List Int), (∀ n, cf c n = mulc a b n) → pv c x = pv a x * pv b x
  | [], b, c, h => by
    have := pv_sc (a := []) (c := c) (u := 0) x fun n => by rw [h n, mulc_nil]; simp
    rw [this]
    show _ = (0 : Rat) * _
    show ((0 : Int) : Rat) * 0 = 0 * _
    grind
  | y :: a, b, c, h => by
    have ih := pv_mul x a b (mulL a b) (cf_mulL a b)
    have := pv_lin' (a := b) (b := 0 :: mulL a b) (c := c) (u := y) (v := 1) x fun n => by
      rw [h n, mulc_cons, cf_shift, Int.one_mul]
      congr 1
      unfold up
      split
      · rfl
      · rw [cf_mulL]
    rw [this]
    show (y : Rat) * pv b x + ((1 : Int) : Rat) * (((0 : Int) : Rat) + x * pv (mulL a b) x) = ((y : Rat) + x * pv a x) * pv b x
    rw [ih]; grind
theorem rdiv_pos {a b : Rat} (ha : 0 < a) (hb : 0 < b) : 0 < a / b := by
  rw [Rat.div_def]
  exact Rat.mul_pos ha (Rat.inv_pos.mpr hb)
/-! functions that are bounded and do not change fast -/
def Bd (M v : Rat) : Prop := -M ≤ v ∧ v ≤ M
theorem Bd.mul {M N u v : Rat} (h1 : Bd M u) (h2 : Bd N v) : Bd (M * N) (u * v) := by
  obtain ⟨a, b⟩ := h1
  obtain ⟨c, d⟩ := h2
  have p1 : 0 ≤ (M - u) * (N - v) := Rat.mul_nonneg (by grind) (by grind)
  have p2 : 0 ≤ (M + u) * (N + v) := Rat.mul_nonneg (by grind) (by grind)
  have p3 : 0 ≤ (M - u) * (N + v) := Rat.mul_nonneg (by grind) (by grind)
  have p4 : 0 ≤ (M + u) * (N - v) := Rat.mul_nonneg (by grind) (by grind)
  constructor <;> grind
theorem Bd.add {M N u v : Rat} (h1 : Bd M u) (h2 : Bd N v) : Bd (M + N) (u + v) := by
  obtain ⟨a, b⟩ := h1
  obtain ⟨c, d⟩ := h2
  constructor <;> grind
theorem Bd.mono {M N u : Rat} (h1 : Bd M u) (h : M ≤ N) : Bd N u := by
  obtain ⟨a, b⟩ := h1
  constructor <;> grind
def Nice (f : Rat → Rat) : Prop := ∀ R : Rat, 0 ≤ R → ∃ M : Rat, 0 ≤ M ∧ (∀ x, Bd R x → Bd M (f x)) ∧ ∀ x y, Bd R x → Bd R y → x ≤ y → Bd (M * (y - x)) (f y - f x)
theorem nice_const (c : Rat) : Nice fun _ => c := fun R _ => by
  rcases Rat.le_total (a := 0) (b := c) with h | h
  · exact ⟨c, h, fun x _ => ⟨by grind, by grind⟩, fun x y _ _ hxy => by
      have := Rat.mul_nonneg h (show 0 ≤ y - x by grind)
      exact ⟨by grind, by grind⟩⟩
  · exact ⟨-c, by grind, fun x _ => ⟨by grind, by grind⟩, fun x y _ _ hxy => by
      have := Rat.mul_nonneg (show 0 ≤ -c by grind) (show 0 ≤ y - x by grind)
      exact ⟨by grind, by grind⟩⟩
theorem nice_id : Nice fun x => x := fun R hR => by
  refine ⟨R + 1, by grind, fun x h => h.mono (by grind), fun x y _ _ hxy => ?_⟩
  have := Rat.mul_nonneg hR (show 0 ≤ y - x by grind)
  exact ⟨by grind, by grind⟩
theorem Nice.add {f g : Rat → Rat} (hf : Nice f) (hg : Nice g) : Nice fun x => f x + g x := fun R hR => by
  obtain ⟨M, m0, m1, m2⟩ := hf R hR
  obtain ⟨N, n0, n1, n2⟩ := hg R hR
  refine ⟨M + N, by grind, fun x h => (m1 x h).add (n1 x h), fun x y hx hy hxy => ?_⟩
  have := (m2 x y hx hy hxy).add (n2 x y hx hy hxy)
  have e1 : M * (y - x) + N * (y - x) = (M + N) * (y - x) := by grind
  have e2 : f y - f x + (g y - g x) = f y + g y - (f x + g x) := by grind
  rwa [e1, e2] at this
theorem Nice.mul {f g : Rat → Rat} (hf : Nice f) (hg : Nice g) : Nice fun x => f x * g x := fun R hR => by
  obtain ⟨M, m0, m1, m2⟩ := hf R hR
  obtain ⟨N, n0, n1, n2⟩ := hg R hR
  have p := Rat.mul_nonneg m0 n0
  refine ⟨2 * (M * N), by grind, fun x h => ((m1 x h).mul (n1 x h)).mono (by grind), fun x y hx hy hxy => ?_⟩
  have := ((m2 x y hx hy hxy).mul (n1 y hy)).add ((m1 x hx).mul (n2 x y hx hy hxy))
  have e1 : M * (y - x) * N + M * (N * (y - x)) = 2 * (M * N) * (y - x) := by grind
  have e2 : (f y - f x) * g y + f x * (g y - g x) = f y * g y - f x * g x := by grind
  rwa [e1, e2] at this
theorem nice_pv : ∀ l : List Int, Nice (pv l)
  | [] => nice_const 0
  | c :: l => (nice_const (c : Rat)).add (nice_id.mul (nice_pv l))
/-- a value and the slope -/
theorem pv_slope : ∀ (l : List Int) (R : Rat), 0 ≤ R → ∃ M : Rat, 0 ≤ M ∧ ∀ x y, Bd R x → Bd R y → x ≤ y → Bd (M * ((y - x) * (y - x))) (pv l y - pv l x - (y - x) * pv (slopeL l) x)
  | [], R, _ => ⟨0, by grind, fun x y _ _ _ => by
      have e : pv [] y - pv [] x - (y - x) * pv (slopeL []) x = 0 := by show (0 : Rat) - 0 - (y - x) * 0 = 0; grind
      rw [e]; constructor <;> grind⟩
  | c :: l, R, hR => by
    obtain ⟨M, m0, m1⟩ := pv_slope l R hR
    obtain ⟨N, n0, n1, n2⟩ := nice_pv l R hR
    have p := Rat.mul_nonneg hR m0
    refine ⟨N + R * M, by grind, fun x y hx hy hxy => ?_⟩
    have hd : pv (slopeL (c :: l)) x = pv l x + x * pv (slopeL l) x := by
      have := pv_lin' (a := l) (b := 0 :: slopeL l) (c := slopeL (c :: l)) (u := 1) (v := 1) x fun n => slope_cons c l n
      rw [this]
      show ((1 : Int) : Rat) * pv l x + ((1 : Int) : Rat) * (((0 : Int) : Rat) + x * pv (slopeL l) x) = _
      grind
    have hz : Bd (y - x) (y - x) := ⟨by grind, by grind⟩
    have := (hz.mul (n2 x y hx hy hxy)).add (hx.mul (m1 x y hx hy hxy))
    have e1 : (y - x) * (N * (y - x)) + R * (M * ((y - x) * (y - x))) = (N + R * M) * ((y - x) * (y - x)) := by grind
    have e2 : (y - x) * (pv l y - pv l x) + x * (pv l y - pv l x - (y - x) * pv (slopeL l) x) = pv (c :: l) y - pv (c :: l) x - (y - x) * pv (slopeL (c :: l)) x := by
      rw [hd]
      show _ = ((c : Rat) + y * pv l y) - ((c : Rat) + x * pv l x) - _
      grind
    rwa [e1, e2] at this
/-! signs -/
def sgR (v : Rat) : Int := if v < 0 then -1 else if 0 < v then 1 else 0
theorem sgR_cases (v : Rat) : (v < 0 ∧ sgR v = -1) ∨ (v = 0 ∧ sgR v = 0) ∨ (0 < v ∧ sgR v = 1) := by
  unfold sgR
  by_cases h : v < 0
  · exact .inl ⟨h, by rw [if_pos h]⟩
  · by_cases h2 : 0 < v
    · exact .inr (.inr ⟨h2, by rw [if_neg h, if_pos h2]⟩)
    · exact .inr (.inl ⟨by grind, by rw [if_neg h, if_neg h2]⟩)
def Sta (f : Rat → Rat) (x y : Rat) : Prop := sgR (f x) = sgR (f y) ∧ sgR (f x) ≠ 0
theorem not_sta {f : Rat → Rat} {x y D : Rat} (h : ¬ Sta f x y) (hd : Bd D (f y - f x)) : Bd D (f x) ∧ Bd D (f y) := by
  obtain ⟨d1, d2⟩ := hd
  have key : (f x ≤ 0 ∧ 0 ≤ f y) ∨ (0 ≤ f x ∧ f y ≤ 0) := by
    rcases sgR_cases (f x) with ⟨a, b⟩ | ⟨a, b⟩ | ⟨a, b⟩ <;> rcases sgR_cases (f y) with ⟨c, d⟩ | ⟨c, d⟩ | ⟨c, d⟩
    · exact absurd ⟨by rw [b, d], by rw [b]; decide⟩ h
    · exact .inl ⟨by grind, by grind⟩
    · exact .inl ⟨by grind, by grind⟩
    · exact .inr ⟨by grind, by grind⟩
    · exact .inl ⟨by grind, by grind⟩
    · exact .inl ⟨by grind, by grind⟩
    · exact .inr ⟨by grind, by grind⟩
    · exact .inr ⟨by grind, by grind⟩
    · exact absurd ⟨by rw [b, d], by rw [b]; decide⟩ h
  rcases key with ⟨a, b⟩ | ⟨a, b⟩
  · exact ⟨⟨by grind, by grind⟩, ⟨by grind, by grind⟩⟩
  · exact ⟨⟨by grind, by grind⟩, ⟨by grind, by grind⟩⟩
/-- a row of rests; the last one is a number -/
inductive SRow : List (List Int) → Prop
  | last {c : Int} (h : c ≠ 0) : SRow [[c]]
  | two {a : List Int} {c : Int} (h : c ≠ 0) : SRow [a, [c]]
  | cons {a b c : List Int} {r : List (List Int)} {q : List Int} {α β : Rat} (hα : 0 < α) (hβ : 0 < β) (e : ∀ x, α * pv a x = pv q x * pv b x - β * pv c x) (h : SRow (b :: c :: r)) : SRow (a :: b :: c :: r)
theorem pv_one (c : Int) (x : Rat) : pv [c] x = (c : Rat) := by show (c : Rat) + x * 0 = c; grind
theorem bez : ∀ {row : List (List Int)}, SRow row → ∀ a b r, row = a :: b :: r → ∃ (A B : Rat → Rat) (k : Rat), Nice A ∧ Nice B ∧ k ≠ 0 ∧ ∀ x, A x * pv a x + B x * pv b x = k
  | _, .last h, a, b, r, e => by cases e
  | _, .two (c := c) h, a, b, r, e => by
    cases e
    refine ⟨fun _ => 0, fun _ => 1, (c : Rat), nice_const 0, nice_const 1, fun z => h (Rat.intCast_inj.mp (by rw [z]; rfl)), fun x => ?_⟩
    rw [pv_one]; grind
  | _, .cons (a := a0) (b := b0) (c := c) (q := q) (α := α) (β := β) hα hβ eq h, a, b, r, e => by
    cases e
    obtain ⟨A, B, k, nA, nB, hk, hAB⟩ := bez h _ _ _ rfl
    refine ⟨fun x => (-α) * B x, fun x => β * A x + B x * pv q x, β * k, (nice_const (-α)).mul nB, ((nice_const β).mul nA).add (nB.mul (nice_pv q)), fun z => ?_, fun x => ?_⟩
    · rcases Rat.mul_eq_zero.mp z with y | y
      · grind
      · exact hk y
    · have h1 := hAB x
      have h2 := eq x
      have : (-α) * B x * pv a0 x + (β * A x + B x * pv q x) * pv b0 x = B x * (pv q x * pv b0 x - α * pv a0 x) + β * A x * pv b0 x := by grind
      rw [this, h2]
      have : B x * (pv q x * pv b0 x - (pv q x * pv b0 x - β * pv c x)) + β * A x * pv b0 x = β * (A x * pv b0 x + B x * pv c x) := by grind
      rw [this, h1]
/-- where the first one does not keep its sign the second one does, and is not small -/
theorem pair_sta {a b : Rat → Rat} (na : Nice a) (nb : Nice b) {A B : Rat → Rat} {k : Rat} (nA : Nice A) (nB : Nice B) (hk : 0 < k) (hAB : ∀ x, A x * a x + B x * b x = k ∨ A x * a x + B x * b x = -k) {R : Rat} (hR : 0 ≤ R) :
    ∃ (δ κ : Rat), 0 < δ ∧ 0 < κ ∧ ∀ x y, Bd R x → Bd R y → x < y → y - x ≤ δ → ¬ Sta a x y → Sta b x y ∧ (κ ≤ b x ∨ b x ≤ -κ) ∧ (κ ≤ b y ∨ b y ≤ -κ) := by
  obtain ⟨M1, p1, q1, r1⟩ := na R hR
  obtain ⟨M2, p2, q2, r2⟩ := nb R hR
  obtain ⟨M3, p3, q3, _⟩ := nA R hR
  obtain ⟨M4, p4, q4, _⟩ := nB R hR
  have h31 := Rat.mul_nonneg p3 p1
  have h42 := Rat.mul_nonneg p4 p2
  have hT : 0 < 2 * (M3 * M1 + M4 * M2 + 1) := by grind
  have hT4 : 0 < 2 * (M4 + 1) := by grind
  refine ⟨k / (2 * (M3 * M1 + M4 * M2 + 1)), k / (2 * (M4 + 1)), rdiv_pos hk hT, rdiv_pos hk hT4, fun x y hx hy hxy hd hs => ?_⟩
  have hd' : (y - x) * (2 * (M3 * M1 + M4 * M2 + 1)) ≤ k := by
    have := Rat.mul_le_mul_of_nonneg_right hd (Rat.le_of_lt hT)
    rwa [Rat.div_mul_cancel (by grind)] at this
  have hyx : 0 < y - x := by grind
  obtain ⟨a1, a2⟩ := not_sta hs (r1 x y hx hy (by grind))
  have hM1 : 0 ≤ M1 * (y - x) := Rat.mul_nonneg p1 (Rat.le_of_lt hyx)
  -- b is not small
  have far : ∀ z, Bd R z → Bd (M1 * (y - x)) (a z) → k / (2 * (M4 + 1)) ≤ b z ∨ b z ≤ -(k / (2 * (M4 + 1))) := fun z hz ha => by
    have e1 := (q3 z hz).mul ha
    have e2 : 2 * (M3 * (M1 * (y - x))) ≤ k := by
      have h1 := Rat.mul_nonneg h42 (Rat.le_of_lt hyx)
      grind
    have hB : (k ≤ 2 * (B z * b z)) ∨ (2 * (B z * b z) ≤ -k) := by
      obtain ⟨f1, f2⟩ := e1
      rcases hAB z with g | g
      · left; grind
      · right; grind
    rcases Rat.le_total (a := k / (2 * (M4 + 1))) (b := b z) with g | g
    · exact .inl g
    · rcases Rat.le_total (a := b z) (b := -(k / (2 * (M4 + 1)))) with g2 | g2
      · exact .inr g2
      · exfalso
        have hb : Bd (k / (2 * (M4 + 1))) (b z) := ⟨g2, g⟩
        obtain ⟨f1, f2⟩ := (q4 z hz).mul hb
        have e3 : 2 * (M4 * (k / (2 * (M4 + 1)))) < k := by
          have e4 : k / (2 * (M4 + 1)) * (2 * (M4 + 1)) = k := Rat.div_mul_cancel (by grind)
          have e5 := rdiv_pos hk hT4
          generalize k / (2 * (M4 + 1)) = w at *
          grind
        rcases hB with g3 | g3 <;> grind
  refine ⟨Classical.byContradiction fun hs2 => ?_, far x hx a1, far y hy a2⟩
  obtain ⟨b1, b2⟩ := not_sta hs2 (r2 x y hx hy (by grind))
  obtain ⟨e1, e2⟩ := (q3 x hx).mul a1
  obtain ⟨e3, e4⟩ := (q4 x hx).mul b1
  have hM : 0 ≤ (M3 * M1 + M4 * M2) * (y - x) := Rat.mul_nonneg (by grind) (Rat.le_of_lt hyx)
  have e5 : M3 * (M1 * (y - x)) + M4 * (M2 * (y - x)) = (M3 * M1 + M4 * M2) * (y - x) := by grind
  have e6 : (y - x) * (2 * (M3 * M1 + M4 * M2 + 1)) = 2 * ((M3 * M1 + M4 * M2) * (y - x)) + 2 * (y - x) := by grind
  rcases hAB x with g | g <;> grind
theorem bez_pos {row : List (List Int)} (h : SRow row) {a b : List Int} {r : List (List Int)} (e : row = a :: b :: r) : ∃ (A B : Rat → Rat) (k : Rat), Nice A ∧ Nice B ∧ 0 < k ∧ ∀ x, A x * pv a x + B x * pv b x = k ∨ A x * pv a x + B x * pv b x = -k := by
  obtain ⟨A, B, k, nA, nB, hk, hAB⟩ := bez h a b r e
  rcases Rat.le_total (a := 0) (b := k) with g | g
  · exact ⟨A, B, k, nA, nB, by grind, fun x => .inl (hAB x)⟩
  · exact ⟨A, B, -k, nA, nB, by grind, fun x => .inr (by rw [hAB x]; grind)⟩
/-- the changes of sign behind a sign -/
def vr : Int → List Int → Int
  | _, [] => 0
  | b, s :: r => (if s * b < 0 then 1 else 0) + vr (if s = 0 then b else s) r
theorem chS_vr : ∀ (l : List Int) (n b : Int), l.foldl chF (n, b) = (n + vr b l, (l.foldl chF (n, b)).2)
  | [], n, b => by show (n, b) = (n + 0, b); rw [Int.add_zero]
  | s :: r, n, b => by
    show r.foldl chF (chF (n, b) s) = (n + ((if s * b < 0 then 1 else 0) + vr (if s = 0 then b else s) r), (r.foldl chF (chF (n, b) s)).2)
    have e : chF (n, b) s = (n + (if s * b < 0 then 1 else 0), if s = 0 then b else s) := by
      unfold chF
      by_cases h : s * b < 0
      · rw [if_pos h, if_pos h]
      · rw [if_neg h, if_neg h, Int.add_zero]
    rw [e]
    have := chS_vr r (n + (if s * b < 0 then 1 else 0)) (if s = 0 then b else s)
    rw [Int.add_assoc] at this
    exact this
theorem chS_eq (l : List Int) : (chS l).1 = vr 0 l := by
  unfold chS
  rw [chS_vr l 0 0]
  show 0 + vr 0 l = _
  omega
def Unit3 (s : Int) : Prop := s = 1 ∨ s = 0 ∨ s = -1
inductive Al : Int → List Int → List Int → Prop
  | nil {b : Int} : Al b [] []
  | stab {b s : Int} {r r' : List Int} (h : s ≠ 0) (t : Al s r r') : Al b (s :: r) (s :: r')
  | unst {b s s' : Int} {r r' : List Int} (h1 : Unit3 s) (h2 : Unit3 s') (t : Al (-b) r r') : Al b (s :: -b :: r) (s' :: -b :: r')
theorem vr_over {b s : Int} (hb : b = 1 ∨ b = -1) (hs : Unit3 s) (r : List Int) : vr b (s :: -b :: r) = 1 + vr (-b) r := by
  have hb0 : ¬ (-b = 0) := by omega
  rcases hs with rfl | rfl | rfl
  · rcases hb with rfl | rfl <;> simp [vr]
  · rcases hb with rfl | rfl <;> simp [vr]
  · rcases hb with rfl | rfl <;> simp [vr]
theorem Al.vr : ∀ {b : Int} {r r' : List Int}, Al b r r' → (b = 1 ∨ b = -1) → (∀ s ∈ r, Unit3 s) → RM.vr b r = RM.vr b r'
  | _, _, _, .nil, _, _ => rfl
  | b, _, _, .stab (s := s) (r := r) (r' := r') h t, hb, hu => by
    have hs : Unit3 s := hu s (List.mem_cons_self ..)
    have hs' : s = 1 ∨ s = -1 := by rcases hs with z | z | z; exact .inl z; exact absurd z h; exact .inr z
    have ih := Al.vr t hs' fun x hx => hu x (List.mem_cons_of_mem _ hx)
    show _ + RM.vr (if s = 0 then b else s) r = _ + RM.vr (if s = 0 then b else s) r'
    rw [if_neg h, ih]
  | b, _, _, .unst h1 h2 t, hb, hu => by
    have ih := Al.vr t (by omega) fun x hx => hu x (List.mem_cons_of_mem _ (List.mem_cons_of_mem _ hx))
    rw [vr_over hb h1, vr_over hb h2, ih]
def sgX (row : List (List Int)) (x : Rat) : List Int := row.map fun f => sgR (pv f x)
theorem sgR_unit (v : Rat) : Unit3 (sgR v) := by
  rcases sgR_cases v with ⟨_, h⟩ | ⟨_, h⟩ | ⟨_, h⟩ <;> rw [h]
  · exact .inr (.inr rfl)
  · exact .inr (.inl rfl)
  · exact .inl rfl
theorem sgX_unit (row : List (List Int)) (x : Rat) : ∀ s ∈ sgX row x, Unit3 s := fun s hs => by
  obtain ⟨f, _, rfl⟩ := List.mem_map.mp hs
  exact sgR_unit _
def LocS (row : List (List Int)) (R : Rat) : Prop := ∃ δ : Rat, 0 < δ ∧ ∀ x y, Bd R x → Bd R y → x < y → y - x ≤ δ → ∀ a r, row = a :: r → Sta (pv a) x y → Al (sgR (pv a x)) (sgX r x) (sgX r y)
theorem sgR_const {c : Int} (h : c ≠ 0) : sgR (c : Rat) ≠ 0 := by
  rcases sgR_cases (c : Rat) with ⟨_, e⟩ | ⟨z, _⟩ | ⟨_, e⟩
  · rw [e]; decide
  · exact absurd (Rat.intCast_inj.mp (by rw [z]; rfl)) h
  · rw [e]; decide
theorem loc_of : ∀ {row : List (List Int)}, SRow row → ∀ R : Rat, 0 ≤ R → LocS row R ∧ LocS row.tail R
  | _, .last h, R, _ => ⟨⟨1, by grind, fun x y _ _ _ _ a r e _ => by cases e; exact .nil⟩, ⟨1, by grind, fun x y _ _ _ _ a r e _ => by cases e⟩⟩
  | _, .two (c := c) h, R, _ => by
    refine ⟨⟨1, by grind, fun x y _ _ _ _ a r e _ => ?_⟩, ⟨1, by grind, fun x y _ _ _ _ a r e _ => by cases e; exact .nil⟩⟩
    cases e
    show Al _ [sgR (pv [c] x)] [sgR (pv [c] y)]
    rw [pv_one, pv_one]
    exact .stab (sgR_const h) .nil
  | _, .cons (a := a) (b := b) (c := c) (r := r) (q := q) (α := α) (β := β) hα hβ eq h, R, hR => by
    obtain ⟨⟨δ1, d1, l1⟩, ⟨δ2, d2, l2⟩⟩ := loc_of h R hR
    refine ⟨?_, ⟨δ1, d1, l1⟩⟩
    obtain ⟨A, B, k, nA, nB, hk, hAB⟩ := bez_pos h rfl
    obtain ⟨δ3, κ, d3, hκ, l3⟩ := pair_sta (nice_pv b) (nice_pv c) nA nB hk hAB hR
    obtain ⟨M, m0, m1, m2⟩ := nice_pv b R hR
    obtain ⟨N, n0, n1, _⟩ := nice_pv q R hR
    have hMN := Rat.mul_nonneg n0 m0
    have hT : 0 < N * M + 1 := by grind
    have hβκ := Rat.mul_pos hβ hκ
    -- the least of these
    obtain ⟨δ, hδ, g1, g2, g3, g4⟩ : ∃ δ : Rat, 0 < δ ∧ δ ≤ δ1 ∧ δ ≤ δ2 ∧ δ ≤ δ3 ∧ δ * (N * M + 1) ≤ β * κ := by
      have hw := rdiv_pos hβκ hT
      have hw2 : β * κ / (N * M + 1) * (N * M + 1) = β * κ := Rat.div_mul_cancel (by grind)
      have two : ∀ u v : Rat, 0 < u → 0 < v → ∃ w : Rat, 0 < w ∧ w ≤ u ∧ w ≤ v := fun u v hu hv => by
        rcases Rat.le_total (a := u) (b := v) with z | z
        · exact ⟨u, hu, Rat.le_refl, z⟩
        · exact ⟨v, hv, z, Rat.le_refl⟩
      obtain ⟨u, hu, u1, u2⟩ := two δ1 δ2 d1 d2
      obtain ⟨v, hv, v1, v2⟩ := two u δ3 hu d3
      obtain ⟨w, hw', w1, w2⟩ := two v _ hv hw
      refine ⟨w, hw', by grind, by grind, by grind, ?_⟩
      have := Rat.mul_le_mul_of_nonneg_right w2 (Rat.le_of_lt hT)
      rwa [hw2] at this
    refine ⟨δ, hδ, fun x y hx hy hxy hd a' r' e sa => ?_⟩
    cases e
    show Al (sgR (pv a x)) (sgR (pv b x) :: sgX (c :: r) x) (sgR (pv b y) :: sgX (c :: r) y)
    by_cases sb : Sta (pv b) x y
    · have t := l1 x y hx hy hxy (by grind) b (c :: r) rfl sb
      rw [← sb.1]
      exact .stab sb.2 t
    · obtain ⟨sc, c1, c2⟩ := l3 x y hx hy hxy (by grind) sb
      obtain ⟨b1, _⟩ := not_sta sb (m2 x y hx hy (by grind))
      have hyx : 0 < y - x := by grind
      -- a is opposite to c
      have hop : sgR (pv c x) = -sgR (pv a x) := by
        obtain ⟨f1, f2⟩ := (n1 x hx).mul b1
        have e1 := eq x
        have e2 : N * (M * (y - x)) < β * κ := by
          have h1 : (y - x) * (N * M + 1) ≤ δ * (N * M + 1) := Rat.mul_le_mul_of_nonneg_right hd (Rat.le_of_lt hT)
          grind
        rcases c1 with z | z
        · have h2 : β * κ ≤ β * pv c x := Rat.mul_le_mul_of_nonneg_left z (Rat.le_of_lt hβ)
          have h3 : α * pv a x < 0 := by grind
          have h4 : pv a x < 0 := by
            rcases Rat.le_total (a := 0) (b := pv a x) with w | w
            · have := Rat.mul_nonneg (Rat.le_of_lt hα) w; grind
            · rcases sgR_cases (pv a x) with ⟨w2, _⟩ | ⟨w2, _⟩ | ⟨w2, _⟩
              · exact w2
              · rw [w2] at h3; grind
              · grind
          rcases sgR_cases (pv c x) with ⟨w, _⟩ | ⟨w, _⟩ | ⟨_, w⟩
          · grind
          · grind
          · rcases sgR_cases (pv a x) with ⟨_, v⟩ | ⟨v, _⟩ | ⟨v, _⟩
            · rw [w, v]; decide
            · grind
            · grind
        · have h2 : β * pv c x ≤ β * (-κ) := Rat.mul_le_mul_of_nonneg_left z (Rat.le_of_lt hβ)
          have h3 : 0 < α * pv a x := by grind
          have h4 : 0 < pv a x := by
            rcases sgR_cases (pv a x) with ⟨w2, _⟩ | ⟨w2, _⟩ | ⟨w2, _⟩
            · have := Rat.mul_nonneg (Rat.le_of_lt hα) (show 0 ≤ -pv a x by grind); grind
            · rw [w2] at h3; grind
            · exact w2
          rcases sgR_cases (pv c x) with ⟨_, w⟩ | ⟨w, _⟩ | ⟨w, _⟩
          · rcases sgR_cases (pv a x) with ⟨v, _⟩ | ⟨v, _⟩ | ⟨_, v⟩
            · grind
            · grind
            · rw [w, v]
          · grind
          · grind
      have hop' : sgR (pv c y) = -sgR (pv a x) := by rw [← sc.1]; exact hop
      have t : Al (sgR (pv c x)) (sgX r x) (sgX r y) := l2 x y hx hy hxy (by grind) c r rfl sc
      rw [hop] at t
      show Al _ (_ :: sgR (pv c x) :: sgX r x) (_ :: sgR (pv c y) :: sgX r y)
      rw [hop, hop']
      exact .unst (sgR_unit _) (sgR_unit _) t
/-- a change from x to y: the first one is not nought, and the second one has another sign -/
def chg (f : Rat → Rat) (x y : Rat) : Int := if sgR (f x) ≠ 0 ∧ sgR (f y) ≠ sgR (f x) then 1 else 0
def vrs (row : List (List Int)) (x : Rat) : Int := vr 0 (sgX row x)
theorem vr_zero {s : Int} (r : List Int) : vr 0 (s :: r) = vr s r := by
  show (if s * 0 < 0 then 1 else 0) + vr (if s = 0 then 0 else s) r = _
  rw [Int.mul_zero, if_neg (by decide), Int.zero_add]
  split
  · rename_i h; rw [h]
  · rfl
theorem sturm_piece {F0 F1 : List Int} {r : List (List Int)} (h : SRow (F0 :: F1 :: r)) {γ : Rat} (hγ : 0 < γ) (hd : ∀ x, pv (slopeL F0) x = γ * pv F1 x) {R : Rat} (hR : 0 ≤ R) :
    ∃ δ : Rat, 0 < δ ∧ ∀ x y, Bd R x → Bd R y → x < y → y - x ≤ δ → vrs (F0 :: F1 :: r) x - vrs (F0 :: F1 :: r) y = chg (pv F0) x y := by
  obtain ⟨⟨δ1, d1, l1⟩, ⟨δ2, d2, l2⟩⟩ := loc_of h R hR
  obtain ⟨A, B, k, nA, nB, hk, hAB⟩ := bez_pos h rfl
  obtain ⟨δ3, κ, d3, hκ, l3⟩ := pair_sta (nice_pv F0) (nice_pv F1) nA nB hk hAB hR
  obtain ⟨M, m0, m1⟩ := pv_slope F0 R hR
  have hγκ := Rat.mul_pos hγ hκ
  obtain ⟨δ, hδ, g1, g2, g3, g4⟩ : ∃ δ : Rat, 0 < δ ∧ δ ≤ δ1 ∧ δ ≤ δ2 ∧ δ ≤ δ3 ∧ δ * (M + 1) ≤ γ * κ := by
    have hT : 0 < M + 1 := by grind
    have hw := rdiv_pos hγκ hT
    have hw2 : γ * κ / (M + 1) * (M + 1) = γ * κ := Rat.div_mul_cancel (by grind)
    have two : ∀ u v : Rat, 0 < u → 0 < v → ∃ w : Rat, 0 < w ∧ w ≤ u ∧ w ≤ v := fun u v hu hv => by
      rcases Rat.le_total (a := u) (b := v) with z | z
      · exact ⟨u, hu, Rat.le_refl, z⟩
      · exact ⟨v, hv, z, Rat.le_refl⟩
    obtain ⟨u, hu, u1, u2⟩ := two δ1 δ2 d1 d2
    obtain ⟨v, hv, v1, v2⟩ := two u δ3 hu d3
    obtain ⟨w, hw', w1, w2⟩ := two v _ hv hw
    refine ⟨w, hw', by grind, by grind, by grind, ?_⟩
    have := Rat.mul_le_mul_of_nonneg_right w2 (Rat.le_of_lt hT)
    rwa [hw2] at this
  refine ⟨δ, hδ, fun x y hx hy hxy hyd => ?_⟩
  have e0 : ∀ z, vrs (F0 :: F1 :: r) z = vr (sgR (pv F0 z)) (sgX (F1 :: r) z) := fun z => vr_zero _
  have nz : ∀ {v : Rat}, sgR v ≠ 0 → sgR v = 1 ∨ sgR v = -1 := fun {v} hv => by rcases sgR_unit v with z | z | z; exact .inl z; exact absurd z hv; exact .inr z
  rw [e0, e0]
  by_cases s0 : Sta (pv F0) x y
  · have t := (l1 x y hx hy hxy (by grind) F0 (F1 :: r) rfl s0).vr (nz s0.2) (sgX_unit _ _)
    rw [← s0.1, t]
    unfold chg
    rw [if_neg (fun z => z.2 s0.1.symm)]; omega
  · obtain ⟨s1, c1, c2⟩ := l3 x y hx hy hxy (by grind) s0
    have t := (l2 x y hx hy hxy (by grind) F1 r rfl s1).vr (nz s1.2) (sgX_unit _ _)
    -- the slope's sign
    have hyx : 0 < y - x := by grind
    have hyy : 0 < (y - x) * (y - x) := Rat.mul_pos hyx hyx
    obtain ⟨f1, f2⟩ := m1 x y hx hy (by grind)
    have small : M * ((y - x) * (y - x)) < (y - x) * (γ * κ) := by
      have h1 : (y - x) * (M + 1) ≤ γ * κ := by
        have := Rat.mul_le_mul_of_nonneg_right hyd (show 0 ≤ M + 1 by grind)
        grind
      have h2 : (y - x) * ((y - x) * (M + 1)) ≤ (y - x) * (γ * κ) := Rat.mul_le_mul_of_nonneg_left h1 (Rat.le_of_lt hyx)
      grind
    rw [hd] at f1 f2
    show vr (sgR (pv F0 x)) (sgR (pv F1 x) :: sgX r x) - vr (sgR (pv F0 y)) (sgR (pv F1 y) :: sgX r y) = _
    have hu : ∀ (b s : Int) (l : List Int), s ≠ 0 → vr b (s :: l) = (if s * b < 0 then 1 else 0) + vr s l := fun b s l hs => by
      show _ + vr (if s = 0 then b else s) l = _
      rw [if_neg hs]
    have s1' : sgR (pv F1 y) = sgR (pv F1 x) := s1.1.symm
    rw [s1', hu _ _ _ s1.2, hu _ _ _ s1.2, t]
    unfold chg
    rcases c1 with z | z
    · -- rising
      have h1 : γ * κ ≤ γ * pv F1 x := Rat.mul_le_mul_of_nonneg_left z (Rat.le_of_lt hγ)
      have h2 : (y - x) * (γ * κ) ≤ (y - x) * (γ * pv F1 x) := Rat.mul_le_mul_of_nonneg_left h1 (Rat.le_of_lt hyx)
      have rise : pv F0 x < pv F0 y := by grind
      have s1p : sgR (pv F1 x) = 1 := by
        rcases sgR_cases (pv F1 x) with ⟨w, _⟩ | ⟨w, _⟩ | ⟨_, w⟩
        · grind
        · grind
        · exact w
      rw [s1p]
      rcases sgR_cases (pv F0 x) with ⟨a1, a2⟩ | ⟨a1, a2⟩ | ⟨a1, a2⟩ <;> rcases sgR_cases (pv F0 y) with ⟨b1, b2⟩ | ⟨b1, b2⟩ | ⟨b1, b2⟩
      · exact absurd ⟨by rw [a2, b2], by rw [a2]; decide⟩ s0
      · rw [a2, b2]; simp
      · rw [a2, b2]; simp
      · grind
      · grind
      · rw [a2, b2]; simp
      · grind
      · grind
      · exact absurd ⟨by rw [a2, b2], by rw [a2]; decide⟩ s0
    · have h1 : γ * pv F1 x ≤ γ * (-κ) := Rat.mul_le_mul_of_nonneg_left z (Rat.le_of_lt hγ)
      have h2 : (y - x) * (γ * pv F1 x) ≤ (y - x) * (γ * (-κ)) := Rat.mul_le_mul_of_nonneg_left h1 (Rat.le_of_lt hyx)
      have fall : pv F0 y < pv F0 x := by grind
      have s1p : sgR (pv F1 x) = -1 := by
        rcases sgR_cases (pv F1 x) with ⟨_, w⟩ | ⟨w, _⟩ | ⟨w, _⟩
        · exact w
        · grind
        · grind
      rw [s1p]
      rcases sgR_cases (pv F0 x) with ⟨a1, a2⟩ | ⟨a1, a2⟩ | ⟨a1, a2⟩ <;> rcases sgR_cases (pv F0 y) with ⟨b1, b2⟩ | ⟨b1, b2⟩ | ⟨b1, b2⟩
      · exact absurd ⟨by rw [a2, b2], by rw [a2]; decide⟩ s0
      · grind
      · grind
      · rw [a2, b2]; simp
      · grind
      · grind
      · rw [a2, b2]; simp
      · rw [a2, b2]; simp
      · exact absurd ⟨by rw [a2, b2], by rw [a2]; decide⟩ s0
end RM

/-! Sturm's count by roots that are told as cuts (behind MathSturm) -/
namespace RM
/-- a cut: 1 ahead of the root, 0 at it, -1 behind it -/
structure Cut (s : Rat → Int) : Prop where
  u : ∀ x, Unit3 (s x)
  m : ∀ x y, x < y → s x ≤ 0 → s y = -1
def cnt (S : List (Rat → Int)) (x y : Rat) : Int := (S.map fun s => if 0 < s x ∧ s y ≤ 0 then (1 : Int) else 0).sum
theorem cnt_nil (x y : Rat) : cnt [] x y = 0 := rfl
theorem cnt_cons (s : Rat → Int) (S : List (Rat → Int)) (x y : Rat) : cnt (s :: S) x y = (if 0 < s x ∧ s y ≤ 0 then 1 else 0) + cnt S x y := by unfold cnt; rw [List.map_cons, List.sum_cons]
theorem cnt_add {x y z : Rat} (hxy : x < y) (hyz : y < z) : ∀ {S : List (Rat → Int)}, (∀ s ∈ S, Cut s) → cnt S x z = cnt S x y + cnt S y z
  | [], _ => rfl
  | s :: S, h => by
    have hs := h s (List.mem_cons_self ..)
    have ih := cnt_add hxy hyz (S := S) fun t ht => h t (List.mem_cons_of_mem _ ht)
    rw [cnt_cons, cnt_cons, cnt_cons, ih]
    have e : (if 0 < s x ∧ s z ≤ 0 then (1 : Int) else 0) = (if 0 < s x ∧ s y ≤ 0 then 1 else 0) + (if 0 < s y ∧ s z ≤ 0 then 1 else 0) := by
      by_cases hy : s y ≤ 0
      · have hz := hs.m y z hyz hy
        rw [if_neg (show ¬ (0 < s y ∧ s z ≤ 0) by omega)]
        by_cases hx : 0 < s x
        · rw [if_pos ⟨hx, by omega⟩, if_pos ⟨hx, hy⟩]; rfl
        · rw [if_neg (by omega), if_neg (by omega)]; rfl
      · have hx : 0 < s x := by
          rcases Int.lt_or_le 0 (s x) with q | q
          · exact q
          · have := hs.m x y hxy q; omega
        rw [if_neg (show ¬ (0 < s x ∧ s y ≤ 0) by omega)]
        by_cases hz : s z ≤ 0
        · rw [if_pos ⟨hx, hz⟩, if_pos ⟨by omega, hz⟩]; rfl
        · rw [if_neg (by omega), if_neg (by omega)]; rfl
    rw [e]; omega
def cpr (x : Rat) : List (Rat → Int) → Int
  | [] => 1
  | s :: S => -s x * cpr x S
theorem cpr_app (x : Rat) : ∀ a b, cpr x (a ++ b) = cpr x a * cpr x b
  | [], b => by show _ = 1 * _; rw [Int.one_mul]; rfl
  | s :: a, b => by show _ * cpr x (a ++ b) = _ * _ * _; rw [cpr_app x a b, Int.mul_assoc]
/-- a root lies in the closed piece -/
def inC (s : Rat → Int) (x y : Rat) : Prop := 0 ≤ s x ∧ s y ≤ 0
theorem keep_cut {s : Rat → Int} (h : Cut s) {x y : Rat} (hxy : x < y) (hn : ¬ inC s x y) : s x = s y ∧ (s x = 1 ∨ s x = -1) := by
  have h1 := h.u x
  have h2 := h.u y
  unfold inC at hn
  by_cases hx : s x ≤ 0
  · have := h.m x y hxy hx
    rcases h1 with a | a | a <;> omega
  · rcases h1 with a | a | a
    · rcases h2 with b | b | b <;> omega
    · omega
    · omega
theorem keep_all {x y : Rat} (hxy : x < y) : ∀ {S : List (Rat → Int)}, (∀ s ∈ S, Cut s) → (∀ s ∈ S, ¬ inC s x y) → cpr x S = cpr y S ∧ (cpr x S = 1 ∨ cpr x S = -1) ∧ cnt S x y = 0
  | [], _, _ => ⟨rfl, .inl rfl, rfl⟩
  | s :: S, h, hn => by
    obtain ⟨i1, i2, i3⟩ := keep_all hxy (S := S) (fun t ht => h t (List.mem_cons_of_mem _ ht)) fun t ht => hn t (List.mem_cons_of_mem _ ht)
    obtain ⟨a1, a2⟩ := keep_cut (h s (List.mem_cons_self ..)) hxy (hn s (List.mem_cons_self ..))
    refine ⟨by show -s x * cpr x S = -s y * cpr y S; rw [a1, i1], ?_, ?_⟩
    · show -s x * cpr x S = 1 ∨ -s x * cpr x S = -1
      rcases a2 with z | z <;> rcases i2 with w | w <;> rw [z, w] <;> decide
    · rw [cnt_cons, i3, if_neg (by omega)]; rfl
theorem cnt_app (x y : Rat) : ∀ a b, cnt (a ++ b) x y = cnt a x y + cnt b x y
  | [], b => by rw [cnt_nil]; simp
  | s :: a, b => by rw [List.cons_append, cnt_cons, cnt_cons, cnt_app x y a b]; omega
/-- on a short piece the change of sign tells the root -/
theorem chg_cnt {f : Rat → Rat} {S : List (Rat → Int)} {ε : Int} (hε : ε = 1 ∨ ε = -1) (hS : ∀ s ∈ S, Cut s) {x y : Rat} (hxy : x < y) (hx : sgR (f x) = ε * cpr x S) (hy : sgR (f y) = ε * cpr y S) (hp : S.Pairwise fun s t => ¬ (inC s x y ∧ inC t x y)) : chg f x y = cnt S x y := by
  by_cases hall : ∀ s ∈ S, ¬ inC s x y
  · obtain ⟨k1, k2, k3⟩ := keep_all hxy hS hall
    rw [k3]
    unfold chg
    rw [if_neg]
    rintro ⟨_, h2⟩
    exact h2 (by rw [hx, hy, k1])
  · obtain ⟨s, hs, hin⟩ : ∃ s, s ∈ S ∧ inC s x y := by
      refine Classical.byContradiction fun z => hall fun s hs hi => z ⟨s, hs, hi⟩
    obtain ⟨pre, post, rfl⟩ := List.append_of_mem hs
    have hno : ∀ t ∈ pre ++ post, ¬ inC t x y := fun t ht hi => by
      rw [List.pairwise_append] at hp
      rcases List.mem_append.mp ht with z | z
      · exact hp.2.2 t z s (List.mem_cons_self ..) ⟨hi, hin⟩
      · exact (List.pairwise_cons.mp hp.2.1).1 t z ⟨hin, hi⟩
    have hS' : ∀ t ∈ pre ++ post, Cut t := fun t ht => hS t (by
      rcases List.mem_append.mp ht with z | z
      · exact List.mem_append_left _ z
      · exact List.mem_append_right _ (List.mem_cons_of_mem _ z))
    obtain ⟨k1, k2, k3⟩ := keep_all hxy hS' hno
    have hc := hS s hs
    have e1 : ∀ z, cpr z (pre ++ s :: post) = cpr z (pre ++ post) * -s z := fun z => by
      rw [cpr_app, cpr_app]
      show cpr z pre * (-s z * cpr z post) = _
      rw [Int.mul_comm (-s z), Int.mul_assoc]
    have e2 : cnt (pre ++ s :: post) x y = (if 0 < s x ∧ s y ≤ 0 then 1 else 0) := by
      rw [cnt_app, cnt_cons]
      rw [cnt_app] at k3
      omega
    rw [e1] at hx hy
    rw [← k1] at hy
    rw [e2]
    unfold inC at hin
    have h1 := hc.u x
    have h2 := hc.u y
    unfold chg
    rw [hx, hy]
    generalize cpr x (pre ++ post) = c at *
    have hs0 : s x = 0 → s y = -1 := fun z => hc.m x y hxy (by omega)
    rcases h1 with a | a | a
    · rw [a]
      rcases h2 with b | b | b
      · omega
      · rw [b]
        rcases hε with rfl | rfl <;> rcases k2 with rfl | rfl <;> simp
      · rw [b]
        rcases hε with rfl | rfl <;> rcases k2 with rfl | rfl <;> simp
    · rw [a]
      simp
    · omega
theorem arch (q : Rat) : ∃ n : Nat, q ≤ (n : Rat) := by
  refine ⟨q.ceil.toNat, Rat.le_trans (Rat.le_ceil (x := q)) ?_⟩
  have h : q.ceil ≤ (q.ceil.toNat : Int) := Int.self_le_toNat _
  have h2 := Rat.intCast_le_intCast.mpr h
  exact h2
theorem nat_pow (n : Nat) : (n : Rat) ≤ 2 ^ n := by
  induction n with
  | zero => decide
  | succ n ih =>
    have h1 : ((1 : Nat) : Rat) ≤ 2 ^ n := by
      have : (1 : Nat) ≤ 2 ^ n := Nat.pow_pos (by decide)
      have h2 : ((1 : Nat) : Rat) ≤ ((2 ^ n : Nat) : Rat) := Rat.natCast_le_natCast.mpr this
      rwa [Rat.natCast_pow] at h2
    rw [Rat.pow_succ, Rat.natCast_add]
    grind
/-- from short pieces to all -/
theorem by_halves {V : Rat → Int} {S : List (Rat → Int)} (hS : ∀ s ∈ S, Cut s) {R δ : Rat} (hδ : 0 < δ) (h : ∀ x y, Bd R x → Bd R y → x < y → y - x ≤ δ → V x - V y = cnt S x y) : ∀ (n : Nat) (x y : Rat), Bd R x → Bd R y → x < y → y - x ≤ 2 ^ n * δ → V x - V y = cnt S x y
  | 0, x, y, hx, hy, hxy, hd => h x y hx hy hxy (by rw [Rat.pow_zero] at hd; grind)
  | n + 1, x, y, hx, hy, hxy, hd => by
    have m1 : x < (x + y) / 2 := by grind
    have m2 : (x + y) / 2 < y := by grind
    have hm : Bd R ((x + y) / 2) := by
      obtain ⟨a, b⟩ := hx
      obtain ⟨c, d⟩ := hy
      constructor <;> grind
    rw [Rat.pow_succ] at hd
    have i1 := by_halves hS hδ h n x ((x + y) / 2) hx hm m1 (by grind)
    have i2 := by_halves hS hδ h n ((x + y) / 2) y hm hy m2 (by grind)
    rw [cnt_add m1 m2 hS]
    omega
theorem sturm_count {F0 F1 : List Int} {r : List (List Int)} (h : SRow (F0 :: F1 :: r)) {γ : Rat} (hγ : 0 < γ) (hd : ∀ x, pv (slopeL F0) x = γ * pv F1 x) {S : List (Rat → Int)} (hS : ∀ s ∈ S, Cut s) {ε : Int} (hε : ε = 1 ∨ ε = -1) (hf : ∀ x, sgR (pv F0 x) = ε * cpr x S)
    {δ0 : Rat} (hδ0 : 0 < δ0) (hp : ∀ x y, x < y → y - x ≤ δ0 → S.Pairwise fun s t => ¬ (inC s x y ∧ inC t x y)) {x y : Rat} (hxy : x < y) : vrs (F0 :: F1 :: r) x - vrs (F0 :: F1 :: r) y = cnt S x y := by
  obtain ⟨R, hR, hx, hy⟩ : ∃ R : Rat, 0 ≤ R ∧ Bd R x ∧ Bd R y := by
    have ab : ∀ v : Rat, ∃ w : Rat, 0 ≤ w ∧ Bd w v := fun v => by
      rcases Rat.le_total (a := 0) (b := v) with z | z
      · exact ⟨v, z, by grind, by grind⟩
      · exact ⟨-v, by grind, by grind, by grind⟩
    obtain ⟨u, u0, u1⟩ := ab x
    obtain ⟨v, v0, v1⟩ := ab y
    exact ⟨u + v, by grind, u1.mono (by grind), v1.mono (by grind)⟩
  obtain ⟨δ1, d1, l1⟩ := sturm_piece h hγ hd hR
  obtain ⟨δ, hδ, g1, g2⟩ : ∃ δ : Rat, 0 < δ ∧ δ ≤ δ0 ∧ δ ≤ δ1 := by
    rcases Rat.le_total (a := δ0) (b := δ1) with z | z
    · exact ⟨δ0, hδ0, Rat.le_refl, z⟩
    · exact ⟨δ1, d1, z, Rat.le_refl⟩
  obtain ⟨n, hn⟩ := arch ((y - x) / δ)
  refine by_halves hS hδ (R := R) (fun x y hx hy hxy hdd => ?_) n x y hx hy hxy ?_
  · rw [l1 x y hx hy hxy (by grind)]
    exact chg_cnt hε hS hxy (hf x) (hf y) (hp x y hxy (by grind))
  · have h1 : (y - x) / δ ≤ 2 ^ n := Rat.le_trans hn (nat_pow n)
    have h2 := Rat.mul_le_mul_of_nonneg_right h1 (Rat.le_of_lt hδ)
    rwa [Rat.div_mul_cancel (by grind)] at h2
/-! values at a fraction -/
theorem int_ne {n : Int} (hn : n ≠ 0) : (n : Rat) ≠ 0 := fun z => hn (Rat.intCast_inj.mp (show ((n : Int) : Rat) = ((0 : Int) : Rat) by rw [z]; rfl))
theorem num_den (q : Rat) : (q.num : Rat) = q * ((q.den : Int) : Rat) := by
  have hd : ((q.den : Int) : Rat) ≠ 0 := int_ne (by have := q.den_pos; omega)
  have hx : (q.num : Rat) / ((q.den : Int) : Rat) = q := by
    have := Rat.mkRat_self q
    rw [Rat.mkRat_eq_div] at this
    exact this
  have := Rat.div_mul_cancel (a := (q.num : Rat)) hd
  rw [hx] at this
  exact this.symm
theorem rat_div {t n : Int} (hn : 0 < n) : ((t : Rat) / (n : Rat)).num * n = t * (((t : Rat) / (n : Rat)).den : Int) := by
  have hn' : (n : Rat) ≠ 0 := int_ne (by omega)
  have hq : (t : Rat) / (n : Rat) * (n : Rat) = (t : Rat) := Rat.div_mul_cancel hn'
  generalize (t : Rat) / (n : Rat) = q at hq ⊢
  apply Rat.intCast_inj.mp
  rw [Rat.intCast_mul, Rat.intCast_mul, num_den q, ← hq]
  grind
theorem rat_lt {t n t' n' : Int} (hn : 0 < n) (hn' : 0 < n') : (t : Rat) / (n : Rat) < (t' : Rat) / (n' : Rat) ↔ t * n' < t' * n := by
  have p1 : (0 : Rat) < (n : Rat) := Rat.intCast_lt_intCast.mpr hn
  have p2 : (0 : Rat) < (n' : Rat) := Rat.intCast_lt_intCast.mpr hn'
  have e1 : (t : Rat) / (n : Rat) * (n : Rat) = (t : Rat) := Rat.div_mul_cancel (by grind)
  have e2 : (t' : Rat) / (n' : Rat) * (n' : Rat) = (t' : Rat) := Rat.div_mul_cancel (by grind)
  generalize (t : Rat) / (n : Rat) = q at e1 ⊢
  generalize (t' : Rat) / (n' : Rat) = q' at e2 ⊢
  rw [← Rat.intCast_lt_intCast, Rat.intCast_mul, Rat.intCast_mul, ← e1, ← e2]
  have p3 := Rat.mul_pos p1 p2
  have e3 : q * (n : Rat) * (n' : Rat) = q * ((n : Rat) * (n' : Rat)) := by grind
  have e4 : q' * (n' : Rat) * (n : Rat) = q' * ((n : Rat) * (n' : Rat)) := by grind
  rw [e3, e4]
  constructor
  · intro h; exact Rat.mul_lt_mul_of_pos_right h p3
  · intro h
    refine Rat.not_le.mp fun z => ?_
    have := Rat.mul_le_mul_of_nonneg_right z (Rat.le_of_lt p3)
    grind
theorem sgR_pos_mul {p v : Rat} (hp : 0 < p) : sgR (p * v) = sgR v := by
  rcases sgR_cases v with ⟨a, b⟩ | ⟨a, b⟩ | ⟨a, b⟩
  · have : p * v < 0 := by
      have := Rat.mul_pos hp (show 0 < -v by grind); grind
    rcases sgR_cases (p * v) with ⟨_, d⟩ | ⟨c, d⟩ | ⟨c, d⟩
    · rw [b, d]
    · grind
    · grind
  · rw [a]
    have : p * 0 = 0 := by grind
    rw [this]
  · have := Rat.mul_pos hp a
    rcases sgR_cases (p * v) with ⟨c, d⟩ | ⟨c, d⟩ | ⟨_, d⟩
    · grind
    · grind
    · rw [b, d]
theorem sgR_int (z : Int) : sgR (z : Rat) = sg z := by
  rcases sgR_cases (z : Rat) with ⟨a, b⟩ | ⟨a, b⟩ | ⟨a, b⟩
  · have : z < 0 := Rat.intCast_lt_intCast.mp a
    rw [b]; unfold sg; rw [if_pos this]
  · have : z = 0 := Rat.intCast_inj.mp a
    rw [this]; rfl
  · have : 0 < z := Rat.intCast_lt_intCast.mp a
    rw [b]; unfold sg; rw [if_neg (by omega), if_pos this]
theorem hv_pv {t n : Int} (hn : 0 < n) : ∀ l : List Int, (hv t n l : Rat) = (n : Rat) ^ l.length * pv l ((t : Rat) / (n : Rat))
  | [] => by show ((0 : Int) : Rat) = _ * 0; grind
  | c :: l => by
    have hn' : (n : Rat) ≠ 0 := int_ne (by omega)
    have hq : (t : Rat) / (n : Rat) * (n : Rat) = (t : Rat) := Rat.div_mul_cancel hn'
    rw [hv_cons, Rat.intCast_add, Rat.intCast_mul, Rat.intCast_mul, hv_pv hn l, Rat.intCast_pow]
    show _ = (n : Rat) ^ (l.length + 1) * ((c : Rat) + (t : Rat) / (n : Rat) * pv l ((t : Rat) / (n : Rat)))
    rw [Rat.pow_succ]
    generalize hqq : (t : Rat) / (n : Rat) = q at *
    rw [← hq]
    grind
theorem sg_hv {t n : Int} (hn : 0 < n) (l : List Int) : sg (hv t n l) = sgR (pv l ((t : Rat) / (n : Rat))) := by
  rw [← sgR_int, hv_pv hn]
  exact sgR_pos_mul (Rat.pow_pos (Rat.intCast_lt_intCast.mpr hn))
end RM

/-! the row of a product of unlike factors counts its roots (behind MathSturm2, MathSpotN, MathSq2, MathRow2) -/
namespace RM
/-- no common part but numbers -/
def Cop2 (a b : List Int) : Prop := ∀ d, d ≠ [] → Tr d → Dv d a → Dv d b → d.length ≤ 1
theorem nxt_scale {one other : List Int} (ho : other ≠ []) : ∀ n, divF one other * cf one n = mulc (divQ one other) other n - (gcdL (subL [] (divR one other)) : Int) * cf (nxt one other) n := fun n => by
  have h1 := div_eqn (a := one) ho n
  have e : nxt one other = shrL (subL [] (divR one other)) := by unfold nxt rst; rw [if_neg ho]
  have h2 := congrArg (fun l => cf l n) (shr_scale (l := subL [] (divR one other)))
  simp only [cf_scL] at h2
  have h3 : cf (subL [] (divR one other)) n = -cf (divR one other) n := by
    rw [subL_nil (div_trR _ _), cf_scL]; omega
  rw [e, h2, h3, h1]; omega
theorem tr_nxt (one other : List Int) : Tr (nxt one other) := by
  unfold nxt
  exact tr_shrL (by unfold subL; exact tr_trim _)
theorem nxt_len {one other : List Int} (ho : other ≠ []) : (nxt one other).length < other.length := by
  have h1 := div_lenR (a := one) ho
  unfold nxt rst
  rw [if_neg ho, subL_nil (div_trR _ _)]
  have h2 : (shrL (scL (-1) (divR one other))).length ≤ (scL (-1) (divR one other)).length := by
    unfold shrL; rw [List.length_map]; exact Nat.le_refl _
  rw [length_scL] at h2
  omega
theorem len_one {l : List Int} (h : l.length ≤ 1) (hne : l ≠ []) : ∃ c, l = [c] := List.length_eq_one_iff.mp (by have := List.length_pos_iff.mpr hne; omega)
theorem row_st : ∀ (n : Nat) (one other : List Int), other.length ≤ n → Tr one → one ≠ [] → Tr other → Cop2 one other → SRow (rowS (n + 1) one other)
  | 0, one, other, hl, to, no, tt, hc => by
    have e0 : other = [] := List.eq_nil_of_length_eq_zero (Nat.le_zero.mp hl)
    subst e0
    have h1 := hc one no to (Dv.refl _) (Dv.nil _)
    obtain ⟨c, rfl⟩ := len_one h1 no
    show SRow (if ([c] : List Int) = [] then _ else [c] :: rowS 0 [] (nxt [c] []))
    rw [if_neg no]
    exact .last (tr_snoc (r := []) |>.mp to)
  | n + 1, one, other, hl, to, no, tt, hc => by
    have e : rowS (n + 1 + 1) one other = one :: rowS (n + 1) other (nxt one other) := by show (if one = [] then _ else _) = _; rw [if_neg no]
    rw [e]
    by_cases ho : other = []
    · subst ho
      have h1 := hc one no to (Dv.refl _) (Dv.nil _)
      obtain ⟨c, rfl⟩ := len_one h1 no
      rw [rowS_nil]
      exact .last (tr_snoc (r := []) |>.mp to)
    have hs := nxt_scale (one := one) ho
    have hlen := nxt_len (one := one) ho
    have tn := tr_nxt one other
    have fp : 0 < divF one other := divF_pos ho tt
    by_cases hn : nxt one other = []
    · -- the second one divides the first
      have hdv : Dv other one := ⟨divF one other, divQ one other, by omega, fun k => by rw [hs k, hn, cf_nil]; omega⟩
      have h1 := hc other ho tt hdv (Dv.refl _)
      obtain ⟨c, rfl⟩ := len_one h1 ho
      rw [hn, rowS_len_one ho (by omega)]
      exact .two (tr_snoc (r := []) |>.mp tt)
    · have hc2 : Cop2 other (nxt one other) := fun d dn dt h1 h2 => by
        refine hc d dn dt ?_ h1
        refine Dv.up (f := divF one other) (q := divQ one other) (r := scL (-(gcdL (subL [] (divR one other)) : Int)) (nxt one other)) (by omega) (fun k => ?_) h1 ?_
        · rw [hs k, cf_scL, Int.neg_mul]; omega
        · exact Dv.prop_right (x := 1) (y := -(gcdL (subL [] (divR one other)) : Int)) (by decide) (fun k => by rw [cf_scL]; omega) h2
      have ih := row_st n other (nxt one other) (by omega) tt ho tn hc2
      have e2 : rowS (n + 1) other (nxt one other) = other :: rowS n (nxt one other) (nxt other (nxt one other)) := by show (if other = [] then _ else _) = _; rw [if_neg ho]
      have n1 : 0 < n := by
        have := List.length_pos_iff.mpr hn
        omega
      obtain ⟨m, rfl⟩ : ∃ m, n = m + 1 := ⟨n - 1, by omega⟩
      have e3 : rowS (m + 1) (nxt one other) (nxt other (nxt one other)) = nxt one other :: rowS m (nxt other (nxt one other)) (nxt (nxt one other) (nxt other (nxt one other))) := by show (if nxt one other = [] then _ else _) = _; rw [if_neg hn]
      rw [e2, e3] at ih ⊢
      have gp : 0 < (gcdL (subL [] (divR one other)) : Int) := by
        rcases Nat.eq_zero_or_pos (gcdL (subL [] (divR one other))) with z | z
        · exfalso
          apply hn
          refine nil_of_cf tn fun k => ?_
          have e : nxt one other = shrL (subL [] (divR one other)) := by unfold nxt rst; rw [if_neg ho]
          rw [e]
          unfold shrL
          rw [z]
          unfold cf
          simp [List.getD]
          cases (subL [] (divR one other))[k]? with
          | none => rfl
          | some v => simp
        · omega
      refine .cons (q := divQ one other) (α := (divF one other : Rat)) (β := ((gcdL (subL [] (divR one other)) : Int) : Rat)) (Rat.intCast_lt_intCast.mpr fp) (Rat.intCast_lt_intCast.mpr gp) (fun x => ?_) ih
      have h1 := pv_sc (a := one) (c := scL (divF one other) one) (u := divF one other) x fun k => cf_scL _ _ _
      have h2 := pv_mul x (divQ one other) other (mulL (divQ one other) other) (cf_mulL _ _)
      have h3 := pv_lin' (a := mulL (divQ one other) other) (b := nxt one other) (c := scL (divF one other) one) (u := 1) (v := -(gcdL (subL [] (divR one other)) : Int)) x fun k => by rw [cf_scL, hs k, cf_mulL, Int.neg_mul]; omega
      rw [← h1, h3, h2, Rat.intCast_neg]
      show ((1 : Int) : Rat) * _ + _ = _
      grind
/-! a product of unlike factors has no squares -/
theorem prod_prd {ss : List (List Int)} (h : ∀ s ∈ ss, Pri s) : prodL [1] ss = prd ss := by
  unfold prodL
  rw [foldl_prd, one_mul _ (prd_pln ss fun s hs => (h s hs).pln).tr]
theorem facN_pri {f : List Int} (h : FacG f) : Pri (shpQ f) := by
  obtain ⟨u, e, b, rfl, _, _, _, _, h5, _, h7⟩ := h
  exact raw_pri h5 h7
def useOf (fs : List (List Int)) : List (List Int × Nat) := fs.map fun f => (shpQ f, 1)
theorem useOf_ok {fs : List (List Int)} (hF : ∀ f ∈ fs, FacG f) (hn : (fs.map shpQ).Nodup) : Use (useOf fs) := by
  refine ⟨fun p hp => ?_, fun p hp => ?_, ?_⟩
  · obtain ⟨f, hf, rfl⟩ := List.mem_map.mp hp
    exact facN_pri (hF f hf)
  · obtain ⟨f, hf, rfl⟩ := List.mem_map.mp hp
    exact Nat.le_refl _
  · unfold useOf
    rw [List.map_map]
    exact hn
theorem useOf_whl {c : Int} {fs : List (List Int)} (hF : ∀ f ∈ fs, FacG f) : whl c (useOf fs) = mulL [c] (prodL [1] (fs.map shpQ)) := by
  unfold whl
  congr 1
  rw [prod_prd fun s hs => by obtain ⟨f, hf, rfl⟩ := List.mem_map.mp hs; exact facN_pri (hF f hf)]
  have e1 : fP id (useOf fs) = flt (useOf fs) := fP_congr _ fun p hp => by
    obtain ⟨f, hf, rfl⟩ := List.mem_map.mp hp; rfl
  rw [e1, flt_prd]
  congr 1
  unfold useOf
  rw [List.map_map]; rfl
theorem fP_zero : ∀ us : List (List Int × Nat), fP (fun _ => 0) us = [1]
  | [] => rfl
  | p :: us => by rw [fP_cons, fP_zero us]; rfl
theorem useOf_mor {fs : List (List Int)} : mor (useOf fs) 1 = [1] := by
  unfold mor
  rw [fP_congr (h := fun _ => 0) _ fun p hp => by obtain ⟨f, hf, rfl⟩ := List.mem_map.mp hp; rfl]
  exact fP_zero _
theorem prod_cop {c : Int} {fs : List (List Int)} (hF : ∀ f ∈ fs, FacG f) (hn : (fs.map shpQ).Nodup) (hc : c ≠ 0) (hl : (mulL [c] (prodL [1] (fs.map shpQ))).length ≤ 20) : Cop2 (mulL [c] (prodL [1] (fs.map shpQ))) (slopeL (mulL [c] (prodL [1] (fs.map shpQ)))) := fun d dn dt h1 h2 => by
  have U := useOf_ok hF hn
  have ew := useOf_whl (c := c) hF
  obtain ⟨tw, nw, _⟩ := whl_ok U hc
  have hcom := whole_com U hc (by rw [ew]; exact hl)
  rw [useOf_mor] at hcom
  rw [← ew] at h1 h2 hl
  have h3 := (com_ok (by rw [len_slope]; omega) tw (tr_slope tw)).all d h1 h2
  rw [hcom] at h3
  rcases Nat.lt_or_ge 1 d.length with z | z
  · have := Dv.short dn dt ((tr_snoc (r := [])).mpr (by decide)) (show ([1] : List Int).length < d.length from z) h3
    cases this
  · exact z
theorem shr_pos {l : List Int} (h : Tr l) (hne : l ≠ []) : 0 < (gcdL l : Int) ∧ Tr (shrL l) ∧ shrL l ≠ [] ∧ ∀ n, cf l n = (gcdL l : Int) * cf (shrL l) n := by
  have e := shr_scale (l := l)
  have ec : ∀ n, cf l n = (gcdL l : Int) * cf (shrL l) n := fun n => by
    have := congrArg (fun z => cf z n) e
    simp only [cf_scL] at this
    exact this.symm
  have hl : (shrL l).length = l.length := by unfold shrL; rw [List.length_map]
  refine ⟨?_, tr_shrL h, fun z => by rw [z] at hl; exact hne (List.eq_nil_of_length_eq_zero hl.symm), ec⟩
  rcases Nat.eq_zero_or_pos (gcdL l) with z | z
  · exfalso
    refine hne (nil_of_cf h fun k => ?_)
    rw [ec k, z]; simp
  · omega
theorem Cop2.shr {a b : List Int} (h : Cop2 a b) (ha : Tr a) (hna : a ≠ []) (hb : Tr b) : Cop2 (shrL a) (shrL b) := fun d dn dt h1 h2 => by
  obtain ⟨_, _, _, ea⟩ := shr_pos ha hna
  refine h d dn dt (Dv.prop_right (x := 1) (y := (gcdL a : Int)) (by decide) (fun n => by rw [ea n]; omega) h1) ?_
  by_cases hnb : b = []
  · rw [hnb]; exact Dv.nil _
  · obtain ⟨_, _, _, eb⟩ := shr_pos hb hnb
    exact Dv.prop_right (x := 1) (y := (gcdL b : Int)) (by decide) (fun n => by rw [eb n]; omega) h2
/-! roots as cuts -/
def sdR (l : List Int) (x : Rat) : Int := sideG l x.num x.den
theorem den_int (x : Rat) : 0 < (x.den : Int) := by have := x.den_pos; omega
theorem sdR_div (l : List Int) {t n : Int} (hn : 0 < n) : sdR l ((t : Rat) / (n : Rat)) = sideG l t n := by
  unfold sdR
  exact side_cross l (den_int _) hn (rat_div hn)
theorem sdR_cut {l : List Int} (h : Spt l) : Cut (sdR l) := by
  refine ⟨fun x => ?_, fun x y hxy hs => ?_⟩
  · rcases side_cases l x.num x.den with z | z | z
    · exact .inl z
    · exact .inr (.inl z)
    · exact .inr (.inr z)
  · exact side_less h (den_int x) (den_int y) ((Rat.lt_iff x y).mp hxy) hs
theorem cpr_spr (x : Rat) : ∀ ls : List (List Int), cpr x (ls.map sdR) = spr x.num x.den ls
  | [] => rfl
  | l :: ls => by show -sdR l x * _ = -sideG l x.num x.den * _; rw [cpr_spr x ls]; rfl
theorem div_self (x : Rat) : (x.num : Rat) / ((x.den : Int) : Rat) = x := by
  have := Rat.mkRat_self x
  rw [Rat.mkRat_eq_div] at this
  exact this
theorem apart_cut {l l' : List Int} (hl : Spt l) (hl' : Spt l') (h : Apart l l') {x y : Rat} (hxy : x < y) (hd : y - x ≤ 1 / 2 ^ 200) : ¬ (inC (sdR l) x y ∧ inC (sdR l') x y) := by
  rintro ⟨h1, h2⟩
  have hD : (0 : Rat) < 2 ^ 200 := Rat.pow_pos (by decide)
  have hDi : ((2 ^ 200 : Int) : Rat) = 2 ^ 200 := Rat.intCast_pow 2 200
  have f1 := Rat.floor_le (x * 2 ^ 200)
  have f2 := Rat.lt_floor_add_one (x * 2 ^ 200)
  rw [Rat.intCast_add] at f2
  have hd2 : (y - x) * 2 ^ 200 ≤ 1 := by
    have := Rat.mul_le_mul_of_nonneg_right hd (Rat.le_of_lt hD)
    rwa [Rat.div_mul_cancel (by grind)] at this
  have key : ∀ k : List Int, Spt k → inC (sdR k) x y → inS k ((x * 2 ^ 200).floor - 1) ((x * 2 ^ 200).floor - 1 + 128) (2 ^ 200) := fun k hk hi => by
    have hc := sdR_cut hk
    have eA : ((((x * 2 ^ 200).floor - 1 : Int)) : Rat) / ((2 ^ 200 : Int) : Rat) * 2 ^ 200 = ((x * 2 ^ 200).floor : Rat) - 1 := by
      rw [hDi, Rat.div_mul_cancel (by grind), Rat.intCast_sub]; rfl
    have eB : ((((x * 2 ^ 200).floor - 1 + 128 : Int)) : Rat) / ((2 ^ 200 : Int) : Rat) * 2 ^ 200 = ((x * 2 ^ 200).floor : Rat) - 1 + 128 := by
      rw [hDi, Rat.div_mul_cancel (by grind), Rat.intCast_add, Rat.intCast_sub]; rfl
    constructor
    · rw [← sdR_div k (by decide)]
      generalize ((((x * 2 ^ 200).floor - 1 : Int)) : Rat) / ((2 ^ 200 : Int) : Rat) = a at *
      have hax : a < x := by
        refine Rat.not_le.mp fun z => ?_
        have := Rat.mul_le_mul_of_nonneg_right z (Rat.le_of_lt hD)
        grind
      rcases Int.lt_or_le 0 (sdR k a) with w | w
      · exact w
      · have h3 := hc.m a x hax w
        have h4 := hi.1
        omega
    · rw [← sdR_div k (by decide)]
      generalize ((((x * 2 ^ 200).floor - 1 + 128 : Int)) : Rat) / ((2 ^ 200 : Int) : Rat) = b at *
      have hby : y < b := by
        refine Rat.not_le.mp fun z => ?_
        have := Rat.mul_le_mul_of_nonneg_right z (Rat.le_of_lt hD)
        have e1 : ((1 : Int) : Rat) = 1 := rfl
        grind
      have h3 := hc.m y b hby hi.2
      omega
  exact h _ _ _ (Int.le_refl _) rfl (key l hl h1) (key l' hl' h2)
def cntS (ls : List (List Int)) (t n t' n' : Int) : Int := (ls.map fun l => if 0 < sideG l t n ∧ sideG l t' n' ≤ 0 then (1 : Int) else 0).sum
theorem cnt_cntS {t n t' n' : Int} (hn : 0 < n) (hn' : 0 < n') : ∀ ls : List (List Int), cnt (ls.map sdR) ((t : Rat) / (n : Rat)) ((t' : Rat) / (n' : Rat)) = cntS ls t n t' n'
  | [] => rfl
  | l :: ls => by
    have ih := cnt_cntS (t := t) (t' := t') hn hn' ls
    rw [List.map_cons, cnt_cons, ih, sdR_div l hn, sdR_div l hn']
    unfold cntS
    rw [List.map_cons, List.sum_cons]
def sgv (row : List (List Int)) (t n : Int) : List Int := row.map fun f => sg (hv t n f)
theorem sgv_sgX {t n : Int} (hn : 0 < n) (row : List (List Int)) : sgv row t n = sgX row ((t : Rat) / (n : Rat)) := by
  unfold sgv sgX
  exact List.map_congr_left fun f _ => sg_hv hn f
theorem count_spots {c : Int} {fs : List (List Int)} (hF : ∀ f ∈ fs, FacG f) (hnd : (fs.map shpQ).Nodup) (hc : c ≠ 0) {P : List Int} (hP : P = mulL [c] (prodL [1] (fs.map shpQ))) (hl : P.length ≤ 20) {N : Nat} (hN : P.length ≤ N + 1) {t n t' n' : Int} (hn : 0 < n) (hn' : 0 < n') (hlt : t * n' < t' * n) :
    vr 0 (sgv (rowS (N + 1) (shrL P) (shrL (slopeL P))) t n) - vr 0 (sgv (rowS (N + 1) (shrL P) (shrL (slopeL P))) t' n') = cntS (spots fs) t n t' n' := by
  have hFQ : ∀ f ∈ fs, FacQ f := fun f hf => (hF f hf).q
  have U := useOf_ok hF hnd
  have ew := useOf_whl (c := c) hF
  obtain ⟨tP, nP, _⟩ := whl_ok U hc
  rw [ew, ← hP] at tP nP
  have cop := prod_cop hF hnd hc (by rw [← hP]; exact hl)
  rw [← hP] at cop
  have tS := tr_slope tP
  obtain ⟨g0, t0, n0, e0⟩ := shr_pos tP nP
  have copS := cop.shr tP nP tS
  have lS : (shrL (slopeL P)).length = P.length - 1 := by unfold shrL; rw [List.length_map, len_slope]
  have hst := row_st N (shrL P) (shrL (slopeL P)) (by omega) t0 n0 (tr_shrL tS) copS
  by_cases hs : slopeL P = []
  · -- a number
    have h1 : P.length ≤ 1 := by have := congrArg List.length hs; rw [len_slope] at this; simp at this; omega
    have hfs : fs = [] := by
      cases fs with
      | nil => rfl
      | cons f fs =>
        exfalso
        have hss : ∀ s ∈ (f :: fs).map shpQ, s ≠ [] ∧ Tr s := fun s h => by
          obtain ⟨x, hx, rfl⟩ := List.mem_map.mp h
          exact shpQ_ne (hFQ x hx)
        obtain ⟨p1, p2, p3⟩ := prodL_ok ((f :: fs).map shpQ) [1] (by simp) ((tr_snoc (r := [])).mpr (by decide)) hss
        have hl2 : 2 ≤ (shpQ f).length := by
          obtain ⟨u, e, b, rfl, hb⟩ := hFQ f (List.mem_cons_self ..)
          obtain ⟨_, l2⟩ := tr_rawQ (u := u) (e := e) hb
          show 2 ≤ (plainL (rawQ u e b)).length
          rw [plain_len]; exact l2
        have hsl : ∀ ss : List (List Int), (∀ s ∈ ss, s ≠ []) → ss.length ≤ sl ss := fun ss => by
          induction ss with
          | nil => intro _; exact Nat.le_refl _
          | cons s ss ih =>
            intro h
            have h1 := List.length_pos_iff.mpr (h s (List.mem_cons_self ..))
            have h2 := ih fun x hx => h x (List.mem_cons_of_mem _ hx)
            show ss.length + 1 ≤ s.length + sl ss
            omega
        have h3 := hsl (fs.map shpQ) fun s hs => (hss s (List.mem_cons_of_mem _ hs)).1
        have h4 : sl ((f :: fs).map shpQ) = (shpQ f).length + sl (fs.map shpQ) := rfl
        have h5 : P.length = (prodL [1] ((f :: fs).map shpQ)).length := by
          rw [hP, len_mulL (by simp) p1]
          show 1 + _ - 1 = _
          omega
        simp only [List.length_map, List.length_cons, List.length_nil] at p3 h3
        omega
    subst hfs
    have hr : rowS (N + 1) (shrL P) (shrL (slopeL P)) = [shrL P] := by
      have : shrL (slopeL P) = [] := by rw [hs]; rfl
      rw [this]
      exact rowS_len_one n0 (by omega)
    rw [hr]
    show vr 0 [_] - vr 0 [_] = 0
    rw [vr_zero, vr_zero]; rfl
  · obtain ⟨g1, t1, n1, e1⟩ := shr_pos tS hs
    have hN1 : 1 ≤ N := by
      have := List.length_pos_iff.mpr n1
      omega
    obtain ⟨M, rfl⟩ : ∃ M, N = M + 1 := ⟨N - 1, by omega⟩
    have er : rowS (M + 1 + 1) (shrL P) (shrL (slopeL P)) = shrL P :: shrL (slopeL P) :: rowS M (nxt (shrL P) (shrL (slopeL P))) (nxt (shrL (slopeL P)) (nxt (shrL P) (shrL (slopeL P)))) := by
      show (if shrL P = [] then _ else shrL P :: (if shrL (slopeL P) = [] then _ else _)) = _
      rw [if_neg n0, if_neg n1]
    rw [er] at hst ⊢
    have g0' : (0 : Rat) < ((gcdL P : Int) : Rat) := Rat.intCast_lt_intCast.mpr g0
    have g1' : (0 : Rat) < ((gcdL (slopeL P) : Int) : Rat) := Rat.intCast_lt_intCast.mpr g1
    have hd : ∀ x, pv (slopeL (shrL P)) x = ((gcdL (slopeL P) : Int) : Rat) / ((gcdL P : Int) : Rat) * pv (shrL (slopeL P)) x := fun x => by
      have h1 := pv_sc (a := slopeL (shrL P)) (c := slopeL P) (u := (gcdL P : Int)) x fun k => by rw [cf_slope, cf_slope, e0 (k + 1)]; grind
      have h2 := pv_sc (a := shrL (slopeL P)) (c := slopeL P) (u := (gcdL (slopeL P) : Int)) x e1
      have h3 : ((gcdL (slopeL P) : Int) : Rat) / ((gcdL P : Int) : Rat) * ((gcdL P : Int) : Rat) = ((gcdL (slopeL P) : Int) : Rat) := Rat.div_mul_cancel (by grind)
      rw [h1] at h2
      have h4 : ((gcdL P : Int) : Rat) * pv (slopeL (shrL P)) x = ((gcdL P : Int) : Rat) * (((gcdL (slopeL P) : Int) : Rat) / ((gcdL P : Int) : Rat) * pv (shrL (slopeL P)) x) := by
        rw [h2]
        generalize ((gcdL (slopeL P) : Int) : Rat) / ((gcdL P : Int) : Rat) = w at *
        rw [← h3]; grind
      generalize pv (slopeL (shrL P)) x = u at *
      generalize ((gcdL (slopeL P) : Int) : Rat) / ((gcdL P : Int) : Rat) * pv (shrL (slopeL P)) x = v at *
      have h5 : ((gcdL P : Int) : Rat) * (u - v) = 0 := by grind
      rcases Rat.mul_eq_zero.mp h5 with z | z
      · grind
      · grind
    have hS : ∀ s ∈ (spots fs).map sdR, Cut s := fun s hs => by
      obtain ⟨l, hl, rfl⟩ := List.mem_map.mp hs
      exact sdR_cut (spots_spt hFQ hl)
    have hsg : sg c = 1 ∨ sg c = -1 := by
      rcases Int.lt_or_gt_of_ne hc with z | z
      · right; unfold sg; rw [if_pos z]
      · left; unfold sg; rw [if_neg (by omega), if_pos z]
    have hf : ∀ x, sgR (pv (shrL P) x) = sg c * cpr x ((spots fs).map sdR) := fun x => by
      have h1 := prod_sign (t := x.num) (n := x.den) (c := c) (den_int x) hFQ
      rw [← hP, sg_hv (den_int x), div_self] at h1
      rw [cpr_spr, ← h1, pv_sc (a := shrL P) (c := P) (u := (gcdL P : Int)) x e0, sgR_pos_mul g0']
    have hap := spots_apart hF hnd
    have hp : ∀ x y : Rat, x < y → y - x ≤ 1 / 2 ^ 200 → ((spots fs).map sdR).Pairwise fun s t => ¬ (inC s x y ∧ inC t x y) := fun x y hxy hdd => by
      rw [List.pairwise_map]
      exact hap.imp_of_mem fun {l l'} hl hl' h => apart_cut (spots_spt hFQ hl) (spots_spt hFQ hl') h hxy hdd
    have := sturm_count hst (rdiv_pos g1' g0') hd hS hsg hf (rdiv_pos (by decide) (Rat.pow_pos (by decide))) hp ((rat_lt hn hn').mpr hlt)
    rw [cnt_cntS hn hn'] at this
    rw [sgv_sgX hn, sgv_sgX hn']
    exact this
end RM

open PySem.W in
local macro_rules | `(tactic| walk_at "comp_ok") => `(tactic| exact ⟨by with_unfolding_all rfl, by decide +kernel, rfl, by decide +kernel, by repeat' (first | exact List.forall_mem_nil _ | refine List.forall_mem_cons.2 ⟨rfl, ?_⟩), by rfl, by repeat' (first | exact .nil | refine .cons ⟨rfl, by first | exact Or.inl rfl | exact Or.inr rfl, rfl⟩ ?_)⟩)

namespace R24
open PySem L2 RM
def top (i : Nat) : Stmt := PySem.Challenge.pw_rootspan_k24_whole_counts.main.body.getD i (.Pass ⟨0, 0, 0, 0⟩)
abbrev s_shared : Stmt := top 6
abbrev s_shared_by_two : Stmt := top 7
abbrev s_whole_sign : Stmt := top 8
abbrev s_Ratio___init__ : Stmt := inClass (top 9) 0
abbrev s_poly : Stmt := top 11
abbrev s_degree : Stmt := top 12
abbrev s_taken : Stmt := top 13
abbrev s_coefficient : Stmt := top 14
abbrev s_slope : Stmt := top 15
abbrev s_shrunk : Stmt := top 16
abbrev s_value_parts : Stmt := top 17
abbrev s_sign_at : Stmt := top 18
abbrev s_divided : Stmt := top 20
abbrev s_scaled : Stmt := top 21
abbrev s_lowered : Stmt := top 22
abbrev s_row_of : Stmt := top 24
abbrev s_row_from : Stmt := top 25
abbrev s_changes : Stmt := top 26
abbrev s_count : Stmt := top 27
abbrev s__law_cell_at : Stmt := top 29
abbrev s__law_whole : Stmt := top 30
abbrev s__law_within : Stmt := top 31
abbrev s__law_trim : Stmt := top 32
abbrev s__law_mul : Stmt := top 33
abbrev s__law_gcd : Stmt := top 34
abbrev s__law_shrunk : Stmt := top 35
abbrev s__law_plain : Stmt := top 36
abbrev s__law_factor_by : Stmt := top 37
abbrev s__law_shape : Stmt := top 38
abbrev s__law_factors_by : Stmt := top 39
abbrev s__law_product : Stmt := top 40
abbrev s__law_sure : Stmt := top 41
abbrev s__law_side : Stmt := top 42
abbrev s__law_roots_of : Stmt := top 43
abbrev s__law_rest : Stmt := top 44
abbrev s__law_slope : Stmt := top 45
abbrev s__law_part : Stmt := top 46
abbrev s__law_flat : Stmt := top 47
abbrev s__law_row : Stmt := top 48
abbrev s__law_changes : Stmt := top 49
abbrev s__law_any : Stmt := top 50
abbrev s__law_many : Stmt := top 51
abbrev s__law_end : Stmt := top 52
abbrev s_law : Stmt := top 53
theorem sc_shared : FnScope ["row", "divisor", "value"] ["row"] (defScope s_shared) := ⟨rfl, rfl, rfl, by decide +kernel, rfl, by decide +kernel, by decide +kernel⟩
theorem sc_shared_by_two : FnScope ["one", "other", "greater", "less", "rest"] ["one", "other"] (defScope s_shared_by_two) := ⟨rfl, rfl, rfl, by decide +kernel, rfl, by decide +kernel, by decide +kernel⟩
theorem sc_whole_sign : FnScope ["value"] ["value"] (defScope s_whole_sign) := ⟨rfl, rfl, rfl, by decide +kernel, rfl, by decide +kernel, by decide +kernel⟩
theorem sc_Ratio___init__ : FnScope ["self", "top", "bottom", "divisor"] ["self", "top", "bottom"] (defScope s_Ratio___init__) := ⟨rfl, rfl, rfl, by decide +kernel, rfl, by decide +kernel, by decide +kernel⟩
theorem sc_poly : FnScope ["row", "length"] ["row"] (defScope s_poly) := ⟨rfl, rfl, rfl, by decide +kernel, rfl, by decide +kernel, by decide +kernel⟩
theorem sc_degree : FnScope ["row"] ["row"] (defScope s_degree) := ⟨rfl, rfl, rfl, by decide +kernel, rfl, by decide +kernel, by decide +kernel⟩
theorem sc_taken : FnScope ["first", "second", "length"] ["first", "second"] (defScope s_taken) := ⟨rfl, rfl, rfl, by decide +kernel, rfl, by decide +kernel, by decide +kernel⟩
theorem sc_coefficient : FnScope ["row", "place"] ["row", "place"] (defScope s_coefficient) := ⟨rfl, rfl, rfl, by decide +kernel, rfl, by decide +kernel, by decide +kernel⟩
theorem sc_slope : FnScope ["row"] ["row"] (defScope s_slope) := ⟨rfl, rfl, rfl, by decide +kernel, rfl, by decide +kernel, by decide +kernel⟩
theorem sc_shrunk : FnScope ["row", "divisor"] ["row"] (defScope s_shrunk) := ⟨rfl, rfl, rfl, by decide +kernel, rfl, by decide +kernel, by decide +kernel⟩
theorem sc_value_parts : FnScope ["row", "top", "bottom", "above", "below", "value"] ["row", "top", "bottom"] (defScope s_value_parts) := ⟨rfl, rfl, rfl, by decide +kernel, rfl, by decide +kernel, by decide +kernel⟩
theorem sc_sign_at : FnScope ["row", "ratio"] ["row", "ratio"] (defScope s_sign_at) := ⟨rfl, rfl, rfl, by decide +kernel, rfl, by decide +kernel, by decide +kernel⟩
theorem sc_divided : FnScope ["first", "second", "size", "sign", "steps", "factor", "quotient", "rest", "place", "lead"] ["first", "second"] (defScope s_divided) := ⟨rfl, rfl, rfl, by decide +kernel, rfl, by decide +kernel, by decide +kernel⟩
theorem sc_scaled : FnScope ["row", "factor"] ["row", "factor"] (defScope s_scaled) := ⟨rfl, rfl, rfl, by decide +kernel, rfl, by decide +kernel, by decide +kernel⟩
theorem sc_lowered : FnScope ["row", "second", "place", "lead", "kept", "k", "value"] ["row", "second", "place", "lead"] (defScope s_lowered) := ⟨rfl, rfl, rfl, by decide +kernel, rfl, by decide +kernel, by decide +kernel⟩
theorem sc_row_of : FnScope ["polynomial"] ["polynomial"] (defScope s_row_of) := ⟨rfl, rfl, rfl, by decide +kernel, rfl, by decide +kernel, by decide +kernel⟩
theorem sc_row_from : FnScope ["first", "second", "row", "one", "other", "rest"] ["first", "second"] (defScope s_row_from) := ⟨rfl, rfl, rfl, by decide +kernel, rfl, by decide +kernel, by decide +kernel⟩
theorem sc_changes : FnScope ["row", "ratio", "many", "before", "polynomial", "sign"] ["row", "ratio"] (defScope s_changes) := ⟨rfl, rfl, rfl, by decide +kernel, rfl, by decide +kernel, by decide +kernel⟩
theorem sc_count : FnScope ["row", "low", "high"] ["row", "low", "high"] (defScope s_count) := ⟨rfl, rfl, rfl, by decide +kernel, rfl, by decide +kernel, by decide +kernel⟩
theorem sc__law_cell_at : FnScope ["_law_script", "_law_k"] ["_law_script", "_law_k"] (defScope s__law_cell_at) := ⟨rfl, rfl, rfl, by decide +kernel, rfl, by decide +kernel, by decide +kernel⟩
theorem sc__law_whole : FnScope ["_law_found"] ["_law_found"] (defScope s__law_whole) := ⟨rfl, rfl, rfl, by decide +kernel, rfl, by decide +kernel, by decide +kernel⟩
theorem sc__law_within : FnScope ["_law_cell", "_law_most"] ["_law_cell", "_law_most"] (defScope s__law_within) := ⟨rfl, rfl, rfl, by decide +kernel, rfl, by decide +kernel, by decide +kernel⟩
theorem sc__law_trim : FnScope ["_law_row_here", "_law_size"] ["_law_row_here"] (defScope s__law_trim) := ⟨rfl, rfl, rfl, by decide +kernel, rfl, by decide +kernel, by decide +kernel⟩
theorem sc__law_mul : FnScope ["_law_kp", "_law_kq", "_law_made", "_law_i", "_law_one", "_law_j", "_law_other"] ["_law_kp", "_law_kq"] (defScope s__law_mul) := ⟨rfl, rfl, rfl, by decide +kernel, rfl, by decide +kernel, by decide +kernel⟩
theorem sc__law_gcd : FnScope ["_law_a", "_law_b", "_law_rest_here"] ["_law_a", "_law_b"] (defScope s__law_gcd) := ⟨rfl, rfl, rfl, by decide +kernel, rfl, by decide +kernel, by decide +kernel⟩
theorem sc__law_shrunk : FnScope ["_law_kp", "_law_most", "_law_one"] ["_law_kp"] (defScope s__law_shrunk) := ⟨rfl, rfl, rfl, by decide +kernel, rfl, by decide +kernel, by decide +kernel⟩
theorem sc__law_plain : FnScope ["_law_kp", "_law_made"] ["_law_kp"] (defScope s__law_plain) := ⟨rfl, rfl, rfl, by decide +kernel, rfl, by decide +kernel, by decide +kernel⟩
theorem sc__law_factor_by : FnScope ["_law_cell", "_law_most", "_law_u", "_law_b", "_law_n", "_law_e"] ["_law_cell", "_law_most"] (defScope s__law_factor_by) := ⟨rfl, rfl, rfl, by decide +kernel, rfl, by decide +kernel, by decide +kernel⟩
theorem sc__law_shape : FnScope ["_law_factor", "_law_u", "_law_b"] ["_law_factor"] (defScope s__law_shape) := ⟨rfl, rfl, rfl, by decide +kernel, rfl, by decide +kernel, by decide +kernel⟩
theorem sc__law_factors_by : FnScope ["_law_drawn", "_law_most", "_law_room", "_law_made", "_law_shapes", "_law_cell", "_law_one", "_law_shape_here"] ["_law_drawn", "_law_most", "_law_room"] (defScope s__law_factors_by) := ⟨rfl, rfl, rfl, by decide +kernel, rfl, by decide +kernel, by decide +kernel⟩
theorem sc__law_product : FnScope ["_law_factors", "_law_made", "_law_one"] ["_law_factors"] (defScope s__law_product) := ⟨rfl, rfl, rfl, by decide +kernel, rfl, by decide +kernel, by decide +kernel⟩
theorem sc__law_sure : FnScope ["_law_square", "_law_due"] ["_law_square", "_law_due"] (defScope s__law_sure) := ⟨rfl, rfl, rfl, by decide +kernel, rfl, by decide +kernel, by decide +kernel⟩
theorem sc__law_side : FnScope ["_law_spot", "_law_top", "_law_bottom", "_law_due", "_law_square"] ["_law_spot", "_law_top", "_law_bottom"] (defScope s__law_side) := ⟨rfl, rfl, rfl, by decide +kernel, rfl, by decide +kernel, by decide +kernel⟩
theorem sc__law_roots_of : FnScope ["_law_factors", "_law_made", "_law_one"] ["_law_factors"] (defScope s__law_roots_of) := ⟨rfl, rfl, rfl, by decide +kernel, rfl, by decide +kernel, by decide +kernel⟩
theorem sc__law_rest : FnScope ["_law_kp", "_law_kq", "_law_left", "_law_gap", "_law_top", "_law_k", "_law_one"] ["_law_kp", "_law_kq"] (defScope s__law_rest) := ⟨rfl, rfl, rfl, by decide +kernel, rfl, by decide +kernel, by decide +kernel⟩
theorem sc__law_slope : FnScope ["_law_kp"] ["_law_kp"] (defScope s__law_slope) := ⟨rfl, rfl, rfl, by decide +kernel, rfl, by decide +kernel, by decide +kernel⟩
theorem sc__law_part : FnScope ["_law_kp", "_law_kq", "_law_left", "_law_found", "_law_k", "_law_j", "_law_one"] ["_law_kp", "_law_kq"] (defScope s__law_part) := ⟨rfl, rfl, rfl, by decide +kernel, rfl, by decide +kernel, by decide +kernel⟩
theorem sc__law_flat : FnScope ["_law_kp", "_law_one", "_law_other"] ["_law_kp"] (defScope s__law_flat) := ⟨rfl, rfl, rfl, by decide +kernel, rfl, by decide +kernel, by decide +kernel⟩
theorem sc__law_row : FnScope ["_law_kp", "_law_row_here", "_law_other"] ["_law_kp"] (defScope s__law_row) := ⟨rfl, rfl, rfl, by decide +kernel, rfl, by decide +kernel, by decide +kernel⟩
theorem sc__law_changes : FnScope ["_law_row_here", "_law_spot", "_law_many_here", "_law_last", "_law_kp", "_law_total", "_law_scale", "_law_one"] ["_law_row_here", "_law_spot"] (defScope s__law_changes) := ⟨rfl, rfl, rfl, by decide +kernel, rfl, by decide +kernel, by decide +kernel⟩
theorem sc__law_any : FnScope ["_law_cell", "_law_row_here", "_law_left", "_law_k"] ["_law_cell"] (defScope s__law_any) := ⟨rfl, rfl, rfl, by decide +kernel, rfl, by decide +kernel, by decide +kernel⟩
theorem sc__law_many : FnScope ["_law_spots", "_law_low", "_law_high", "_law_many_here", "_law_spot", "_law_first"] ["_law_spots", "_law_low", "_law_high"] (defScope s__law_many) := ⟨rfl, rfl, rfl, by decide +kernel, rfl, by decide +kernel, by decide +kernel⟩
theorem sc__law_end : FnScope ["_law_cell", "_law_factors", "_law_most", "_law_known", "_law_one"] ["_law_cell", "_law_factors", "_law_most"] (defScope s__law_end) := ⟨rfl, rfl, rfl, by decide +kernel, rfl, by decide +kernel, by decide +kernel⟩
theorem sc_law : FnScope ["_law_script", "_law_most", "_law_factors", "_law_lead", "_law_kp", "_law_low", "_law_high", "_law_kept", "_law_due", "_law_handed", "_law_row_here", "_law_found", "_law_back"] ["_law_script"] (defScope s_law) := ⟨rfl, rfl, rfl, by decide +kernel, rfl, by decide +kernel, by decide +kernel⟩
structure Txt (K : PySem.W.Frag) (mg : Str → Option Value) : Prop where
  abs_ : mg "abs" = none
  len_ : mg "len" = none
  max_ : mg "max" = none
  range_ : mg "range" = none
  reversed_ : mg "reversed" = none
  list_ : mg "list" = none
  enumerate_ : mg "enumerate" = none
  isinstance_ : mg "isinstance" = none
  int_ : mg "int" = none
  bool_ : mg "bool" = none
def spLaw (K : PySem.W.Frag) : Sp := fun vs H Q _ => ∃ (a : Addr) (ns : List Int), vs = [.ref a] ∧ SqL K H a (ns.map V.int) ∧ ns.length ≤ 63 ∧ ∀ H', Q (.bl true) H'
section
variable {P : Program} {w : World} {K : PySem.W.Frag} {mg : Str → Option Value} {base : Heap}
theorem rep_zero (n : Nat) : (List.replicate n [V.int 0]).flatten = (List.replicate n (0 : Int)).map V.int := by
  induction n with
  | zero => rfl
  | succ n ih => rw [List.replicate_succ, List.flatten_cons, ih, List.replicate_succ]; rfl
theorem ixN_nat {n j : Nat} {i : Int} (e : i = j) (h : j < n) : ixN n i = some j := by
  subst e; unfold ixN; rw [if_pos (Int.natCast_nonneg _), if_pos (by omega)]; simp
theorem map_set_int (l : List Int) (j : Nat) (x : Int) : (l.map V.int).set j (.int x) = (l.set j x).map V.int := by rw [List.map_set]
theorem at_map {l : List Int} {j : Nat} {i : Int} (e : i = j) (h : j < l.length) : atI (l.map V.int) i = some (.int (cf l j)) := by
  subst e
  exact atI_nat (by rw [List.getElem?_map, get_cf h]; rfl)
/-- all but the thing at p is as it was -/
def SameB (p : Addr) (H H' : Hp) : Prop := ∀ b o, b ≠ p → H b = some o → H' b = some o
theorem SameB.refl (p : Addr) (H : Hp) : SameB p H H := fun _ _ _ h => h
theorem SameB.then_new {p q : Addr} {H H1 : Hp} {o : HO} (s : SameB p H H1) (h : H1 q = none) : SameB p H (upd H1 q o) := fun b u n e => by
  rw [upd_ne (ne_of_none (s b u n e) h)]; exact s b u n e
theorem SameB.then_upd {p : Addr} {H H1 : Hp} {o : HO} (s : SameB p H H1) : SameB p H (upd H1 p o) := fun b u n e => by
  rw [upd_ne n]; exact s b u n e
def AllB (k : Nat) (l : List Int) : Prop := ∀ x ∈ l, Bits k x
theorem AllB.cf {k : Nat} {l : List Int} (h : AllB k l) (n : Nat) : Bits k (cf l n) := by
  by_cases hn : n < l.length
  · rw [cf_lt hn]; exact h _ (List.getElem_mem hn)
  · rw [cf_ge (Nat.le_of_not_lt hn)]; exact Bits.zero
theorem mut_same {H H2 : Hp} {p : Addr} {o : HO} (s : Same H H2) (hp : H p = none) : Same H (upd H2 p o) := fun b u e => by rw [upd_ne (ne_of_none e hp)]; exact s b u e
theorem map_snoc (l : List Int) (x : Int) : l.map V.int ++ [V.int x] = (l ++ [x]).map V.int := by rw [List.map_append]; rfl
def cutL (ms : List Int) (lo hi : Option Int) : List Int := (ms.drop (HT.sIx ms.length 0 lo)).take (HT.sIx ms.length ms.length hi - HT.sIx ms.length 0 lo)
theorem cutV_map (ms : List Int) (lo hi : Option Int) : cutV (ms.map V.int) lo hi = (cutL ms lo hi).map V.int := by
  unfold cutV cutL
  rw [List.length_map, ← List.map_drop, ← List.map_take]
theorem cutL_mem {ms : List Int} {lo hi : Option Int} {x : Int} (h : x ∈ cutL ms lo hi) : x ∈ ms := List.mem_of_mem_drop (List.mem_of_mem_take h)
theorem cutL_len (ms : List Int) (lo hi : Option Int) : (cutL ms lo hi).length ≤ ms.length := by
  unfold cutL; rw [List.length_take, List.length_drop]; omega
theorem AllB.cut {k : Nat} {ms : List Int} {lo hi : Option Int} (h : AllB k ms) : AllB k (cutL ms lo hi) := fun x hx => h x (cutL_mem hx)
theorem AllB.app {k : Nat} {l r : List Int} (h1 : AllB k l) (h2 : AllB k r) : AllB k (l ++ r) := fun x hx => (List.mem_append.mp hx).elim (h1 x) (h2 x)
theorem AllB.zeros {k n : Nat} : AllB k (List.replicate n 0) := fun x hx => by rw [List.eq_of_mem_replicate hx]; exact Bits.zero
theorem AllB.mono {j k : Nat} {l : List Int} (h : AllB j l) (hk : j ≤ k) : AllB k l := fun x hx => (h x hx).mono hk
theorem AllB.nil {k : Nat} : AllB k [] := fun _ h => nomatch h
theorem AllB.snoc {k : Nat} {l : List Int} {x : Int} (h : AllB k l) (hx : Bits k x) : AllB k (l ++ [x]) := h.app fun y hy => by rw [List.mem_singleton.mp hy]; exact hx
theorem mem_trim {l : List Int} {x : Int} (h : x ∈ trim l) : x ∈ l := by
  unfold trim at h
  rw [List.mem_reverse] at h
  exact List.mem_reverse.mp ((List.dropWhile_sublist _).subset h)
theorem AllB.trim {k : Nat} {l : List Int} (h : AllB k l) : AllB k (trim l) := fun x hx => h x (mem_trim hx)
theorem get_int {l : List Int} {i : Nat} {x : V} (h : (l.map V.int)[i]? = some x) : ∃ c, l[i]? = some c ∧ x = .int c ∧ c ∈ l ∧ l.take (i + 1) = l.take i ++ [c] := by
  rw [List.getElem?_map] at h
  cases e : l[i]? with
  | none => rw [e] at h; cases h
  | some c => rw [e] at h; exact ⟨c, rfl, (Option.some.inj h).symm, List.mem_of_getElem? e, by rw [List.take_add_one, e]; rfl⟩
/-- a new list of ints is handed back, all else is as it was -/
def mkL (H : Hp) (Q : VK) (r : List Int) : Prop := ∀ (p : Addr) (H' : Hp), Same H H' → H p = none → H' p = some (.lst (r.map V.int)) → Q (.ref p) H'
def spTrim (K : PySem.W.Frag) : Sp := fun vs H Q _ => ∃ (a : Addr) (ns : List Int), vs = [.ref a] ∧ SqL K H a (ns.map V.int) ∧ mkL H Q (trim ns)
def spCell (K : PySem.W.Frag) : Sp := fun vs H Q _ => ∃ (a : Addr) (ns : List Int) (k : Nat), vs = [.ref a, .int k] ∧ SqL K H a (ns.map V.int) ∧ Q (.int (ns.getD k 0)) H
def sp2L (K : PySem.W.Frag) (g : List Int → List Int → List Int) : Sp := fun vs H Q _ => ∃ (a b : Addr) (xs ys : List Int), vs = [.ref a, .ref b] ∧ SqL K H a (xs.map V.int) ∧ SqL K H b (ys.map V.int) ∧ xs.length ≤ 1000000 ∧ ys.length ≤ 1000000 ∧ mkL H Q (g xs ys)
theorem max_eq (i j : Nat) : (if ((j : Nat) : Int) > ((i : Nat) : Int) then ((j : Nat) : Int) else ((i : Nat) : Int)) = ((max i j : Nat) : Int) := by split <;> omega
theorem small62 {n : Nat} (h : n ≤ sizeLine) : -(2 ^ 62) ≤ ((n : Nat) : Int) ∧ ((n : Nat) : Int) < 2 ^ 62 := by have := sizeLine_eq; omega
/-- at ps stand the lists of xss -/
def RwH (H : Hp) (ps : List Addr) (xss : List (List Int)) : Prop := ps.length = xss.length ∧ ∀ (i : Nat) (p : Addr) (xs : List Int), ps[i]? = some p → xss[i]? = some xs → H p = some (.lst (xs.map V.int))
theorem RwH.nil {H : Hp} : RwH H [] [] := ⟨rfl, fun i p xs h => by simp at h⟩
theorem RwH.same {H H' : Hp} {ps : List Addr} {xss : List (List Int)} (h : RwH H ps xss) (s : Same H H') : RwH H' ps xss := ⟨h.1, fun i p xs a b => s _ _ (h.2 i p xs a b)⟩
theorem RwH.snoc {H : Hp} {ps : List Addr} {xss : List (List Int)} {p : Addr} {xs : List Int} (h : RwH H ps xss) (hp : H p = some (.lst (xs.map V.int))) : RwH H (ps ++ [p]) (xss ++ [xs]) := by
  refine ⟨by rw [List.length_append, List.length_append, h.1]; rfl, fun i q ys a b => ?_⟩
  by_cases hi : i < ps.length
  · rw [List.getElem?_append_left hi] at a
    rw [List.getElem?_append_left (by rw [← h.1]; exact hi)] at b
    exact h.2 i q ys a b
  · rw [List.getElem?_append_right (by omega)] at a
    rw [List.getElem?_append_right (by rw [← h.1]; omega), ← h.1] at b
    by_cases h0 : i - ps.length = 0
    · rw [h0] at a b
      obtain rfl : p = q := by simpa using a
      obtain rfl : xs = ys := by simpa using b
      exact hp
    · rw [List.getElem?_eq_none_iff.mpr (by simp; omega)] at a
      cases a
theorem RwH.get {H : Hp} {ps : List Addr} {xss : List (List Int)} {i : Nat} (h : RwH H ps xss) (hi : i < xss.length) : ∃ p, ps[i]? = some p ∧ H p = some (.lst ((xss.getD i []).map V.int)) := by
  have hi' : i < ps.length := by rw [h.1]; exact hi
  refine ⟨ps[i], List.getElem?_eq_getElem hi', h.2 i _ _ (List.getElem?_eq_getElem hi') ?_⟩
  rw [List.getElem?_eq_getElem hi]; simp [List.getD, hi]
theorem RwH.of_get {H : Hp} {ps : List Addr} {xss : List (List Int)} {i : Nat} {x : V} (h : RwH H ps xss) (hx : (ps.map V.ref)[i]? = some x) : ∃ p xs, x = .ref p ∧ ps[i]? = some p ∧ xss[i]? = some xs ∧ H p = some (.lst (xs.map V.int)) ∧ i < xss.length := by
  rw [List.getElem?_map] at hx
  cases e : ps[i]? with
  | none => rw [e] at hx; cases hx
  | some p =>
    rw [e] at hx
    have hi : i < ps.length := (List.getElem?_eq_some_iff.mp e).1
    have hi' : i < xss.length := by rw [← h.1]; exact hi
    exact ⟨p, xss[i], (Option.some.inj hx).symm, rfl, List.getElem?_eq_getElem hi', h.2 i p _ e (List.getElem?_eq_getElem hi'), hi'⟩
theorem map_ref_snoc (ps : List Addr) (p : Addr) : ps.map V.ref ++ [V.ref p] = (ps ++ [p]).map V.ref := by rw [List.map_append]; rfl
theorem rd_name {i : Nat} {v : V} {σ : St} {H : Hp} {Q : St → Hp → Prop} (h : Q (σ.set i (some v)) H) : gName i v σ H Q := h
/-- at ps stand the tuples of xss -/
def TuH (H : Hp) (ps : List Addr) (xss : List (List Int)) : Prop := ps.length = xss.length ∧ ∀ (i : Nat) (p : Addr) (xs : List Int), ps[i]? = some p → xss[i]? = some xs → H p = some (.tup (xs.map V.int))
theorem TuH.nil {H : Hp} : TuH H [] [] := ⟨rfl, fun i p xs h => by simp at h⟩
theorem TuH.same {H H' : Hp} {ps : List Addr} {xss : List (List Int)} (h : TuH H ps xss) (s : Same H H') : TuH H' ps xss := ⟨h.1, fun i p xs a b => s _ _ (h.2 i p xs a b)⟩
theorem TuH.snoc {H : Hp} {ps : List Addr} {xss : List (List Int)} {p : Addr} {xs : List Int} (h : TuH H ps xss) (hp : H p = some (.tup (xs.map V.int))) : TuH H (ps ++ [p]) (xss ++ [xs]) := by
  refine ⟨by rw [List.length_append, List.length_append, h.1]; rfl, fun i q ys a b => ?_⟩
  by_cases hi : i < ps.length
  · rw [List.getElem?_append_left hi] at a
    rw [List.getElem?_append_left (by rw [← h.1]; exact hi)] at b
    exact h.2 i q ys a b
  · rw [List.getElem?_append_right (by omega)] at a
    rw [List.getElem?_append_right (by rw [← h.1]; omega), ← h.1] at b
    by_cases h0 : i - ps.length = 0
    · rw [h0] at a b
      obtain rfl : p = q := by simpa using a
      obtain rfl : xs = ys := by simpa using b
      exact hp
    · rw [List.getElem?_eq_none_iff.mpr (by simp; omega)] at a
      cases a
theorem TuH.of_get {H : Hp} {ps : List Addr} {xss : List (List Int)} {i : Nat} {x : V} (h : TuH H ps xss) (hx : (ps.map V.ref)[i]? = some x) : ∃ p xs, x = .ref p ∧ ps[i]? = some p ∧ xss[i]? = some xs ∧ H p = some (.tup (xs.map V.int)) ∧ i < xss.length := by
  rw [List.getElem?_map] at hx
  cases e : ps[i]? with
  | none => rw [e] at hx; cases hx
  | some p =>
    rw [e] at hx
    have hi : i < ps.length := (List.getElem?_eq_some_iff.mp e).1
    have hi' : i < xss.length := by rw [← h.1]; exact hi
    exact ⟨p, xss[i], (Option.some.inj hx).symm, rfl, List.getElem?_eq_getElem hi', h.2 i p _ e (List.getElem?_eq_getElem hi'), hi'⟩
theorem TuH.upd_lst {H : Hp} {ps : List Addr} {xss : List (List Int)} {a : Addr} {vs : List V} {o : HO} (h : TuH H ps xss) (ha : H a = some (.lst vs)) : TuH (upd H a o) ps xss := ⟨h.1, fun i p xs e1 e2 => by
  have e3 := h.2 i p xs e1 e2
  rw [L2.upd_ne (fun z => by rw [z, ha] at e3; cases e3)]; exact e3⟩
theorem RwH.upd_no {H : Hp} {ps : List Addr} {xss : List (List Int)} {a : Addr} {o : HO} (h : RwH H ps xss) (hn : ∀ p ∈ ps, p ≠ a) : RwH (upd H a o) ps xss := ⟨h.1, fun i p xs e1 e2 => by rw [L2.upd_ne (hn p (List.mem_of_getElem? e1))]; exact h.2 i p xs e1 e2⟩
def sp2 : Sp := fun vs H Q _ => ∃ a b : Int, vs = [.int a, .int b] ∧ Q (.int (Nat.gcd a.natAbs b.natAbs : Nat)) H
theorem abs_eq (i : Int) : (if i < 0 then -i else i) = (i.natAbs : Int) := by split <;> omega
theorem ok_shared_by_two {f : Addr} {fd : FuncData} (F : Fun K "shared_by_two" "shared_by_two" s_shared_by_two f fd) (T : Txt K mg) : FnOk P w K mg base CX0 1 f fd ["one", "other"] sp2 := by
  refine F.ok sc_shared_by_two (fun vs H Q E h => ?_) (fun cdv A outer s H vs Q E hr h => ?_)
  · obtain ⟨a, b, rfl, _⟩ := h
    rfl
  · obtain ⟨a, b, rfl, k⟩ := h
    refine ⟨_, (pss_cons (ps_set (i := 2) sc_shared_by_two.nd rfl (Or.inl rfl) (pe_callB call_abs (by rfl) T.abs_ PyProof.Rows.boot_abs (pa_cons (pv 0) pa_nil)))
      (pss_cons (ps_set (i := 3) sc_shared_by_two.nd rfl (Or.inl rfl) (pe_callB call_abs (by rfl) T.abs_ PyProof.Rows.boot_abs (pa_cons (pv 1) pa_nil)))
      (pss_cons (ps_while PassesOwn.never (pt_cmpR op_neI (pv 3) pe_int (nomark _))
        (pss_cons (ps_set (i := 4) sc_shared_by_two.nd rfl (Or.inl rfl) (pe_op op_modP (pv 2) (pv 3)))
          (pss_cons (ps_set (i := 2) sc_shared_by_two.nd rfl (Or.inl rfl) (pv 3))
          (pss_one (ps_set (i := 3) sc_shared_by_two.nd rfl (Or.inl rfl) (pv 4))))))
      (pss_one (ps_ret (pv 2)))))), ?_⟩
    refine ⟨_, rfl, _, rfl, ?_⟩
    refine ⟨_, rfl, _, rfl, ?_⟩
    refine ⟨fun m σ' H' => ∃ (x y : Int) (z : Option V), σ' = [some (.int a), some (.int b), some (.int x), some (.int y), z] ∧ H = H' ∧ 0 ≤ x ∧ 0 ≤ y ∧ y.natAbs = m ∧ Nat.gcd x.natAbs y.natAbs = Nat.gcd a.natAbs b.natAbs, ⟨_, _, _, none, rfl, rfl, ?_, ?_, rfl, ?_⟩, ?_⟩
    · rw [abs_eq]; exact Int.natCast_nonneg _
    · rw [abs_eq]; exact Int.natCast_nonneg _
    · rw [abs_eq, abs_eq, Int.natAbs_natCast, Int.natAbs_natCast]
    · rintro m σ' H' ⟨x, y, z, rfl, rfl, hx, hy, rfl, hg⟩
      refine ⟨_, rfl, _, _, rfl, rfl, _, rfl, ?_⟩
      refine rd_ndec (fun hn => ?_) (fun h0 => ?_)
      · have hp : 0 < y := by have : y ≠ 0 := hn; omega
        refine ⟨fun σ'' H'' => ∃ m', m' < y.natAbs ∧ ∃ (x' y' : Int) (z : Option V), σ'' = [some (.int a), some (.int b), some (.int x'), some (.int y'), z] ∧ H = H'' ∧ 0 ≤ x' ∧ 0 ≤ y' ∧ y'.natAbs = m' ∧ Nat.gcd x'.natAbs y'.natAbs = Nat.gcd a.natAbs b.natAbs, fun _ _ h => h, ?_⟩
        refine ⟨_, rfl, _, rfl, _, _, rfl, rfl, hp, ?_⟩
        refine ⟨_, rfl, ?_⟩
        refine ⟨_, rfl, ?_⟩
        have h1 := Int.emod_nonneg x (Int.ne_of_gt hp)
        have h2 := Int.emod_lt_of_pos x hp
        exact ⟨(x % y).natAbs, by omega, y, x % y, _, rfl, rfl, hy, h1, rfl, by rw [gcd_turn hx hp]; exact hg⟩
      · refine ⟨_, rfl, ?_⟩
        have e : (y : Int) = 0 := h0
        subst e
        have e2 : (x : Int) = ((Nat.gcd a.natAbs b.natAbs : Nat) : Int) := by
          rw [← hg]
          show x = ((Nat.gcd x.natAbs 0 : Nat) : Int)
          rw [Nat.gcd_zero_right]; omega
        rw [e2]
        exact k
def spShared (K : PySem.W.Frag) : Sp := fun vs H Q _ => ∃ (a : Addr) (ns : List Int), vs = [.ref a] ∧ SqL K H a (ns.map V.int) ∧ Q (.int (gcdL ns : Nat)) H
theorem ok_shared {f : Addr} {fd : FuncData} (F : Fun K "shared" "shared" s_shared f fd) (T : Txt K mg) {f_shared_by_two : Addr} {fd_shared_by_two : FuncData} (C_shared_by_two : Cal P w K mg base 1 "shared_by_two" ["one", "other"] sp2 f_shared_by_two fd_shared_by_two) : FnOk P w K mg base CX0 2 f fd ["row"] (spShared K) := by
  obtain ⟨G_shared_by_two, m_shared_by_two, k_shared_by_two, b_shared_by_two⟩ := C_shared_by_two
  refine F.ok sc_shared (fun vs H Q E h => ?_) (fun cdv A outer s H vs Q E hr h => ?_)
  · obtain ⟨a, ns, rfl, _⟩ := h
    rfl
  · obtain ⟨a, ns, rfl, hS, k⟩ := h
    refine ⟨_, (pss_cons (ps_set (i := 1) sc_shared.nd rfl (Or.inl rfl) pe_int)
      (pss_cons (ps_for PassesOwn.never rfl (pi_listK (K := K) rfl (pv 0)) (pg_name (i := 2) sc_shared.nd rfl (Or.inl rfl))
        (pss_one (ps_set (i := 1) sc_shared.nd rfl (Or.inl rfl) (pe_call G_shared_by_two (hr.mono (by decide)) rfl m_shared_by_two k_shared_by_two b_shared_by_two .nil pass0 (pa_cons (pv 1) (pa_cons (pv 2) pa_nil))))))
      (pss_one (ps_ret (pv 1))))), ?_⟩
    refine ⟨_, rfl, a, rfl, ⟨_, hS⟩, for_list (K := K) (a := a) (xs := ns.map V.int) (fun i σ' H' => ∃ z : Option V, σ' = [some (.ref a), some (.int (gcdL (ns.take i) : Nat)), z] ∧ H = H') ⟨none, rfl, rfl⟩ (fun i σ' H' _ ⟨z, _, e⟩ => by rw [← e]; exact hS) ?_ ?_⟩
    · rintro i y σ' H' hi ⟨z, rfl, rfl⟩
      rw [List.getElem?_map] at hi
      cases e : ns[i]? with
      | none => rw [e] at hi; cases hi
      | some n =>
        rw [e] at hi
        obtain rfl := Option.some.inj hi
        refine ⟨_, rfl, _, rfl, _, _, rfl, ?_⟩
        have e3 : ns.take (i + 1) = ns.take i ++ [n] := by rw [List.take_add_one, e]; rfl
        refine ⟨some (.int n), ?_, rfl⟩
        rw [e3, gcdL_snoc, Int.natAbs_natCast]
        rfl
    · rintro σ' H' ⟨z, rfl, rfl⟩
      refine ⟨_, rfl, ?_⟩
      rw [List.length_map, List.take_length]
      exact k
def spShr : Sp := fun vs H Q _ => ∃ (a : Addr) (ns : List Int), vs = [.ref a] ∧ H a = some (.lst (ns.map V.int)) ∧ Tr ns ∧ ns.length ≤ 1000000 ∧ mkL H Q (shrL ns)
theorem gcdL_pos {ns : List Int} (ht : Tr ns) (hne : ns ≠ []) : 0 < (gcdL ns : Int) := by
  obtain ⟨r, x, rfl⟩ := (snoc_cases ns).resolve_left hne
  have hx : x ≠ 0 := tr_snoc.mp ht
  have hm : x ∈ r ++ [x] := by simp
  have h1 : 0 < gcdL (r ++ [x]) := Nat.pos_of_dvd_of_pos (gcdL_dvd hm) (Int.natAbs_pos.mpr hx)
  omega
theorem ok_shrunk {f : Addr} {fd : FuncData} (F : Fun K "shrunk" "shrunk" s_shrunk f fd) (T : Txt K mg) (hNS : base.NoSeer) (hTr : P.given.tree = none) {f_shared : Addr} {fd_shared : FuncData} (C_shared : Cal P w K mg base 2 "shared" ["row"] (spShared K) f_shared fd_shared) : FnOk P w K mg base CX0 33 f fd ["row"] spShr := by
  obtain ⟨G_shared, m_shared, k_shared, b_shared⟩ := C_shared
  refine F.ok sc_shrunk (fun vs H Q E h => ?_) (fun cdv A outer s H vs Q E hr h => ?_)
  · obtain ⟨a, ns, rfl, _⟩ := h
    rfl
  · obtain ⟨a, ns, rfl, hA, ht, hn, k⟩ := h
    have big := sizeLine_eq
    have hdp : (A.deeper (PyProof.Rows.envOfC (Str.ofString "shrunk") (defScope s_shrunk) s.heap.objs.size f cdv)).depth + 100 < recursionLimit := by have := hr.dp; omega
    refine ⟨_, (pss_cons (ps_set (i := 1) sc_shrunk.nd rfl (Or.inr rfl) (pe_call G_shared (hr.mono (by decide)) rfl m_shared k_shared b_shared .nil pass0 (pa_cons (pv 0) pa_nil)))
      (pss_one (ps_ret (pe_comp (own := ["value"]) (fr := ["divisor"]) (js := [1]) (by walk_at "comp_ok") rfl (pi_listK (K := K) rfl (pv 0)) (fun _ _ _ _ => (pg_name (i := 0) (show List.Nodup (["value", "divisor"] : List Str) from by decide +kernel) rfl (Or.inl rfl))) (fun _ _ _ _ => (pe_op (op_fdivS hNS hTr hdp rfl rfl rfl rfl rfl) (pv 0) (pv 1))))))), ?_⟩
    refine rd_sa ⟨_, rfl, a, ns, rfl, SqL.of hA, ?_⟩
    refine rd_ret ⟨_, rfl, a, rfl, ⟨_, SqL.of hA⟩, comp_list (K := K) (a := a) (xs := ns.map V.int) (fun i ys σ' H' => ∃ (z0 : Option V), σ' = [z0, some (.int (gcdL ns : Nat))] ∧ ys = ((ns.take i).map fun x => x / (gcdL ns : Int)).map V.int ∧ H = H') (by rw [List.length_map]; omega) ⟨none, rfl, rfl, rfl⟩ ?_ ?_ ?_⟩
    · rintro i ys σ' H' _ ⟨z0, rfl, rfl, rfl⟩
      exact ⟨SqL.of hA, by rw [List.length_map, List.length_map, List.length_take]; exact Nat.min_le_left _ _⟩
    · rintro i x ys σ' H' hi ⟨z0, rfl, rfl, rfl⟩
      rw [List.getElem?_map] at hi
      cases e : ns[i]? with
      | none => rw [e] at hi; cases hi
      | some c =>
        rw [e] at hi
        obtain rfl := Option.some.inj hi
        have g1 := gcdL_pos ht (fun z => by rw [z] at e; simp at e)
        refine ⟨_, rfl, _, rfl, _, _, rfl, rfl, g1, _, rfl, ?_, rfl⟩
        rw [List.take_add_one, e]
        simp
    · rintro ys σ' H' p ⟨z0, rfl, rfl, rfl⟩ hp
      refine k p _ (Same.upd_new hp) hp ?_
      rw [upd_same, List.length_map, List.take_length]
      rfl
def spPlain : Sp := fun vs H Q _ => ∃ (a : Addr) (ns : List Int), vs = [.ref a] ∧ H a = some (.lst (ns.map V.int)) ∧ Tr ns ∧ ns.length ≤ 1000000 ∧ mkL H Q (plainL ns)
theorem at_last (r : List Int) (x : Int) : atI ((r ++ [x]).map V.int) (-1) = some (.int x) := by
  rw [List.map_append]; exact atI_last _ _
/-! a Ratio: its fields, its making -/
def flds (t b : Int) : List (Str × V) := putF "bottom" (.int b) (putF "top" (.int t) [])
theorem tb_ne : ¬ (("top" : Str) = "bottom") := by decide +kernel
theorem flds_bottom (t b : Int) : (flds t b).lookup ("bottom" : Str) = some (.int b) := by
  unfold flds; rw [lookup_putF, if_pos rfl]
theorem flds_top (t b : Int) : (flds t b).lookup ("top" : Str) = some (.int t) := by
  unfold flds; rw [lookup_putF, if_neg tb_ne, lookup_putF, if_pos rfl]
structure RCI (K : PySem.W.Frag) (mg : Str → Option Value) (C : Addr) : Prop where
  cl : Cls K C
  nT : NoAttr K C "top"
  nB : NoAttr K C "bottom"
  mg : mg "Ratio" = some (.ref C)
  ha : PySem.W.findIn K (.ref C) "__class__" = some (some (.builtin "object.__class__"))
  hn : PySem.W.specialIn K (.builtin "object.__class__") "__get__" = some (some (.builtin "getset_descriptor.__get__"))
  ht : PySem.W.takesIn K (.builtin "object.__class__") = some true
  hm : PySem.W.mroIn K C (.type "object") = some true
/-- a Ratio with top t and bottom b stands at p -/
def RA (C : Addr) (H : Hp) (p : Addr) (t b : Int) : Prop := ∃ dx, H p = some (.ins C dx (flds t b))
theorem RA.same {C : Addr} {H H' : Hp} {p : Addr} {t b : Int} (h : RA C H p t b) (s : Same H H') : RA C H' p t b := let ⟨dx, e⟩ := h; ⟨dx, s _ _ e⟩
def spInit (C : Addr) : Sp := fun vs H Q _ => ∃ (p dx : Addr) (t b : Int), vs = [.ref p, .int t, .int b] ∧ H p = some (.ins C dx []) ∧ b ≠ 0 ∧ Bits 9000 b ∧ Q .non (upd H p (.ins C dx (flds (rt t b) (rb t b))))
theorem make_R {C : Addr} {H1 : Hp} {q : Addr → Hp → Prop} {E : XK} {t b : Int} (hb : b ≠ 0) (bb : Bits 9000 b) (h : ∀ (x : Addr) (H' : Hp), Same H1 H' → H1 x = none → RA C H' x (rt t b) (rb t b) → q x H') : ∀ x dx : Addr, H1 x = none → H1 dx = none → dx ≠ x → spInit C (.ref x :: ([.int t, .int b] ++ [])) (upd (upd H1 dx (.own x)) x (.ins C dx [])) (fun v H2 => v = .non ∧ q x H2) E := fun x dx nx ndx ne => by
  refine ⟨x, dx, t, b, rfl, upd_same, hb, bb, rfl, ?_⟩
  rw [upd_upd]
  have s0 : Same H1 (upd (upd H1 dx (.own x)) x (.ins C dx (flds (rt t b) (rb t b)))) := fun c o e => by
    rw [upd_ne (ne_of_none e nx), upd_ne (ne_of_none e ndx)]; exact e
  exact h x _ s0 nx ⟨dx, upd_same⟩
theorem dv_bits {t b : Int} (hb : b ≠ 0) (bb : Bits 9000 b) : Bits 9000 (dv t b) := bb.of_le (by rw [dv_abs]; exact Nat.le_of_dvd (Int.natAbs_pos.mpr hb) (Nat.gcd_dvd_right _ _))
theorem ok_Ratio___init__ {C f : Addr} {dV : Value} {fd : FuncData} (F : FunD K "__init__" "Ratio.__init__" s_Ratio___init__ dV f fd) (T : Txt K mg) (R : RCI K mg C) {f_shared_by_two : Addr} {fd_shared_by_two : FuncData} (C_shared_by_two : Cal P w K mg base 1 "shared_by_two" ["one", "other"] sp2 f_shared_by_two fd_shared_by_two) : FnOk P w K mg base CX0 2 f fd ["self", "top", "bottom"] (spInit C) := by
  obtain ⟨G_shared_by_two, m_shared_by_two, k_shared_by_two, b_shared_by_two⟩ := C_shared_by_two
  refine F.ok sc_Ratio___init__ (fun vs H Q E h => ?_) (fun cdv A outer s H vs Q E hr h => ?_)
  · obtain ⟨p, dx, t, b, rfl, _⟩ := h
    rfl
  · obtain ⟨p, dx, t, b, rfl, hp, hb, bb, k⟩ := h
    refine ⟨_, (pss_cons (ps_if (pt_cmpR op_eqI (pv 2) pe_int (nomark _))
        (pss_one ps_never)
        pss_nil)
      (pss_cons (ps_set (i := 3) sc_Ratio___init__.nd rfl (Or.inl rfl) (pe_call G_shared_by_two (hr.mono (by decide)) rfl m_shared_by_two k_shared_by_two b_shared_by_two .nil pass0 (pa_cons (pv 1) (pa_cons (pv 2) pa_nil))))
      (pss_cons (ps_if (pt_cmpR op_lt (pv 2) pe_int (nomark _))
        (pss_one (ps_set (i := 3) sc_Ratio___init__.nd rfl (Or.inl rfl) (pe_un un_neg (pv 3))))
        pss_nil)
      (pss_cons (ps_fld (pv 0) (pe_op op_fdivB (pv 1) (pv 3)) rfl)
      (pss_one (ps_fld (pv 0) (pe_op op_fdivB (pv 2) (pv 3)) rfl)))))), ?_⟩
    refine rd_sr ⟨_, rfl, _, _, rfl, rfl, _, rfl, rd_dec (fun h => absurd h hb) (fun _ => ?_)⟩
    refine rd_sa ⟨_, rfl, _, rfl, t, b, rfl, ?_⟩
    refine rd_cutIf (fun σ' H' => H = H' ∧ σ' = [some (.ref p), some (.int t), some (.int b), some (.int (dv t b))]) ?_ ?_
    · rintro σ' H' ⟨rfl, rfl⟩
      refine ⟨_, rfl, _, rfl, _, _, rfl, rfl, ⟨dv_ne hb, dv_bits hb bb⟩, _, rfl, p, C, dx, _, rfl, hp, R.cl, R.nT, by show 0 < 1000; decide, ?_⟩
      refine ⟨_, rfl, _, rfl, _, _, rfl, rfl, ⟨dv_ne hb, dv_bits hb bb⟩, _, rfl, p, C, dx, _, rfl, upd_same, R.cl, R.nB, by show 1 < 1000; decide, ?_⟩
      show Q .non (upd (upd H p _) p _)
      rw [upd_upd]
      exact k
    · intro rest
      refine ⟨_, rfl, _, _, rfl, rfl, _, rfl, ?_⟩
      refine rd_dec (fun h => ?_) (fun h => ?_)
      · refine ⟨_, rfl, _, rfl, rest _ _ ⟨rfl, ?_⟩⟩
        have e : dv t b = -((Nat.gcd t.natAbs b.natAbs : Nat) : Int) := by unfold dv; rw [if_pos h]
        rw [e]; rfl
      · refine rest _ _ ⟨rfl, ?_⟩
        have e : dv t b = ((Nat.gcd t.natAbs b.natAbs : Nat) : Int) := by unfold dv; rw [if_neg h]
        rw [e]; rfl
def spSg : Sp := fun vs H Q _ => ∃ x : Int, vs = [.int x] ∧ Q (.int (sg x)) H
theorem ok_whole_sign {f : Addr} {fd : FuncData} (F : Fun K "whole_sign" "whole_sign" s_whole_sign f fd) (T : Txt K mg) : FnOk P w K mg base CX0 1 f fd ["value"] spSg := by
  refine F.ok sc_whole_sign (fun vs H Q E h => ?_) (fun cdv A outer s H vs Q E hr h => ?_)
  · obtain ⟨x, rfl, _⟩ := h
    rfl
  · obtain ⟨x, rfl, k⟩ := h
    refine ⟨_, (pss_cons (ps_if (pt_cmpR op_lt (pv 0) pe_int (nomark _))
        (pss_one (ps_ret (pe_un un_neg pe_int)))
        pss_nil)
      (pss_cons (ps_if (pt_cmpR op_gt (pv 0) pe_int (nomark _))
        (pss_one (ps_ret pe_int))
        pss_nil)
      (pss_one (ps_ret pe_int)))), ?_⟩
    refine rd_sr ⟨_, rfl, _, _, rfl, rfl, _, rfl, rd_dec (fun h => ?_) (fun h => ?_)⟩
    · have e : sg x = -1 := by unfold sg; rw [if_pos h]
      rw [e] at k
      exact ⟨_, rfl, k⟩
    refine rd_sr ⟨_, rfl, _, _, rfl, rfl, _, rfl, rd_dec (fun h' => ?_) (fun h' => ?_)⟩
    · have e : sg x = 1 := by unfold sg; rw [if_neg h, if_pos h']
      rw [e] at k
      exact k
    · have e : sg x = 0 := by unfold sg; rw [if_neg h, if_neg h']
      rw [e] at k
      exact k
theorem ok_poly {f : Addr} {fd : FuncData} (F : Fun K "poly" "poly" s_poly f fd) (T : Txt K mg) : FnOk P w K mg base CX0 1 f fd ["row"] (spTrim K) := by
  refine F.ok sc_poly (fun vs H Q E h => ?_) (fun cdv A outer s H vs Q E hr h => ?_)
  · obtain ⟨a, ns, rfl, _⟩ := h
    rfl
  · obtain ⟨a, ns, rfl, hS, k⟩ := h
    refine ⟨_, (pss_cons (ps_set (i := 1) sc_poly.nd rfl (Or.inl rfl) (pe_callB (call_lenK (K := K) rfl) (by rfl) T.len_ PySem.boot_len (pa_cons (pv 0) pa_nil)))
      (pss_cons (ps_while PassesOwn.never (PW.pt (pw_and (pt_cmpR op_gt (pv 1) pe_int (nomark _)) (pw_and1 (pt_cmpR op_eqI (pe_ix (ix_listK (K := K) rfl) (pv 0) (pe_op op_sub (pv 1) pe_int) (fun _ _ => rfl)) pe_int (nomark _)))))
        (pss_one (ps_set (i := 1) sc_poly.nd rfl (Or.inl rfl) (pe_op op_sub (pv 1) pe_int))))
      (pss_one (ps_ret (pe_slice (sl_listK (K := K) rfl) (pv 0) po_none (po_some (pv 1))))))), ?_⟩
    refine ⟨_, rfl, a, _, rfl, .inl hS, ?_⟩
    refine ⟨fun m σ' H' => ∃ n : Nat, n ≤ ns.length ∧ σ' = [some (.ref a), some (.int n)] ∧ H = H' ∧ n = m ∧ trim (ns.take n) = trim ns, ⟨_, ns.length, Nat.le_refl _, ?_, rfl, rfl, ?_⟩, ?_⟩
    · rw [List.length_map]; rfl
    · rw [List.take_length]
    · rintro m σ' H' ⟨n, hn, rfl, rfl, rfl, ht⟩
      have fin : trim (ns.take n) = ns.take n → ∃ v, ([some (V.ref a), some (V.int n)] : St)[0]? = some (some v) ∧ ∃ v_1, ([some (V.ref a), some (V.int n)] : St)[1]? = some (some v_1) ∧ ∃ i, v_1 = V.int i ∧ rSlL K v none (some i) H Q := fun h => by
        refine ⟨_, rfl, _, rfl, n, rfl, a, _, rfl, hS, fun p hp => k p _ (Same.upd_new hp) hp ?_⟩
        rw [upd_same, ← ht, h]
        have e : cutV (ns.map V.int) none (some (n : Int)) = (ns.take n).map V.int := by
          unfold cutV
          rw [HT.sIx_none, HT.sIx_nat, List.drop_zero, Nat.sub_zero, List.length_map, Nat.min_eq_left hn, List.map_take]
        rw [e]
      refine ⟨_, rfl, _, _, rfl, rfl, _, rfl, ?_⟩
      refine rd_dec (fun hp => ?_) (fun hp => ?_)
      · obtain ⟨j, rfl⟩ : ∃ j, n = j + 1 := ⟨n - 1, by have : (0 : Int) < n := hp; omega⟩
        have hj : j < ns.length := hn
        refine ⟨_, rfl, _, rfl, _, _, rfl, rfl, a, _, j, .int (cf ns j), rfl, ?_, hS, atI_nat ?_, _, _, rfl, rfl, _, rfl, ?_⟩
        · show V.int (((j + 1 : Nat) : Int) - 1) = V.int j
          congr 1; omega
        · rw [List.getElem?_map, get_cf hj]; rfl
        refine rd_dec (fun h0 => ?_) (fun h0 => ?_)
        · refine ⟨fun σ'' H'' => ∃ m', m' < j + 1 ∧ ∃ n : Nat, n ≤ ns.length ∧ σ'' = [some (.ref a), some (.int n)] ∧ H = H'' ∧ n = m' ∧ trim (ns.take n) = trim ns, fun _ _ h => h, ?_⟩
          refine ⟨_, rfl, _, _, rfl, rfl, j, Nat.lt_succ_self _, j, Nat.le_of_lt hj, ?_, rfl, rfl, ?_⟩
          · show [some (V.ref a), some (V.int (((j + 1 : Nat) : Int) - 1))] = [some (V.ref a), some (V.int j)]
            congr 4; omega
          · rw [← ht, trim_take_zero hj h0]
        · exact fin (trim_take_ne hj h0)
      · obtain rfl : n = 0 := by have : ¬ (0 : Int) < n := hp; omega
        exact fin (by rw [List.take_zero]; rfl)
theorem ok_coefficient {f : Addr} {fd : FuncData} (F : Fun K "coefficient" "coefficient" s_coefficient f fd) (T : Txt K mg) : FnOk P w K mg base CX0 1 f fd ["row", "place"] (spCell K) := by
  refine F.ok sc_coefficient (fun vs H Q E h => ?_) (fun cdv A outer s H vs Q E hr h => ?_)
  · obtain ⟨a, ns, k, rfl, _⟩ := h
    rfl
  · obtain ⟨a, ns, n, rfl, hS, k⟩ := h
    refine ⟨_, (pss_cons (ps_if (pt_cmpR op_lt (pv 1) (pe_callB (call_lenK (K := K) rfl) (by rfl) T.len_ PySem.boot_len (pa_cons (pv 0) pa_nil)) (nomark _))
        (pss_one (ps_ret (pe_ix (ix_listK (K := K) rfl) (pv 0) (pv 1) (fun _ _ => rfl))))
        pss_nil)
      (pss_one (ps_ret pe_int))), ?_⟩
    refine ⟨_, rfl, _, rfl, a, _, rfl, .inl hS, _, _, rfl, rfl, _, rfl, ?_⟩
    refine rd_dec (fun h1 => ?_) (fun h1 => ?_)
    · rw [List.length_map] at h1
      have h2 : n < ns.length := by omega
      refine ⟨_, rfl, _, rfl, a, _, _, _, rfl, rfl, hS, atI_nat (v := .int (ns.getD n 0)) ?_, k⟩
      rw [List.getElem?_map, List.getElem?_eq_getElem h2]
      simp [List.getD, h2]
    · rw [List.length_map] at h1
      have h2 : ns.length ≤ n := by omega
      have e : ns.getD n 0 = 0 := by simp [List.getD, List.getElem?_eq_none_iff.mpr h2]
      rw [e] at k
      exact k
theorem ok_taken {f : Addr} {fd : FuncData} (F : Fun K "taken" "taken" s_taken f fd) (T : Txt K mg) {f_poly : Addr} {fd_poly : FuncData} (C_poly : Cal P w K mg base 1 "poly" ["row"] (spTrim K) f_poly fd_poly) {f_coefficient : Addr} {fd_coefficient : FuncData} (C_coefficient : Cal P w K mg base 1 "coefficient" ["row", "place"] (spCell K) f_coefficient fd_coefficient) : FnOk P w K mg base CX0 2 f fd ["first", "second"] (sp2L K subL) := by
  obtain ⟨G_poly, m_poly, k_poly, b_poly⟩ := C_poly
  obtain ⟨G_coefficient, m_coefficient, k_coefficient, b_coefficient⟩ := C_coefficient
  refine F.ok sc_taken (fun vs H Q E h => ?_) (fun cdv A outer s H vs Q E hr h => ?_)
  · obtain ⟨a, b, xs, ys, rfl, _⟩ := h
    rfl
  · obtain ⟨a, b, xs, ys, rfl, hA, hB, hx, hy, k⟩ := h
    refine ⟨_, (pss_cons (ps_set (i := 2) sc_taken.nd rfl (Or.inl rfl) (pe_callB (call_max2 rfl) (by rfl) T.max_ PyProof.Rows.boot_max (pa_cons (pe_callB (call_lenK (K := K) rfl) (by rfl) T.len_ PySem.boot_len (pa_cons (pv 0) pa_nil)) (pa_cons (pe_callB (call_lenK (K := K) rfl) (by rfl) T.len_ PySem.boot_len (pa_cons (pv 1) pa_nil)) pa_nil))))
      (pss_one (ps_ret (pe_call G_poly (hr.mono (by decide)) rfl m_poly k_poly b_poly .nil pass0 (pa_cons (pe_comp (own := ["k"]) (fr := ["first", "second"]) (js := [0, 1]) (by walk_at "comp_ok") rfl (pi_range1 rfl T.range_ (pa_cons (pv 2) pa_nil)) (fun _ _ _ _ => (pg_name (i := 0) (show List.Nodup (["k", "first", "second"] : List Str) from by decide +kernel) rfl (Or.inl rfl))) (fun _ _ _ _ => (pe_op op_sub (pe_call G_coefficient (hr.mono (by decide)) rfl m_coefficient k_coefficient b_coefficient .nil pass0 (pa_cons (pv 1) (pa_cons (pv 0) pa_nil))) (pe_call G_coefficient (hr.mono (by decide)) rfl m_coefficient k_coefficient b_coefficient .nil pass0 (pa_cons (pv 2) (pa_cons (pv 0) pa_nil)))))) pa_nil))))), ?_⟩
    refine ⟨_, rfl, a, _, rfl, .inl hA, _, rfl, b, _, rfl, .inl hB, _, _, rfl, ?_⟩
    rw [max_eq, List.length_map, List.length_map]
    have hz : max xs.length ys.length ≤ sizeLine := by have := sizeLine_eq; omega
    refine ⟨_, rfl, _, rfl, (small62 hz).1, (small62 hz).2, comp_range (lo := 0) (n := max xs.length ys.length) (fun i zs σ' H' => ∃ z : Option V, σ' = [z, some (.ref a), some (.ref b)] ∧ zs = ((List.range i).map fun k => V.int (cf xs k - cf ys k)) ∧ H = H') hz ⟨none, rfl, rfl, rfl⟩ ?_ ?_ ?_⟩
    · rintro i zs σ' H' _ ⟨z, rfl, rfl, rfl⟩
      simp
    · rintro i zs σ' H' hi ⟨z, rfl, rfl, rfl⟩
      refine ⟨_, rfl, _, rfl, a, xs, i, ?_, hA, _, rfl, _, rfl, b, ys, i, ?_, hB, _, _, rfl, rfl, _, rfl, ?_, rfl⟩
      · show [V.ref a, V.int (0 + (i : Int))] = _
        rw [Int.zero_add]
      · show [V.ref b, V.int (0 + (i : Int))] = _
        rw [Int.zero_add]
      · rw [List.range_succ, List.map_append]; rfl
    · rintro zs σ' H' p ⟨z, rfl, rfl, rfl⟩ hp
      refine ⟨p, (List.range (max xs.length ys.length)).map fun k => cf xs k - cf ys k, rfl, SqL.of ?_, ?_⟩
      · rw [upd_same, List.map_map]; rfl
      · intro p' H' sm hp' e
        refine k p' H' ((Same.upd_new hp).trans sm) ((Same.upd_new hp).free hp') ?_
        rw [e, subL_eq]
def sp1 (g : List Int → List Int) : Sp := fun vs H Q _ => ∃ (a : Addr) (ns : List Int), vs = [.ref a] ∧ H a = some (.lst (ns.map V.int)) ∧ ns.length ≤ 100000 ∧ AllB 100000 ns ∧ mkL H Q (g ns)
theorem nat_bits {k : Nat} {n : Nat} (h : n < 2 ^ k) : Bits k (n : Int) := by show ((n : Int)).natAbs < 2 ^ k; rw [Int.natAbs_natCast]; exact h
theorem small_bits {n : Nat} (h : n ≤ 1000000) : Bits 1000000 (n : Int) := (nat_bits (k := 20) (Nat.lt_of_le_of_lt h (by decide))).mono (by decide)
theorem range_snoc (f : Nat → V) (i : Nat) : (List.range i).map f ++ [f i] = (List.range (i + 1)).map f := by rw [List.range_succ, List.map_append]; rfl
theorem ok_slope {f : Addr} {fd : FuncData} (F : Fun K "slope" "slope" s_slope f fd) (T : Txt K mg) : FnOk P w K mg base CX0 1 f fd ["row"] (sp1 slopeL) := by
  refine F.ok sc_slope (fun vs H Q E h => ?_) (fun cdv A outer s H vs Q E hr h => ?_)
  · obtain ⟨a, ns, rfl, _⟩ := h
    rfl
  · obtain ⟨a, ns, rfl, hA, hn, hb, k⟩ := h
    have big := sizeLine_eq
    refine ⟨_, (pss_one (ps_ret (pe_comp (own := ["k"]) (fr := ["row"]) (js := [0]) (by walk_at "comp_ok") rfl (pi_range2 rfl T.range_ (pa_cons pe_int (pa_cons (pe_callB (call_lenK (K := K) rfl) (by rfl) T.len_ PySem.boot_len (pa_cons (pv 0) pa_nil)) pa_nil))) (fun _ _ _ _ => (pg_name (i := 0) (show List.Nodup (["k", "row"] : List Str) from by decide +kernel) rfl (Or.inl rfl))) (fun _ _ _ _ => (pe_op op_mulB (pv 0) (pe_ix (ix_listK (K := K) rfl) (pv 1) (pv 0) (fun _ _ => rfl))))))), ?_⟩
    have hl : (ns.map V.int).length = ns.length := List.length_map _
    refine rd_ret ⟨_, rfl, a, _, rfl, .inl (SqL.of hA), 1, _, rfl, ⟨by decide, by decide, by rw [hl]; omega, by rw [hl]; omega⟩, comp_range (lo := 1) (fun i ys σ' H' => ∃ z : Option V, σ' = [z, some (.ref a)] ∧ ys = ((List.range i).map fun (j : Nat) => V.int (((j : Int) + 1) * cf ns (j + 1))) ∧ H = H') (by rw [hl]; omega) ⟨none, rfl, rfl, rfl⟩ ?_ ?_ ?_⟩
    · rintro i ys σ' H' _ ⟨z, rfl, rfl, rfl⟩
      simp
    · rintro i ys σ' H' hi ⟨z, rfl, rfl, rfl⟩
      rw [hl] at hi
      have hi' : i + 1 < ns.length := by omega
      have e0 : (1 : Int) + (i : Int) = ((i + 1 : Nat) : Int) := by omega
      refine ⟨_, rfl, _, rfl, _, rfl, a, _, _, _, rfl, rfl, SqL.of hA, at_map e0 hi', _, _, rfl, rfl, ⟨by rw [e0]; exact small_bits (by omega), (hb.cf _).mono (by decide)⟩, _, rfl, ?_, rfl⟩
      rw [← range_snoc]
      show _ ++ [V.int ((1 + (i : Int)) * cf ns (i + 1))] = _
      rw [Int.add_comm 1]
    · rintro ys σ' H' p ⟨z, rfl, rfl, rfl⟩ hp
      refine k p _ (Same.upd_new hp) hp ?_
      have en : (((ns.map V.int).length : Int) - 1).toNat = ns.length - 1 := by rw [hl]; omega
      rw [upd_same, en]; unfold RM.slopeL; rw [List.map_map]; rfl
def spDeg : Sp := fun vs H Q _ => ∃ (a : Addr) (xs : List V), vs = [.ref a] ∧ H a = some (.lst xs) ∧ Q (.int ((xs.length : Int) - 1)) H
theorem ok_degree {f : Addr} {fd : FuncData} (F : Fun K "degree" "degree" s_degree f fd) (T : Txt K mg) : FnOk P w K mg base CX0 1 f fd ["row"] spDeg := by
  refine F.ok sc_degree (fun vs H Q E h => ?_) (fun cdv A outer s H vs Q E hr h => ?_)
  · obtain ⟨a, xs, rfl, _⟩ := h
    rfl
  · obtain ⟨a, xs, rfl, hA, k⟩ := h
    refine ⟨_, (pss_one (ps_ret (pe_op op_sub (pe_callB (call_lenK (K := K) rfl) (by rfl) T.len_ PySem.boot_len (pa_cons (pv 0) pa_nil)) pe_int))), ?_⟩
    exact ⟨_, rfl, a, _, rfl, .inl (SqL.of hA), _, _, rfl, rfl, k⟩
def spSc : Sp := fun vs H Q _ => ∃ (a : Addr) (xs : List Int) (c : Int), vs = [.ref a, .int c] ∧ H a = some (.lst (xs.map V.int)) ∧ xs.length ≤ 1000000 ∧ Bits 1000000 c ∧ AllB 1000000 xs ∧ mkL H Q (scL c xs)
theorem ok_scaled {f : Addr} {fd : FuncData} (F : Fun K "scaled" "scaled" s_scaled f fd) (T : Txt K mg) : FnOk P w K mg base CX0 1 f fd ["row", "factor"] spSc := by
  refine F.ok sc_scaled (fun vs H Q E h => ?_) (fun cdv A outer s H vs Q E hr h => ?_)
  · obtain ⟨a, xs, c, rfl, _⟩ := h
    rfl
  · obtain ⟨a, xs, c, rfl, hA, hn, bc, bx, k⟩ := h
    have big := sizeLine_eq
    refine ⟨_, (pss_one (ps_ret (pe_comp (own := ["value"]) (fr := ["factor"]) (js := [1]) (by walk_at "comp_ok") rfl (pi_listK (K := K) rfl (pv 0)) (fun _ _ _ _ => (pg_name (i := 0) (show List.Nodup (["value", "factor"] : List Str) from by decide +kernel) rfl (Or.inl rfl))) (fun _ _ _ _ => (pe_op op_mulB (pv 1) (pv 0)))))), ?_⟩
    refine rd_ret ⟨_, rfl, a, rfl, ⟨_, SqL.of hA⟩, comp_list (K := K) (a := a) (xs := xs.map V.int) (fun i ys σ' H' => ∃ (z0 : Option V), σ' = [z0, some (.int c)] ∧ ys = (scL c (xs.take i)).map V.int ∧ H = H') (by rw [List.length_map]; omega) ⟨none, rfl, rfl, rfl⟩ ?_ ?_ ?_⟩
    · rintro i ys σ' H' _ ⟨z0, rfl, rfl, rfl⟩
      exact ⟨SqL.of hA, by rw [List.length_map, length_scL, List.length_take]; exact Nat.min_le_left _ _⟩
    · rintro i x ys σ' H' hi ⟨z0, rfl, rfl, rfl⟩
      obtain ⟨y, _, rfl, hm, et⟩ := get_int hi
      refine ⟨_, rfl, _, rfl, _, _, rfl, rfl, ⟨bc, bx y hm⟩, _, rfl, ?_, rfl⟩
      rw [et]; simp [scL]
    · rintro ys σ' H' p ⟨z0, rfl, rfl, rfl⟩ hp
      refine k p _ (Same.upd_new hp) hp ?_
      rw [upd_same, List.length_map, List.take_length]
theorem cutL_init (ms : List Int) : cutL ms none (some (-1)) = ms.take (ms.length - 1) := by
  unfold cutL
  rw [HT.sIx_none, List.drop_zero, Nat.sub_zero]
  congr 1
  show (if (-1 : Int) < 0 then ((-1 : Int) + (ms.length : Int)).toNat else min (-1 : Int).toNat ms.length) = _
  rw [if_pos (by decide)]; omega
theorem cf_take {ms : List Int} {n k : Nat} : cf (ms.take n) k = if k < n then cf ms k else 0 := by
  unfold cf
  by_cases h : k < n
  · rw [if_pos h]; simp [List.getD, List.getElem?_take, h]
  · rw [if_neg h]; simp [List.getD, List.getElem?_take, h]
def spLow : Sp := fun vs H Q _ => ∃ (a b : Addr) (rs ys : List Int) (p : Nat) (l : Int), vs = [.ref a, .ref b, .int p, .int l] ∧ H a = some (.lst (rs.map V.int)) ∧ H b = some (.lst (ys.map V.int)) ∧ rs.length = p + ys.length ∧ ys ≠ [] ∧ Bits 1000000 l ∧ AllB 1000000 ys ∧ mkL H Q (lowL rs ys p l)
theorem ok_lowered {f : Addr} {fd : FuncData} (F : Fun K "lowered" "lowered" s_lowered f fd) (T : Txt K mg) : FnOk P w K mg base CX0 1 f fd ["row", "second", "place", "lead"] spLow := by
  refine F.ok sc_lowered (fun vs H Q E h => ?_) (fun cdv A outer s H vs Q E hr h => ?_)
  · obtain ⟨a, b, rs, ys, p, l, rfl, _⟩ := h
    rfl
  · obtain ⟨a, b, rs, ys, p, l, rfl, hA, hB, hl, hy, bl, by', k⟩ := h
    have hyl := List.length_pos_iff.mpr hy
    refine ⟨_, (pss_cons (ps_set (i := 4) sc_lowered.nd rfl (Or.inl rfl) (pe_slice (sl_listK (K := K) rfl) (pv 0) po_none (po_some (pe_un un_neg pe_int))))
      (pss_cons (ps_for PassesOwn.never rfl (pi_enum rfl T.enumerate_ (pa_cons (pe_slice (sl_listK (K := K) rfl) (pv 1) po_none (po_some (pe_un un_neg pe_int))) pa_nil)) (pg_tup rfl (pgs_cons (pg_name (i := 5) sc_lowered.nd rfl (Or.inl rfl)) (pgs_cons (pg_name (i := 6) sc_lowered.nd rfl (Or.inl rfl)) pgs_nil)))
        (pss_one (ps_asg (pe_op op_sub (pe_ix (ix_listK (K := K) rfl) (pv 4) (pe_op op_add (pv 2) (pv 5)) (fun _ _ => rfl)) (pe_op op_mulB (pv 3) (pv 6))) (pg_sub (pv 4) (pe_op op_add (pv 2) (pv 5)) set_list))))
      (pss_one (ps_ret (pv 4))))), ?_⟩
    refine rd_sa ⟨_, rfl, _, rfl, _, rfl, a, _, rfl, SqL.of hA, fun kp hkp => ?_⟩
    rw [cutV_map, cutL_init]
    have s1 := Same.upd_new (o := .lst ((rs.take (rs.length - 1)).map V.int)) hkp
    have nkb : b ≠ kp := ne_of_none hB hkp
    refine ⟨_, rfl, _, rfl, _, rfl, b, _, rfl, SqL.of (s1 _ _ hB), fun p2 hp2 => ?_⟩
    rw [cutV_map, cutL_init]
    have n2 : kp ≠ p2 := ne_of_none upd_same hp2
    generalize hH2 : upd (upd H kp (.lst ((rs.take (rs.length - 1)).map V.int))) p2 (.lst ((ys.take (ys.length - 1)).map V.int)) = H2
    have hk2 : H2 kp = some (.lst ((rs.take (rs.length - 1)).map V.int)) := by rw [← hH2, upd_ne n2, upd_same]
    have hq2 : H2 p2 = some (.lst ((ys.take (ys.length - 1)).map V.int)) := by rw [← hH2, upd_same]
    have s2 : Same H H2 := by rw [← hH2]; exact s1.then_new hp2
    have lt : (rs.take (rs.length - 1)).length = rs.length - 1 := by rw [List.length_take]; omega
    have lty : (ys.take (ys.length - 1)).length = ys.length - 1 := by rw [List.length_take]; omega
    refine ⟨p2, rfl, ⟨_, SqL.of hq2⟩, for_enum (K := K) (a := p2) (xs := (ys.take (ys.length - 1)).map V.int) (fun i σ' H' => ∃ (acc : List Int) (z5 z6 : Option V), σ' = [some (.ref a), some (.ref b), some (.int p), some (.int l), some (.ref kp), z5, z6] ∧ SameB kp H2 H' ∧ H' kp = some (.lst (acc.map V.int)) ∧ acc.length = rs.length - 1 ∧ ∀ n, n < acc.length → cf acc n = cf rs n - (if p ≤ n ∧ n - p < i then l * cf ys (n - p) else 0))
      ⟨_, none, none, rfl, SameB.refl _ _, hk2, lt, fun n hn => by rw [cf_take, if_pos (by omega), if_neg (by omega)]; omega⟩ ?_ ?_ ?_⟩
    · rintro i σ' H' _ ⟨acc, z5, z6, rfl, sb, _⟩
      exact SqL.of (sb _ _ (Ne.symm n2) hq2)
    · rintro i x σ' H' q hi ⟨acc, z5, z6, rfl, sb, hpa, hal, hac⟩ hq
      have hil : i < ys.length - 1 := by
        apply Classical.byContradiction
        intro hn
        rw [List.getElem?_eq_none_iff.mpr (by rw [List.length_map, lty]; omega)] at hi
        cases hi
      rw [List.getElem?_map, get_cf (by rw [lty]; exact hil), cf_take, if_pos hil] at hi
      obtain rfl := Option.some.inj hi
      refine ⟨q, _, rfl, SqT.of upd_same, rfl, _, _, rfl, _, _, rfl, rfl, ?_⟩
      have nqp : kp ≠ q := ne_of_none hpa hq
      have hpa' : upd H' q (.tup [.int i, .int (cf ys i)]) kp = some (.lst (acc.map V.int)) := by rw [upd_ne nqp]; exact hpa
      have hpi : p + i < acc.length := by omega
      have epi : ((p : Nat) : Int) + ((i : Nat) : Int) = ((p + i : Nat) : Int) := by omega
      refine ⟨_, rfl, _, rfl, _, rfl, _, _, rfl, rfl, kp, _, _, _, rfl, rfl, SqL.of hpa', at_map epi hpi, _, rfl, _, rfl, _, _, rfl, rfl, ⟨bl, by'.cf i⟩, _, _, rfl, rfl, _, rfl, _, rfl, _, rfl, _, _, rfl, rfl, kp, _, _, p + i, rfl, rfl, hpa', ixN_nat epi (by rw [List.length_map]; exact hpi), ?_⟩
      refine ⟨acc.set (p + i) (cf acc (p + i) - l * cf ys i), _, _, rfl, (sb.then_new hq).then_upd, by rw [upd_same, map_set_int], by rw [List.length_set]; exact hal, fun n hn => ?_⟩
      rw [List.length_set] at hn
      rw [cf_set hpi]
      by_cases e : n = p + i
      · subst e
        rw [if_pos rfl, hac _ hpi, if_neg (by omega), if_pos (by omega), Nat.add_sub_cancel_left]; omega
      · rw [if_neg e, hac n hn]
        by_cases h1 : p ≤ n ∧ n - p < i
        · rw [if_pos h1, if_pos (by omega)]
        · rw [if_neg h1, if_neg (by omega)]
    · rintro σ' H' ⟨acc, z5, z6, rfl, sb, hpa, hal, hac⟩
      rw [List.length_map, lty] at hac
      refine ⟨_, rfl, k kp H' (fun b' o e => sb b' o (ne_of_none e hkp) (s2 b' o e)) hkp ?_⟩
      rw [hpa]
      have e : acc = lowL rs ys p l := by
        apply ext_cf
        · rw [hal, length_lowL]
        · intro n hn
          have hn' : n < rs.length - 1 := by omega
          rw [hac n hn, cf_lowL, if_pos hn']
          by_cases h1 : p ≤ n
          · have h2 : p ≤ n ∧ n - p < ys.length - 1 := ⟨h1, by omega⟩
            rw [if_pos h1, if_pos h2]
          · have h2 : ¬ (p ≤ n ∧ n - p < ys.length - 1) := fun z => h1 z.1
            rw [if_neg h1, if_neg h2]
      rw [e]
theorem AllB.of_cf {k : Nat} {l : List Int} (h : ∀ n, Bits k (RM.cf l n)) : AllB k l := fun x hx => by
  obtain ⟨i, hi, rfl⟩ := List.mem_iff_getElem.mp hx
  have := h i
  rwa [cf_lt hi] at this
theorem abs_bits {k : Nat} {x : Int} (h : Bits k x) : Bits k ((x.natAbs : Nat) : Int) := h.of_le (by rw [Int.natAbs_natCast]; exact Nat.le_refl _)
theorem sg_bits {x : Int} : Bits 1 (sg x) := by
  show (sg x).natAbs < 2 ^ 1
  unfold sg; split <;> (try split) <;> decide
theorem sg_mul_bits {k : Nat} {x y : Int} (h : Bits k y) : Bits k (sg x * y) := h.of_le (by
  rw [Int.natAbs_mul]
  have h2 : (sg x).natAbs ≤ 1 := by unfold sg; split <;> (try split) <;> decide
  calc (sg x).natAbs * y.natAbs ≤ 1 * y.natAbs := Nat.mul_le_mul_right _ h2
    _ = y.natAbs := Nat.one_mul _)
theorem div_bits {xs ys : List Int} {b : Nat} (hx : AllB b xs) (hy : AllB b ys) : ∀ i, AllB (b + i * (b + 1)) (divAt xs ys i).1 ∧ AllB (b + i * (b + 1)) (divAt xs ys i).2
  | 0 => by rw [Nat.zero_mul]; exact ⟨AllB.zeros, hx⟩
  | i + 1 => by
    obtain ⟨h1, h2⟩ := div_bits hx hy i
    have e : b + (i + 1) * (b + 1) = b + i * (b + 1) + b + 1 := by rw [Nat.succ_mul]; omega
    have hs : Bits b (((RM.cf ys (ys.length - 1)).natAbs : Nat) : Int) := abs_bits (hy.cf _)
    rw [e]
    show AllB _ (divStep ys (divAt xs ys i) _).1 ∧ AllB _ (divStep ys (divAt xs ys i) _).2
    unfold divStep
    dsimp only
    constructor
    · intro x hx
      rcases List.mem_or_eq_of_mem_set hx with h | rfl
      · obtain ⟨y, hy', rfl⟩ := List.mem_map.mp h
        have := hs.mul (h1 y hy')
        exact this.mono (by omega)
      · exact (sg_mul_bits (h2.cf _)).mono (by omega)
    · refine AllB.of_cf fun n => ?_
      rw [cf_lowL]
      by_cases hn : n < (scL (((RM.cf ys (ys.length - 1)).natAbs : Nat) : Int) (divAt xs ys i).2).length - 1
      · rw [if_pos hn, cf_scL]
        have m1 : Bits (b + i * (b + 1) + b) ((((RM.cf ys (ys.length - 1)).natAbs : Nat) : Int) * RM.cf (divAt xs ys i).2 n) := by
          have := hs.mul (h2.cf n); rwa [Nat.add_comm] at this
        refine m1.sub ?_
        by_cases hp : (xs.length + 1 - ys.length - 1 - i) ≤ n
        · rw [if_pos hp]
          exact (sg_mul_bits (h2.cf _)).mul (hy.cf _)
        · rw [if_neg hp]; exact Bits.zero
      · rw [if_neg hn]; exact Bits.zero
theorem bits_pow {k : Nat} {b : Int} (h : Bits k b) : ∀ n, Bits (k * n + 1) (b ^ n)
  | 0 => by show ((b ^ 0 : Int)).natAbs < 2 ^ (k * 0 + 1); rw [Int.pow_zero, Nat.mul_zero]; decide
  | n + 1 => by
    rw [Int.pow_succ]
    have := (bits_pow h n).mul h
    exact this.mono (by rw [Nat.mul_succ]; omega)
/-- what `divided` hands back: a new tuple with two new lists -/
def mkDiv (H : Hp) (Q : VK) (xs ys : List Int) : Prop := ∀ (t q r : Addr) (H' : Hp), Same H H' → H t = none → H q = none → H r = none → q ≠ r → q ≠ t → r ≠ t → H' t = some (.tup [.int (divF xs ys), .ref q, .ref r]) → H' q = some (.lst ((divQ xs ys).map V.int)) → H' r = some (.lst ((divR xs ys).map V.int)) → Q (.ref t) H'
def spDiv : Sp := fun vs H Q _ => ∃ (a b : Addr) (xs ys : List Int) (n : Nat), vs = [.ref a, .ref b] ∧ H a = some (.lst (xs.map V.int)) ∧ H b = some (.lst (ys.map V.int)) ∧ ys ≠ [] ∧ AllB n xs ∧ AllB n ys ∧ (xs.length + 2) * (n + 1) ≤ 1000000 ∧ ys.length ≤ 1000000 ∧ mkDiv H Q xs ys
theorem at_last' {l : List Int} (h : l ≠ []) : atI (l.map V.int) (-1) = some (.int (cf l (l.length - 1))) := by
  obtain ⟨r, x, rfl⟩ := (snoc_cases l).resolve_left h
  have e : (r ++ [x]).length - 1 = r.length := by simp
  rw [e, cf_last, List.map_append]; exact atI_last _ _
theorem ok_divided {f : Addr} {fd : FuncData} (F : Fun K "divided" "divided" s_divided f fd) (T : Txt K mg) {f_whole_sign : Addr} {fd_whole_sign : FuncData} (C_whole_sign : Cal P w K mg base 1 "whole_sign" ["value"] spSg f_whole_sign fd_whole_sign) {f_degree : Addr} {fd_degree : FuncData} (C_degree : Cal P w K mg base 1 "degree" ["row"] spDeg f_degree fd_degree) {f_scaled : Addr} {fd_scaled : FuncData} (C_scaled : Cal P w K mg base 1 "scaled" ["row", "factor"] spSc f_scaled fd_scaled) {f_lowered : Addr} {fd_lowered : FuncData} (C_lowered : Cal P w K mg base 1 "lowered" ["row", "second", "place", "lead"] spLow f_lowered fd_lowered) {f_poly : Addr} {fd_poly : FuncData} (C_poly : Cal P w K mg base 1 "poly" ["row"] (spTrim K) f_poly fd_poly) : FnOk P w K mg base CX0 2 f fd ["first", "second"] spDiv := by
  obtain ⟨G_whole_sign, m_whole_sign, k_whole_sign, b_whole_sign⟩ := C_whole_sign
  obtain ⟨G_degree, m_degree, k_degree, b_degree⟩ := C_degree
  obtain ⟨G_scaled, m_scaled, k_scaled, b_scaled⟩ := C_scaled
  obtain ⟨G_lowered, m_lowered, k_lowered, b_lowered⟩ := C_lowered
  obtain ⟨G_poly, m_poly, k_poly, b_poly⟩ := C_poly
  refine F.ok sc_divided (fun vs H Q E h => ?_) (fun cdv A outer s H vs Q E hr h => ?_)
  · obtain ⟨a, b, xs, ys, n, rfl, _⟩ := h
    rfl
  · obtain ⟨a, b, xs, ys, nb, rfl, hA, hB, hy, bx, by', hsz, hyn, k⟩ := h
    have big := sizeLine_eq
    have hu := hr.units
    have hyl := List.length_pos_iff.mpr hy
    have hxl : xs.length ≤ 1000000 := by
      have := Nat.mul_le_mul_left (xs.length + 2) (show 1 ≤ nb + 1 by omega)
      omega
    have bsz : ∀ i, i ≤ xs.length → nb + i * (nb + 1) ≤ 1000000 := fun i hi => by
      have h1 := Nat.mul_le_mul_right (nb + 1) hi
      rw [Nat.add_mul] at hsz
      omega
    have hnb : nb ≤ 1000000 := by have := bsz 0 (Nat.zero_le _); omega
    refine ⟨_, (pss_cons (ps_if (pt_cmpR (op_eqLK (K := K) rfl hu) (pv 1) (pe_lst pa_nil) (nomark _))
        (pss_one ps_never)
        pss_nil)
      (pss_cons (ps_set (i := 2) sc_divided.nd rfl (Or.inl rfl) (pe_callB call_abs (by rfl) T.abs_ PyProof.Rows.boot_abs (pa_cons (pe_ix (ix_listK (K := K) rfl) (pv 1) (pe_un un_neg pe_int) (fun _ _ => rfl)) pa_nil)))
      (pss_cons (ps_set (i := 3) sc_divided.nd rfl (Or.inl rfl) (pe_call G_whole_sign (hr.mono (by decide)) rfl m_whole_sign k_whole_sign b_whole_sign .nil pass0 (pa_cons (pe_ix (ix_listK (K := K) rfl) (pv 1) (pe_un un_neg pe_int) (fun _ _ => rfl)) pa_nil)))
      (pss_cons (ps_set (i := 4) sc_divided.nd rfl (Or.inl rfl) (pe_op op_add (pe_op op_sub (pe_call G_degree (hr.mono (by decide)) rfl m_degree k_degree b_degree .nil pass0 (pa_cons (pv 0) pa_nil)) (pe_call G_degree (hr.mono (by decide)) rfl m_degree k_degree b_degree .nil pass0 (pa_cons (pv 1) pa_nil))) pe_int))
      (pss_cons (ps_set (i := 5) sc_divided.nd rfl (Or.inl rfl) pe_int)
      (pss_cons (ps_set (i := 6) sc_divided.nd rfl (Or.inl rfl) (pe_op op_rep (pe_lst (pa_cons pe_int pa_nil)) (pv 4)))
      (pss_cons (ps_set (i := 7) sc_divided.nd rfl (Or.inl rfl) (pe_callTy (call_listK (K := K) rfl) (by rfl) T.list_ PyProof.Rows.boot_list (pa_cons (pv 0) pa_nil)))
      (pss_cons (ps_for PassesOwn.never rfl (pi_rangeD rfl T.range_ (pa_cons (pe_op op_sub (pv 4) pe_int) (pa_cons (pe_un un_neg pe_int) (pa_cons (pe_un un_neg pe_int) pa_nil)))) (pg_name (i := 8) sc_divided.nd rfl (Or.inl rfl))
        (pss_cons (ps_set (i := 9) sc_divided.nd rfl (Or.inl rfl) (pe_op op_mulB (pv 3) (pe_ix (ix_listK (K := K) rfl) (pv 7) (pe_un un_neg pe_int) (fun _ _ => rfl))))
          (pss_cons (ps_set (i := 5) sc_divided.nd rfl (Or.inl rfl) (pe_op op_mulB (pv 5) (pv 2)))
          (pss_cons (ps_set (i := 6) sc_divided.nd rfl (Or.inl rfl) (pe_call G_scaled (hr.mono (by decide)) rfl m_scaled k_scaled b_scaled .nil pass0 (pa_cons (pv 6) (pa_cons (pv 2) pa_nil))))
          (pss_cons (ps_asg (pv 9) (pg_sub (pv 6) (pv 8) set_list))
          (pss_one (ps_set (i := 7) sc_divided.nd rfl (Or.inl rfl) (pe_call G_lowered (hr.mono (by decide)) rfl m_lowered k_lowered b_lowered .nil pass0 (pa_cons (pe_call G_scaled (hr.mono (by decide)) rfl m_scaled k_scaled b_scaled .nil pass0 (pa_cons (pv 7) (pa_cons (pv 2) pa_nil))) (pa_cons (pv 1) (pa_cons (pv 8) (pa_cons (pv 9) pa_nil))))))))))))
      (pss_one (ps_ret (pe_tup (pa_cons (pv 5) (pa_cons (pv 6) (pa_cons (pe_call G_poly (hr.mono (by decide)) rfl m_poly k_poly b_poly .nil pass0 (pa_cons (pv 7) pa_nil)) pa_nil)))))))))))))), ?_⟩
    refine rd_sr ⟨_, rfl, Nat.zero_le _, fun p1 hp1 => ?_⟩
    have s1 : Same H (upd H p1 (.lst [])) := Same.upd_new hp1
    refine ⟨b, p1, ys, [], rfl, rfl, SqL.of (s1 _ _ hB), SqL.of upd_same, _, rfl, rd_dec (fun h0 => absurd h0 hy) (fun _ => ?_)⟩
    generalize upd H p1 (.lst []) = H1 at s1 ⊢
    refine rd_sa ⟨_, rfl, _, rfl, b, _, _, _, rfl, rfl, SqL.of (s1 _ _ hB), at_last' hy, _, rfl, ?_⟩
    rw [abs_eq]
    refine rd_sa ⟨_, rfl, _, rfl, b, _, _, _, rfl, rfl, SqL.of (s1 _ _ hB), at_last' hy, _, rfl, ?_⟩
    refine rd_sa ⟨_, rfl, a, _, rfl, s1 _ _ hA, _, rfl, b, _, rfl, s1 _ _ hB, _, _, rfl, rfl, _, _, rfl, rfl, ?_⟩
    dsimp only
    rw [List.length_map, List.length_map]
    have est : ((xs.length : Int) - 1 - ((ys.length : Int) - 1) + 1).toNat = divN xs ys := by unfold divN; omega
    generalize hst : ((xs.length : Int) - 1 - ((ys.length : Int) - 1) + 1) = st at est ⊢
    refine rd_sa ?_
    refine rd_sa ⟨by show 1 ≤ sizeLine; decide, fun p2 hp2 => ⟨_, rfl, p2, _, _, rfl, rfl, upd_same, by omega, by omega, by show 1 * _ ≤ _; omega, fun q hq => ?_⟩⟩
    rw [est, rep_zero]
    have s2 := s1.then_new (o := .lst [V.int 0]) hp2
    have s3 := s2.then_new (o := .lst ((List.replicate (divN xs ys) (0 : Int)).map V.int)) hq
    have fq : H q = none := s2.free hq
    refine rd_sa ⟨_, rfl, a, _, rfl, .inl (SqL.of (s3 _ _ hA)), fun r hr' => ?_⟩
    have hq3 : upd (upd H1 p2 (.lst [V.int 0])) q (.lst ((List.replicate (divN xs ys) (0 : Int)).map V.int)) q = some (.lst ((List.replicate (divN xs ys) (0 : Int)).map V.int)) := upd_same
    have s4 := s3.then_new (o := .lst (xs.map V.int)) hr'
    have fr : H r = none := s3.free hr'
    have nqr : q ≠ r := ne_of_none hq3 hr'
    generalize hH4 : upd (upd (upd H1 p2 (.lst [V.int 0])) q (.lst ((List.replicate (divN xs ys) (0 : Int)).map V.int))) r (.lst (xs.map V.int)) = H4 at s4 ⊢
    have hq4 : H4 q = some (.lst ((List.replicate (divN xs ys) (0 : Int)).map V.int)) := by rw [← hH4, upd_ne nqr]; exact hq3
    have hr4 : H4 r = some (.lst (xs.map V.int)) := by rw [← hH4, upd_same]
    have hs : Bits nb (((cf ys (ys.length - 1)).natAbs : Nat) : Int) := abs_bits (by'.cf _)
    refine ⟨_, rfl, _, _, rfl, rfl, _, rfl, _, rfl, st - 1, -1, rfl, by omega, ?_⟩
    have en : (st - 1 - -1).toNat = divN xs ys := by rw [← est]; congr 1; omega
    rw [en]
    refine for_rangeD (fun i σ' H' => ∃ (q r : Addr) (z8 z9 : Option V), σ' = [some (.ref a), some (.ref b), some (.int ((cf ys (ys.length - 1)).natAbs : Nat)), some (.int (sg (cf ys (ys.length - 1)))), some (.int st), some (.int (((cf ys (ys.length - 1)).natAbs : Int) ^ i)), some (.ref q), some (.ref r), z8, z9] ∧ Same H H' ∧ H q = none ∧ H r = none ∧ q ≠ r ∧ H' q = some (.lst ((divAt xs ys i).1.map V.int)) ∧ H' r = some (.lst ((divAt xs ys i).2.map V.int)))
      ⟨q, r, none, none, rfl, s4, fq, fr, nqr, hq4, hr4⟩ ?_ ?_
    · rintro i σ' H' hi ⟨q, r, z8, z9, rfl, sm, fq, fr, nqr, hq', hr'⟩
      obtain ⟨lq, lr, low, _⟩ := div_inv (a := xs) hy i (Nat.le_of_lt hi)
      obtain ⟨bq, br⟩ := div_bits bx by' i
      have hix : i < xs.length := by unfold divN at hi; omega
      have bi := bsz i (Nat.le_of_lt hix)
      have rne : (divAt xs ys i).2 ≠ [] := fun z => by rw [z] at lr; simp at lr; omega
      have ep : st - 1 + (i : Int) * -1 = ((xs.length + 1 - ys.length - 1 - i : Nat) : Int) := by unfold divN at hi est; omega
      refine rd_sa ⟨_, rfl, _, rfl, _, rfl, r, _, _, _, rfl, rfl, SqL.of hr', at_last' rne, _, _, rfl, rfl, ⟨sg_bits.mono (by decide), (br.cf _).mono bi⟩, ?_⟩
      have bpow : Bits 1000000 (((cf ys (ys.length - 1)).natAbs : Int) ^ i) := (bits_pow hs i).mono (by
        have := Nat.mul_le_mul_right i (show nb ≤ nb + 1 by omega)
        rw [Nat.mul_comm (nb + 1) i] at this
        have h2 := bsz (i + 1) hix
        rw [Nat.succ_mul] at h2
        omega)
      refine rd_sa ⟨_, rfl, _, rfl, _, _, rfl, rfl, ⟨bpow, hs.mono hnb⟩, ?_⟩
      dsimp only
      rw [← Int.pow_succ]
      refine rd_sa ⟨_, rfl, _, rfl, q, _, _, rfl, hq', by rw [lq]; omega, hs.mono hnb, bq.mono bi, fun q1 H2 sm2 hq1 eq1 => ?_⟩
      have fq1 : H q1 = none := sm.free hq1
      have sm2' := sm.trans sm2
      have hpl : xs.length + 1 - ys.length - 1 - i < (scL ((cf ys (ys.length - 1)).natAbs : Int) (divAt xs ys i).1).length := by rw [length_scL, lq]; unfold divN at hi; omega
      refine ⟨_, rfl, _, rfl, _, rfl, q1, _, _, _, rfl, rfl, eq1, ixN_nat ep (by rw [List.length_map]; exact hpl), ?_⟩
      rw [map_set_int]
      have sm3 : Same H (upd H2 q1 (.lst (((scL ((cf ys (ys.length - 1)).natAbs : Int) (divAt xs ys i).1).set (xs.length + 1 - ys.length - 1 - i) (sg (cf ys (ys.length - 1)) * cf (divAt xs ys i).2 ((divAt xs ys i).2.length - 1))).map V.int))) := mut_same sm2' fq1
      have nq1r : q1 ≠ r := fun z => by rw [z, hr'] at hq1; cases hq1
      have hr3 : upd H2 q1 (.lst (((scL ((cf ys (ys.length - 1)).natAbs : Int) (divAt xs ys i).1).set (xs.length + 1 - ys.length - 1 - i) (sg (cf ys (ys.length - 1)) * cf (divAt xs ys i).2 ((divAt xs ys i).2.length - 1))).map V.int)) r = some (.lst ((divAt xs ys i).2.map V.int)) := by rw [upd_ne (Ne.symm nq1r)]; exact sm2 _ _ hr'
      have hq3 : upd H2 q1 (.lst (((scL ((cf ys (ys.length - 1)).natAbs : Int) (divAt xs ys i).1).set (xs.length + 1 - ys.length - 1 - i) (sg (cf ys (ys.length - 1)) * cf (divAt xs ys i).2 ((divAt xs ys i).2.length - 1))).map V.int)) q1 = some (.lst (((scL ((cf ys (ys.length - 1)).natAbs : Int) (divAt xs ys i).1).set (xs.length + 1 - ys.length - 1 - i) (sg (cf ys (ys.length - 1)) * cf (divAt xs ys i).2 ((divAt xs ys i).2.length - 1))).map V.int)) := upd_same
      generalize upd H2 q1 (.lst (((scL ((cf ys (ys.length - 1)).natAbs : Int) (divAt xs ys i).1).set (xs.length + 1 - ys.length - 1 - i) (sg (cf ys (ys.length - 1)) * cf (divAt xs ys i).2 ((divAt xs ys i).2.length - 1))).map V.int)) = H3 at sm3 hr3 hq3 ⊢
      refine ⟨_, rfl, _, rfl, r, _, _, rfl, hr3, by rw [lr]; omega, hs.mono hnb, br.mono bi, fun r1 H5 sm5 hr1 er1 => ?_⟩
      have sm35 := sm3.trans sm5
      refine ⟨_, rfl, _, rfl, _, rfl, r1, b, _, _, (xs.length + 1 - ys.length - 1 - i), sg (cf ys (ys.length - 1)) * cf (divAt xs ys i).2 ((divAt xs ys i).2.length - 1), ?_, er1, sm35 _ _ hB, ?_, hy, (sg_mul_bits (br.cf _)).mono bi, by'.mono hnb, fun r2 H6 sm6 hr2 er2 => ?_⟩
      · rw [← ep]; rfl
      · rw [length_scL, lr]; unfold divN at hi; omega
      · have nqr2 : q1 ≠ r2 := fun z => by rw [← z, sm5 _ _ hq3] at hr2; cases hr2
        exact ⟨q1, r2, _, _, rfl, sm35.trans sm6, fq1, sm35.free hr2, nqr2, sm6 _ _ (sm5 _ _ hq3), er2⟩
    · rintro σ' H' ⟨q, r, z8, z9, rfl, sm, fq, fr, nqr, hq', hr'⟩
      refine ⟨_, rfl, _, rfl, _, rfl, r, _, rfl, SqL.of hr', fun r1 H2 sm2 hr1 er1 => ⟨by show 3 ≤ sizeLine; decide, fun t ht => ?_⟩⟩
      have nqr1 : q ≠ r1 := fun z => by rw [← z, hq'] at hr1; cases hr1
      have ntq : q ≠ t := ne_of_none (sm2 _ _ hq') ht
      have ntr : r1 ≠ t := ne_of_none er1 ht
      refine k t q r1 _ ((sm.trans sm2).then_new ht) ((sm.trans sm2).free ht) fq (sm.free hr1) nqr1 ntq ntr upd_same ?_ ?_
      · rw [upd_ne ntq]; exact sm2 _ _ hq'
      · rw [upd_ne ntr]; exact er1
def Fit (one other : List Int) : Prop := Tr one ∧ Tr other ∧ ∃ n, AllB n one ∧ AllB n other ∧ (one.length + 2) * (n + 1) ≤ 1000000 ∧ other.length ≤ 1000000
def Run : Nat → List Int → List Int → Prop
  | 0, one, _ => one = []
  | n + 1, one, other => one = [] ∨ (Fit one other ∧ Run n other (nxt one other))
/-- a new list of new lists is handed back -/
def mkRows (H : Hp) (Q : VK) (xss : List (List Int)) : Prop := ∀ (l : Addr) (ps : List Addr) (H' : Hp), Same H H' → H l = none → (∀ p ∈ ps, H p = none ∧ p ≠ l) → H' l = some (.lst (ps.map V.ref)) → RwH H' ps xss → Q (.ref l) H'
theorem RwH.upd_ne {H : Hp} {ps : List Addr} {xss : List (List Int)} {a : Addr} {o : HO} (h : RwH H ps xss) (hn : ∀ p ∈ ps, p ≠ a) : RwH (upd H a o) ps xss := ⟨h.1, fun i p xs e1 e2 => by rw [L2.upd_ne (hn p (List.mem_of_getElem? e1))]; exact h.2 i p xs e1 e2⟩
def spRowF : Sp := fun vs H Q _ => ∃ (a b : Addr) (xs ys : List Int) (n : Nat), vs = [.ref a, .ref b] ∧ H a = some (.lst (xs.map V.int)) ∧ H b = some (.lst (ys.map V.int)) ∧ Tr xs ∧ Tr ys ∧ xs.length ≤ 1000 ∧ ys.length ≤ 1000 ∧ n ≤ 1000 ∧ Run n (shrL xs) (shrL ys) ∧ mkRows H Q (rowS n (shrL xs) (shrL ys))
theorem ok_row_from {f : Addr} {fd : FuncData} (F : Fun K "row_from" "row_from" s_row_from f fd) (T : Txt K mg) {f_shrunk : Addr} {fd_shrunk : FuncData} (C_shrunk : Cal P w K mg base 33 "shrunk" ["row"] spShr f_shrunk fd_shrunk) {f_divided : Addr} {fd_divided : FuncData} (C_divided : Cal P w K mg base 2 "divided" ["first", "second"] spDiv f_divided fd_divided) {f_taken : Addr} {fd_taken : FuncData} (C_taken : Cal P w K mg base 2 "taken" ["first", "second"] (sp2L K subL) f_taken fd_taken) : FnOk P w K mg base CX0 34 f fd ["first", "second"] spRowF := by
  obtain ⟨G_shrunk, m_shrunk, k_shrunk, b_shrunk⟩ := C_shrunk
  obtain ⟨G_divided, m_divided, k_divided, b_divided⟩ := C_divided
  obtain ⟨G_taken, m_taken, k_taken, b_taken⟩ := C_taken
  refine F.ok sc_row_from (fun vs H Q E h => ?_) (fun cdv A outer s H vs Q E hr h => ?_)
  · obtain ⟨a, b, xs, ys, n, rfl, _⟩ := h
    rfl
  · obtain ⟨a, b, xs, ys, n, rfl, hA, hB, xtr, ytr, hx, hy, hn, hrun, k⟩ := h
    have big := sizeLine_eq
    have hu := hr.units
    refine ⟨_, (pss_cons (ps_set (i := 2) sc_row_from.nd rfl (Or.inl rfl) (pe_lst pa_nil))
      (pss_cons (ps_set (i := 3) sc_row_from.nd rfl (Or.inl rfl) (pe_call G_shrunk (hr.mono (by decide)) rfl m_shrunk k_shrunk b_shrunk .nil pass0 (pa_cons (pv 0) pa_nil)))
      (pss_cons (ps_set (i := 4) sc_row_from.nd rfl (Or.inl rfl) (pe_call G_shrunk (hr.mono (by decide)) rfl m_shrunk k_shrunk b_shrunk .nil pass0 (pa_cons (pv 1) pa_nil)))
      (pss_cons (ps_while PassesOwn.never (pt_cmpR (op_neLK (K := K) rfl hu) (pv 3) (pe_lst pa_nil) (nomark _))
        (pss_cons (ps_expr (pe_bm PySem.F.plainAttrs_list PySem.F.slot_list_append PySem.F.type_list_append mt_append (pv 2) (pa_cons (pv 3) pa_nil)))
          (pss_cons (ps_set (i := 5) sc_row_from.nd rfl (Or.inl rfl) (pe_ifExp (pt_cmpR (op_eqLK (K := K) rfl hu) (pv 4) (pe_lst pa_nil) (nomark _)) (pe_lst pa_nil) (pe_ix (ix_tupK (K := K) rfl) (pe_call G_divided (hr.mono (by decide)) rfl m_divided k_divided b_divided .nil pass0 (pa_cons (pv 3) (pa_cons (pv 4) pa_nil))) pe_int (fun _ _ => rfl))))
          (pss_cons (ps_set (i := 3) sc_row_from.nd rfl (Or.inl rfl) (pv 4))
          (pss_one (ps_set (i := 4) sc_row_from.nd rfl (Or.inl rfl) (pe_call G_shrunk (hr.mono (by decide)) rfl m_shrunk k_shrunk b_shrunk .nil pass0 (pa_cons (pe_call G_taken (hr.mono (by decide)) rfl m_taken k_taken b_taken .nil pass0 (pa_cons (pe_lst pa_nil) (pa_cons (pv 5) pa_nil))) pa_nil))))))))
      (pss_one (ps_ret (pv 2))))))), ?_⟩
    refine rd_sa ⟨Nat.zero_le _, fun l hl => ?_⟩
    have s1 := Same.upd_new (o := .lst []) hl
    have hl1 : upd H l (.lst []) l = some (.lst (([] : List Addr).map V.ref)) := upd_same
    generalize upd H l (.lst []) = H1 at s1 hl1 ⊢
    refine rd_sa ⟨_, rfl, a, xs, rfl, s1 _ _ hA, xtr, by omega, fun p1 H2 sm2 hp1 e1 => ?_⟩
    have s2 := s1.trans sm2
    refine rd_sa ⟨_, rfl, b, ys, rfl, s2 _ _ hB, ytr, by omega, fun p2 H3 sm3 hp2 e2 => ?_⟩
    have s3 := s2.trans sm3
    have n1l : p1 ≠ l := fun z => by rw [z, hl1] at hp1; cases hp1
    have n2l : p2 ≠ l := fun z => by rw [z, sm2 _ _ hl1] at hp2; cases hp2
    generalize shrL xs = one' at hrun k e1
    generalize shrL ys = other at hrun k e2
    refine ⟨fun m σ' H' => ∃ (po pt : Addr) (one other' : List Int) (ps : List Addr) (acc : List (List Int)) (z5 : Option V), σ' = [some (.ref a), some (.ref b), some (.ref l), some (.ref po), some (.ref pt), z5] ∧ Same H H' ∧ H' l = some (.lst (ps.map V.ref)) ∧ RwH H' ps acc ∧ (∀ p ∈ ps, H p = none ∧ p ≠ l) ∧ H' po = some (.lst (one.map V.int)) ∧ H' pt = some (.lst (other'.map V.int)) ∧ H po = none ∧ H pt = none ∧ po ≠ l ∧ pt ≠ l ∧ Run m one other' ∧ acc ++ rowS m one other' = rowS n one' other ∧ ps.length + m ≤ 1000,
      ⟨_, p1, p2, one', other, [], [], none, rfl, s3, sm3 _ _ (sm2 _ _ hl1), RwH.nil, (fun p hp => nomatch hp), sm3 _ _ e1, e2, s1.free hp1, s2.free hp2, n1l, n2l, hrun, rfl, by show 0 + n ≤ 1000; omega⟩, ?_⟩
    rintro m σ' H4 ⟨po, pt, one, other', ps, acc, z5, rfl, s4, hl4, hR4, hf4, ho4, ht4, fo, ft, nol, ntl, hrun4, hacc, hlen⟩
    refine ⟨_, rfl, Nat.zero_le _, fun q hq => ?_⟩
    have t5 := Same.upd_new (o := .lst []) hq
    refine ⟨po, q, one, [], rfl, rfl, SqL.of (t5 _ _ ho4), SqL.of upd_same, _, rfl, rd_ndec (fun hne => ?_) (fun he => ?_)⟩
    rotate_left
    · have he' : one = [] := he
      subst he'
      rw [rowS_nil, List.append_nil] at hacc
      refine ⟨_, rfl, k l ps _ (s4.trans t5) hl hf4 (t5 _ _ hl4) ?_⟩
      rw [← hacc]
      exact hR4.same t5
    have hne' : one ≠ [] := hne
    obtain ⟨m1, rfl⟩ : ∃ m1, m = m1 + 1 := by
      cases m with
      | zero => exact absurd hrun4 hne'
      | succ m1 => exact ⟨m1, rfl⟩
    obtain ⟨⟨otr, ttr, nb, bo, bt, hsz, htl⟩, hrun5⟩ := (show one = [] ∨ (Fit one other' ∧ Run m1 other' (nxt one other')) from hrun4).resolve_left hne'
    have hacc5 : (acc ++ [one]) ++ rowS m1 other' (nxt one other') = rowS n one' other := by
      rw [← hacc]
      show _ = acc ++ (if one = [] then [] else one :: rowS m1 other' (nxt one other'))
      rw [if_neg hne', List.append_assoc]; rfl
    generalize hH5 : upd H4 q (.lst []) = H5 at t5 ⊢
    refine ⟨fun σ'' H'' => ∃ m', m' < m1 + 1 ∧ ∃ (po pt : Addr) (one other' : List Int) (ps : List Addr) (acc : List (List Int)) (z5 : Option V), σ'' = [some (.ref a), some (.ref b), some (.ref l), some (.ref po), some (.ref pt), z5] ∧ Same H H'' ∧ H'' l = some (.lst (ps.map V.ref)) ∧ RwH H'' ps acc ∧ (∀ p ∈ ps, H p = none ∧ p ≠ l) ∧ H'' po = some (.lst (one.map V.int)) ∧ H'' pt = some (.lst (other'.map V.int)) ∧ H po = none ∧ H pt = none ∧ po ≠ l ∧ pt ≠ l ∧ Run m' one other' ∧ acc ++ rowS m' one other' = rowS n one' other ∧ ps.length + m' ≤ 1000, fun _ _ h => h, ?_⟩
    have hl5 := t5 _ _ hl4
    refine rd_sd ⟨_, rfl, .inl ⟨rfl, _, SqL.of hl5⟩, _, rfl, l, _, _, rfl, rfl, hl5, by rw [List.length_map]; omega, ?_⟩
    rw [map_ref_snoc]
    have s6 : Same H (upd H5 l (.lst ((ps ++ [po]).map V.ref))) := mut_same (s4.trans t5) hl
    have hl6 : upd H5 l (.lst ((ps ++ [po]).map V.ref)) l = some (.lst ((ps ++ [po]).map V.ref)) := upd_same
    have hf6 : ∀ p ∈ ps ++ [po], H p = none ∧ p ≠ l := fun p hp => by
      rcases List.mem_append.mp hp with h | h
      · exact hf4 p h
      · rw [List.mem_singleton.mp h]; exact ⟨fo, nol⟩
    have hR6 : RwH (upd H5 l (.lst ((ps ++ [po]).map V.ref))) (ps ++ [po]) (acc ++ [one]) := ((hR4.same t5).snoc (t5 _ _ ho4)).upd_ne fun p hp => (hf6 p hp).2
    have ho6 : upd H5 l (.lst ((ps ++ [po]).map V.ref)) po = some (.lst (one.map V.int)) := by rw [L2.upd_ne nol]; exact t5 _ _ ho4
    have ht6 : upd H5 l (.lst ((ps ++ [po]).map V.ref)) pt = some (.lst (other'.map V.int)) := by rw [L2.upd_ne ntl]; exact t5 _ _ ht4
    generalize upd H5 l (.lst ((ps ++ [po]).map V.ref)) = H6 at s6 hl6 hR6 ho6 ht6 ⊢
    -- rest
    refine rd_cut (fun σ' H' => ∃ pr : Addr, σ' = [some (.ref a), some (.ref b), some (.ref l), some (.ref po), some (.ref pt), some (.ref pr)] ∧ Same H6 H' ∧ H' pr = some (.lst ((rst one other').map V.int))) ?_ ?_
    case refine_2 =>
      intro rest
      refine rd_asg (rd_ifE ⟨_, rfl, Nat.zero_le _, fun q2 hq2 => ?_⟩)
      have t7 := Same.upd_new (o := .lst []) hq2
      refine ⟨pt, q2, other', [], rfl, rfl, SqL.of (t7 _ _ ht6), SqL.of upd_same, _, rfl, rd_dec (fun h0 => ?_) (fun h0 => ?_)⟩
      · have h0' : other' = [] := h0
        refine ⟨Nat.zero_le _, fun q3 hq3 => rest _ _ ⟨q3, rfl, t7.then_new hq3, ?_⟩⟩
        rw [upd_same]; unfold rst; rw [if_pos h0']; rfl
      · have h0' : other' ≠ [] := h0
        refine ⟨_, rfl, _, rfl, po, pt, one, other', nb, rfl, t7 _ _ ho6, t7 _ _ ht6, h0', bo, bt, hsz, htl, fun t q' r H8 sm8 _ _ _ _ _ _ et _ er => ?_⟩
        refine ⟨t, _, _, _, rfl, rfl, SqT.of et, rfl, rest _ _ ⟨r, rfl, t7.trans sm8, ?_⟩⟩
        rw [er]; unfold rst; rw [if_neg h0']
    rintro σ' H8 ⟨pr, rfl, t8, hr8⟩
    refine rd_sa ⟨_, rfl, ?_⟩
    refine rd_asg ⟨Nat.zero_le _, fun q hq => ?_⟩
    have t9 := t8.then_new (o := .lst []) hq
    have hrl : (rst one other').length ≤ 1000000 := by
      unfold rst
      split
      · exact Nat.zero_le _
      · rename_i h0
        have := div_lenR (a := one) h0
        omega
    refine ⟨_, rfl, q, pr, [], rst one other', rfl, SqL.of upd_same, SqL.of (by rw [L2.upd_ne (ne_of_none hr8 hq)]; exact hr8), Nat.zero_le _, hrl, fun p9 H9 sm9 hp9 e9 => ?_⟩
    have hsl : (subL [] (rst one other')).length ≤ 1000000 := Nat.le_trans (length_trim _) (by unfold linL; rw [List.length_map, List.length_range]; exact Nat.max_le.mpr ⟨Nat.zero_le _, hrl⟩)
    refine ⟨p9, _, rfl, e9, tr_trim _, hsl, fun p10 H10 sm10 hp10 e10 => ?_⟩
    have t10 : Same H6 H10 := (t9.trans sm9).trans sm10
    have f10 : H6 p10 = none := (t9.trans sm9).free hp10
    refine ⟨m1, Nat.lt_succ_self _, pt, p10, other', nxt one other', ps ++ [po], acc ++ [one], _, rfl, s6.trans t10, t10 _ _ hl6, hR6.same t10, hf6, t10 _ _ ht6, e10, ft, s6.free f10, ntl, (fun z => by rw [z, hl6] at f10; cases f10), hrun5, hacc5, by rw [List.length_append]; show ps.length + 1 + m1 ≤ 1000; omega⟩
def spRowOf : Sp := fun vs H Q _ => ∃ (a : Addr) (xs : List Int) (n : Nat), vs = [.ref a] ∧ H a = some (.lst (xs.map V.int)) ∧ Tr xs ∧ AllB 90000 xs ∧ xs.length ≤ 1000 ∧ n ≤ 1000 ∧ Run n (shrL xs) (shrL (slopeL xs)) ∧ mkRows H Q (rowS n (shrL xs) (shrL (slopeL xs)))
theorem tr_slopeL {xs : List Int} (h : Tr xs) : Tr (slopeL xs) := by
  intro n hn
  unfold slopeL at *
  rw [List.length_map, List.length_range] at hn
  rw [cf_map_range, if_pos (by omega)]
  exact Int.mul_ne_zero (by omega) (h (n + 1) (by omega))
theorem ok_row_of {f : Addr} {fd : FuncData} (F : Fun K "row_of" "row_of" s_row_of f fd) (T : Txt K mg) {f_row_from : Addr} {fd_row_from : FuncData} (C_row_from : Cal P w K mg base 34 "row_from" ["first", "second"] spRowF f_row_from fd_row_from) {f_slope : Addr} {fd_slope : FuncData} (C_slope : Cal P w K mg base 1 "slope" ["row"] (sp1 slopeL) f_slope fd_slope) : FnOk P w K mg base CX0 35 f fd ["polynomial"] spRowOf := by
  obtain ⟨G_row_from, m_row_from, k_row_from, b_row_from⟩ := C_row_from
  obtain ⟨G_slope, m_slope, k_slope, b_slope⟩ := C_slope
  refine F.ok sc_row_of (fun vs H Q E h => ?_) (fun cdv A outer s H vs Q E hr h => ?_)
  · obtain ⟨a, xs, n, rfl, _⟩ := h
    rfl
  · obtain ⟨a, xs, n, rfl, hA, xtr, bx, hx, hn, hrun, k⟩ := h
    refine ⟨_, (pss_one (ps_ret (pe_call G_row_from (hr.mono (by decide)) rfl m_row_from k_row_from b_row_from .nil pass0 (pa_cons (pv 0) (pa_cons (pe_call G_slope (hr.mono (by decide)) rfl m_slope k_slope b_slope .nil pass0 (pa_cons (pv 0) pa_nil)) pa_nil))))), ?_⟩
    refine rd_ret ⟨_, rfl, _, rfl, a, xs, rfl, hA, by omega, bx.mono (by decide), fun p H1 s1 hp e1 => ?_⟩
    have hsl : (slopeL xs).length ≤ 1000 := by unfold slopeL; rw [List.length_map, List.length_range]; omega
    exact ⟨a, p, xs, slopeL xs, n, rfl, s1 _ _ hA, e1, xtr, tr_slopeL xtr, hx, hsl, hn, hrun, fun l ps H' sm hl hf e r => k l ps H' (s1.trans sm) (s1.free hl) (fun p hp => ⟨s1.free (hf p hp).1, (hf p hp).2⟩) e r⟩
def Vp (C : Addr) (H : Hp) (vs : List V) (a r : Addr) (ns : List Int) (t b : Int) : Prop := vs = [.ref a, .ref r] ∧ H a = some (.lst (ns.map V.int)) ∧ RA C H r t b ∧ ns.length ≤ 20 ∧ AllB 95000 ns ∧ Bits 60 t ∧ Bits 60 b
def VpI (H : Hp) (vs : List V) (a : Addr) (ns : List Int) (t b : Int) : Prop := vs = [.ref a, .int t, .int b] ∧ H a = some (.lst (ns.map V.int)) ∧ ns.length ≤ 20 ∧ AllB 95000 ns ∧ Bits 60 t ∧ Bits 60 b
def spVp : Sp := fun vs H Q _ => ∃ (a : Addr) (ns : List Int) (t b : Int), VpI H vs a ns t b ∧ ∀ (p : Addr) (H' : Hp), Same H H' → H p = none → H' p = some (.tup [.int (hv t b ns), .int (b ^ ns.length)]) → Q (.ref p) H'
theorem hv_bits {t b : Int} (bt : Bits 60 t) (bb : Bits 60 b) : ∀ {l : List Int}, AllB 95000 l → Bits (95000 + 1 + (60 + 1) * l.length) (hv t b l)
  | [], _ => by refine Bits.mono (j := 1) ?_ (by omega); show (0 : Int).natAbs < 2 ^ 1; decide
  | v :: l, h => by
    rw [hv_cons]
    have h1 := h v (List.mem_cons_self ..)
    have h2 := hv_bits bt bb (l := l) fun x hx => h x (List.mem_cons_of_mem _ hx)
    have e1 := (h1.mul (bits_pow bb (l.length + 1))).mono (k := 95000 + 1 + (60 + 1) * l.length + 60) (by omega)
    have e2 := (bt.mul h2).mono (k := 95000 + 1 + (60 + 1) * l.length + 60) (by omega)
    exact (e1.add e2).mono (by rw [List.length_cons]; omega)
theorem ok_value_parts {f : Addr} {fd : FuncData} (F : Fun K "value_parts" "value_parts" s_value_parts f fd) (T : Txt K mg) : FnOk P w K mg base CX0 1 f fd ["row", "top", "bottom"] spVp := by
  refine F.ok sc_value_parts (fun vs H Q E h => ?_) (fun cdv A outer s H vs Q E hr h => ?_)
  · obtain ⟨a, ns, t, b, ⟨rfl, _⟩, _⟩ := h
    rfl
  · obtain ⟨a, ns, t, b, ⟨rfl, hA, hn, hb, bt, bb⟩, k⟩ := h
    refine ⟨_, (pss_cons (ps_set (i := 3) sc_value_parts.nd rfl (Or.inl rfl) pe_int)
      (pss_cons (ps_set (i := 4) sc_value_parts.nd rfl (Or.inl rfl) pe_int)
      (pss_cons (ps_for PassesOwn.never rfl (pi_rev rfl T.reversed_ (pa_cons (pv 0) pa_nil)) (pg_name (i := 5) sc_value_parts.nd rfl (Or.inl rfl))
        (pss_cons (ps_set (i := 4) sc_value_parts.nd rfl (Or.inl rfl) (pe_op op_mulB (pv 4) (pv 2)))
          (pss_one (ps_set (i := 3) sc_value_parts.nd rfl (Or.inl rfl) (pe_op op_add (pe_op op_mulB (pv 3) (pv 1)) (pe_op op_mulB (pv 5) (pv 4)))))))
      (pss_one (ps_ret (pe_tup (pa_cons (pv 3) (pa_cons (pv 4) pa_nil)))))))), ?_⟩
    have hl : (ns.map V.int).length = ns.length := List.length_map _
    refine rd_sa ?_
    refine rd_sa ?_
    refine ⟨_, rfl, a, _, rfl, SqL.of hA, for_rev (K := K) (a := a) (xs := ns.map V.int) (fun i σ' H' => ∃ z : Option V, σ' = [some (.ref a), some (.int t), some (.int b), some (.int (hv t b (ns.drop (ns.length - i)))), some (.int (b ^ i)), z] ∧ H = H') ⟨none, ?_, rfl⟩ ?_ ?_ ?_⟩
    · rw [Nat.sub_zero, List.drop_length, Int.pow_zero]; rfl
    · rintro i σ' H' _ ⟨z, rfl, rfl⟩
      exact SqL.of hA
    · rintro i x σ' H' hi hx ⟨z, rfl, rfl⟩
      rw [hl] at hi hx
      obtain ⟨c, ec, rfl, hc, _⟩ := get_int hx
      have hi' : i < ns.length := hi
      have e1 : ns.length - (i + 1) = ns.length - 1 - i := by omega
      have hd := drop_hv t b (l := ns) (n := ns.length - 1 - i) (by omega)
      have e2 : ns.length - 1 - i + 1 = ns.length - i := by omega
      have e3 : ns.length - (ns.length - 1 - i) = i + 1 := by omega
      rw [e2, e3, cf_some ec] at hd
      have bs := hv_bits bt bb (l := ns.drop (ns.length - i)) fun x hx => hb x (List.mem_of_mem_drop hx)
      rw [List.length_drop] at bs
      have bp := bits_pow bb i
      have bq := bits_pow bb (i + 1)
      refine ⟨_, rfl, _, rfl, _, _, rfl, rfl, ⟨bp.mono (by omega), bb.mono (by decide)⟩, ?_⟩
      refine ⟨_, rfl, _, rfl, _, _, rfl, rfl, ⟨bs.mono (by omega), bt.mono (by decide)⟩, _, rfl, _, rfl, _, _, rfl, rfl, ⟨(hb c hc).mono (by decide), ?_⟩, _, _, rfl, rfl, ?_⟩
      · show Bits 1000000 (b ^ i * b)
        rw [← Int.pow_succ]; exact bq.mono (by omega)
      refine ⟨some (.int c), ?_, rfl⟩
      rw [e1, hd, Int.pow_succ b i, Int.add_comm, Int.mul_comm t]
      rfl
    · rintro σ' H' ⟨z, rfl, rfl⟩
      rw [hl, Nat.sub_self, List.drop_zero]
      exact ⟨_, rfl, _, rfl, by show 2 ≤ sizeLine; decide, fun p hp => k p _ (Same.upd_new hp) hp upd_same⟩
def spSa (C : Addr) : Sp := fun vs H Q _ => ∃ (a r : Addr) (ns : List Int) (t b : Int), Vp C H vs a r ns t b ∧ ∀ H', Same H H' → Q (.int (sg (hv t b ns))) H'
theorem ok_sign_at {C f : Addr} {fd : FuncData} (F : Fun K "sign_at" "sign_at" s_sign_at f fd) (T : Txt K mg) (R : RCI K mg C) {f_value_parts : Addr} {fd_value_parts : FuncData} (C_value_parts : Cal P w K mg base 1 "value_parts" ["row", "top", "bottom"] spVp f_value_parts fd_value_parts) {f_whole_sign : Addr} {fd_whole_sign : FuncData} (C_whole_sign : Cal P w K mg base 1 "whole_sign" ["value"] spSg f_whole_sign fd_whole_sign) : FnOk P w K mg base CX0 2 f fd ["row", "ratio"] (spSa C) := by
  obtain ⟨G_value_parts, m_value_parts, k_value_parts, b_value_parts⟩ := C_value_parts
  obtain ⟨G_whole_sign, m_whole_sign, k_whole_sign, b_whole_sign⟩ := C_whole_sign
  refine F.ok sc_sign_at (fun vs H Q E h => ?_) (fun cdv A outer s H vs Q E hr h => ?_)
  · obtain ⟨a, r, ns, t, b, ⟨rfl, _⟩, _⟩ := h
    rfl
  · obtain ⟨a, r, ns, t, b, hV, k⟩ := h
    obtain ⟨rfl, hA, ⟨dx, hR⟩, hn, hbs, bt, bb⟩ := hV
    refine ⟨_, (pss_one (ps_ret (pe_call G_whole_sign (hr.mono (by decide)) rfl m_whole_sign k_whole_sign b_whole_sign .nil pass0 (pa_cons (pe_ix (ix_tupK (K := K) rfl) (pe_call G_value_parts (hr.mono (by decide)) rfl m_value_parts k_value_parts b_value_parts .nil pass0 (pa_cons (pv 0) (pa_cons (pe_fldK (K := K) rfl (pv 1) rfl) (pa_cons (pe_fldK (K := K) rfl (pv 1) rfl) pa_nil)))) pe_int (fun _ _ => rfl)) pa_nil)))), ?_⟩
    refine ⟨_, rfl, _, rfl, r, C, dx, _, _, rfl, hR, R.cl, R.nT, flds_top _ _, _, rfl, r, C, dx, _, _, rfl, hR, R.cl, R.nB, flds_bottom _ _, a, ns, t, b, ⟨rfl, hA, hn, hbs, bt, bb⟩, fun p H1 s1 hp e1 => ?_⟩
    exact ⟨p, _, _, _, rfl, rfl, SqT.of e1, rfl, _, rfl, k H1 s1⟩
def sgs (t b : Int) (xss : List (List Int)) : List Int := xss.map fun p => sg (hv t b p)
def spChg (C : Addr) : Sp := fun vs H Q _ => ∃ (l r : Addr) (ps : List Addr) (xss : List (List Int)) (t b : Int), vs = [.ref l, .ref r] ∧ H l = some (.lst (ps.map V.ref)) ∧ RwH H ps xss ∧ RA C H r t b ∧ Bits 60 t ∧ Bits 60 b ∧ (∀ xs ∈ xss, xs.length ≤ 20 ∧ AllB 95000 xs) ∧ xss.length ≤ 1000000 ∧ ∀ H', Same H H' → Q (.int (chS (sgs t b xss)).1) H'
theorem sgs_small (t b : Int) (xss : List (List Int)) : ∀ s ∈ sgs t b xss, s.natAbs ≤ 1 := fun s hs => by
  obtain ⟨x, _, rfl⟩ := List.mem_map.mp hs
  exact sg_small _
theorem sgs_take {t b : Int} {xss : List (List Int)} {i : Nat} {xs : List Int} (h : xss[i]? = some xs) : sgs t b (xss.take (i + 1)) = sgs t b (xss.take i) ++ [sg (hv t b xs)] := by
  unfold sgs
  rw [List.take_add_one, h, List.map_append]; rfl
theorem one_bits {x : Int} (h : x.natAbs ≤ 1) : Bits 1000000 x := Bits.mono (j := 1) (Nat.lt_of_le_of_lt h (by decide)) (by decide)
theorem ok_changes {C f : Addr} {fd : FuncData} (F : Fun K "changes" "changes" s_changes f fd) (T : Txt K mg) (R : RCI K mg C) {f_sign_at : Addr} {fd_sign_at : FuncData} (C_sign_at : Cal P w K mg base 2 "sign_at" ["row", "ratio"] (spSa C) f_sign_at fd_sign_at) : FnOk P w K mg base CX0 3 f fd ["row", "ratio"] (spChg C) := by
  obtain ⟨G_sign_at, m_sign_at, k_sign_at, b_sign_at⟩ := C_sign_at
  refine F.ok sc_changes (fun vs H Q E h => ?_) (fun cdv A outer s H vs Q E hr h => ?_)
  · obtain ⟨l, r, ps, xss, t, b, rfl, _⟩ := h
    rfl
  · obtain ⟨l, r, ps, xss, t, b, rfl, hL, hR, hRA, bt, bb, hb, hn, k⟩ := h
    refine ⟨_, (pss_cons (ps_set (i := 2) sc_changes.nd rfl (Or.inl rfl) pe_int)
      (pss_cons (ps_set (i := 3) sc_changes.nd rfl (Or.inl rfl) pe_int)
      (pss_cons (ps_for PassesOwn.never rfl (pi_listK (K := K) rfl (pv 0)) (pg_name (i := 4) sc_changes.nd rfl (Or.inl rfl))
        (pss_cons (ps_set (i := 5) sc_changes.nd rfl (Or.inl rfl) (pe_call G_sign_at (hr.mono (by decide)) rfl m_sign_at k_sign_at b_sign_at .nil pass0 (pa_cons (pv 4) (pa_cons (pv 1) pa_nil))))
          (pss_cons (ps_if (pt_cmpR op_lt (pe_op op_mulB (pv 5) (pv 3)) pe_int (nomark _))
            (pss_one (ps_set (i := 2) sc_changes.nd rfl (Or.inl rfl) (pe_op op_add (pv 2) pe_int)))
            pss_nil)
          (pss_one (ps_if (pt_cmpR op_neI (pv 5) pe_int (nomark _))
            (pss_one (ps_set (i := 3) sc_changes.nd rfl (Or.inl rfl) (pv 5)))
            pss_nil)))))
      (pss_one (ps_ret (pv 2)))))), ?_⟩
    have hpl : (ps.map V.ref).length = xss.length := by rw [List.length_map, hR.1]
    refine rd_sa ?_
    refine rd_sa ?_
    refine ⟨_, rfl, l, rfl, ⟨_, SqL.of hL⟩, for_list (K := K) (a := l) (xs := ps.map V.ref) (fun i σ' H' => ∃ (z4 z5 : Option V), σ' = [some (.ref l), some (.ref r), some (.int (chS (sgs t b (xss.take i))).1), some (.int (chS (sgs t b (xss.take i))).2), z4, z5] ∧ Same H H') ⟨none, none, rfl, fun _ _ e => e⟩ ?_ ?_ ?_⟩
    · rintro i σ' H' _ ⟨z4, z5, rfl, sm⟩
      exact SqL.of (sm _ _ hL)
    · rintro i x σ' H1 hi ⟨z4, z5, rfl, s1⟩
      obtain ⟨p, xs, rfl, ep, ex, hp, hlt⟩ := hR.of_get hi
      obtain ⟨hx1, hx2⟩ := hb xs (List.mem_of_getElem? ex)
      show tSeq (tAsg _ (gName 5)) _ _ _ _
      refine rd_sa ⟨_, rfl, _, rfl, p, r, xs, t, b, ⟨rfl, s1 _ _ hp, hRA.same s1, hx1, hx2, bt.mono (by decide), bb.mono (by decide)⟩, fun H2 sm2 => ?_⟩
      have s2 := s1.trans sm2
      obtain ⟨c1, c2, c3⟩ := chS_small _ (sgs_small t b (xss.take i))
      rw [sgs_take ex, chS_snoc]
      have hs := sg_small (hv t b xs)
      generalize sg (hv t b xs) = s at hs ⊢
      generalize chS (sgs t b (xss.take i)) = z at c1 ⊢
      obtain ⟨m, bf⟩ := z
      dsimp only
      refine rd_cutIf (fun σ' H' => σ' = [some (.ref l), some (.ref r), some (.int (if s * bf < 0 then m + 1 else m)), some (.int bf), some (.ref p), some (.int s)] ∧ H2 = H') ?_ ?_
      case refine_2 =>
        intro rest
        refine ⟨_, rfl, _, rfl, _, _, rfl, rfl, ⟨one_bits hs, one_bits c1⟩, _, _, rfl, rfl, _, rfl, rd_dec (fun h1 => ?_) (fun h1 => ?_)⟩
        · refine rd_asg ⟨_, rfl, _, _, rfl, rfl, rest _ _ ⟨?_, rfl⟩⟩
          rw [if_pos h1]; rfl
        · refine rest _ _ ⟨?_, rfl⟩
          rw [if_neg h1]; rfl
      rintro σ' H' ⟨rfl, rfl⟩
      refine ⟨_, rfl, _, _, rfl, rfl, _, rfl, rd_ndec (fun h1 => ?_) (fun h1 => ?_)⟩
      · refine rd_asg ⟨_, rfl, some (.ref p), some (.int s), ?_, s2⟩
        unfold chF
        have h1' : ¬ s = 0 := h1
        rw [if_neg h1']; rfl
      · refine ⟨some (.ref p), some (.int s), ?_, s2⟩
        unfold chF
        have h1' : s = 0 := h1
        rw [if_pos h1']
    · rintro σ' H' ⟨z4, z5, rfl, sm⟩
      rw [hpl, List.take_length]
      exact ⟨_, rfl, k H' sm⟩
def spCnt (C : Addr) : Sp := fun vs H Q _ => ∃ (l r r2 : Addr) (ps : List Addr) (xss : List (List Int)) (t b t2 b2 : Int), vs = [.ref l, .ref r, .ref r2] ∧ H l = some (.lst (ps.map V.ref)) ∧ RwH H ps xss ∧ RA C H r t b ∧ RA C H r2 t2 b2 ∧ Bits 60 t ∧ Bits 60 b ∧ Bits 60 t2 ∧ Bits 60 b2 ∧ (∀ xs ∈ xss, xs.length ≤ 20 ∧ AllB 95000 xs) ∧ xss.length ≤ 1000000 ∧ ∀ H', Same H H' → Q (.int ((chS (sgs t b xss)).1 - (chS (sgs t2 b2 xss)).1)) H'
theorem ok_count {C f : Addr} {fd : FuncData} (F : Fun K "count" "count" s_count f fd) (T : Txt K mg) (R : RCI K mg C) {f_changes : Addr} {fd_changes : FuncData} (C_changes : Cal P w K mg base 3 "changes" ["row", "ratio"] (spChg C) f_changes fd_changes) : FnOk P w K mg base CX0 4 f fd ["row", "low", "high"] (spCnt C) := by
  obtain ⟨G_changes, m_changes, k_changes, b_changes⟩ := C_changes
  refine F.ok sc_count (fun vs H Q E h => ?_) (fun cdv A outer s H vs Q E hr h => ?_)
  · obtain ⟨l, r, r2, ps, xss, t, b, t2, b2, rfl, _⟩ := h
    rfl
  · obtain ⟨l, r, r2, ps, xss, t, b, t2, b2, rfl, hL, hR, h1, h2, bt, bb, bt2, bb2, hb, hn, k⟩ := h
    refine ⟨_, (pss_one (ps_ret (pe_op op_sub (pe_call G_changes (hr.mono (by decide)) rfl m_changes k_changes b_changes .nil pass0 (pa_cons (pv 0) (pa_cons (pv 1) pa_nil))) (pe_call G_changes (hr.mono (by decide)) rfl m_changes k_changes b_changes .nil pass0 (pa_cons (pv 0) (pa_cons (pv 2) pa_nil)))))), ?_⟩
    refine rd_ret ⟨_, rfl, _, rfl, l, r, ps, xss, t, b, rfl, hL, hR, h1, bt, bb, hb, hn, fun H1 s1 => ?_⟩
    refine ⟨_, rfl, _, rfl, l, r2, ps, xss, t2, b2, rfl, s1 _ _ hL, hR.same s1, h2.same s1, bt2, bb2, hb, hn, fun H2 s2 => ?_⟩
    exact ⟨_, _, rfl, rfl, k _ (s1.trans s2)⟩
--SPLIT
theorem ok__law_cell_at {f : Addr} {fd : FuncData} (F : Fun K "_law_cell_at" "_law_cell_at" s__law_cell_at f fd) (T : Txt K mg) : FnOk P w K mg base CX0 1 f fd ["_law_script", "_law_k"] (spCell K) := by
  refine F.ok sc__law_cell_at (fun vs H Q E h => ?_) (fun cdv A outer s H vs Q E hr h => ?_)
  · obtain ⟨a, ns, k, rfl, _⟩ := h
    rfl
  · obtain ⟨a, ns, n, rfl, hS, k⟩ := h
    refine ⟨_, (pss_cons (ps_if (pt_cmpR op_lt (pv 1) (pe_callB (call_lenK (K := K) rfl) (by rfl) T.len_ PySem.boot_len (pa_cons (pv 0) pa_nil)) (nomark _))
        (pss_one (ps_ret (pe_ix (ix_listK (K := K) rfl) (pv 0) (pv 1) (fun _ _ => rfl))))
        pss_nil)
      (pss_one (ps_ret pe_int))), ?_⟩
    refine ⟨_, rfl, _, rfl, a, _, rfl, .inl hS, _, _, rfl, rfl, _, rfl, ?_⟩
    refine rd_dec (fun h1 => ?_) (fun h1 => ?_)
    · rw [List.length_map] at h1
      have h2 : n < ns.length := by omega
      refine ⟨_, rfl, _, rfl, a, _, _, _, rfl, rfl, hS, atI_nat (v := .int (ns.getD n 0)) ?_, k⟩
      rw [List.getElem?_map, List.getElem?_eq_getElem h2]
      simp [List.getD, h2]
    · rw [List.length_map] at h1
      have h2 : ns.length ≤ n := by omega
      have e : ns.getD n 0 = 0 := by simp [List.getD, List.getElem?_eq_none_iff.mpr h2]
      rw [e] at k
      exact k
def spWhole : Sp := fun vs H Q _ => ∃ i : Int, vs = [.int i] ∧ Q (.bl true) H
theorem ok__law_whole {f : Addr} {fd : FuncData} (F : Fun K "_law_whole" "_law_whole" s__law_whole f fd) (T : Txt K mg) : FnOk P w K mg base CX0 1 f fd ["_law_found"] spWhole := by
  refine F.ok sc__law_whole (fun vs H Q E h => ?_) (fun cdv A outer s H vs Q E hr h => ?_)
  · obtain ⟨i, rfl, _⟩ := h
    rfl
  · obtain ⟨i, rfl, k⟩ := h
    refine ⟨_, (pss_one (ps_ret (pe_and (pe_callB (call_isinstK (K := K) rfl) (by rfl) T.isinstance_ PyProof.Rows.boot_isinstance (pa_cons (pv 0) (pa_cons (pe_bltn (v := .ty "int") (by rfl) T.int_ PyProof.Rows.boot_int (by rfl)) pa_nil))) (pe_one (pe_not (pe_callB (call_isinstK (K := K) rfl) (by rfl) T.isinstance_ PyProof.Rows.boot_isinstance (pa_cons (pv 0) (pa_cons (pe_bltn (v := .ty "bool") (by rfl) T.bool_ PyProof.Rows.boot_bool (by rfl)) pa_nil)))))))), ?_⟩
    refine rd_ret (rd_andV (rd_isI ⟨_, rfl, isI_ty (.int i) (k := true) (by rfl) ⟨_, rfl, rd_true ?_⟩⟩))
    refine rd_notV (rd_isI ⟨_, rfl, isI_ty (.int i) (k := false) (by rfl) ⟨_, rfl, ?_⟩⟩)
    exact k
def spSigned : Sp := fun vs H Q _ => ∃ c z : Int, vs = [.int c, .int z] ∧ 0 ≤ z ∧ Bits 1000 z ∧ Q (.int (c % (2 * z + 1) - z)) H
theorem ok__law_within {f : Addr} {fd : FuncData} (F : Fun K "_law_within" "_law_within" s__law_within f fd) (T : Txt K mg) : FnOk P w K mg base CX0 1 f fd ["_law_cell", "_law_most"] spSigned := by
  refine F.ok sc__law_within (fun vs H Q E h => ?_) (fun cdv A outer s H vs Q E hr h => ?_)
  · obtain ⟨c, z, rfl, _⟩ := h
    rfl
  · obtain ⟨c, z, rfl, hz, hb, k⟩ := h
    refine ⟨_, (pss_one (ps_ret (pe_op op_sub (pe_op op_modP (pv 0) (pe_op op_add (pe_op op_mulB pe_int (pv 1)) pe_int)) (pv 1)))), ?_⟩
    refine ⟨_, rfl, _, rfl, _, _, rfl, rfl, ⟨Bits.mono (j := 2) (by show (2 : Int).natAbs < 2 ^ 2; decide) (by decide), hb.mono (by decide)⟩, _, _, rfl, rfl, _, _, rfl, rfl, (by show (0 : Int) < 2 * z + 1; omega), _, rfl, _, _, rfl, rfl, k⟩
theorem ok__law_trim {f : Addr} {fd : FuncData} (F : Fun K "_law_trim" "_law_trim" s__law_trim f fd) (T : Txt K mg) : FnOk P w K mg base CX0 1 f fd ["_law_row_here"] (spTrim K) := by
  refine F.ok sc__law_trim (fun vs H Q E h => ?_) (fun cdv A outer s H vs Q E hr h => ?_)
  · obtain ⟨a, ns, rfl, _⟩ := h
    rfl
  · obtain ⟨a, ns, rfl, hS, k⟩ := h
    refine ⟨_, (pss_cons (ps_set (i := 1) sc__law_trim.nd rfl (Or.inl rfl) (pe_callB (call_lenK (K := K) rfl) (by rfl) T.len_ PySem.boot_len (pa_cons (pv 0) pa_nil)))
      (pss_cons (ps_while PassesOwn.never (PW.pt (pw_and (pt_cmpR op_gt (pv 1) pe_int (nomark _)) (pw_and1 (pt_cmpR op_eqI (pe_ix (ix_listK (K := K) rfl) (pv 0) (pe_op op_sub (pv 1) pe_int) (fun _ _ => rfl)) pe_int (nomark _)))))
        (pss_one (ps_set (i := 1) sc__law_trim.nd rfl (Or.inl rfl) (pe_op op_sub (pv 1) pe_int))))
      (pss_one (ps_ret (pe_slice (sl_listK (K := K) rfl) (pv 0) po_none (po_some (pv 1))))))), ?_⟩
    refine ⟨_, rfl, a, _, rfl, .inl hS, ?_⟩
    refine ⟨fun m σ' H' => ∃ n : Nat, n ≤ ns.length ∧ σ' = [some (.ref a), some (.int n)] ∧ H = H' ∧ n = m ∧ trim (ns.take n) = trim ns, ⟨_, ns.length, Nat.le_refl _, ?_, rfl, rfl, ?_⟩, ?_⟩
    · rw [List.length_map]; rfl
    · rw [List.take_length]
    · rintro m σ' H' ⟨n, hn, rfl, rfl, rfl, ht⟩
      have fin : trim (ns.take n) = ns.take n → ∃ v, ([some (V.ref a), some (V.int n)] : St)[0]? = some (some v) ∧ ∃ v_1, ([some (V.ref a), some (V.int n)] : St)[1]? = some (some v_1) ∧ ∃ i, v_1 = V.int i ∧ rSlL K v none (some i) H Q := fun h => by
        refine ⟨_, rfl, _, rfl, n, rfl, a, _, rfl, hS, fun p hp => k p _ (Same.upd_new hp) hp ?_⟩
        rw [upd_same, ← ht, h]
        have e : cutV (ns.map V.int) none (some (n : Int)) = (ns.take n).map V.int := by
          unfold cutV
          rw [HT.sIx_none, HT.sIx_nat, List.drop_zero, Nat.sub_zero, List.length_map, Nat.min_eq_left hn, List.map_take]
        rw [e]
      refine ⟨_, rfl, _, _, rfl, rfl, _, rfl, ?_⟩
      refine rd_dec (fun hp => ?_) (fun hp => ?_)
      · obtain ⟨j, rfl⟩ : ∃ j, n = j + 1 := ⟨n - 1, by have : (0 : Int) < n := hp; omega⟩
        have hj : j < ns.length := hn
        refine ⟨_, rfl, _, rfl, _, _, rfl, rfl, a, _, j, .int (cf ns j), rfl, ?_, hS, atI_nat ?_, _, _, rfl, rfl, _, rfl, ?_⟩
        · show V.int (((j + 1 : Nat) : Int) - 1) = V.int j
          congr 1; omega
        · rw [List.getElem?_map, get_cf hj]; rfl
        refine rd_dec (fun h0 => ?_) (fun h0 => ?_)
        · refine ⟨fun σ'' H'' => ∃ m', m' < j + 1 ∧ ∃ n : Nat, n ≤ ns.length ∧ σ'' = [some (.ref a), some (.int n)] ∧ H = H'' ∧ n = m' ∧ trim (ns.take n) = trim ns, fun _ _ h => h, ?_⟩
          refine ⟨_, rfl, _, _, rfl, rfl, j, Nat.lt_succ_self _, j, Nat.le_of_lt hj, ?_, rfl, rfl, ?_⟩
          · show [some (V.ref a), some (V.int (((j + 1 : Nat) : Int) - 1))] = [some (V.ref a), some (V.int j)]
            congr 4; omega
          · rw [← ht, trim_take_zero hj h0]
        · exact fin (trim_take_ne hj h0)
      · obtain rfl : n = 0 := by have : ¬ (0 : Int) < n := hp; omega
        exact fin (by rw [List.take_zero]; rfl)
def spMul : Sp := fun vs H Q _ => ∃ (a b : Addr) (xs ys : List Int), vs = [.ref a, .ref b] ∧ H a = some (.lst (xs.map V.int)) ∧ H b = some (.lst (ys.map V.int)) ∧ xs.length ≤ 1000000 ∧ ys.length ≤ 1000000 ∧ AllB 1000000 xs ∧ AllB 1000000 ys ∧ mkL H Q (mulL xs ys)
theorem ok__law_mul {f : Addr} {fd : FuncData} (F : Fun K "_law_mul" "_law_mul" s__law_mul f fd) (T : Txt K mg) : FnOk P w K mg base CX0 1 f fd ["_law_kp", "_law_kq"] spMul := by
  refine F.ok sc__law_mul (fun vs H Q E h => ?_) (fun cdv A outer s H vs Q E hr h => ?_)
  · obtain ⟨a, b, xs, ys, rfl, _⟩ := h
    rfl
  · obtain ⟨a, b, xs, ys, rfl, hA, hB, hx, hy, bx, by', k⟩ := h
    refine ⟨_, (pss_cons (ps_if (PW.pt (pw_or (pt_cmpR op_eqI (pe_callB (call_lenK (K := K) rfl) (by rfl) T.len_ PySem.boot_len (pa_cons (pv 0) pa_nil)) pe_int (nomark _)) (pw_or1 (pt_cmpR op_eqI (pe_callB (call_lenK (K := K) rfl) (by rfl) T.len_ PySem.boot_len (pa_cons (pv 1) pa_nil)) pe_int (nomark _)))))
        (pss_one (ps_ret (pe_lst pa_nil)))
        pss_nil)
      (pss_cons (ps_setComp (i := 2) sc__law_mul.nd rfl (Or.inl rfl) (own := ["_law_k"]) (fr := []) (js := []) (by walk_at "comp_ok") rfl (pi_range1 rfl T.range_ (pa_cons (pe_op op_sub (pe_op op_add (pe_callB (call_lenK (K := K) rfl) (by rfl) T.len_ PySem.boot_len (pa_cons (pv 0) pa_nil)) (pe_callB (call_lenK (K := K) rfl) (by rfl) T.len_ PySem.boot_len (pa_cons (pv 1) pa_nil))) pe_int) pa_nil)) (fun _ _ _ _ => (pg_name (i := 0) (show List.Nodup (["_law_k"] : List Str) from by decide +kernel) rfl (Or.inl rfl))) (fun _ _ _ _ => pe_int) (by rfl))
      (pss_cons (ps_for PassesOwn.never rfl (pi_enum rfl T.enumerate_ (pa_cons (pv 0) pa_nil)) (pg_tup rfl (pgs_cons (pg_name (i := 3) sc__law_mul.nd rfl (Or.inl rfl)) (pgs_cons (pg_name (i := 4) sc__law_mul.nd rfl (Or.inl rfl)) pgs_nil)))
        (pss_one (ps_for PassesOwn.never rfl (pi_enum rfl T.enumerate_ (pa_cons (pv 1) pa_nil)) (pg_tup rfl (pgs_cons (pg_name (i := 5) sc__law_mul.nd rfl (Or.inl rfl)) (pgs_cons (pg_name (i := 6) sc__law_mul.nd rfl (Or.inl rfl)) pgs_nil)))
            (pss_one (ps_asg (pe_op op_add (pe_ix (ix_listK (K := K) rfl) (pv 2) (pe_op op_add (pv 3) (pv 5)) (fun _ _ => rfl)) (pe_op op_mulB (pv 4) (pv 6))) (pg_sub (pv 2) (pe_op op_add (pv 3) (pv 5)) set_list))))))
      (pss_one (ps_ret (pv 2)))))), ?_⟩
    have none' : (xs = [] ∨ ys = []) → ∀ p, H p = none → Q (.ref p) (upd H p (.lst [])) := fun h p hp => k p _ (Same.upd_new hp) hp (by rw [upd_same]; unfold mulL; rw [if_pos h]; rfl)
    have hlx : (xs.map V.int).length = xs.length := List.length_map _
    have hly : (ys.map V.int).length = ys.length := List.length_map _
    refine rd_sr (rd_or ⟨_, rfl, a, _, rfl, .inl (SqL.of hA), _, _, rfl, rfl, _, rfl, rd_dec (fun h0 => ?_) (fun h0 => ?_)⟩)
    · exact rd_true ⟨Nat.zero_le _, fun p hp => none' (.inl (List.length_eq_zero_iff.mp (by rw [hlx] at h0; omega))) p hp⟩
    refine ⟨_, rfl, b, _, rfl, .inl (SqL.of hB), _, _, rfl, rfl, _, rfl, rd_dec (fun h1 => ?_) (fun h1 => ?_)⟩
    · exact ⟨Nat.zero_le _, fun p hp => none' (.inr (List.length_eq_zero_iff.mp (by rw [hly] at h1; omega))) p hp⟩
    rw [hlx] at h0
    rw [hly] at h1
    have hx0 : xs ≠ [] := fun z => h0 (by rw [z]; rfl)
    have hy0 : ys ≠ [] := fun z => h1 (by rw [z]; rfl)
    obtain ⟨la, ea⟩ : ∃ la, xs.length = la + 1 := ⟨xs.length - 1, by have := List.length_pos_iff.mpr hx0; omega⟩
    obtain ⟨lb, eb⟩ : ∃ lb, ys.length = lb + 1 := ⟨ys.length - 1, by have := List.length_pos_iff.mpr hy0; omega⟩
    have big := sizeLine_eq
    have en : ((xs.map V.int).length : Int) + ((ys.map V.int).length : Int) - 1 = ((la + lb + 1 : Nat) : Int) := by rw [hlx, hly]; omega
    refine ⟨_, rfl, a, _, rfl, .inl (SqL.of hA), _, rfl, b, _, rfl, .inl (SqL.of hB), _, _, rfl, rfl, _, _, rfl, rfl, ?_⟩
    dsimp only
    rw [en]
    refine ⟨_, rfl, by omega, by omega, comp_range (lo := 0) (n := la + lb + 1) (fun i zs σ' H' => ∃ z : Option V, σ' = [z] ∧ zs = (List.replicate i (0 : Int)).map V.int ∧ H = H') (by omega) ⟨none, rfl, rfl, rfl⟩ ?_ ?_ ?_⟩
    · rintro i zs σ' H' _ ⟨z, rfl, rfl, rfl⟩
      simp
    · rintro i zs σ' H' hi ⟨z, rfl, rfl, rfl⟩
      refine ⟨_, rfl, ?_, rfl⟩
      rw [List.replicate_succ', List.map_append]; rfl
    rintro zs σ' H' p ⟨z, rfl, rfl, rfl⟩ hp
    have s4 := Same.upd_new (o := .lst ((List.replicate (la + lb + 1) (0 : Int)).map V.int)) hp
    have npa : a ≠ p := ne_of_none hA hp
    have npb : b ≠ p := ne_of_none hB hp
    have hp4 : upd H p (.lst ((List.replicate (la + lb + 1) (0 : Int)).map V.int)) p = some (.lst ((List.replicate (la + lb + 1) (0 : Int)).map V.int)) := upd_same
    generalize upd H p (.lst ((List.replicate (la + lb + 1) (0 : Int)).map V.int)) = H4 at s4 hp4 ⊢
    refine ⟨_, rfl, a, rfl, ⟨_, SqL.of (s4 _ _ hA)⟩, for_enum (K := K) (a := a) (xs := xs.map V.int) (fun j σ' H' => ∃ (acc : List Int) (z3 z4 z5 z6 : Option V), σ' = [some (.ref a), some (.ref b), some (.ref p), z3, z4, z5, z6] ∧ SameB p H4 H' ∧ H' p = some (.lst (acc.map V.int)) ∧ acc.length = la + lb + 1 ∧ ∀ n, n < acc.length → cf acc n = sm xs ys n j)
      ⟨List.replicate (la + lb + 1) 0, none, none, none, none, rfl, SameB.refl _ _, hp4, by simp, fun n _ => by rw [cf_replicate]; rfl⟩ ?_ ?_ ?_⟩
    · rintro j σ' H' _ ⟨acc, z3, z4, z5, z6, rfl, sb, _⟩
      exact SqL.of (sb _ _ npa (s4 _ _ hA))
    · rintro j x σ' H' q hj ⟨acc, z3, z4, z5, z6, rfl, sb, hpa, hal, hac⟩ hq
      rw [List.getElem?_map] at hj
      have hjl : j < xs.length := by
        apply Classical.byContradiction
        intro hn
        rw [List.getElem?_eq_none_iff.mpr (Nat.le_of_not_lt hn)] at hj
        cases hj
      rw [get_cf hjl] at hj
      obtain rfl := Option.some.inj hj
      refine ⟨q, _, rfl, SqT.of upd_same, rfl, _, _, rfl, _, _, rfl, rfl, ?_⟩
      have nqp : p ≠ q := ne_of_none hpa hq
      have sb1 : SameB p H4 (upd H' q (.tup [.int j, .int (cf xs j)])) := sb.then_new hq
      refine ⟨_, rfl, b, rfl, ⟨_, SqL.of (sb1 _ _ npb (s4 _ _ hB))⟩, for_enum (K := K) (a := b) (xs := ys.map V.int) (fun i σ' H' => ∃ (acc : List Int) (z5 z6 : Option V), σ' = [some (.ref a), some (.ref b), some (.ref p), some (.int j), some (.int (cf xs j)), z5, z6] ∧ SameB p H4 H' ∧ H' p = some (.lst (acc.map V.int)) ∧ acc.length = la + lb + 1 ∧ ∀ n, n < acc.length → cf acc n = sm xs ys n j + (if j ≤ n ∧ n - j < i then tm xs ys n j else 0))
        ⟨acc, z5, z6, rfl, sb1, by rw [upd_ne nqp]; exact hpa, hal, mul_start hac⟩ ?_ ?_ ?_⟩
      · rintro i σ' H' _ ⟨acc, z5, z6, rfl, sb, _⟩
        exact SqL.of (sb _ _ npb (s4 _ _ hB))
      · rintro i x σ' H' q hi ⟨acc, z5, z6, rfl, sb, hpa, hal, hac⟩ hq
        rw [List.getElem?_map] at hi
        have hil : i < ys.length := by
          apply Classical.byContradiction
          intro hn
          rw [List.getElem?_eq_none_iff.mpr (Nat.le_of_not_lt hn)] at hi
          cases hi
        rw [get_cf hil] at hi
        obtain rfl := Option.some.inj hi
        refine ⟨q, _, rfl, SqT.of upd_same, rfl, _, _, rfl, _, _, rfl, rfl, ?_⟩
        have nqp : p ≠ q := ne_of_none hpa hq
        have hpa' : upd H' q (.tup [.int i, .int (cf ys i)]) p = some (.lst (acc.map V.int)) := by rw [upd_ne nqp]; exact hpa
        have hji : j + i < acc.length := by omega
        have eji : ((j : Nat) : Int) + ((i : Nat) : Int) = ((j + i : Nat) : Int) := by omega
        refine ⟨_, rfl, _, rfl, _, rfl, _, _, rfl, rfl, p, _, _, _, rfl, rfl, SqL.of hpa', at_map eji hji, _, rfl, _, rfl, _, _, rfl, rfl, ⟨bx.cf j, by'.cf i⟩, _, _, rfl, rfl, _, rfl, _, rfl, _, rfl, _, _, rfl, rfl, p, _, _, j + i, rfl, rfl, hpa', ixN_nat eji (by rw [List.length_map]; exact hji), ?_⟩
        refine ⟨acc.set (j + i) (cf acc (j + i) + cf xs j * cf ys i), _, _, rfl, (sb.then_new hq).then_upd, by rw [upd_same, map_set_int], by rw [List.length_set]; exact hal, mul_step hjl hil hji hac⟩
      · rintro σ' H' ⟨acc, z5, z6, rfl, sb, hpa, hal, hac⟩
        rw [List.length_map] at hac
        exact ⟨acc, _, _, _, _, rfl, sb, hpa, hal, mul_row hac⟩
    · rintro σ' H' ⟨acc, z3, z4, z5, z6, rfl, sb, hpa, hal, hac⟩
      rw [List.length_map] at hac
      refine ⟨_, rfl, k p H' (fun b' o e => sb b' o (ne_of_none e hp) (s4 b' o e)) hp ?_⟩
      rw [hpa]
      have e : acc = mulL xs ys := by
        apply ext_cf
        · rw [hal]; unfold mulL; rw [if_neg (by intro z; exact z.elim hx0 hy0), List.length_map, List.length_range]; omega
        · intro n _
          rw [cf_mulL, mul_end (by omega) hac]
      rw [e]
theorem ok__law_gcd {f : Addr} {fd : FuncData} (F : Fun K "_law_gcd" "_law_gcd" s__law_gcd f fd) (T : Txt K mg) : FnOk P w K mg base CX0 1 f fd ["_law_a", "_law_b"] sp2 := by
  refine F.ok sc__law_gcd (fun vs H Q E h => ?_) (fun cdv A outer s H vs Q E hr h => ?_)
  · obtain ⟨a, b, rfl, _⟩ := h
    rfl
  · obtain ⟨a, b, rfl, k⟩ := h
    refine ⟨_, (pss_cons (ps_set (i := 0) sc__law_gcd.nd rfl (Or.inl rfl) (pe_callB call_abs (by rfl) T.abs_ PyProof.Rows.boot_abs (pa_cons (pv 0) pa_nil)))
      (pss_cons (ps_set (i := 1) sc__law_gcd.nd rfl (Or.inl rfl) (pe_callB call_abs (by rfl) T.abs_ PyProof.Rows.boot_abs (pa_cons (pv 1) pa_nil)))
      (pss_cons (ps_while PassesOwn.never (pt_cmpR op_gt (pv 1) pe_int (nomark _))
        (pss_cons (ps_set (i := 2) sc__law_gcd.nd rfl (Or.inl rfl) (pe_op op_modP (pv 0) (pv 1)))
          (pss_cons (ps_set (i := 0) sc__law_gcd.nd rfl (Or.inl rfl) (pv 1))
          (pss_one (ps_set (i := 1) sc__law_gcd.nd rfl (Or.inl rfl) (pv 2))))))
      (pss_one (ps_ret (pv 0)))))), ?_⟩
    refine ⟨_, rfl, _, rfl, ?_⟩
    refine ⟨_, rfl, _, rfl, ?_⟩
    refine ⟨fun m σ' H' => ∃ (x y : Int) (z : Option V), σ' = [some (.int x), some (.int y), z] ∧ H = H' ∧ 0 ≤ x ∧ 0 ≤ y ∧ y.natAbs = m ∧ Nat.gcd x.natAbs y.natAbs = Nat.gcd a.natAbs b.natAbs, ⟨_, _, _, none, rfl, rfl, ?_, ?_, rfl, ?_⟩, ?_⟩
    · rw [abs_eq]; exact Int.natCast_nonneg _
    · rw [abs_eq]; exact Int.natCast_nonneg _
    · rw [abs_eq, abs_eq, Int.natAbs_natCast, Int.natAbs_natCast]
    · rintro m σ' H' ⟨x, y, z, rfl, rfl, hx, hy, rfl, hg⟩
      refine ⟨_, rfl, _, _, rfl, rfl, _, rfl, ?_⟩
      refine rd_dec (fun hn => ?_) (fun h0 => ?_)
      · have hp : 0 < y := hn
        refine ⟨fun σ'' H'' => ∃ m', m' < y.natAbs ∧ ∃ (x' y' : Int) (z : Option V), σ'' = [some (.int x'), some (.int y'), z] ∧ H = H'' ∧ 0 ≤ x' ∧ 0 ≤ y' ∧ y'.natAbs = m' ∧ Nat.gcd x'.natAbs y'.natAbs = Nat.gcd a.natAbs b.natAbs, fun _ _ h => h, ?_⟩
        refine ⟨_, rfl, _, rfl, _, _, rfl, rfl, hp, ?_⟩
        refine ⟨_, rfl, ?_⟩
        refine ⟨_, rfl, ?_⟩
        have h1 := Int.emod_nonneg x (Int.ne_of_gt hp)
        have h2 := Int.emod_lt_of_pos x hp
        exact ⟨(x % y).natAbs, by omega, y, x % y, _, rfl, rfl, hy, h1, rfl, by rw [gcd_turn hx hp]; exact hg⟩
      · refine ⟨_, rfl, ?_⟩
        have e : (y : Int) = 0 := by have : ¬ (0 : Int) < y := h0; omega
        subst e
        have e2 : (x : Int) = ((Nat.gcd a.natAbs b.natAbs : Nat) : Int) := by
          rw [← hg]
          show x = ((Nat.gcd x.natAbs 0 : Nat) : Int)
          rw [Nat.gcd_zero_right]; omega
        rw [e2]
        exact k
theorem ok__law_shrunk {f : Addr} {fd : FuncData} (F : Fun K "_law_shrunk" "_law_shrunk" s__law_shrunk f fd) (T : Txt K mg) (hNS : base.NoSeer) (hTr : P.given.tree = none) {f__law_gcd : Addr} {fd__law_gcd : FuncData} (C__law_gcd : Cal P w K mg base 1 "_law_gcd" ["_law_a", "_law_b"] sp2 f__law_gcd fd__law_gcd) : FnOk P w K mg base CX0 33 f fd ["_law_kp"] spShr := by
  obtain ⟨G__law_gcd, m__law_gcd, k__law_gcd, b__law_gcd⟩ := C__law_gcd
  refine F.ok sc__law_shrunk (fun vs H Q E h => ?_) (fun cdv A outer s H vs Q E hr h => ?_)
  · obtain ⟨a, ns, rfl, _⟩ := h
    rfl
  · obtain ⟨a, ns, rfl, hA, ht, hn, k⟩ := h
    have big := sizeLine_eq
    have hdp : (A.deeper (PyProof.Rows.envOfC (Str.ofString "_law_shrunk") (defScope s__law_shrunk) s.heap.objs.size f cdv)).depth + 100 < recursionLimit := by have := hr.dp; omega
    refine ⟨_, (pss_cons (ps_set (i := 1) sc__law_shrunk.nd rfl (Or.inr rfl) pe_int)
      (pss_cons (ps_for PassesOwn.never rfl (pi_listK (K := K) rfl (pv 0)) (pg_name (i := 2) sc__law_shrunk.nd rfl (Or.inl rfl))
        (pss_one (ps_set (i := 1) sc__law_shrunk.nd rfl (Or.inr rfl) (pe_call G__law_gcd (hr.mono (by decide)) rfl m__law_gcd k__law_gcd b__law_gcd .nil pass0 (pa_cons (pv 1) (pa_cons (pv 2) pa_nil))))))
      (pss_cons (ps_if (pt_cmpR op_eqI (pv 1) pe_int (nomark _))
        (pss_one (ps_ret (pe_lst pa_nil)))
        pss_nil)
      (pss_one (ps_ret (pe_comp (own := ["_law_one"]) (fr := ["_law_most"]) (js := [1]) (by walk_at "comp_ok") rfl (pi_listK (K := K) rfl (pv 0)) (fun _ _ _ _ => (pg_name (i := 0) (show List.Nodup (["_law_one", "_law_most"] : List Str) from by decide +kernel) rfl (Or.inl rfl))) (fun _ _ _ _ => (pe_op (op_fdivS hNS hTr hdp rfl rfl rfl rfl rfl) (pv 0) (pv 1))))))))), ?_⟩
    refine rd_sa ?_
    refine ⟨_, rfl, a, rfl, ⟨_, SqL.of hA⟩, for_list (K := K) (a := a) (xs := ns.map V.int) (fun i σ' H' => ∃ z : Option V, σ' = [some (.ref a), some (.int (gcdL (ns.take i) : Nat)), z] ∧ H = H') ⟨none, rfl, rfl⟩ (fun i σ' H' _ ⟨z, _, e⟩ => by rw [← e]; exact SqL.of hA) ?_ ?_⟩
    · rintro i y σ' H' hi ⟨z, rfl, rfl⟩
      obtain ⟨n, e, rfl, _, et⟩ := get_int hi
      refine ⟨_, rfl, _, rfl, _, _, rfl, ?_⟩
      refine ⟨some (.int n), ?_, rfl⟩
      rw [et, gcdL_snoc, Int.natAbs_natCast]
      rfl
    · rintro σ' H' ⟨z, rfl, rfl⟩
      rw [List.length_map, List.take_length]
      dsimp only
      refine rd_sr ⟨_, rfl, _, _, rfl, rfl, _, rfl, rd_dec (fun h0 => ?_) (fun h0 => ?_)⟩
      · have hnil : ns = [] := Classical.byContradiction fun hne => by
          have g1 := gcdL_pos ht hne
          have : ((gcdL ns : Nat) : Int) = 0 := h0
          omega
        subst hnil
        exact ⟨Nat.zero_le _, fun p hp => k p _ (Same.upd_new hp) hp (by rw [upd_same]; rfl)⟩
      · have hne : ns ≠ [] := fun z => h0 (by rw [z]; rfl)
        have g1 := gcdL_pos ht hne
        refine rd_ret ⟨_, rfl, a, rfl, ⟨_, SqL.of hA⟩, comp_list (K := K) (a := a) (xs := ns.map V.int) (fun i ys σ' H' => ∃ (z0 : Option V), σ' = [z0, some (.int (gcdL ns : Nat))] ∧ ys = ((ns.take i).map fun x => x / (gcdL ns : Int)).map V.int ∧ H = H') (by rw [List.length_map]; omega) ⟨none, rfl, rfl, rfl⟩ ?_ ?_ ?_⟩
        · rintro i ys σ' H' _ ⟨z0, rfl, rfl, rfl⟩
          exact ⟨SqL.of hA, by rw [List.length_map, List.length_map, List.length_take]; exact Nat.min_le_left _ _⟩
        · rintro i x ys σ' H' hi ⟨z0, rfl, rfl, rfl⟩
          obtain ⟨c, e, rfl, _, et⟩ := get_int hi
          refine ⟨_, rfl, _, rfl, _, _, rfl, rfl, g1, _, rfl, ?_, rfl⟩
          rw [et]
          simp
        · rintro ys σ' H' p ⟨z0, rfl, rfl, rfl⟩ hp
          refine k p _ (Same.upd_new hp) hp ?_
          rw [upd_same, List.length_map, List.take_length]
          rfl
theorem ok__law_plain {f : Addr} {fd : FuncData} (F : Fun K "_law_plain" "_law_plain" s__law_plain f fd) (T : Txt K mg) {f__law_shrunk : Addr} {fd__law_shrunk : FuncData} (C__law_shrunk : Cal P w K mg base 33 "_law_shrunk" ["_law_kp"] spShr f__law_shrunk fd__law_shrunk) : FnOk P w K mg base CX0 34 f fd ["_law_kp"] spPlain := by
  obtain ⟨G__law_shrunk, m__law_shrunk, k__law_shrunk, b__law_shrunk⟩ := C__law_shrunk
  refine F.ok sc__law_plain (fun vs H Q E h => ?_) (fun cdv A outer s H vs Q E hr h => ?_)
  · obtain ⟨a, ns, rfl, _⟩ := h
    rfl
  · obtain ⟨a, ns, rfl, hA, ht, hn, k⟩ := h
    have big := sizeLine_eq
    refine ⟨_, (pss_cons (ps_set (i := 1) sc__law_plain.nd rfl (Or.inl rfl) (pe_call G__law_shrunk (hr.mono (by decide)) rfl m__law_shrunk k__law_shrunk b__law_shrunk .nil pass0 (pa_cons (pv 0) pa_nil)))
      (pss_cons (ps_if (PW.pt (pw_and (pt_cmpR op_gt (pe_callB (call_lenK (K := K) rfl) (by rfl) T.len_ PySem.boot_len (pa_cons (pv 1) pa_nil)) pe_int (nomark _)) (pw_and1 (pt_cmpR op_lt (pe_ix (ix_listK (K := K) rfl) (pv 1) (pe_un un_neg pe_int) (fun _ _ => rfl)) pe_int (nomark _)))))
        (pss_one (ps_ret (pe_comp (own := ["_law_one"]) (fr := []) (js := []) (by walk_at "comp_ok") rfl (pi_listK (K := K) rfl (pv 1)) (fun _ _ _ _ => (pg_name (i := 0) (show List.Nodup (["_law_one"] : List Str) from by decide +kernel) rfl (Or.inl rfl))) (fun _ _ _ _ => (pe_op op_sub pe_int (pv 0))))))
        pss_nil)
      (pss_one (ps_ret (pv 1))))), ?_⟩
    refine rd_sa ⟨_, rfl, a, ns, rfl, hA, ht, hn, fun p H1 s1 hp e1 => ?_⟩
    have hsl : (shrL ns).length = ns.length := List.length_map _
    refine rd_cutIf (fun σ' H' => σ' = [some (.ref a), some (.ref p)] ∧ H1 = H' ∧ posL (shrL ns) = shrL ns) ?_ ?_
    · rintro σ' H' ⟨rfl, rfl, e3⟩
      exact ⟨_, rfl, k p H1 s1 hp (by rw [e1]; show _ = some (HO.lst ((posL (shrL ns)).map V.int)); rw [e3])⟩
    intro rest
    refine rd_and ⟨_, rfl, p, _, rfl, .inl (SqL.of e1), _, _, rfl, rfl, _, rfl, rd_dec (fun h0 => ?_) (fun h0 => ?_)⟩
    · rw [List.length_map] at h0
      have hne : shrL ns ≠ [] := fun z => by rw [z] at h0; exact absurd h0 (by decide)
      obtain ⟨r, x, er⟩ := (snoc_cases (shrL ns)).resolve_left hne
      refine ⟨_, rfl, _, rfl, p, _, _, .int x, rfl, rfl, SqL.of e1, (by rw [er]; exact at_last r x), _, _, rfl, rfl, _, rfl, ?_⟩
      have elast : lastI (shrL ns) = x := by rw [er, lastI_snoc]
      refine rd_dec (fun hx => ?_) (fun hx => ?_)
      · have hx' : x < 0 := hx
        have epos : posL (shrL ns) = (shrL ns).map fun x => -x := by unfold posL; rw [elast, if_pos hx']
        refine rd_ret ⟨_, rfl, p, rfl, ⟨_, SqL.of e1⟩, comp_list (K := K) (a := p) (xs := (shrL ns).map V.int) (fun i ys σ' H' => ∃ (z0 : Option V), σ' = [z0] ∧ ys = (((shrL ns).take i).map fun x => -x).map V.int ∧ H1 = H') (by rw [List.length_map, hsl]; omega) ⟨none, rfl, rfl, rfl⟩ ?_ ?_ ?_⟩
        · rintro i ys σ' H' _ ⟨z0, rfl, rfl, rfl⟩
          exact ⟨SqL.of e1, by rw [List.length_map, List.length_map, List.length_take]; exact Nat.min_le_left _ _⟩
        · rintro i x ys σ' H' hi ⟨z0, rfl, rfl, rfl⟩
          obtain ⟨c, e, rfl, _, et⟩ := get_int hi
          refine ⟨_, rfl, _, _, rfl, rfl, _, rfl, ?_, rfl⟩
          rw [et]
          simp
        · rintro ys σ' H' p' ⟨z0, rfl, rfl, rfl⟩ hp'
          refine k p' _ (s1.then_new hp') (s1.free hp') ?_
          rw [upd_same, List.length_map, List.take_length]
          show _ = some (HO.lst ((posL (shrL ns)).map V.int))
          rw [epos]
      · exact rest _ _ ⟨rfl, rfl, by unfold posL; rw [elast, if_neg hx]⟩
    · rw [List.length_map] at h0
      have he' : shrL ns = [] := List.length_eq_zero_iff.mp (by omega)
      exact rest _ _ ⟨rfl, rfl, by rw [he']; rfl⟩
theorem bits_le {k : Nat} {z B : Int} (h0 : 0 ≤ z) (h : z ≤ B) (hb : Bits k B) : Bits k z := hb.of_le (by omega)
theorem b30 : Bits 100 (10 ^ 30) := by show ((10 : Int) ^ 30).natAbs < 2 ^ 100; decide +kernel
/-- an item of a written list at a remainder -/
theorem atI_mod {xs : List V} {n : Int} (hn : n = xs.length) (h : 0 < n) (c : Int) : ∃ v, v ∈ xs ∧ atI xs (c % n) = some v := by
  have h1 := Int.emod_nonneg c (Int.ne_of_gt h)
  have h2 := Int.emod_lt_of_pos c h
  obtain ⟨j, hj⟩ := Int.eq_ofNat_of_zero_le h1
  have hl : j < xs.length := by omega
  refine ⟨xs[j], List.getElem_mem hl, ?_⟩
  rw [hj]
  exact atI_nat (by simp [hl])
theorem b40 : Bits 140 (10 ^ 40) := by show ((10 : Int) ^ 40).natAbs < 2 ^ 140; decide +kernel
theorem two9 : Bits 9000 2 := Bits.mono (j := 2) (by show (2 : Int).natAbs < 2 ^ 2; decide) (by decide)
theorem sm_bits {i j : Nat} {a b : List Int} {n : Nat} (ha : AllB i a) (hb : AllB j b) : ∀ m, Bits (i + j + m) (sm a b n m)
  | 0 => Bits.zero
  | m + 1 => by
    rw [sm]
    refine (sm_bits ha hb m).add ?_
    unfold tm
    split
    · exact ((ha.cf m).mul (hb.cf _)).mono (by omega)
    · exact Bits.zero
theorem mulL_bits {i j k : Nat} {a b : List Int} (ha : AllB i a) (hb : AllB j b) (hk : i + j + a.length ≤ k) : AllB k (mulL a b) := AllB.of_cf fun n => by
  rw [cf_mulL]; exact (sm_bits ha hb a.length).mono hk
theorem mulL_one_len {c : Int} {l : List Int} (h : l ≠ []) : (mulL [c] l).length = l.length := by
  unfold mulL
  rw [if_neg (fun z => z.elim (fun y => nomatch y) h), List.length_map, List.length_range]
  show 1 + l.length - 1 = l.length
  omega
/-- a factor: its three numbers, small ones -/
def Fac (m : Int) (l : List Int) : Prop := ∃ u e b : Int, l = [u, e, b] ∧ -m ≤ u ∧ u ≤ m ∧ -36 < e ∧ e < 36 ∧ 1 ≤ b ∧ b ≤ 3 ∧ NS e
def spFb : Sp := fun vs H Q _ => ∃ c m : Int, vs = [.int c, .int m] ∧ 0 ≤ m ∧ ∀ (p : Addr) (l : List Int), H p = none → Fac m l → Q (.ref p) (upd H p (.tup (l.map V.int)))
theorem mod3 {x m : Int} (h : 0 < m) : 0 ≤ x % m ∧ x % m < m := ⟨Int.emod_nonneg _ (Int.ne_of_gt h), Int.emod_lt_of_pos _ h⟩
theorem ok__law_factor_by {f : Addr} {fd : FuncData} (F : Fun K "_law_factor_by" "_law_factor_by" s__law_factor_by f fd) (T : Txt K mg) : FnOk P w K mg base CX0 1 f fd ["_law_cell", "_law_most"] spFb := by
  refine F.ok sc__law_factor_by (fun vs H Q E h => ?_) (fun cdv A outer s H vs Q E hr h => ?_)
  · obtain ⟨c, m, rfl, _⟩ := h
    rfl
  · obtain ⟨c, m, rfl, hm, k⟩ := h
    refine ⟨_, (pss_cons (ps_set (i := 2) sc__law_factor_by.nd rfl (Or.inl rfl) (pe_op op_sub (pe_op op_modP (pe_op op_fdivP (pv 0) pe_int) (pe_op op_add (pe_op op_mul pe_int (pv 1)) pe_int)) (pv 1)))
      (pss_cons (ps_set (i := 3) sc__law_factor_by.nd rfl (Or.inl rfl) (pe_op op_add pe_int (pe_op op_modP (pe_op op_modP (pe_op op_mul (pv 0) pe_int) pe_int) pe_int)))
      (pss_cons (ps_set (i := 4) sc__law_factor_by.nd rfl (Or.inl rfl) (pe_op op_add pe_int (pe_op op_modP (pe_op op_modP (pe_op op_mul (pv 0) pe_int) pe_int) pe_int)))
      (pss_cons (ps_set (i := 5) sc__law_factor_by.nd rfl (Or.inl rfl) (pe_op op_add (pe_op op_add (pe_op op_mul (pv 4) (pv 4)) pe_int) (pe_op op_modP (pe_op op_modP (pe_op op_mul (pv 0) pe_int) pe_int) (pe_op op_mul pe_int (pv 4)))))
      (pss_cons (ps_if (pt_cmpR op_eqI (pe_op op_modP (pv 0) pe_int) pe_int (nomark _))
        (pss_one (ps_ret (pe_tup (pa_cons (pv 2) (pa_cons (pv 5) (pa_cons (pv 3) pa_nil))))))
        pss_nil)
      (pss_cons (ps_if (pt_cmpR op_eqI (pe_op op_modP (pv 0) pe_int) pe_int (nomark _))
        (pss_one (ps_ret (pe_tup (pa_cons (pv 2) (pa_cons (pe_op op_sub pe_int (pv 5)) (pa_cons (pv 3) pa_nil))))))
        pss_nil)
      (pss_one (ps_ret (pe_tup (pa_cons (pv 2) (pa_cons pe_int (pa_cons (pv 3) pa_nil)))))))))))), ?_⟩
    refine rd_sa ⟨_, rfl, _, _, rfl, rfl, ⟨by decide, Bits.mono (j := 3) (by show (4 : Int).natAbs < 2 ^ 3; decide) (by decide)⟩, _, rfl, _, _, rfl, rfl, .inl ⟨by decide, by decide⟩, _, _, rfl, rfl, _, _, rfl, rfl, (by show (0 : Int) < 2 * m + 1; omega), _, rfl, _, _, rfl, rfl, ?_⟩
    obtain ⟨u1, u2⟩ := mod3 (x := c / 4) (m := 2 * m + 1) (by omega)
    dsimp only
    generalize hu : c / 4 % (2 * m + 1) - m = u
    have hu1 : -m ≤ u := by omega
    have hu2 : u ≤ m := by omega
    refine rd_sa ⟨_, rfl, _, _, rfl, rfl, .inr ⟨by decide, by decide⟩, _, _, rfl, rfl, (by show (0 : Int) < 10007; decide), _, _, rfl, rfl, (by show (0 : Int) < 3; decide), _, _, rfl, rfl, ?_⟩
    obtain ⟨b1, b2⟩ := mod3 (x := c * 48271 % 10007) (m := 3) (by omega)
    dsimp only
    generalize hb : 1 + c * 48271 % 10007 % 3 = b
    have hb1 : 1 ≤ b := by omega
    have hb2 : b ≤ 3 := by omega
    refine rd_sa ⟨_, rfl, _, _, rfl, rfl, .inr ⟨by decide, by decide⟩, _, _, rfl, rfl, (by show (0 : Int) < 10009; decide), _, _, rfl, rfl, (by show (0 : Int) < 5; decide), _, _, rfl, rfl, ?_⟩
    obtain ⟨n1, n2⟩ := mod3 (x := c * 69621 % 10009) (m := 5) (by omega)
    dsimp only
    generalize hn : 1 + c * 69621 % 10009 % 5 = n
    have hn1 : 1 ≤ n := by omega
    have hn2 : n ≤ 5 := by omega
    refine rd_sa ⟨_, rfl, _, rfl, _, _, rfl, rfl, .inl ⟨by show -(2 ^ 64) < n; omega, by show n < 2 ^ 64; omega⟩, _, _, rfl, rfl, _, rfl, _, _, rfl, rfl, .inr ⟨by decide, by decide⟩, _, _, rfl, rfl, (by show (0 : Int) < 10037; decide), _, rfl, _, _, rfl, rfl, .inl ⟨by decide, by decide⟩, _, _, rfl, rfl, (by show (0 : Int) < 2 * n; omega), _, _, rfl, rfl, ?_⟩
    obtain ⟨e1, e2⟩ := mod3 (x := c * 16807 % 10037) (m := 2 * n) (by omega)
    dsimp only
    generalize he : n * n + 1 + c * 16807 % 10037 % (2 * n) = e
    have hnn : 0 ≤ n * n := Int.mul_nonneg (by omega) (by omega)
    have he0 : 0 < e := by omega
    have hns : n * n < e ∧ e < (n + 1) * (n + 1) := by
      have : (n + 1) * (n + 1) = n * n + 2 * n + 1 := by rw [Int.add_mul, Int.mul_add]; omega
      omega
    have he2 : e < 36 := by
      have h1 : n = 1 ∨ n = 2 ∨ n = 3 ∨ n = 4 ∨ n = 5 := by omega
      rcases h1 with rfl | rfl | rfl | rfl | rfl <;> omega
    refine rd_sr ⟨_, rfl, _, _, rfl, rfl, (by show (0 : Int) < 4; decide), _, _, rfl, rfl, _, rfl, rd_dec (fun _ => ?_) (fun _ => ?_)⟩
    · exact ⟨_, rfl, _, rfl, _, rfl, by show 3 ≤ sizeLine; decide, fun p hp => k p [u, e, b] hp ⟨u, e, b, rfl, hu1, hu2, by omega, he2, hb1, hb2, .inr ⟨n, by omega, hns.1, hns.2⟩⟩⟩
    refine rd_sr ⟨_, rfl, _, _, rfl, rfl, (by show (0 : Int) < 4; decide), _, _, rfl, rfl, _, rfl, rd_dec (fun _ => ?_) (fun _ => ?_)⟩
    · exact ⟨_, rfl, _, rfl, _, _, rfl, rfl, _, rfl, by show 3 ≤ sizeLine; decide, fun p hp => k p [u, 0 - e, b] hp ⟨u, 0 - e, b, rfl, hu1, hu2, by omega, by omega, hb1, hb2, .inl (by omega)⟩⟩
    exact ⟨_, rfl, _, rfl, by show 3 ≤ sizeLine; decide, fun p hp => k p [u, 0, b] hp ⟨u, 0, b, rfl, hu1, hu2, by omega, by omega, hb1, hb2, .inl (Int.le_refl _)⟩⟩
def spShape : Sp := fun vs H Q _ => ∃ (p : Addr) (l : List Int), vs = [.ref p] ∧ H p = some (.tup (l.map V.int)) ∧ Fac 100000000 l ∧ mkL H Q (shpQ l)
theorem tr_rawN {u e b : Int} (hb : 0 < b) : Tr (rawQ u e b) ∧ rawQ u e b ≠ [] := by
  obtain ⟨tr, l2⟩ := tr_rawQ (u := u) (e := e) (b := b) (by omega)
  exact ⟨tr, fun z => by rw [z] at l2; simp at l2⟩
theorem raw_bits {u e b : Int} (h1 : -100000000 ≤ u) (h2 : u ≤ 100000000) (h3 : -36 < e) (h4 : e < 36) (h5 : 1 ≤ b) (h6 : b ≤ 3) : AllB 56 (rawQ u e b) := by
  have q1 : (u * u).natAbs ≤ 100000000 * 100000000 := abs_mul_le (by omega) (by omega)
  have q2 : (b * u).natAbs ≤ 3 * 100000000 := abs_mul_le (by omega) (by omega)
  have q3 : (b * b).natAbs ≤ 3 * 3 := abs_mul_le (by omega) (by omega)
  have q4 : -2 * b * u = -2 * (b * u) := by grind
  unfold rawQ
  split
  · intro x hx
    simp only [List.mem_cons, List.not_mem_nil, or_false] at hx
    rcases hx with rfl | rfl
    · show (-u).natAbs < 72057594037927936; omega
    · show x.natAbs < 72057594037927936; omega
  · intro x hx
    simp only [List.mem_cons, List.not_mem_nil, or_false] at hx
    rcases hx with rfl | rfl | rfl
    · show (u * u - e).natAbs < 72057594037927936; omega
    · rw [q4]; show (-2 * (b * u)).natAbs < 72057594037927936; omega
    · show (b * b).natAbs < 72057594037927936; omega
theorem ok__law_shape {f : Addr} {fd : FuncData} (F : Fun K "_law_shape" "_law_shape" s__law_shape f fd) (T : Txt K mg) {f__law_plain : Addr} {fd__law_plain : FuncData} (C__law_plain : Cal P w K mg base 34 "_law_plain" ["_law_kp"] spPlain f__law_plain fd__law_plain) : FnOk P w K mg base CX0 35 f fd ["_law_factor"] spShape := by
  obtain ⟨G__law_plain, m__law_plain, k__law_plain, b__law_plain⟩ := C__law_plain
  refine F.ok sc__law_shape (fun vs H Q E h => ?_) (fun cdv A outer s H vs Q E hr h => ?_)
  · obtain ⟨p, l, rfl, _⟩ := h
    rfl
  · obtain ⟨p, l, rfl, hP, ⟨u, e, b, rfl, h1, h2, h3, h4, h5, h6, h7⟩, k⟩ := h
    have hb := raw_bits h1 h2 h3 h4 h5 h6
    obtain ⟨tr, hne⟩ := tr_rawN (u := u) (e := e) (b := b) (by omega)
    replace k : mkL H Q (plainL (rawQ u e b)) := k
    have bu : Bits 31 u := by show u.natAbs < 2147483648; omega
    have bb : Bits 2 b := by show b.natAbs < 4; omega
    refine ⟨_, (pss_cons (ps_set (i := 1) sc__law_shape.nd rfl (Or.inl rfl) (pe_ix (ix_tupK (K := K) rfl) (pv 0) pe_int (fun _ _ => rfl)))
      (pss_cons (ps_set (i := 2) sc__law_shape.nd rfl (Or.inl rfl) (pe_ix (ix_tupK (K := K) rfl) (pv 0) pe_int (fun _ _ => rfl)))
      (pss_cons (ps_if (pt_cmpR op_eqI (pe_ix (ix_tupK (K := K) rfl) (pv 0) pe_int (fun _ _ => rfl)) pe_int (nomark _))
        (pss_one (ps_ret (pe_call G__law_plain (hr.mono (by decide)) rfl m__law_plain k__law_plain b__law_plain .nil pass0 (pa_cons (pe_lst (pa_cons (pe_op op_sub pe_int (pv 1)) (pa_cons (pv 2) pa_nil))) pa_nil))))
        pss_nil)
      (pss_one (ps_ret (pe_call G__law_plain (hr.mono (by decide)) rfl m__law_plain k__law_plain b__law_plain .nil pass0 (pa_cons (pe_lst (pa_cons (pe_op op_sub (pe_op op_mulB (pv 1) (pv 1)) (pe_ix (ix_tupK (K := K) rfl) (pv 0) pe_int (fun _ _ => rfl))) (pa_cons (pe_op op_mulB (pe_op op_mulB (pe_un un_neg pe_int) (pv 2)) (pv 1)) (pa_cons (pe_op op_mulB (pv 2) (pv 2)) pa_nil)))) pa_nil))))))), ?_⟩
    refine rd_sa ⟨_, rfl, p, _, _, _, rfl, rfl, SqT.of hP, rfl, ?_⟩
    refine rd_sa ⟨_, rfl, p, _, _, _, rfl, rfl, SqT.of hP, rfl, ?_⟩
    refine rd_sr ⟨_, rfl, p, _, _, _, rfl, rfl, SqT.of hP, rfl, _, _, rfl, rfl, _, rfl, rd_dec (fun h0 => ?_) (fun h0 => ?_)⟩
    · have h0' : e = 0 := h0
      subst h0'
      have er : rawQ u 0 b = [0 - u, b] := by unfold rawQ; rw [if_pos rfl, Int.zero_sub]
      rw [er] at hb tr k
      refine ⟨_, rfl, _, _, rfl, rfl, _, rfl, by show 2 ≤ sizeLine; decide, fun q hq => ?_⟩
      refine ⟨q, [0 - u, b], rfl, upd_same, tr, by show 2 ≤ 1000000; decide, fun p' H' sm hp' e' => k p' H' ((Same.upd_new hq).trans sm) ((Same.upd_new hq).free hp') e'⟩
    · have h0' : ¬ e = 0 := h0
      have er : rawQ u e b = [u * u - e, -2 * b * u, b * b] := by unfold rawQ; rw [if_neg h0']
      rw [er] at hb tr k
      refine rd_ret ⟨_, rfl, _, rfl, _, _, rfl, rfl, ⟨bu.mono (by decide), bu.mono (by decide)⟩, _, rfl, p, _, _, _, rfl, rfl, SqT.of hP, rfl, _, _, rfl, rfl, ?_⟩
      refine ⟨_, rfl, _, rfl, _, _, rfl, rfl, ⟨Bits.mono (j := 2) (by show (-2 : Int).natAbs < 2 ^ 2; decide) (by decide), bb.mono (by decide)⟩, _, rfl, _, _, rfl, rfl, ⟨Bits.mono (j := 4) (Bits.mul (j := 2) (k := 2) (by show (-2 : Int).natAbs < 2 ^ 2; decide) bb) (by decide), bu.mono (by decide)⟩, ?_⟩
      refine ⟨_, rfl, _, rfl, _, _, rfl, rfl, ⟨bb.mono (by decide), bb.mono (by decide)⟩, by show 3 ≤ sizeLine; decide, fun q hq => ?_⟩
      refine ⟨q, [u * u - e, -2 * b * u, b * b], rfl, upd_same, tr, by show 3 ≤ 1000000; decide, fun p' H' sm hp' e' => k p' H' ((Same.upd_new hq).trans sm) ((Same.upd_new hq).free hp') e'⟩
theorem shp_ok {l : List Int} (h : Fac 100000000 l) : Tr (shpQ l) ∧ shpQ l ≠ [] ∧ AllB 56 (shpQ l) ∧ 2 ≤ (shpQ l).length ∧ (shpQ l).length ≤ 3 := by
  obtain ⟨u, e, b, rfl, h1, h2, h3, h4, h5, h6, h7⟩ := h
  have hb := raw_bits h1 h2 h3 h4 h5 h6
  obtain ⟨tr, hne⟩ := tr_rawN (u := u) (e := e) (b := b) (by omega)
  have hl : (rawQ u e b).length = 2 ∨ (rawQ u e b).length = 3 := by unfold rawQ; split; exact .inl rfl; exact .inr rfl
  show Tr (plainL (rawQ u e b)) ∧ plainL (rawQ u e b) ≠ [] ∧ AllB 56 (plainL (rawQ u e b)) ∧ 2 ≤ (plainL (rawQ u e b)).length ∧ (plainL (rawQ u e b)).length ≤ 3
  have pl := RM.plain_len (rawQ u e b)
  refine ⟨tr_plain tr, fun z => by rw [z] at pl; simp at pl; omega, AllB.of_cf fun n => ?_, by omega, by omega⟩
  obtain ⟨g, hg, eg⟩ := plain_scale tr
  have h7 := hb.cf n
  rw [eg n] at h7
  refine h7.of_le ?_
  rw [Int.natAbs_mul]
  exact Nat.le_mul_of_pos_left _ (Int.natAbs_pos.mpr hg)
def degs : List (List Int) → Nat
  | [] => 0
  | s :: ss => (s.length - 1) + degs ss
theorem degs_snoc (s : List Int) : ∀ ss, degs (ss ++ [s]) = degs ss + (s.length - 1)
  | [] => by simp [degs]
  | x :: ss => by rw [List.cons_append, degs, degs, degs_snoc s ss]; omega
def spFs (K : PySem.W.Frag) : Sp := fun vs H Q _ => ∃ (a : Addr) (ns : List Int) (mo : Int) (room : Nat), vs = [.ref a, .int mo, .int room] ∧ 0 ≤ mo ∧ mo ≤ 100000000 ∧ SqL K H a (ns.map V.int) ∧ ns.length ≤ 100 ∧ ∀ (p : Addr) (H' : Hp) (qs : List Addr) (fs : List (List Int)), Same H H' → H p = none → H' p = some (.lst (qs.map V.ref)) → TuH H' qs fs → (∀ l ∈ fs, Fac 100000000 l) → (fs.map shpQ).Nodup → degs (fs.map shpQ) ≤ room → Q (.ref p) H'
theorem ok__law_factors_by {f : Addr} {fd : FuncData} (F : Fun K "_law_factors_by" "_law_factors_by" s__law_factors_by f fd) (T : Txt K mg) {f__law_factor_by : Addr} {fd__law_factor_by : FuncData} (C__law_factor_by : Cal P w K mg base 1 "_law_factor_by" ["_law_cell", "_law_most"] spFb f__law_factor_by fd__law_factor_by) {f__law_shape : Addr} {fd__law_shape : FuncData} (C__law_shape : Cal P w K mg base 35 "_law_shape" ["_law_factor"] spShape f__law_shape fd__law_shape) : FnOk P w K mg base CX0 36 f fd ["_law_drawn", "_law_most", "_law_room"] (spFs K) := by
  obtain ⟨G__law_factor_by, m__law_factor_by, k__law_factor_by, b__law_factor_by⟩ := C__law_factor_by
  obtain ⟨G__law_shape, m__law_shape, k__law_shape, b__law_shape⟩ := C__law_shape
  refine F.ok sc__law_factors_by (fun vs H Q E h => ?_) (fun cdv A outer s H vs Q E hr h => ?_)
  · obtain ⟨a, ns, mo, room, rfl, _⟩ := h
    rfl
  · obtain ⟨a, ns, mo, room, rfl, hmo0, hmo1, hA, hn, k⟩ := h
    have big := sizeLine_eq
    have hu2 : (A.deeper (PyProof.Rows.envOfC (Str.ofString "_law_factors_by") (defScope s__law_factors_by) s.heap.objs.size f cdv)).units + 66 < cLine := by have := hr.un; omega
    refine ⟨_, (pss_cons (ps_set (i := 3) sc__law_factors_by.nd rfl (Or.inl rfl) (pe_lst pa_nil))
      (pss_cons (ps_set (i := 4) sc__law_factors_by.nd rfl (Or.inl rfl) (pe_lst pa_nil))
      (pss_cons (ps_for PassesOwn.never rfl (pi_listK (K := K) rfl (pv 0)) (pg_name (i := 5) sc__law_factors_by.nd rfl (Or.inl rfl))
        (pss_cons (ps_set (i := 6) sc__law_factors_by.nd rfl (Or.inl rfl) (pe_call G__law_factor_by (hr.mono (by decide)) rfl m__law_factor_by k__law_factor_by b__law_factor_by .nil pass0 (pa_cons (pv 5) (pa_cons (pv 1) pa_nil))))
          (pss_cons (ps_set (i := 7) sc__law_factors_by.nd rfl (Or.inl rfl) (pe_call G__law_shape (hr.mono (by decide)) rfl m__law_shape k__law_shape b__law_shape .nil pass0 (pa_cons (pv 6) pa_nil)))
          (pss_one (ps_if (PW.pt (pw_and (pt_cmpR (op_ninLLK (K := K) rfl hu2) (pv 7) (pv 4) (by rfl)) (pw_and1 (pt_cmpR op_le (pe_op op_sub (pe_callB (call_lenK (K := K) rfl) (by rfl) T.len_ PySem.boot_len (pa_cons (pv 7) pa_nil)) pe_int) (pv 2) (nomark _)))))
            (pss_cons (ps_expr (pe_bm PySem.F.plainAttrs_list PySem.F.slot_list_append PySem.F.type_list_append mt_append (pv 3) (pa_cons (pv 6) pa_nil)))
              (pss_cons (ps_expr (pe_bm PySem.F.plainAttrs_list PySem.F.slot_list_append PySem.F.type_list_append mt_append (pv 4) (pa_cons (pv 7) pa_nil)))
              (pss_one (ps_set (i := 2) sc__law_factors_by.nd rfl (Or.inl rfl) (pe_op op_add (pe_op op_sub (pv 2) (pe_callB (call_lenK (K := K) rfl) (by rfl) T.len_ PySem.boot_len (pa_cons (pv 7) pa_nil))) pe_int)))))
            pss_nil)))))
      (pss_one (ps_ret (pv 3)))))), ?_⟩
    refine rd_sa ⟨Nat.zero_le _, fun pm hpm => ?_⟩
    have s1 : Same H (upd H pm (.lst [])) := Same.upd_new hpm
    have q1 : upd H pm (.lst []) pm = some (.lst []) := upd_same
    generalize upd H pm (.lst []) = H1 at s1 q1 ⊢
    refine rd_sa ⟨Nat.zero_le _, fun pz hpz => ?_⟩
    have npz : pm ≠ pz := ne_of_none q1 hpz
    have s2 : Same H (upd H1 pz (.lst [])) := s1.then_new hpz
    have q2 : upd H1 pz (.lst []) pz = some (.lst []) := upd_same
    have q3 : upd H1 pz (.lst []) pm = some (.lst []) := by rw [upd_ne npz]; exact q1
    have hz0 : H pz = none := s1.free hpz
    generalize upd H1 pz (.lst []) = H2 at s2 q2 q3 ⊢
    refine ⟨_, rfl, a, rfl, ⟨_, s2.seq hA⟩, for_list (K := K) (a := a) (xs := ns.map V.int) (fun i σ' H' => ∃ (z5 z6 z7 : Option V) (qs rs : List Addr) (fs : List (List Int)) (left : Nat), σ' = [some (.ref a), some (.int mo), some (.int left), some (.ref pm), some (.ref pz), z5, z6, z7] ∧ Same H H' ∧ H' pm = some (.lst (qs.map V.ref)) ∧ H' pz = some (.lst (rs.map V.ref)) ∧ TuH H' qs fs ∧ RwH H' rs (fs.map shpQ) ∧ (∀ p ∈ rs, p ≠ pm ∧ p ≠ pz) ∧ (∀ l ∈ fs, Fac 100000000 l) ∧ (fs.map shpQ).Nodup ∧ degs (fs.map shpQ) + left = room ∧ fs.length ≤ i) ⟨none, none, none, [], [], [], room, rfl, s2, q3, q2, TuH.nil, RwH.nil, (fun _ h => nomatch h), (fun _ h => nomatch h), List.nodup_nil, Nat.zero_add _, Nat.le_refl _⟩ ?_ ?_ ?_⟩
    · rintro i σ' H' _ ⟨z5, z6, z7, qs, rs, fs, left, rfl, sm, _⟩
      exact sm.seq hA
    · rintro i x σ' H' hi ⟨z5, z6, z7, qs, rs, fs, left, rfl, sm, eqm, eqz, hT, hR, hno, hF, hnd, hdg, hle⟩
      have hin : i < 100 := by
        have := (List.getElem?_eq_some_iff.mp hi).1
        rw [List.length_map] at this; omega
      obtain ⟨c, _, rfl, _, _⟩ := get_int hi
      refine rd_sa ⟨_, rfl, _, rfl, c, mo, rfl, hmo0, fun p l hp hl0 => ?_⟩
      have hl : Fac 100000000 l := by
        obtain ⟨u, e, b, rfl, h1, h2, h3, h4, h5, h6, h7⟩ := hl0
        exact ⟨u, e, b, rfl, by omega, by omega, h3, h4, h5, h6, h7⟩
      have s3 : Same H' (upd H' p (.tup (l.map V.int))) := Same.upd_new hp
      have e3 : upd H' p (.tup (l.map V.int)) p = some (.tup (l.map V.int)) := upd_same
      generalize upd H' p (.tup (l.map V.int)) = H3 at s3 e3 ⊢
      refine rd_sa ⟨_, rfl, p, l, rfl, e3, hl, fun q H4 s4 hq e4 => ?_⟩
      have t4 := s3.trans s4
      have eqm4 := t4 _ _ eqm
      have eqz4 := t4 _ _ eqz
      have hT4 := hT.same t4
      have hR4 := hR.same t4
      have nqm : q ≠ pm := fun z => by rw [z, s3 _ _ eqm] at hq; cases hq
      have nqz : q ≠ pz := fun z => by rw [z, s3 _ _ eqz] at hq; cases hq
      obtain ⟨g1, g2, g3, g4, g5⟩ := shp_ok hl
      dsimp only
      refine rd_if (rd_and ⟨_, rfl, _, rfl, pz, q, rs, fs.map shpQ, shpQ l, rfl, rfl, e4, SqL.of eqz4, hR4.1, hR4.2, _, rfl, rd_ndec (fun hni => ?_) (fun _ => ?_)⟩)
      · refine ⟨_, rfl, q, _, rfl, .inl (SqL.of e4), _, _, rfl, rfl, _, rfl, _, _, rfl, rfl, _, rfl, rd_dec (fun hlen => ?_) (fun _ => ?_)⟩
        · rw [List.length_map] at hlen
          have hlq : qs.length = fs.length := hT.1
          have hlr : rs.length = fs.length := by have := hR.1; rwa [List.length_map] at this
          refine rd_sd ⟨_, rfl, .inl ⟨rfl, _, SqL.of eqm4⟩, _, rfl, pm, _, _, rfl, rfl, eqm4, by rw [List.length_map]; omega, ?_⟩
          have eqz5 : upd H4 pm (.lst (qs.map V.ref ++ [V.ref p])) pz = some (.lst (rs.map V.ref)) := by rw [upd_ne (Ne.symm npz)]; exact eqz4
          refine rd_sd ⟨_, rfl, .inl ⟨rfl, _, SqL.of eqz5⟩, _, rfl, pz, _, _, rfl, rfl, eqz5, by rw [List.length_map]; omega, ?_⟩
          rw [map_ref_snoc, map_ref_snoc]
          rw [map_ref_snoc] at eqz5
          refine rd_asg ⟨_, rfl, _, rfl, q, _, rfl, .inl (SqL.of (by rw [upd_ne nqz, upd_ne nqm]; exact e4)), _, _, rfl, rfl, _, _, rfl, rfl, ?_⟩
          dsimp only
          rw [List.length_map]
          have hfl : (left : Int) - (shpQ l).length + 1 = ((left - ((shpQ l).length - 1) : Nat) : Int) := by omega
          rw [hfl]
          refine ⟨_, _, _, qs ++ [p], rs ++ [q], fs ++ [l], left - ((shpQ l).length - 1), rfl, mut_same (mut_same (sm.trans t4) hpm) hz0, ?_, upd_same, ?_, ?_, ?_, ?_, ?_, ?_, ?_⟩
          · rw [upd_ne npz, upd_same]
          · exact ((hT4.snoc (s4 _ _ e3)).upd_lst eqm4).upd_lst eqz5
          · rw [show (fs ++ [l]).map shpQ = fs.map shpQ ++ [shpQ l] from by rw [List.map_append]; rfl]
            have hR5 := hR4.snoc e4
            have hno5 : ∀ x ∈ rs ++ [q], x ≠ pm ∧ x ≠ pz := fun x hx => by
              rcases List.mem_append.mp hx with h | h
              · exact hno x h
              · rw [List.mem_singleton.mp h]; exact ⟨nqm, nqz⟩
            exact (hR5.upd_no fun x hx => (hno5 x hx).1).upd_no fun x hx => (hno5 x hx).2
          · intro x hx
            rcases List.mem_append.mp hx with h | h
            · exact hno x h
            · rw [List.mem_singleton.mp h]; exact ⟨nqm, nqz⟩
          · intro x hx
            rcases List.mem_append.mp hx with h | h
            · exact hF x h
            · rw [List.mem_singleton.mp h]; exact hl
          · rw [List.map_append, List.map_cons, List.map_nil]
            refine List.nodup_append.mpr ⟨hnd, by simp, fun x hx y hy => ?_⟩
            rw [List.mem_singleton.mp hy]
            exact fun z => hni (z ▸ hx)
          · rw [List.map_append, List.map_cons, List.map_nil, degs_snoc]; omega
          · rw [List.length_append]; show fs.length + 1 ≤ i + 1; omega
        · exact ⟨_, _, _, qs, rs, fs, left, rfl, sm.trans t4, eqm4, eqz4, hT4, hR4, hno, hF, hnd, hdg, by omega⟩
      · exact rd_false ⟨_, _, _, qs, rs, fs, left, rfl, sm.trans t4, eqm4, eqz4, hT4, hR4, hno, hF, hnd, hdg, by omega⟩
    · rintro σ' H' ⟨z5, z6, z7, qs, rs, fs, left, rfl, sm, eqm, eqz, hT, hR, hno, hF, hnd, hdg, hle⟩
      exact ⟨_, rfl, k pm H' qs fs sm hpm eqm hT hF hnd (by omega)⟩
def spPro : Sp := fun vs H Q _ => ∃ (a : Addr) (qs : List Addr) (fs : List (List Int)), vs = [.ref a] ∧ H a = some (.lst (qs.map V.ref)) ∧ TuH H qs fs ∧ (∀ l ∈ fs, Fac 100000000 l) ∧ fs.length ≤ 8 ∧ mkL H Q (prodL [1] (fs.map shpQ))
theorem pro_bits {fs : List (List Int)} (hF : ∀ l ∈ fs, Fac 100000000 l) : ∀ n, n ≤ fs.length → n ≤ 8 → AllB (2 + 75 * n) (prodL [1] ((fs.take n).map shpQ)) ∧ (prodL [1] ((fs.take n).map shpQ)).length ≤ 1 + 2 * n
  | 0, _, _ => ⟨fun x hx => by
      rw [List.take_zero] at hx
      have : x = 1 := by simpa [prodL] using hx
      rw [this]; show (1 : Int).natAbs < 2 ^ 2; decide, by rw [List.take_zero]; decide⟩
  | n + 1, h, h' => by
    obtain ⟨i1, i2⟩ := pro_bits hF n (by omega) (by omega)
    have e : fs.take (n + 1) = fs.take n ++ [fs[n]] := by rw [List.take_add_one, List.getElem?_eq_getElem (by omega)]; rfl
    obtain ⟨g1, g2, g3, g4, g5⟩ := shp_ok (hF fs[n] (List.getElem_mem _))
    rw [e, List.map_append, List.map_cons, List.map_nil, prodL_snoc]
    refine ⟨mulL_bits i1 g3 (by omega), ?_⟩
    unfold mulL
    split
    · exact Nat.zero_le _
    · rw [List.length_map, List.length_range]; omega
theorem ok__law_product {f : Addr} {fd : FuncData} (F : Fun K "_law_product" "_law_product" s__law_product f fd) (T : Txt K mg) {f__law_mul : Addr} {fd__law_mul : FuncData} (C__law_mul : Cal P w K mg base 1 "_law_mul" ["_law_kp", "_law_kq"] spMul f__law_mul fd__law_mul) {f__law_shape : Addr} {fd__law_shape : FuncData} (C__law_shape : Cal P w K mg base 35 "_law_shape" ["_law_factor"] spShape f__law_shape fd__law_shape) : FnOk P w K mg base CX0 36 f fd ["_law_factors"] spPro := by
  obtain ⟨G__law_mul, m__law_mul, k__law_mul, b__law_mul⟩ := C__law_mul
  obtain ⟨G__law_shape, m__law_shape, k__law_shape, b__law_shape⟩ := C__law_shape
  refine F.ok sc__law_product (fun vs H Q E h => ?_) (fun cdv A outer s H vs Q E hr h => ?_)
  · obtain ⟨a, qs, fs, rfl, _⟩ := h
    rfl
  · obtain ⟨a, qs, fs, rfl, hA, hT, hF, hn, k⟩ := h
    refine ⟨_, (pss_cons (ps_set (i := 1) sc__law_product.nd rfl (Or.inl rfl) (pe_lst (pa_cons pe_int pa_nil)))
      (pss_cons (ps_for PassesOwn.never rfl (pi_listK (K := K) rfl (pv 0)) (pg_name (i := 2) sc__law_product.nd rfl (Or.inl rfl))
        (pss_one (ps_set (i := 1) sc__law_product.nd rfl (Or.inl rfl) (pe_call G__law_mul (hr.mono (by decide)) rfl m__law_mul k__law_mul b__law_mul .nil pass0 (pa_cons (pv 1) (pa_cons (pe_call G__law_shape (hr.mono (by decide)) rfl m__law_shape k__law_shape b__law_shape .nil pass0 (pa_cons (pv 2) pa_nil)) pa_nil))))))
      (pss_one (ps_ret (pv 1))))), ?_⟩
    refine rd_sa ⟨by show 1 ≤ sizeLine; decide, fun p0 hp0 => ?_⟩
    have s1 : Same H (upd H p0 (.lst [V.int 1])) := Same.upd_new hp0
    have q1 : upd H p0 (.lst [V.int 1]) p0 = some (.lst (([1] : List Int).map V.int)) := upd_same
    generalize upd H p0 (.lst [V.int 1]) = H1 at s1 q1 ⊢
    have hpl : (qs.map V.ref).length = fs.length := by rw [List.length_map, hT.1]
    refine ⟨_, rfl, a, rfl, ⟨_, SqL.of (s1 _ _ hA)⟩, for_list (K := K) (a := a) (xs := qs.map V.ref) (fun i σ' H' => ∃ (z2 : Option V) (p : Addr), σ' = [some (.ref a), some (.ref p), z2] ∧ Same H H' ∧ H p = none ∧ H' p = some (.lst ((prodL [1] ((fs.take i).map shpQ)).map V.int))) ⟨none, p0, rfl, s1, hp0, q1⟩ ?_ ?_ ?_⟩
    · rintro i σ' H' _ ⟨z2, p, rfl, sm, _⟩
      exact SqL.of (sm _ _ hA)
    · rintro i x σ' H' hi ⟨z2, p, rfl, sm, hp, ep⟩
      obtain ⟨q, l, rfl, eq, el, hq, hlt⟩ := (hT.same sm).of_get hi
      have hl := hF l (List.mem_of_getElem? el)
      obtain ⟨g1, g2, g3, g4, g5⟩ := shp_ok hl
      obtain ⟨i1, i2⟩ := pro_bits hF i (by omega) (by omega)
      refine ⟨_, rfl, _, rfl, q, l, rfl, hq, hl, fun r H3 s3 hr3 e3 => ?_⟩
      refine ⟨p, r, prodL [1] ((fs.take i).map shpQ), shpQ l, rfl, s3 _ _ ep, e3, by omega, by omega, i1.mono (by omega), g3.mono (by decide), fun r2 H4 s4 hr4 e4 => ?_⟩
      have t4 := sm.trans (s3.trans s4)
      refine ⟨_, r2, rfl, t4, (sm.trans s3).free hr4, ?_⟩
      rw [e4, List.take_add_one, el]
      show _ = some (HO.lst ((prodL [1] ((fs.take i ++ [l]).map shpQ)).map V.int))
      rw [List.map_append, List.map_cons, List.map_nil, prodL_snoc]
    · rintro σ' H' ⟨z2, p, rfl, sm, hp, ep⟩
      rw [hpl, List.take_length] at ep
      exact ⟨_, rfl, k p H' sm hp ep⟩
--SPLIT
def SpB (l : List Int) : Prop := ∃ u e b s : Int, l = [u, e, b, s] ∧ -100000000 ≤ u ∧ u ≤ 100000000 ∧ 0 ≤ e ∧ e < 36 ∧ 1 ≤ b ∧ b ≤ 3
def spSure : Sp := fun vs H Q _ => ∃ sq due : Int, vs = [.int sq, .int due] ∧ Bits 400000 due ∧ Q (.int (sureI sq due)) H
theorem ok__law_sure {f : Addr} {fd : FuncData} (F : Fun K "_law_sure" "_law_sure" s__law_sure f fd) (T : Txt K mg) : FnOk P w K mg base CX0 1 f fd ["_law_square", "_law_due"] spSure := by
  refine F.ok sc__law_sure (fun vs H Q E h => ?_) (fun cdv A outer s H vs Q E hr h => ?_)
  · obtain ⟨sq, due, rfl, _⟩ := h
    rfl
  · obtain ⟨sq, due, rfl, hb, k⟩ := h
    refine ⟨_, (pss_cons (ps_if (PW.pt (pw_or (pt_cmpR op_lt (pv 1) pe_int (nomark _)) (pw_or1 (pt_cmpR op_gt (pv 0) (pe_op op_mulB (pv 1) (pv 1)) (nomark _)))))
        (pss_one (ps_ret pe_int))
        pss_nil)
      (pss_one (ps_ret (pe_op op_sub pe_int (pe_callTy call_int1 (by rfl) T.int_ PyProof.Rows.boot_int (pa_cons (pe_cmpR op_lt (pv 0) (pe_op op_mulB (pv 1) (pv 1)) (nomark _)) pa_nil)))))), ?_⟩
    refine rd_cutIf (fun σ' H' => σ' = [some (.int sq), some (.int due)] ∧ H = H' ∧ ¬ (due < 0 ∨ due * due < sq)) ?_ ?_
    case refine_2 =>
      intro rest
      refine rd_or ⟨_, rfl, _, _, rfl, rfl, _, rfl, rd_dec (fun h1 => ?_) (fun h1 => ?_)⟩
      · refine rd_true ?_
        unfold sureI at k
        rw [if_pos (.inl h1)] at k
        exact k
      · refine ⟨_, rfl, _, rfl, _, rfl, _, _, rfl, rfl, ⟨hb.mono (by decide), hb.mono (by decide)⟩, _, _, rfl, rfl, _, rfl, rd_dec (fun h2 => ?_) (fun h2 => ?_)⟩
        · unfold sureI at k
          rw [if_pos (.inr h2)] at k
          exact k
        · exact rest _ _ ⟨rfl, rfl, fun z => z.elim h1 h2⟩
    rintro σ' H' ⟨rfl, rfl, hn⟩
    refine rd_ret ⟨_, rfl, _, rfl, _, rfl, _, _, rfl, rfl, ⟨hb.mono (by decide), hb.mono (by decide)⟩, _, _, rfl, rfl, .inr ⟨_, rfl, _, _, rfl, rfl, ?_⟩⟩
    unfold sureI at k
    rw [if_neg hn] at k
    by_cases h3 : sq < due * due
    · rw [if_pos h3] at k
      rw [decide_eq_true h3]; exact k
    · rw [if_neg h3] at k
      rw [decide_eq_false h3]; exact k
def spSide : Sp := fun vs H Q _ => ∃ (p : Addr) (l : List Int) (t n : Int), vs = [.ref p, .int t, .int n] ∧ H p = some (.tup (l.map V.int)) ∧ SpB l ∧ Bits 100000 t ∧ Bits 100000 n ∧ Q (.int (sideG l t n)) H
theorem ok__law_side {f : Addr} {fd : FuncData} (F : Fun K "_law_side" "_law_side" s__law_side f fd) (T : Txt K mg) {f__law_sure : Addr} {fd__law_sure : FuncData} (C__law_sure : Cal P w K mg base 1 "_law_sure" ["_law_square", "_law_due"] spSure f__law_sure fd__law_sure) : FnOk P w K mg base CX0 2 f fd ["_law_spot", "_law_top", "_law_bottom"] spSide := by
  obtain ⟨G__law_sure, m__law_sure, k__law_sure, b__law_sure⟩ := C__law_sure
  refine F.ok sc__law_side (fun vs H Q E h => ?_) (fun cdv A outer s H vs Q E hr h => ?_)
  · obtain ⟨p, l, t, n, rfl, _⟩ := h
    rfl
  · obtain ⟨p, l, t, n, rfl, hP, ⟨u, e, b, s, rfl, h1, h2, h3, h4, h5, h6⟩, bt, bn, k⟩ := h
    have bu : Bits 28 u := by show u.natAbs < 268435456; omega
    have bb : Bits 6 b := by show b.natAbs < 64; omega
    have be : Bits 6 e := by show e.natAbs < 64; omega
    have bd : Bits 100030 (b * t - u * n) := Bits.sub (k := 100029) ((bb.mul bt).mono (by decide)) ((bu.mul bn).mono (by decide))
    refine ⟨_, (pss_cons (ps_set (i := 3) sc__law_side.nd rfl (Or.inl rfl) (pe_op op_sub (pe_op op_mulB (pe_ix (ix_tupK (K := K) rfl) (pv 0) pe_int (fun _ _ => rfl)) (pv 1)) (pe_op op_mulB (pe_ix (ix_tupK (K := K) rfl) (pv 0) pe_int (fun _ _ => rfl)) (pv 2))))
      (pss_cons (ps_set (i := 4) sc__law_side.nd rfl (Or.inl rfl) (pe_op op_mulB (pe_op op_mulB (pe_ix (ix_tupK (K := K) rfl) (pv 0) pe_int (fun _ _ => rfl)) (pv 2)) (pv 2)))
      (pss_cons (ps_if (pt_cmpR op_gt (pe_ix (ix_tupK (K := K) rfl) (pv 0) pe_int (fun _ _ => rfl)) pe_int (nomark _))
        (pss_one (ps_ret (pe_call G__law_sure (hr.mono (by decide)) rfl m__law_sure k__law_sure b__law_sure .nil pass0 (pa_cons (pv 4) (pa_cons (pv 3) pa_nil)))))
        pss_nil)
      (pss_one (ps_ret (pe_op op_sub pe_int (pe_call G__law_sure (hr.mono (by decide)) rfl m__law_sure k__law_sure b__law_sure .nil pass0 (pa_cons (pv 4) (pa_cons (pe_op op_sub pe_int (pv 3)) pa_nil))))))))), ?_⟩
    refine rd_sa ⟨_, rfl, p, _, _, _, rfl, rfl, SqT.of hP, rfl, _, rfl, _, _, rfl, rfl, ⟨bb.mono (by decide), bt.mono (by decide)⟩, _, rfl, p, _, _, _, rfl, rfl, SqT.of hP, rfl, _, rfl, _, _, rfl, rfl, ⟨bu.mono (by decide), bn.mono (by decide)⟩, _, _, rfl, rfl, ?_⟩
    refine rd_sa ⟨_, rfl, p, _, _, _, rfl, rfl, SqT.of hP, rfl, _, rfl, _, _, rfl, rfl, ⟨be.mono (by decide), bn.mono (by decide)⟩, _, rfl, _, _, rfl, rfl, ⟨(be.mul bn).mono (by decide), bn.mono (by decide)⟩, ?_⟩
    refine rd_sr ⟨_, rfl, p, _, _, _, rfl, rfl, SqT.of hP, rfl, _, _, rfl, rfl, _, rfl, rd_dec (fun hs => ?_) (fun hs => ?_)⟩
    · refine ⟨_, rfl, _, rfl, _, _, rfl, bd.mono (by decide), ?_⟩
      have hs' : 0 < cf [u, e, b, s] 3 := hs
      unfold sideG at k
      rw [if_pos hs'] at k
      exact k
    · have hs' : ¬ 0 < cf [u, e, b, s] 3 := hs
      refine rd_ret ⟨_, rfl, _, rfl, _, _, rfl, rfl, _, _, rfl, ?_, _, _, rfl, rfl, ?_⟩
      · have := bd.neg
        rw [← Int.zero_sub] at this
        exact this.mono (by decide)
      unfold sideG at k
      rw [if_neg hs'] at k
      exact k
theorem fac_spB {f l : List Int} (h : Fac 100000000 f) (hl : l ∈ spF f) : SpB l := by
  obtain ⟨u, e, b, rfl, h1, h2, h3, h4, h5, h6, h7⟩ := h
  obtain ⟨_, s, rfl, he, _⟩ := spf_spt rfl h5 hl
  exact ⟨u, e, b, s, rfl, h1, h2, he, h4, h5, h6⟩
theorem spots_B {fs : List (List Int)} (hF : ∀ f ∈ fs, Fac 100000000 f) : ∀ l ∈ spots fs, SpB l := fun l hl => by
  obtain ⟨f, hf, hm⟩ := List.mem_flatMap.mp hl
  exact fac_spB (hF f hf) hm
theorem spF_len (f : List Int) : (spF f).length ≤ 2 := by
  unfold spF
  split <;> split <;> simp
theorem spots_len : ∀ fs : List (List Int), (spots fs).length ≤ 2 * fs.length
  | [] => Nat.le_refl _
  | f :: fs => by
    have e1 : spots (f :: fs) = spF f ++ spots fs := by unfold spots; rw [List.flatMap_cons]
    have h1 := spF_len f
    have h2 := spots_len fs
    rw [e1, List.length_append, List.length_cons]; omega
theorem spots_take {fs : List (List Int)} {i : Nat} {f : List Int} (h : fs[i]? = some f) : spots (fs.take (i + 1)) = spots (fs.take i) ++ spF f := by
  unfold spots
  rw [List.take_add_one, h, List.flatMap_append]
  show _ ++ List.flatMap spF [f] = _
  rw [List.flatMap_singleton]
def spRo : Sp := fun vs H Q _ => ∃ (a : Addr) (qs : List Addr) (fs : List (List Int)), vs = [.ref a] ∧ H a = some (.lst (qs.map V.ref)) ∧ TuH H qs fs ∧ (∀ l ∈ fs, Fac 100000000 l) ∧ fs.length ≤ 100 ∧ ∀ (p : Addr) (H' : Hp) (ws : List Addr), Same H H' → H p = none → H' p = some (.lst (ws.map V.ref)) → TuH H' ws (spots fs) → Q (.ref p) H'
theorem ok__law_roots_of {f : Addr} {fd : FuncData} (F : Fun K "_law_roots_of" "_law_roots_of" s__law_roots_of f fd) (T : Txt K mg) : FnOk P w K mg base CX0 1 f fd ["_law_factors"] spRo := by
  refine F.ok sc__law_roots_of (fun vs H Q E h => ?_) (fun cdv A outer s H vs Q E hr h => ?_)
  · obtain ⟨a, qs, fs, rfl, _⟩ := h
    rfl
  · obtain ⟨a, qs, fs, rfl, hA, hT, hF, hn, k⟩ := h
    have big := sizeLine_eq
    refine ⟨_, (pss_cons (ps_set (i := 1) sc__law_roots_of.nd rfl (Or.inl rfl) (pe_lst pa_nil))
      (pss_cons (ps_for PassesOwn.never rfl (pi_listK (K := K) rfl (pv 0)) (pg_name (i := 2) sc__law_roots_of.nd rfl (Or.inl rfl))
        (pss_cons (ps_if (pt_cmpR op_ge (pe_ix (ix_tupK (K := K) rfl) (pv 2) pe_int (fun _ _ => rfl)) pe_int (nomark _))
            (pss_one (ps_expr (pe_bm PySem.F.plainAttrs_list PySem.F.slot_list_append PySem.F.type_list_append mt_append (pv 1) (pa_cons (pe_tup (pa_cons (pe_ix (ix_tupK (K := K) rfl) (pv 2) pe_int (fun _ _ => rfl)) (pa_cons (pe_ix (ix_tupK (K := K) rfl) (pv 2) pe_int (fun _ _ => rfl)) (pa_cons (pe_ix (ix_tupK (K := K) rfl) (pv 2) pe_int (fun _ _ => rfl)) (pa_cons pe_int pa_nil))))) pa_nil))))
            pss_nil)
          (pss_one (ps_if (pt_cmpR op_gt (pe_ix (ix_tupK (K := K) rfl) (pv 2) pe_int (fun _ _ => rfl)) pe_int (nomark _))
            (pss_one (ps_expr (pe_bm PySem.F.plainAttrs_list PySem.F.slot_list_append PySem.F.type_list_append mt_append (pv 1) (pa_cons (pe_tup (pa_cons (pe_ix (ix_tupK (K := K) rfl) (pv 2) pe_int (fun _ _ => rfl)) (pa_cons (pe_ix (ix_tupK (K := K) rfl) (pv 2) pe_int (fun _ _ => rfl)) (pa_cons (pe_ix (ix_tupK (K := K) rfl) (pv 2) pe_int (fun _ _ => rfl)) (pa_cons (pe_un un_neg pe_int) pa_nil))))) pa_nil))))
            pss_nil))))
      (pss_one (ps_ret (pv 1))))), ?_⟩
    refine rd_sa ⟨Nat.zero_le _, fun pm hpm => ?_⟩
    have s1 : Same H (upd H pm (.lst [])) := Same.upd_new hpm
    have q1 : upd H pm (.lst []) pm = some (.lst []) := upd_same
    generalize upd H pm (.lst []) = H1 at s1 q1 ⊢
    have hpl : (qs.map V.ref).length = fs.length := by rw [List.length_map, hT.1]
    refine ⟨_, rfl, a, rfl, ⟨_, SqL.of (s1 _ _ hA)⟩, for_list (K := K) (a := a) (xs := qs.map V.ref) (fun i σ' H' => ∃ (z2 : Option V) (ws : List Addr), σ' = [some (.ref a), some (.ref pm), z2] ∧ Same H H' ∧ H' pm = some (.lst (ws.map V.ref)) ∧ TuH H' ws (spots (fs.take i))) ⟨none, [], rfl, s1, q1, TuH.nil⟩ ?_ ?_ ?_⟩
    · rintro i σ' H' _ ⟨z2, ws, rfl, sm, _⟩
      exact SqL.of (sm _ _ hA)
    · rintro i x σ' H' hi ⟨z2, ws, rfl, sm, em, hW⟩
      obtain ⟨q, l, rfl, eq, el, hq, hlt⟩ := (hT.same sm).of_get hi
      have hmem := List.mem_of_getElem? el
      obtain ⟨u, e, b, rfl, h1, h2, h3, h4, h5, h6, h7⟩ := hF l hmem
      have hd : spF [u, e, b] = (if 0 ≤ e then [[u, e, b, 1]] else []) ++ (if 0 < e then [[u, e, b, -1]] else []) := rfl
      have hwl : ws.length ≤ 200 := by
        rw [hW.1]
        have := spots_len (fs.take i)
        rw [List.length_take] at this
        omega
      rw [spots_take el, hd]
      dsimp only
      refine rd_cutIf (fun σ' H' => ∃ (ws : List Addr), σ' = [some (.ref a), some (.ref pm), some (.ref q)] ∧ Same H H' ∧ H' pm = some (.lst (ws.map V.ref)) ∧ TuH H' ws (spots (fs.take i) ++ (if 0 ≤ e then [[u, e, b, 1]] else [])) ∧ ws.length ≤ 201) ?_ ?_
      case refine_2 =>
        intro rest
        refine ⟨_, rfl, q, _, _, _, rfl, rfl, SqT.of hq, rfl, _, _, rfl, rfl, _, rfl, rd_dec (fun h0 => ?_) (fun h0 => ?_)⟩
        · have h0' : 0 ≤ e := h0
          refine rd_drop ⟨_, rfl, .inl ⟨rfl, _, SqL.of em⟩, _, rfl, q, _, _, _, rfl, rfl, SqT.of hq, rfl, _, rfl, q, _, _, _, rfl, rfl, SqT.of hq, rfl, _, rfl, q, _, _, _, rfl, rfl, SqT.of hq, rfl, by show 4 ≤ sizeLine; decide, fun p hp => ?_⟩
          have s3 : Same H' (upd H' p (.tup ([u, e, b, 1].map V.int))) := Same.upd_new hp
          have e3 : upd H' p (.tup ([u, e, b, 1].map V.int)) p = some (.tup ([u, e, b, 1].map V.int)) := upd_same
          have em3 := s3 _ _ em
          refine ⟨pm, _, _, rfl, rfl, em3, by rw [List.length_map]; omega, ?_⟩
          refine rest _ _ ⟨ws ++ [p], rfl, mut_same (sm.trans s3) hpm, by rw [upd_same, map_ref_snoc], ?_, by rw [List.length_append]; show ws.length + 1 ≤ _; omega⟩
          rw [if_pos h0']
          exact ((hW.same s3).snoc e3).upd_lst em3
        · have h0' : ¬ 0 ≤ e := h0
          refine rest _ _ ⟨ws, rfl, sm, em, ?_, by omega⟩
          rw [if_neg h0', List.append_nil]; exact hW
      clear em hW hwl ws sm hq
      rintro σ' H3 ⟨ws, rfl, sm, em, hW, hwl⟩
      obtain ⟨q', l', ee, eq', el', hq, _⟩ := (hT.same sm).of_get hi
      rw [eq] at eq'
      rw [el] at el'
      obtain rfl := Option.some.inj eq'
      obtain rfl := Option.some.inj el'
      refine rd_if ⟨_, rfl, q, _, _, _, rfl, rfl, SqT.of hq, rfl, _, _, rfl, rfl, _, rfl, rd_dec (fun h0 => ?_) (fun h0 => ?_)⟩
      · have h0' : 0 < e := h0
        refine rd_drop ⟨_, rfl, .inl ⟨rfl, _, SqL.of em⟩, _, rfl, q, _, _, _, rfl, rfl, SqT.of hq, rfl, _, rfl, q, _, _, _, rfl, rfl, SqT.of hq, rfl, _, rfl, q, _, _, _, rfl, rfl, SqT.of hq, rfl, _, rfl, by show 4 ≤ sizeLine; decide, fun p hp => ?_⟩
        have s3 : Same H3 (upd H3 p (.tup ([u, e, b, -1].map V.int))) := Same.upd_new hp
        have e3 : upd H3 p (.tup ([u, e, b, -1].map V.int)) p = some (.tup ([u, e, b, -1].map V.int)) := upd_same
        have em3 := s3 _ _ em
        refine ⟨pm, _, _, rfl, rfl, em3, by rw [List.length_map]; omega, ?_⟩
        refine ⟨_, ws ++ [p], rfl, mut_same (sm.trans s3) hpm, by rw [upd_same, map_ref_snoc], ?_⟩
        rw [if_pos h0', ← List.append_assoc]
        exact ((hW.same s3).snoc e3).upd_lst em3
      · have h0' : ¬ 0 < e := h0
        refine ⟨_, ws, rfl, sm, em, ?_⟩
        rw [if_neg h0', List.append_nil]; exact hW
    · rintro σ' H' ⟨z2, ws, rfl, sm, em, hW⟩
      rw [hpl, List.take_length] at hW
      exact ⟨_, rfl, k pm H' ws sm hpm em hW⟩
--SPLIT
theorem cf_mono (g : Nat) (t : Int) (k : Nat) : cf (List.replicate g 0 ++ [t]) k = if k = g then t else 0 := by
  by_cases h : k < g
  · rw [cf_append_left (by simpa using h), cf_replicate, if_neg (by omega)]
  · rw [cf_append_right (by simpa using h), List.length_replicate]
    by_cases e : k = g
    · rw [if_pos e, e, Nat.sub_self]; rfl
    · rw [if_neg e]; exact cf_ge (by show 1 ≤ k - g; omega)
theorem mulc_mono (g : Nat) (t : Int) (ys : List Int) (n : Nat) : mulc (List.replicate g 0 ++ [t]) ys n = if g ≤ n then t * cf ys (n - g) else 0 := by
  have h := mulc_lay (q := List.replicate (g + 1) 0) (q' := List.replicate g 0 ++ [t]) (b := ys) (c := 0) (l := t) (p := g) (n := n) (by simp) (by simp) (fun k => by rw [cf_mono, cf_replicate]; omega)
  rw [h, Int.zero_mul, Int.zero_add]
theorem trim_short {l : List Int} {m : Nat} (hl : l.length = m + 1) (h : cf l m = 0) : (trim l).length ≤ m := by
  have e : trim l = trim (l.take m) := by
    have h1 := trim_take_zero (l := l) (n := m) (by omega) h
    rw [← h1, ← hl, List.take_length]
  rw [e]
  exact Nat.le_trans (length_trim _) (by rw [List.length_take]; exact Nat.min_le_left _ _)
/-- r is a rest of xs by ys -/
def IsRest (xs ys r : List Int) : Prop := Tr r ∧ r.length < ys.length ∧ ∃ (f : Int) (q : List Int), 0 < f ∧ ∀ n, f * cf xs n = mulc q ys n + cf r n
def spRest : Sp := fun vs H Q _ => ∃ (a b : Addr) (xs ys : List Int) (x y : Nat), vs = [.ref a, .ref b] ∧ H a = some (.lst (xs.map V.int)) ∧ H b = some (.lst (ys.map V.int)) ∧ ys ≠ [] ∧ Tr xs ∧ Tr ys ∧ AllB x xs ∧ AllB y ys ∧ x + xs.length * (y + 1) ≤ 1000000 ∧ xs.length ≤ 1000000 ∧ y ≤ 1000000 ∧ ys.length ≤ 1000000 ∧ ∀ r, IsRest xs ys r → mkL H Q r
theorem ok__law_rest {f : Addr} {fd : FuncData} (F : Fun K "_law_rest" "_law_rest" s__law_rest f fd) (T : Txt K mg) {f__law_trim : Addr} {fd__law_trim : FuncData} (C__law_trim : Cal P w K mg base 1 "_law_trim" ["_law_row_here"] (spTrim K) f__law_trim fd__law_trim) : FnOk P w K mg base CX0 2 f fd ["_law_kp", "_law_kq"] spRest := by
  obtain ⟨G__law_trim, m__law_trim, k__law_trim, b__law_trim⟩ := C__law_trim
  refine F.ok sc__law_rest (fun vs H Q E h => ?_) (fun cdv A outer s H vs Q E hr h => ?_)
  · obtain ⟨a, b, xs, ys, x, y, rfl, _⟩ := h
    rfl
  · obtain ⟨a, b, xs, ys, x, y, rfl, hA, hB, hy, xtr, ytr, bx, by', hsz, hxl, hyb, hyn, k⟩ := h
    have big := sizeLine_eq
    have hyl := List.length_pos_iff.mpr hy
    refine ⟨_, (pss_cons (ps_set (i := 2) sc__law_rest.nd rfl (Or.inl rfl) (pe_callTy (call_listK (K := K) rfl) (by rfl) T.list_ PyProof.Rows.boot_list (pa_cons (pv 0) pa_nil)))
      (pss_cons (ps_while PassesOwn.never (pt_cmpR op_ge (pe_callB (call_lenK (K := K) rfl) (by rfl) T.len_ PySem.boot_len (pa_cons (pv 2) pa_nil)) (pe_callB (call_lenK (K := K) rfl) (by rfl) T.len_ PySem.boot_len (pa_cons (pv 1) pa_nil)) (nomark _))
        (pss_cons (ps_set (i := 3) sc__law_rest.nd rfl (Or.inl rfl) (pe_op op_sub (pe_callB (call_lenK (K := K) rfl) (by rfl) T.len_ PySem.boot_len (pa_cons (pv 2) pa_nil)) (pe_callB (call_lenK (K := K) rfl) (by rfl) T.len_ PySem.boot_len (pa_cons (pv 1) pa_nil))))
          (pss_cons (ps_set (i := 4) sc__law_rest.nd rfl (Or.inl rfl) (pe_ix (ix_listK (K := K) rfl) (pv 2) (pe_un un_neg pe_int) (fun _ _ => rfl)))
          (pss_cons (ps_if (pt_cmpR op_lt (pe_ix (ix_listK (K := K) rfl) (pv 1) (pe_un un_neg pe_int) (fun _ _ => rfl)) pe_int (nomark _))
            (pss_one (ps_set (i := 4) sc__law_rest.nd rfl (Or.inl rfl) (pe_op op_sub pe_int (pv 4))))
            pss_nil)
          (pss_cons (ps_setComp (i := 2) sc__law_rest.nd rfl (Or.inl rfl) (own := ["_law_one"]) (fr := ["_law_kq"]) (js := [1]) (by walk_at "comp_ok") rfl (pi_listK (K := K) rfl (pv 2)) (fun _ _ _ _ => (pg_name (i := 0) (show List.Nodup (["_law_one", "_law_kq"] : List Str) from by decide +kernel) rfl (Or.inl rfl))) (fun _ _ _ _ => (pe_op op_mulB (pv 0) (pe_callB call_abs (by rfl) T.abs_ PyProof.Rows.boot_abs (pa_cons (pe_ix (ix_listK (K := K) rfl) (pv 1) (pe_un un_neg pe_int) (fun _ _ => rfl)) pa_nil)))) (by rfl))
          (pss_cons (ps_for PassesOwn.never rfl (pi_enum rfl T.enumerate_ (pa_cons (pv 1) pa_nil)) (pg_tup rfl (pgs_cons (pg_name (i := 5) sc__law_rest.nd rfl (Or.inl rfl)) (pgs_cons (pg_name (i := 6) sc__law_rest.nd rfl (Or.inl rfl)) pgs_nil)))
            (pss_one (ps_asg (pe_op op_sub (pe_ix (ix_listK (K := K) rfl) (pv 2) (pe_op op_add (pv 3) (pv 5)) (fun _ _ => rfl)) (pe_op op_mulB (pv 4) (pv 6))) (pg_sub (pv 2) (pe_op op_add (pv 3) (pv 5)) set_list))))
          (pss_one (ps_set (i := 2) sc__law_rest.nd rfl (Or.inl rfl) (pe_call G__law_trim (hr.mono (by decide)) rfl m__law_trim k__law_trim b__law_trim .nil pass0 (pa_cons (pv 2) pa_nil))))))))))
      (pss_one (ps_ret (pv 2))))), ?_⟩
    refine rd_sa ⟨_, rfl, a, _, rfl, .inl (SqL.of hA), fun l0 hl0 => ?_⟩
    have s0 := Same.upd_new (o := .lst (xs.map V.int)) hl0
    have h0 : upd H l0 (.lst (xs.map V.int)) l0 = some (.lst (xs.map V.int)) := upd_same
    generalize upd H l0 (.lst (xs.map V.int)) = H0 at s0 h0 ⊢
    refine ⟨fun m σ' H' => ∃ (pl : Addr) (L : List Int) (i : Nat) (z3 z4 z5 z6 : Option V), σ' = [some (.ref a), some (.ref b), some (.ref pl), z3, z4, z5, z6] ∧ Same H H' ∧ H' pl = some (.lst (L.map V.int)) ∧ H pl = none ∧ Tr L ∧ L.length = m ∧ AllB (x + i * (y + 1)) L ∧ L.length + i ≤ xs.length ∧ ∃ (f : Int) (q : List Int), 0 < f ∧ ∀ n, f * cf xs n = mulc q ys n + cf L n,
      ⟨_, l0, xs, 0, none, none, none, none, rfl, s0, h0, hl0, xtr, rfl, by rw [Nat.zero_mul]; exact bx, Nat.le_refl _, 1, [], by decide, fun n => by rw [Int.one_mul]; show _ = 0 + _; rw [Int.zero_add]⟩, ?_⟩
    rintro m σ' H1 ⟨pl, L, i, z3, z4, z5, z6, rfl, s1, h1, fpl, Ltr, rfl, bL, hLi, f, q, hf, heq⟩
    have hB1 := s1 _ _ hB
    have bi : x + i * (y + 1) ≤ 1000000 := by
      have := Nat.mul_le_mul_right (y + 1) (show i ≤ xs.length by omega)
      omega
    refine ⟨_, rfl, pl, _, rfl, .inl (SqL.of h1), _, rfl, b, _, rfl, .inl (SqL.of hB1), _, _, rfl, rfl, _, rfl, rd_dec (fun hge => ?_) (fun hlt => ?_)⟩
    rotate_left
    · have hlt' : ¬ (((ys.map V.int).length : Nat) : Int) ≤ (((L.map V.int).length : Nat) : Int) := hlt
      rw [List.length_map, List.length_map] at hlt'
      have h9 : L.length < ys.length := Int.ofNat_lt.mp (Int.not_le.mp hlt')
      exact ⟨_, rfl, k L ⟨Ltr, h9, f, q, hf, heq⟩ pl H1 s1 fpl h1⟩
    rw [List.length_map, List.length_map] at hge
    have hge' : ys.length ≤ L.length := by omega
    have hLne : L ≠ [] := fun z => by
      have h9 := Nat.lt_of_lt_of_le hyl hge'
      rw [z] at h9
      exact absurd h9 (Nat.lt_irrefl _)
    refine ⟨fun σ'' H'' => ∃ m', m' < L.length ∧ ∃ (pl : Addr) (L : List Int) (i : Nat) (z3 z4 z5 z6 : Option V), σ'' = [some (.ref a), some (.ref b), some (.ref pl), z3, z4, z5, z6] ∧ Same H H'' ∧ H'' pl = some (.lst (L.map V.int)) ∧ H pl = none ∧ Tr L ∧ L.length = m' ∧ AllB (x + i * (y + 1)) L ∧ L.length + i ≤ xs.length ∧ ∃ (f : Int) (q : List Int), 0 < f ∧ ∀ n, f * cf xs n = mulc q ys n + cf L n, fun _ _ h => h, ?_⟩
    refine rd_sa ⟨_, rfl, pl, _, rfl, .inl (SqL.of h1), _, rfl, b, _, rfl, .inl (SqL.of hB1), _, _, rfl, rfl, ?_⟩
    have eg : ((L.map V.int).length : Int) - ((ys.map V.int).length : Int) = ((L.length - ys.length : Nat) : Int) := by rw [List.length_map, List.length_map]; omega
    dsimp only
    rw [eg]
    refine rd_sa ⟨_, rfl, _, rfl, pl, _, _, _, rfl, rfl, SqL.of h1, at_last' hLne, ?_⟩
    -- top
    have hlc := ytr (ys.length - 1) (by omega)
    refine rd_cutIf (fun σ' H' => σ' = [some (.ref a), some (.ref b), some (.ref pl), some (.int ((L.length - ys.length : Nat) : Int)), some (.int (sg (cf ys (ys.length - 1)) * cf L (L.length - 1))), z5, z6] ∧ H1 = H') ?_ ?_
    case refine_2 =>
      intro rest
      refine ⟨_, rfl, _, rfl, b, _, _, _, rfl, rfl, SqL.of hB1, at_last' hy, _, _, rfl, rfl, _, rfl, rd_dec (fun hn => ?_) (fun hn => ?_)⟩
      · refine rd_asg ⟨_, rfl, _, _, rfl, rfl, rest _ _ ⟨?_, rfl⟩⟩
        have e : sg (cf ys (ys.length - 1)) * cf L (L.length - 1) = 0 - cf L (L.length - 1) := by
          have : sg (cf ys (ys.length - 1)) = -1 := by unfold sg; rw [if_pos hn]
          rw [this]; omega
        rw [e]; rfl
      · refine rest _ _ ⟨?_, rfl⟩
        have hn' : ¬ cf ys (ys.length - 1) < 0 := hn
        have e : sg (cf ys (ys.length - 1)) * cf L (L.length - 1) = cf L (L.length - 1) := by
          have : sg (cf ys (ys.length - 1)) = 1 := by unfold sg; rw [if_neg hn', if_pos (by omega)]
          rw [this]; omega
        rw [e]; rfl
    rintro σ' H' ⟨rfl, rfl⟩
    have bt : Bits (x + i * (y + 1)) (sg (cf ys (ys.length - 1)) * cf L (L.length - 1)) := sg_mul_bits (bL.cf _)
    have hA' : Bits y (((cf ys (ys.length - 1)).natAbs : Nat) : Int) := abs_bits (by'.cf _)
    have hzero : (((cf ys (ys.length - 1)).natAbs : Nat) : Int) * cf L (L.length - 1) = sg (cf ys (ys.length - 1)) * cf L (L.length - 1) * cf ys (ys.length - 1) := by
      have := sg_self (cf ys (ys.length - 1))
      grind
    have hApos : 0 < (((cf ys (ys.length - 1)).natAbs : Nat) : Int) := by omega
    generalize sg (cf ys (ys.length - 1)) * cf L (L.length - 1) = tp at bt hzero ⊢
    generalize hgp : L.length - ys.length = gp
    -- times the last one
    refine ⟨_, rfl, pl, rfl, ⟨_, SqL.of h1⟩, comp_list (K := K) (a := pl) (xs := L.map V.int) (fun i ms σ' H' => ∃ z0 : Option V, σ' = [z0, some (.ref b)] ∧ ms = (scL (((cf ys (ys.length - 1)).natAbs : Nat) : Int) (L.take i)).map V.int ∧ H1 = H') (by rw [List.length_map]; omega) ⟨none, rfl, rfl, rfl⟩ ?_ ?_ ?_⟩
    · rintro i ms σ' H' _ ⟨z0, rfl, rfl, rfl⟩
      exact ⟨SqL.of h1, by rw [List.length_map, length_scL, List.length_take]; exact Nat.min_le_left _ _⟩
    · rintro j v ms σ' H' hi ⟨z0, rfl, rfl, rfl⟩
      obtain ⟨c, _, rfl, hm, et⟩ := get_int hi
      refine ⟨_, rfl, _, rfl, _, rfl, b, _, _, _, rfl, rfl, SqL.of hB1, at_last' hy, _, rfl, ?_⟩
      rw [abs_eq]
      refine ⟨_, _, rfl, rfl, ⟨(bL c hm).mono bi, hA'.mono hyb⟩, _, rfl, ?_, rfl⟩
      rw [et]
      unfold scL
      rw [List.map_append, List.map_append]
      show _ ++ [V.int (c * _)] = _ ++ [V.int (_ * c)]
      rw [Int.mul_comm]
    rintro ms σ' H' p2 ⟨z0, rfl, rfl, rfl⟩ hp2
    rw [List.length_map, List.take_length]
    have t2 := Same.upd_new (o := .lst ((scL (((cf ys (ys.length - 1)).natAbs : Nat) : Int) L).map V.int)) hp2
    have h22 : upd H1 p2 (.lst ((scL (((cf ys (ys.length - 1)).natAbs : Nat) : Int) L).map V.int)) p2 = some (.lst ((scL (((cf ys (ys.length - 1)).natAbs : Nat) : Int) L).map V.int)) := upd_same
    generalize upd H1 p2 (.lst ((scL (((cf ys (ys.length - 1)).natAbs : Nat) : Int) L).map V.int)) = H2 at t2 h22 ⊢
    have hB2 := t2 _ _ hB1
    have nb2 : b ≠ p2 := ne_of_none hB1 hp2
    refine rd_name ?_
    refine ⟨_, rfl, b, rfl, ⟨_, SqL.of hB2⟩, for_enum (K := K) (a := b) (xs := ys.map V.int) (fun j σ' H' => ∃ (acc : List Int) (z5 z6 : Option V), σ' = [some (.ref a), some (.ref b), some (.ref p2), some (.int (gp : Int)), some (.int tp), z5, z6] ∧ SameB p2 H2 H' ∧ H' p2 = some (.lst (acc.map V.int)) ∧ acc.length = L.length ∧ ∀ n, n < acc.length → cf acc n = (((cf ys (ys.length - 1)).natAbs : Nat) : Int) * cf L n - (if gp ≤ n ∧ n - gp < j then tp * cf ys (n - gp) else 0))
      ⟨_, z5, z6, rfl, SameB.refl _ _, h22, length_scL _ _, fun n _ => by rw [cf_scL, if_neg (by omega)]; omega⟩ ?_ ?_ ?_⟩
    · rintro j σ' H' _ ⟨acc, z5, z6, rfl, sb, _⟩
      exact SqL.of (sb _ _ nb2 hB2)
    · rintro j v σ' H' q' hj ⟨acc, z5, z6, rfl, sb, hpa, hal, hac⟩ hq
      have hjl : j < ys.length := by
        apply Classical.byContradiction
        intro hn
        rw [List.getElem?_eq_none_iff.mpr (by rw [List.length_map]; omega)] at hj
        cases hj
      rw [List.getElem?_map, get_cf hjl] at hj
      obtain rfl := Option.some.inj hj
      refine ⟨q', _, rfl, SqT.of upd_same, rfl, _, _, rfl, _, _, rfl, rfl, ?_⟩
      have nqp : p2 ≠ q' := ne_of_none hpa hq
      have hpa' : upd H' q' (.tup [.int j, .int (cf ys j)]) p2 = some (.lst (acc.map V.int)) := by rw [upd_ne nqp]; exact hpa
      have hpi : gp + j < acc.length := by omega
      have epi : ((gp : Nat) : Int) + ((j : Nat) : Int) = ((gp + j : Nat) : Int) := by omega
      refine ⟨_, rfl, _, rfl, _, rfl, _, _, rfl, rfl, p2, _, _, _, rfl, rfl, SqL.of hpa', at_map epi hpi, _, rfl, _, rfl, _, _, rfl, rfl, ⟨bt.mono bi, (by'.cf j).mono hyb⟩, _, _, rfl, rfl, _, rfl, _, rfl, _, rfl, _, _, rfl, rfl, p2, _, _, gp + j, rfl, rfl, hpa', ixN_nat epi (by rw [List.length_map]; exact hpi), ?_⟩
      refine ⟨acc.set (gp + j) (cf acc (gp + j) - tp * cf ys j), _, _, rfl, (sb.then_new hq).then_upd, by rw [upd_same, map_set_int], by rw [List.length_set]; exact hal, fun n hn => ?_⟩
      rw [List.length_set] at hn
      rw [cf_set hpi]
      by_cases e : n = gp + j
      · subst e
        rw [if_pos rfl, hac _ hpi, if_neg (by omega), if_pos (by omega), Nat.add_sub_cancel_left]; omega
      · rw [if_neg e, hac n hn]
        by_cases h1 : gp ≤ n ∧ n - gp < j
        · rw [if_pos h1, if_pos (by omega)]
        · rw [if_neg h1, if_neg (by omega)]
    rintro σ' H3 ⟨acc, z5, z6, rfl, sb, hpa, hal, hac⟩
    rw [List.length_map] at hac
    have s3 : Same H H3 := fun b' o e => sb b' o (ne_of_none (s1 b' o e) hp2) (t2 b' o (s1 b' o e))
    dsimp only
    refine rd_asg ⟨_, rfl, p2, acc, rfl, SqL.of hpa, fun p4 H4 sm4 hp4 e4 => ?_⟩
    have hcfa : ∀ n, cf acc n = (((cf ys (ys.length - 1)).natAbs : Nat) : Int) * cf L n - (if gp ≤ n then tp * cf ys (n - gp) else 0) := by
      intro n
      by_cases hn : n < acc.length
      · rw [hac n hn]
        by_cases h1 : gp ≤ n
        · have h2 : gp ≤ n ∧ n - gp < ys.length := ⟨h1, by omega⟩
          rw [if_pos h1, if_pos h2]
        · have h2 : ¬ (gp ≤ n ∧ n - gp < ys.length) := fun z => h1 z.1
          rw [if_neg h1, if_neg h2]
      · rw [cf_ge (by omega), cf_ge (l := L) (by omega)]
        by_cases h1 : gp ≤ n
        · have hn3 : ys.length ≤ n - gp := by omega
          rw [if_pos h1, cf_ge (l := ys) hn3]; simp
        · rw [if_neg h1]; simp
    have hLl := List.length_pos_iff.mpr hLne
    have hsh : (trim acc).length ≤ L.length - 1 := trim_short (by omega) (by
      have c9 : gp ≤ L.length - 1 := by omega
      rw [hcfa, if_pos c9]
      have e : L.length - 1 - gp = ys.length - 1 := by omega
      rw [e, hzero]; omega)
    refine ⟨(trim acc).length, by omega, p4, trim acc, i + 1, _, _, _, _, rfl, s3.trans sm4, e4, s3.free hp4, tr_trim _, rfl, ?_, by omega, (((cf ys (ys.length - 1)).natAbs : Nat) : Int) * f, linL 1 (scL (((cf ys (ys.length - 1)).natAbs : Nat) : Int) q) (List.replicate gp 0 ++ [tp]), Int.mul_pos hApos hf, fun n => ?_⟩
    · refine AllB.of_cf fun n => ?_
      rw [cf_trim, hcfa]
      have e : x + (i + 1) * (y + 1) = x + i * (y + 1) + y + 1 := by rw [Nat.succ_mul]; omega
      rw [e]
      have m1 : Bits (x + i * (y + 1) + y) ((((cf ys (ys.length - 1)).natAbs : Nat) : Int) * cf L n) := by
        have := hA'.mul (bL.cf n); rwa [Nat.add_comm] at this
      refine m1.sub ?_
      by_cases h1 : gp ≤ n
      · rw [if_pos h1]; exact bt.mul (by'.cf _)
      · rw [if_neg h1]; exact Bits.zero
    · rw [cf_trim, hcfa, mulc_lin (a := q) (b := List.replicate gp 0 ++ [tp]) (x := (((cf ys (ys.length - 1)).natAbs : Nat) : Int)) (y := 1) (fun k => by rw [cf_linL, cf_scL]), mulc_mono, Int.mul_assoc, heq n]
      grind
--SPLIT
def spSlp : Sp := fun vs H Q _ => ∃ (a : Addr) (ns : List Int), vs = [.ref a] ∧ H a = some (.lst (ns.map V.int)) ∧ ns.length ≤ 1000 ∧ AllB 90000 ns ∧ mkL H Q (slopeL ns)
theorem cf_takeN (l : List Int) (n k : Nat) : cf (l.take n) k = if k < n then cf l k else 0 := by
  unfold cf
  by_cases h : k < n
  · rw [if_pos h]; simp [List.getD, List.getElem?_take, h]
  · rw [if_neg h]; simp [List.getD, List.getElem?_take, h]
theorem ok__law_slope {f : Addr} {fd : FuncData} (F : Fun K "_law_slope" "_law_slope" s__law_slope f fd) (T : Txt K mg) : FnOk P w K mg base CX0 1 f fd ["_law_kp"] spSlp := by
  refine F.ok sc__law_slope (fun vs H Q E h => ?_) (fun cdv A outer s H vs Q E hr h => ?_)
  · obtain ⟨a, ns, rfl, _⟩ := h
    rfl
  · obtain ⟨pk, kps, rfl, hK, kl, kb, k⟩ := h
    have big := sizeLine_eq
    refine ⟨_, (pss_one (ps_ret (pe_slice (sl_listK (K := K) rfl) (pe_comp (own := ["_law_k", "_law_one"]) (fr := []) (js := []) (by walk_at "comp_ok") rfl (pi_enum rfl T.enumerate_ (pa_cons (pv 0) pa_nil)) (fun _ _ _ _ => (pg_tupK (K := K) (n := 2) rfl rfl (pgs_cons (pg_name (i := 0) (show List.Nodup (["_law_k", "_law_one"] : List Str) from by decide +kernel) rfl (Or.inl rfl) (Or.inr rfl)) (pgs_cons (pg_name (i := 1) (show List.Nodup (["_law_k", "_law_one"] : List Str) from by decide +kernel) rfl (Or.inl rfl) (Or.inr rfl)) pgs_nil rfl) rfl) rfl rfl)) (fun _ _ _ _ => (pe_op op_mulB (pv 0) (pv 1)))) (po_some pe_int) po_none))), ?_⟩
    have hkl : (kps.map V.int).length = kps.length := List.length_map _
    refine rd_ret ⟨_, rfl, pk, rfl, ⟨_, SqL.of hK⟩, comp_enum (K := K) (a := pk) (xs := kps.map V.int) (fun i ys σ' H' => ∃ z y : Option V, σ' = [z, y] ∧ ys = ((List.range i).map fun (j : Nat) => (j : Int) * cf kps j).map V.int ∧ Same H H') (by rw [hkl]; omega) ⟨none, none, rfl, rfl, fun _ _ e => e⟩ ?_ ?_ ?_⟩
    · rintro i ys σ' H' _ ⟨z, y, rfl, rfl, sm⟩
      exact ⟨SqL.of (sm _ _ hK), by simp⟩
    · rintro i v ys σ' H' q hi ⟨z, y, rfl, rfl, sm⟩ hq
      obtain ⟨c, ec, rfl, hcm, _⟩ := get_int hi
      have hc : cf kps i = c := cf_some ec
      have hil : i < kps.length := (List.getElem?_eq_some_iff.mp ec).1
      refine ⟨q, _, rfl, SqT.of upd_same, rfl, _, _, rfl, _, _, rfl, rfl, ?_⟩
      refine ⟨_, rfl, _, rfl, _, _, rfl, rfl, ⟨small_bits (by omega), (kb c hcm).mono (by decide)⟩, _, _, rfl, ?_, sm.then_new hq⟩
      rw [List.range_succ, List.map_append, List.map_append, ← hc]; rfl
    rintro ys σ' H1 p1 ⟨z, y, rfl, rfl, s1⟩ hp1
    have t1 := s1.then_new (o := .lst (((List.range (kps.map V.int).length).map fun (j : Nat) => (j : Int) * cf kps j).map V.int)) hp1
    refine ⟨1, rfl, p1, _, rfl, SqL.of upd_same, fun p2 hp2 => ?_⟩
    rw [cutV_map]
    have est : cutL ((List.range (kps.map V.int).length).map fun (j : Nat) => (j : Int) * cf kps j) (some 1) none = slopeL kps := by
      rw [hkl]
      refine ext_cf ?_ fun n hn => ?_
      · unfold cutL slopeL
        rw [HT.sIx_none, show (some (1 : Int)) = some ((1 : Nat) : Int) from rfl, HT.sIx_nat]
        simp
        omega
      · unfold cutL slopeL
        rw [HT.sIx_none, show (some (1 : Int)) = some ((1 : Nat) : Int) from rfl, HT.sIx_nat]
        have hn' : n < kps.length - 1 := by
          unfold cutL at hn
          rw [HT.sIx_none, show (some (1 : Int)) = some ((1 : Nat) : Int) from rfl, HT.sIx_nat] at hn
          simp at hn
          omega
        rw [cf_map_range, if_pos hn', cf_takeN, List.length_map, List.length_range]
        have hm : min 1 kps.length = 1 := by omega
        rw [hm, if_pos (by omega)]
        have e3 : cf (List.drop 1 ((List.range kps.length).map fun (j : Nat) => (j : Int) * cf kps j)) n = cf ((List.range kps.length).map fun (j : Nat) => (j : Int) * cf kps j) (n + 1) := by
          unfold cf
          simp [List.getD, List.getElem?_drop, Nat.add_comm]
        rw [e3, cf_map_range, if_pos (by omega)]
        show ((n + 1 : Nat) : Int) * _ = _
        rw [Int.natCast_add]; rfl
    rw [est]
    exact k p2 _ (t1.then_new hp2) (t1.free hp2) upd_same
def spPrt : Sp := fun vs H Q _ => ∃ (a b : Addr) (xs ys : List Int) (x y : Nat), vs = [.ref a, .ref b] ∧ H a = some (.lst (xs.map V.int)) ∧ H b = some (.lst (ys.map V.int)) ∧ ys ≠ [] ∧ Tr ys ∧ ys.length ≤ xs.length ∧ xs.length ≤ 1000 ∧ AllB x xs ∧ AllB y ys ∧ y ≤ 9000 ∧ x + (xs.length + 1) * (y + 1) ≤ 900000 ∧
  ∀ g : List Int, g.length = xs.length - ys.length + 1 → (∃ (f : Int) (r : List Int), 0 < f ∧ (∀ n, ys.length ≤ n + 1 → cf r n = 0) ∧ ∀ n, f * cf xs n = mulc g ys n + cf r n) → mkL H Q g
theorem rd_heap {Q : Hp → Prop} {H1 H2 : Hp} (e : H1 = H2) (h : Q H2) : Q H1 := by rw [e]; exact h
theorem fdiv_sg {v l : Int} (h : l ≠ 0) : Int.fdiv (v * (l.natAbs : Int)) l = sg l * v := by
  have h1 := sg_self l
  have h2 : (l.natAbs : Int) = sg l * l := h1.symm
  have e : v * (l.natAbs : Int) = (sg l * v) * l := by rw [h2]; grind
  rw [e]
  exact Int.mul_fdiv_cancel _ h
theorem ok__law_part {f : Addr} {fd : FuncData} (F : Fun K "_law_part" "_law_part" s__law_part f fd) (T : Txt K mg) : FnOk P w K mg base CX0 1 f fd ["_law_kp", "_law_kq"] spPrt := by
  refine F.ok sc__law_part (fun vs H Q E h => ?_) (fun cdv A outer s H vs Q E hr h => ?_)
  · obtain ⟨a, b, xs, ys, x, y, rfl, _⟩ := h
    rfl
  · obtain ⟨a, b, xs, ys, x, y, rfl, hA, hB, hy, ytr, hyx, hxl, bx, by', hy9, hsz, k⟩ := h
    have big := sizeLine_eq
    have hyl := List.length_pos_iff.mpr hy
    refine ⟨_, (pss_cons (ps_set (i := 2) sc__law_part.nd rfl (Or.inl rfl) (pe_callTy (call_listK (K := K) rfl) (by rfl) T.list_ PyProof.Rows.boot_list (pa_cons (pv 0) pa_nil)))
      (pss_cons (ps_setComp (i := 3) sc__law_part.nd rfl (Or.inl rfl) (own := ["_law_k"]) (fr := []) (js := []) (by walk_at "comp_ok") rfl (pi_range1 rfl T.range_ (pa_cons (pe_op op_add (pe_op op_sub (pe_callB (call_lenK (K := K) rfl) (by rfl) T.len_ PySem.boot_len (pa_cons (pv 0) pa_nil)) (pe_callB (call_lenK (K := K) rfl) (by rfl) T.len_ PySem.boot_len (pa_cons (pv 1) pa_nil))) pe_int) pa_nil)) (fun _ _ _ _ => (pg_name (i := 0) (show List.Nodup (["_law_k"] : List Str) from by decide +kernel) rfl (Or.inl rfl))) (fun _ _ _ _ => pe_int) (by rfl))
      (pss_cons (ps_for PassesOwn.never rfl (pi_revR rfl T.reversed_ rfl T.range_ (pa_cons (pe_callB (call_lenK (K := K) rfl) (by rfl) T.len_ PySem.boot_len (pa_cons (pv 3) pa_nil)) pa_nil)) (pg_name (i := 4) sc__law_part.nd rfl (Or.inl rfl))
        (pss_cons (ps_setComp (i := 2) sc__law_part.nd rfl (Or.inl rfl) (own := ["_law_one"]) (fr := ["_law_kq"]) (js := [1]) (by walk_at "comp_ok") rfl (pi_listK (K := K) rfl (pv 2)) (fun _ _ _ _ => (pg_name (i := 0) (show List.Nodup (["_law_one", "_law_kq"] : List Str) from by decide +kernel) rfl (Or.inl rfl))) (fun _ _ _ _ => (pe_op op_mulB (pv 0) (pe_callB call_abs (by rfl) T.abs_ PyProof.Rows.boot_abs (pa_cons (pe_ix (ix_listK (K := K) rfl) (pv 1) (pe_un un_neg pe_int) (fun _ _ => rfl)) pa_nil)))) (by rfl))
          (pss_cons (ps_setComp (i := 3) sc__law_part.nd rfl (Or.inl rfl) (own := ["_law_one"]) (fr := ["_law_kq"]) (js := [1]) (by walk_at "comp_ok") rfl (pi_listK (K := K) rfl (pv 3)) (fun _ _ _ _ => (pg_name (i := 0) (show List.Nodup (["_law_one", "_law_kq"] : List Str) from by decide +kernel) rfl (Or.inl rfl))) (fun _ _ _ _ => (pe_op op_mulB (pv 0) (pe_callB call_abs (by rfl) T.abs_ PyProof.Rows.boot_abs (pa_cons (pe_ix (ix_listK (K := K) rfl) (pv 1) (pe_un un_neg pe_int) (fun _ _ => rfl)) pa_nil)))) (by rfl))
          (pss_cons (ps_asg (pe_op op_fdivB (pe_ix (ix_listK (K := K) rfl) (pv 2) (pe_op op_sub (pe_op op_add (pv 4) (pe_callB (call_lenK (K := K) rfl) (by rfl) T.len_ PySem.boot_len (pa_cons (pv 1) pa_nil))) pe_int) (fun _ _ => rfl)) (pe_ix (ix_listK (K := K) rfl) (pv 1) (pe_un un_neg pe_int) (fun _ _ => rfl))) (pg_sub (pv 3) (pv 4) set_list))
          (pss_one (ps_for PassesOwn.never rfl (pi_enum rfl T.enumerate_ (pa_cons (pv 1) pa_nil)) (pg_tup rfl (pgs_cons (pg_name (i := 5) sc__law_part.nd rfl (Or.inl rfl)) (pgs_cons (pg_name (i := 6) sc__law_part.nd rfl (Or.inl rfl)) pgs_nil)))
            (pss_one (ps_asg (pe_op op_sub (pe_ix (ix_listK (K := K) rfl) (pv 2) (pe_op op_add (pv 4) (pv 5)) (fun _ _ => rfl)) (pe_op op_mulB (pe_ix (ix_listK (K := K) rfl) (pv 3) (pv 4) (fun _ _ => rfl)) (pv 6))) (pg_sub (pv 2) (pe_op op_add (pv 4) (pv 5)) set_list)))))))))
      (pss_one (ps_ret (pv 3)))))), ?_⟩
    refine rd_sa ⟨_, rfl, a, _, rfl, .inl (SqL.of hA), fun l0 hl0 => ?_⟩
    have s0 := Same.upd_new (o := .lst (xs.map V.int)) hl0
    have h0 : upd H l0 (.lst (xs.map V.int)) l0 = some (.lst (xs.map V.int)) := upd_same
    generalize upd H l0 (.lst (xs.map V.int)) = H0 at s0 h0 ⊢
    have hm : ((xs.map V.int).length : Int) - ((ys.map V.int).length : Int) + 1 = ((xs.length - ys.length + 1 : Nat) : Int) := by rw [List.length_map, List.length_map]; omega
    generalize hM : xs.length - ys.length + 1 = M at hm
    refine rd_seq ⟨_, rfl, a, _, rfl, .inl (SqL.of (s0 _ _ hA)), _, rfl, b, _, rfl, .inl (SqL.of (s0 _ _ hB)), _, _, rfl, rfl, _, _, rfl, rfl, ?_⟩
    dsimp only
    rw [hm]
    refine ⟨_, rfl, by omega, by omega, comp_range (lo := 0) (n := (M : Int).toNat) (fun i ys' σ' H' => ∃ z0 : Option V, σ' = [z0] ∧ ys' = (List.replicate i (0 : Int)).map V.int ∧ H0 = H') (by omega) ⟨none, rfl, rfl, rfl⟩ ?_ ?_ ?_⟩
    · rintro i ys' σ' H' hi ⟨z0, rfl, rfl, rfl⟩
      simp
    · rintro i ys' σ' H' hi ⟨z0, rfl, rfl, rfl⟩
      refine ⟨_, rfl, ?_, rfl⟩
      rw [List.replicate_succ', List.map_append]; rfl
    rintro ys' σ' H' g0 ⟨z0, rfl, rfl, rfl⟩ hg0
    rw [Int.toNat_natCast]
    have s1 := s0.then_new (o := .lst ((List.replicate M (0 : Int)).map V.int)) hg0
    have n0 : l0 ≠ g0 := ne_of_none h0 hg0
    have h1 : upd H0 g0 (.lst ((List.replicate M (0 : Int)).map V.int)) l0 = some (.lst (xs.map V.int)) := by rw [upd_ne n0]; exact h0
    have g1 : upd H0 g0 (.lst ((List.replicate M (0 : Int)).map V.int)) g0 = some (.lst ((List.replicate M (0 : Int)).map V.int)) := upd_same
    have fg0 : H g0 = none := s0.free hg0
    generalize upd H0 g0 (.lst ((List.replicate M (0 : Int)).map V.int)) = H1 at s1 h1 g1 ⊢
    refine rd_name ?_
    have hlc := ytr (ys.length - 1) (by omega)
    have bS : Bits y (((cf ys (ys.length - 1)).natAbs : Nat) : Int) := abs_bits (by'.cf _)
    refine ⟨_, rfl, g0, _, rfl, .inl (SqL.of g1), _, rfl, by rw [List.length_map, List.length_replicate]; omega, by rw [List.length_map, List.length_replicate]; omega, ?_⟩
    rw [List.length_map, List.length_replicate, Int.toNat_natCast]
    refine for_rangeD (fun i σ' H' => ∃ (pl pg : Addr) (L G : List Int) (z4 z5 z6 : Option V), σ' = [some (.ref a), some (.ref b), some (.ref pl), some (.ref pg), z4, z5, z6] ∧ Same H H' ∧ H pl = none ∧ H pg = none ∧ H' pl = some (.lst (L.map V.int)) ∧ H' pg = some (.lst (G.map V.int)) ∧ L.length = xs.length ∧ G.length = M ∧ AllB (x + i * (y + 1)) L ∧ AllB (x + i * (y + 1)) G ∧ (∀ n, xs.length ≤ n + i → cf L n = 0) ∧ (∀ n, n + i < M → cf G n = 0) ∧ ∃ f : Int, 0 < f ∧ ∀ n, f * cf xs n = mulc G ys n + cf L n)
      ⟨l0, g0, xs, List.replicate M 0, none, none, none, rfl, s1, hl0, fg0, h1, g1, rfl, List.length_replicate, by rw [Nat.zero_mul]; exact bx, AllB.zeros, fun n hn => cf_ge (by omega), fun n _ => cf_replicate _ _, 1, by decide, fun n => by rw [Int.one_mul, mulc_zero (cf_replicate _)]; omega⟩ ?_ ?_
    · rintro i σ' H2 hi ⟨pl, pg, L, G, z4, z5, z6, rfl, s2, fl, fg, hl, hg, hLl, hGl, bL, bG, hLz, hGz, f, hf, heq⟩
      have hB2 := s2 _ _ hB
      have bi : x + (i + 1) * (y + 1) ≤ 900000 := by
        have := Nat.mul_le_mul_right (y + 1) (show i + 1 ≤ xs.length + 1 by omega)
        omega
      have e1 : x + (i + 1) * (y + 1) = x + i * (y + 1) + y + 1 := by rw [Nat.succ_mul]; omega
      have ek : ((M : Int) - 1) + (i : Int) * -1 = ((M - 1 - i : Nat) : Int) := by omega
      dsimp only
      rw [ek]
      generalize hk : M - 1 - i = kk
      generalize hS : (((cf ys (ys.length - 1)).natAbs : Nat) : Int) = S at bS
      -- left times the last one
      refine rd_seq ⟨_, rfl, pl, rfl, ⟨_, SqL.of hl⟩, comp_list (K := K) (a := pl) (xs := L.map V.int) (fun j ms σ' H' => ∃ z0 : Option V, σ' = [z0, some (.ref b)] ∧ ms = (scL S (L.take j)).map V.int ∧ H2 = H') (by rw [List.length_map]; omega) ⟨none, rfl, rfl, rfl⟩ ?_ ?_ ?_⟩
      · rintro j ms σ' H' _ ⟨z0, rfl, rfl, rfl⟩
        exact ⟨SqL.of hl, by rw [List.length_map, length_scL, List.length_take]; exact Nat.min_le_left _ _⟩
      · rintro j v ms σ' H' hj ⟨z0, rfl, rfl, rfl⟩
        obtain ⟨c, _, rfl, hmc, et⟩ := get_int hj
        refine ⟨_, rfl, _, rfl, _, rfl, b, _, _, _, rfl, rfl, SqL.of hB2, at_last' hy, _, rfl, ?_⟩
        rw [abs_eq, hS]
        refine ⟨_, _, rfl, rfl, ⟨(bL c hmc).mono (by omega), bS.mono (by omega)⟩, _, rfl, ?_, rfl⟩
        rw [et]
        unfold scL
        rw [List.map_append, List.map_append]
        show _ ++ [V.int (c * _)] = _ ++ [V.int (_ * c)]
        rw [Int.mul_comm]
      rintro ms σ' H' p2 ⟨z0, rfl, rfl, rfl⟩ hp2
      rw [List.length_map, List.take_length]
      have t2 := Same.upd_new (o := .lst ((scL S L).map V.int)) hp2
      have e2 : upd H2 p2 (.lst ((scL S L).map V.int)) p2 = some (.lst ((scL S L).map V.int)) := upd_same
      have n2 : pg ≠ p2 := ne_of_none hg hp2
      have hg3 := t2 _ _ hg
      generalize upd H2 p2 (.lst ((scL S L).map V.int)) = H3 at t2 e2 hg3 ⊢
      have hB3 := t2 _ _ hB2
      refine rd_name ?_
      dsimp only
      -- found times the last one
      refine rd_seq ⟨_, rfl, pg, rfl, ⟨_, SqL.of hg3⟩, comp_list (K := K) (a := pg) (xs := G.map V.int) (fun j ms σ' H' => ∃ z0 : Option V, σ' = [z0, some (.ref b)] ∧ ms = (scL S (G.take j)).map V.int ∧ H3 = H') (by rw [List.length_map]; omega) ⟨none, rfl, rfl, rfl⟩ ?_ ?_ ?_⟩
      · rintro j ms σ' H' _ ⟨z0, rfl, rfl, rfl⟩
        exact ⟨SqL.of hg3, by rw [List.length_map, length_scL, List.length_take]; exact Nat.min_le_left _ _⟩
      · rintro j v ms σ' H' hj ⟨z0, rfl, rfl, rfl⟩
        obtain ⟨c, _, rfl, hmc, et⟩ := get_int hj
        refine ⟨_, rfl, _, rfl, _, rfl, b, _, _, _, rfl, rfl, SqL.of hB3, at_last' hy, _, rfl, ?_⟩
        rw [abs_eq, hS]
        refine ⟨_, _, rfl, rfl, ⟨(bG c hmc).mono (by omega), bS.mono (by omega)⟩, _, rfl, ?_, rfl⟩
        rw [et]
        unfold scL
        rw [List.map_append, List.map_append]
        show _ ++ [V.int (c * _)] = _ ++ [V.int (_ * c)]
        rw [Int.mul_comm]
      rintro ms σ' H' p3 ⟨z0, rfl, rfl, rfl⟩ hp3
      rw [List.length_map, List.take_length]
      have n3 : p2 ≠ p3 := ne_of_none e2 hp3
      have t3 := t2.then_new (o := .lst ((scL S G).map V.int)) hp3
      have e3 : upd H3 p3 (.lst ((scL S G).map V.int)) p3 = some (.lst ((scL S G).map V.int)) := upd_same
      have e2' : upd H3 p3 (.lst ((scL S G).map V.int)) p2 = some (.lst ((scL S L).map V.int)) := by rw [upd_ne n3]; exact e2
      have f2 : H p2 = none := s2.free hp2
      have f3 : H p3 = none := (s2.trans t2).free hp3
      generalize upd H3 p3 (.lst ((scL S G).map V.int)) = H4 at t3 e3 e2' ⊢
      have hB4 := t3 _ _ hB2
      have nb2 : b ≠ p2 := fun z => by rw [z] at hB; rw [hB] at f2; cases f2
      have nb3 : b ≠ p3 := fun z => by rw [z] at hB; rw [hB] at f3; cases f3
      refine rd_name ?_
      dsimp only
      -- found[k]
      have hkG : kk < G.length := by omega
      have hkL : kk + ys.length - 1 < L.length := by omega
      have ekl : (kk : Int) + ((ys.map V.int).length : Int) - 1 = ((kk + ys.length - 1 : Nat) : Int) := by rw [List.length_map]; omega
      have btop : Bits (x + i * (y + 1)) (sg (cf ys (ys.length - 1)) * cf L (kk + ys.length - 1)) := sg_mul_bits (bL.cf _)
      refine rd_seq ⟨_, rfl, _, rfl, _, rfl, b, _, rfl, .inl (SqL.of hB4), _, _, rfl, rfl, _, _, rfl, rfl, p2, _, _, _, rfl, rfl, SqL.of e2', at_map (l := scL S L) ekl (by rw [length_scL]; exact hkL), _, rfl, _, rfl, b, _, _, _, rfl, rfl, SqL.of hB4, at_last' hy, _, _, rfl, rfl, ⟨hlc, (by'.cf _).mono hy9⟩, _, rfl, _, rfl, p3, _, _, kk, rfl, rfl, e3, ixN_nat rfl (by rw [List.length_map, length_scL]; exact hkG), ?_⟩
      have etop : Int.fdiv (cf (scL S L) (kk + ys.length - 1)) (cf ys (ys.length - 1)) = sg (cf ys (ys.length - 1)) * cf L (kk + ys.length - 1) := by
        rw [cf_scL, ← hS, Int.mul_comm]; exact fdiv_sg hlc
      refine rd_heap (H2 := upd H4 p3 (.lst (((scL S G).set kk (sg (cf ys (ys.length - 1)) * cf L (kk + ys.length - 1))).map V.int))) ?_ ?_
      · show upd H4 p3 (.lst (((scL S G).map V.int).set kk (.int (Int.fdiv (cf (scL S L) (kk + ys.length - 1)) (cf ys (ys.length - 1)))))) = _
        rw [etop, map_set_int]
      have e3' : upd H4 p3 (.lst (((scL S G).set kk (sg (cf ys (ys.length - 1)) * cf L (kk + ys.length - 1))).map V.int)) p3 = some (.lst (((scL S G).set kk (sg (cf ys (ys.length - 1)) * cf L (kk + ys.length - 1))).map V.int)) := upd_same
      have e2'' : upd H4 p3 (.lst (((scL S G).set kk (sg (cf ys (ys.length - 1)) * cf L (kk + ys.length - 1))).map V.int)) p2 = some (.lst ((scL S L).map V.int)) := by rw [upd_ne n3]; exact e2'
      have hB5 : upd H4 p3 (.lst (((scL S G).set kk (sg (cf ys (ys.length - 1)) * cf L (kk + ys.length - 1))).map V.int)) b = some (.lst (ys.map V.int)) := by rw [upd_ne nb3]; exact hB4
      have s5 : Same H (upd H4 p3 (.lst (((scL S G).set kk (sg (cf ys (ys.length - 1)) * cf L (kk + ys.length - 1))).map V.int))) := mut_same (s2.trans t3) f3
      have hzero : S * cf L (kk + ys.length - 1) = sg (cf ys (ys.length - 1)) * cf L (kk + ys.length - 1) * cf ys (ys.length - 1) := by
        have := sg_self (cf ys (ys.length - 1))
        rw [← hS]
        grind
      generalize sg (cf ys (ys.length - 1)) * cf L (kk + ys.length - 1) = tp at btop hzero e3' e2'' hB5 s5 ⊢
      generalize hG2 : (scL S G).set kk tp = G2 at e3' e2'' hB5 s5 ⊢
      have hcG : ∀ n, cf G2 n = S * cf G n + (if n = kk then tp else 0) := fun n => by
        rw [← hG2, cf_set (by rw [length_scL]; exact hkG), cf_scL]
        by_cases z : n = kk
        · rw [if_pos z, if_pos z, z, hGz kk (by omega)]; omega
        · rw [if_neg z, if_neg z]; omega
      have hG2l : G2.length = M := by rw [← hG2, List.length_set, length_scL]; exact hGl
      generalize upd H4 p3 (.lst (G2.map V.int)) = H5 at e3' e2'' hB5 s5 ⊢
      have bG2 : AllB (x + (i + 1) * (y + 1)) G2 := AllB.of_cf fun n => by
        rw [hcG]
        by_cases z : n = kk
        · rw [if_pos z, z, hGz kk (by omega), Int.mul_zero, Int.zero_add]; exact btop.mono (by omega)
        · rw [if_neg z, Int.add_zero]; exact (bS.mul (bG.cf n)).mono (by omega)
      refine ⟨_, rfl, b, rfl, ⟨_, SqL.of hB5⟩, for_enum (K := K) (a := b) (xs := ys.map V.int) (fun j σ' H' => ∃ (acc : List Int) (z5 z6 : Option V), σ' = [some (.ref a), some (.ref b), some (.ref p2), some (.ref p3), some (.int (kk : Int)), z5, z6] ∧ SameB p2 H5 H' ∧ H' p2 = some (.lst (acc.map V.int)) ∧ acc.length = L.length ∧ ∀ n, n < acc.length → cf acc n = S * cf L n - (if kk ≤ n ∧ n - kk < j then tp * cf ys (n - kk) else 0))
        ⟨_, z5, z6, rfl, SameB.refl _ _, e2'', length_scL _ _, fun n _ => by rw [cf_scL, if_neg (by omega)]; omega⟩ ?_ ?_ ?_⟩
      · rintro j σ' H' _ ⟨acc, z5, z6, rfl, sb, _⟩
        exact SqL.of (sb _ _ nb2 hB5)
      · rintro j v σ' H' q' hj ⟨acc, z5, z6, rfl, sb, hpa, hal, hac⟩ hq
        have hjl : j < ys.length := by
          apply Classical.byContradiction
          intro hn
          rw [List.getElem?_eq_none_iff.mpr (by rw [List.length_map]; omega)] at hj
          cases hj
        rw [List.getElem?_map, get_cf hjl] at hj
        obtain rfl := Option.some.inj hj
        refine ⟨q', _, rfl, SqT.of upd_same, rfl, _, _, rfl, _, _, rfl, rfl, ?_⟩
        have nqp : p2 ≠ q' := ne_of_none hpa hq
        have hpa' : upd H' q' (.tup [.int j, .int (cf ys j)]) p2 = some (.lst (acc.map V.int)) := by rw [upd_ne nqp]; exact hpa
        have hG5 : H' p3 = some (.lst (G2.map V.int)) := sb _ _ (Ne.symm n3) e3'
        have nq3 : p3 ≠ q' := ne_of_none hG5 hq
        have hG6 : upd H' q' (.tup [.int j, .int (cf ys j)]) p3 = some (.lst (G2.map V.int)) := by rw [upd_ne nq3]; exact hG5
        have ekj : (kk : Int) + (j : Int) = ((kk + j : Nat) : Int) := by omega
        have hkj : kk + j < acc.length := by omega
        have etp : cf G2 kk = tp := by rw [hcG, if_pos rfl, hGz kk (by omega)]; omega
        refine ⟨_, rfl, _, rfl, _, rfl, _, _, rfl, rfl, p2, _, _, _, rfl, rfl, SqL.of hpa', at_map ekj hkj, _, rfl, _, rfl, p3, _, _, _, rfl, rfl, SqL.of hG6, at_map (l := G2) (j := kk) rfl (by omega), _, rfl, _, _, rfl, rfl, ?_⟩
        rw [etp]
        refine ⟨⟨btop.mono (by omega), (by'.cf j).mono (by omega)⟩, _, _, rfl, rfl, _, rfl, _, rfl, _, rfl, _, _, rfl, rfl, p2, _, _, kk + j, rfl, rfl, hpa', ixN_nat ekj (by rw [List.length_map]; exact hkj), ?_⟩
        refine ⟨acc.set (kk + j) (cf acc (kk + j) - tp * cf ys j), _, _, rfl, (sb.then_new hq).then_upd, by rw [upd_same, map_set_int], by rw [List.length_set]; exact hal, fun n hn => ?_⟩
        rw [List.length_set] at hn
        rw [cf_set hkj]
        by_cases z : n = kk + j
        · rw [if_pos z, z, hac (kk + j) hkj, if_neg (by omega), if_pos (by omega)]
          have : kk + j - kk = j := by omega
          rw [this]; omega
        · rw [if_neg z, hac n hn]
          by_cases z2 : kk ≤ n ∧ n - kk < j
          · rw [if_pos z2, if_pos (by omega)]
          · rw [if_neg z2, if_neg (by omega)]
      · rintro σ' H6 ⟨acc, z5, z6, rfl, sb, hpa, hal, hac⟩
        rw [List.length_map] at hac
        have s6 : Same H H6 := fun c o e => sb c o (fun z => by rw [z] at e; rw [e] at f2; cases f2) (s5 _ _ e)
        have hG7 : H6 p3 = some (.lst (G2.map V.int)) := sb _ _ (Ne.symm n3) e3'
        have hcA : ∀ n, cf acc n = S * cf L n - (if kk ≤ n then tp * cf ys (n - kk) else 0) := fun n => by
          by_cases hn : n < acc.length
          · rw [hac n hn]
            by_cases z : kk ≤ n
            · rw [if_pos z]
              by_cases z2 : n - kk < ys.length
              · rw [if_pos ⟨z, z2⟩]
              · rw [if_neg (by omega), cf_ge (l := ys) (by omega), Int.mul_zero]
            · rw [if_neg z, if_neg (by omega)]
          · rw [cf_ge (l := acc) (by omega), cf_ge (l := L) (by omega), Int.mul_zero]
            split
            · rw [cf_ge (l := ys) (by omega), Int.mul_zero]; rfl
            · rfl
        have bA : AllB (x + (i + 1) * (y + 1)) acc := AllB.of_cf fun n => by
          rw [hcA, e1]
          refine Bits.sub ((bS.mul (bL.cf n)).mono (by omega)) ?_
          split
          · exact (btop.mul (by'.cf _)).mono (by omega)
          · exact Bits.zero
        refine ⟨p2, p3, acc, G2, _, _, _, rfl, s6, f2, f3, hpa, hG7, by omega, hG2l, bA, bG2, fun n hn => ?_, fun n hn => ?_, S * f, ?_, fun n => ?_⟩
        · rw [hcA]
          by_cases z : xs.length ≤ n + i
          · rw [hLz n z, Int.mul_zero]
            split
            · rw [cf_ge (l := ys) (by omega), Int.mul_zero]; rfl
            · rfl
          · have en : n = kk + ys.length - 1 := by omega
            rw [if_pos (by omega), en, hzero]
            have : kk + ys.length - 1 - kk = ys.length - 1 := by omega
            rw [this]; omega
        · rw [hcG, if_neg (by omega), hGz n (by omega)]; omega
        · have : 0 < S := by rw [← hS]; omega
          exact Int.mul_pos this hf
        · have h9 := mulc_lay (q := G) (q' := G2) (b := ys) (c := S) (l := tp) (p := kk) (n := n) (by omega) (by omega) hcG
          rw [h9, hcA, Int.mul_assoc, heq n]
          split
          · grind
          · grind
    · rintro σ' H2 ⟨pl, pg, L, G, z4, z5, z6, rfl, s2, fl, fg, hl, hg, hLl, hGl, bL, bG, hLz, hGz, f, hf, heq⟩
      exact ⟨_, rfl, k G (by omega) ⟨f, L, hf, fun n hn => hLz n (by omega), heq⟩ pg H2 s2 fg hg⟩
--SPLIT
theorem div_bits2 {xs ys : List Int} {x y : Nat} (hx : AllB x xs) (hy : AllB y ys) : ∀ i, AllB (x + i * (y + 1)) (divAt xs ys i).1 ∧ AllB (x + i * (y + 1)) (divAt xs ys i).2
  | 0 => by rw [Nat.zero_mul]; exact ⟨AllB.zeros, hx⟩
  | i + 1 => by
    obtain ⟨h1, h2⟩ := div_bits2 hx hy i
    have e : x + (i + 1) * (y + 1) = x + i * (y + 1) + y + 1 := by rw [Nat.succ_mul]; omega
    have hs : Bits y (((RM.cf ys (ys.length - 1)).natAbs : Nat) : Int) := abs_bits (hy.cf _)
    rw [e]
    show AllB _ (divStep ys (divAt xs ys i) _).1 ∧ AllB _ (divStep ys (divAt xs ys i) _).2
    unfold divStep
    dsimp only
    constructor
    · intro v hv
      rcases List.mem_or_eq_of_mem_set hv with h | rfl
      · obtain ⟨u, hu, rfl⟩ := List.mem_map.mp h
        exact (hs.mul (h1 u hu)).mono (by omega)
      · exact (sg_mul_bits (h2.cf _)).mono (by omega)
    · refine AllB.of_cf fun n => ?_
      rw [cf_lowL]
      by_cases hn : n < (scL (((RM.cf ys (ys.length - 1)).natAbs : Nat) : Int) (divAt xs ys i).2).length - 1
      · rw [if_pos hn, cf_scL]
        have m1 : Bits (x + i * (y + 1) + y) ((((RM.cf ys (ys.length - 1)).natAbs : Nat) : Int) * RM.cf (divAt xs ys i).2 n) := by
          have := hs.mul (h2.cf n); rwa [Nat.add_comm] at this
        refine m1.sub ?_
        by_cases hp : (xs.length + 1 - ys.length - 1 - i) ≤ n
        · rw [if_pos hp]
          exact (sg_mul_bits (h2.cf _)).mul (hy.cf _)
        · rw [if_neg hp]; exact Bits.zero
      · rw [if_neg hn]; exact Bits.zero
theorem shr_bits {n : Nat} {l : List Int} (h : AllB n l) : AllB n (shrL l) := by
  intro y hy
  obtain ⟨x, hx, rfl⟩ := List.mem_map.mp hy
  obtain ⟨d, hd⟩ := int_dvd_gcdL hx
  by_cases hg : (gcdL l : Int) = 0
  · rw [hg, Int.ediv_zero]; exact Bits.zero
  · have e : x / (gcdL l : Int) = d := by rw [hd]; exact Int.mul_ediv_cancel_left d hg
    rw [e]
    refine (h x hx).of_le ?_
    rw [hd, Int.natAbs_mul]
    exact Nat.le_mul_of_pos_left _ (Int.natAbs_pos.mpr hg)
theorem shr_len (l : List Int) : (shrL l).length = l.length := List.length_map _
theorem run_nil (n : Nat) (o : List Int) : Run n [] o := by cases n with | zero => rfl | succ n => exact .inl rfl
theorem ends_nil (n : Nat) (o : List Int) : RM.Ends n [] o := by cases n with | zero => rfl | succ n => exact .inl rfl
theorem gr8 : gr 540 6 = 91260 := by decide
def Okr (xs : List Int) : Prop := Tr xs ∧ AllB 91260 xs ∧ xs.length ≤ 7
theorem run_rows : ∀ (n : Nat) (one other : List Int) (x y s : Nat), one.length = s + 1 → s ≤ 6 → other.length ≤ s → s < n → Tr one → Tr other → AllB x one → AllB y other → x + 1 ≤ gr 540 (6 - s) → y + 1 ≤ gr 540 (6 - s + 1) → Run n one other ∧ RM.Ends n one other ∧ ∀ xs ∈ rowS n one other, Okr xs
  | 0, one, other, x, y, s, _, _, _, h, _, _, _, _, _, _ => absurd h (Nat.not_lt_zero _)
  | m + 1, one, other, x, y, s, hl, hs8, hol, hsm, t1, t2, b1, b2, g1, g2 => by
    have hne : one ≠ [] := fun z => by rw [z] at hl; simp at hl
    have m1 : gr 540 (6 - s) ≤ 91260 := by rw [← gr8]; exact gr_mono 540 (by omega)
    have bo1 : AllB 91260 one := b1.mono (by omega)
    have bo2 : AllB 91260 other := by
      by_cases ho : other = []
      · rw [ho]; exact AllB.nil
      · have := List.length_pos_iff.mpr ho
        have m2 : gr 540 (6 - s + 1) ≤ 91260 := by rw [← gr8]; exact gr_mono 540 (by omega)
        exact b2.mono (by omega)
    have fit : Fit one other := ⟨t1, t2, 91260, bo1, bo2, by rw [hl]; omega, by omega⟩
    have eS : rowS (m + 1) one other = one :: rowS m other (nxt one other) := by
      show (if one = [] then [] else one :: rowS m other (nxt one other)) = _
      rw [if_neg hne]
    have ok1 : Okr one := ⟨t1, bo1, by omega⟩
    by_cases ho : other = []
    · subst ho
      refine ⟨.inr ⟨fit, run_nil _ _⟩, .inr (ends_nil _ _), fun xs hx => ?_⟩
      rw [eS, rowS_nil] at hx
      rw [List.mem_singleton.mp hx]; exact ok1
    · have hop := List.length_pos_iff.mpr ho
      obtain ⟨d, hd⟩ : ∃ d, other.length = d + 1 := ⟨other.length - 1, by omega⟩
      have hN : divN one other = (s - d - 1) + 2 := by unfold divN; omega
      have e6 : 6 - s + 2 + (s - d - 1) = 6 - d + 1 := by omega
      have rb : AllB (x + divN one other * (y + 1)) (divR one other) := ((div_bits2 b1 b2 (divN one other)).2).trim
      have nb : AllB (x + divN one other * (y + 1)) (nxt one other) := by
        unfold nxt rst
        rw [if_neg ho, subL_nil (div_trR _ _)]
        refine shr_bits fun v hv => ?_
        obtain ⟨u, hu, rfl⟩ := List.mem_map.mp hv
        have := (rb u hu).neg
        rwa [show -1 * u = -u by omega]
      have nl : (nxt one other).length ≤ d := by
        unfold nxt rst
        rw [if_neg ho, subL_nil (div_trR _ _), shr_len, length_scL]
        have := div_lenR (a := one) ho
        omega
      have nt : Tr (nxt one other) := tr_shrL (tr_trim _)
      have jump := gr_jump 540 (6 - s) (s - d - 1)
      rw [e6] at jump
      have mm := Nat.mul_le_mul_left (s - d - 1 + 2) g2
      obtain ⟨r1, r2, r3⟩ := run_rows m other (nxt one other) y (x + divN one other * (y + 1)) d hd (by omega) nl (by omega) t2 nt b2 nb (Nat.le_trans g2 (gr_mono 540 (by omega))) (by rw [hN]; omega)
      refine ⟨.inr ⟨fit, r1⟩, .inr r2, fun xs hx => ?_⟩
      rw [eS] at hx
      rcases List.mem_cons.mp hx with rfl | hx
      · exact ok1
      · exact r3 xs hx
theorem at_back {H : Hp} {ps : List Addr} {r : List (List Int)} {i : Nat} (h : RwH H ps r) (hi : 0 < i) (hi2 : i ≤ r.length) : ∃ p, atI (ps.map V.ref) (-(i : Int)) = some (.ref p) ∧ H p = some (.lst ((r.getD (r.length - i) []).map V.int)) := by
  obtain ⟨p, ep, hp⟩ := h.get (i := r.length - i) (by omega)
  refine ⟨p, ?_, hp⟩
  have hl : (ps.map V.ref).length = r.length := by rw [List.length_map, h.1]
  have e : ixN (ps.map V.ref).length (-(i : Int)) = some (r.length - i) := by
    unfold ixN
    rw [hl, if_neg (by omega), if_pos (by omega)]
    congr 1; omega
  unfold atI
  rw [e]
  show (ps.map V.ref)[r.length - i]? = _
  rw [List.getElem?_map, ep]; rfl
theorem neg_list (l : List Int) : l.map (fun v => 0 - v) = scL (-1) l := by
  unfold scL
  exact List.map_congr_left fun v _ => by omega
theorem rowS_len : ∀ (n : Nat) (one other : List Int), (rowS n one other).length ≤ n
  | 0, _, _ => Nat.le_refl _
  | n + 1, one, other => by
    show (if one = [] then [] else one :: rowS n other (nxt one other)).length ≤ n + 1
    split
    · exact Nat.zero_le _
    · have := rowS_len n other (nxt one other)
      rw [List.length_cons]; omega
theorem slope_bits {n : Nat} {xs : List Int} (h : AllB n xs) (hl : xs.length ≤ 9) : AllB (n + 4) (slopeL xs) := by
  intro x hx
  obtain ⟨k, hk, rfl⟩ := List.mem_map.mp hx
  have hk' : k < xs.length - 1 := List.mem_range.mp hk
  have b1 : Bits 4 ((k : Int) + 1) := Nat.lt_of_le_of_lt (show ((k : Int) + 1).natAbs ≤ 8 by omega) (by decide)
  exact (b1.mul (h.cf (k + 1))).mono (by omega)
theorem slope_len (xs : List Int) : (slopeL xs).length = xs.length - 1 := by unfold slopeL; rw [List.length_map, List.length_range]
theorem row_all {kps : List Int} (ktr : Tr kps) (kb : AllB 530 kps) (kl : kps.length ≤ 7) : Run 9 (shrL kps) (shrL (slopeL kps)) ∧ RM.Ends 9 (shrL kps) (shrL (slopeL kps)) ∧ ∀ xs ∈ rowS 9 (shrL kps) (shrL (slopeL kps)), Okr xs := by
  by_cases h0 : kps = []
  · subst h0
    exact ⟨run_nil _ _, ends_nil _ _, fun xs hx => by
      have e : shrL [] = [] := rfl
      rw [e, rowS_nil] at hx
      exact nomatch hx⟩
  · have hl := List.length_pos_iff.mpr h0
    obtain ⟨s, hs⟩ : ∃ s, kps.length = s + 1 := ⟨kps.length - 1, by omega⟩
    refine run_rows 9 (shrL kps) (shrL (slopeL kps)) 530 534 s (by rw [shr_len, hs]) (by omega) (by rw [shr_len, slope_len, hs]; omega) (by omega) (tr_shrL ktr) (tr_shrL (tr_slopeL ktr)) (shr_bits kb) (shr_bits (slope_bits kb (by omega))) ?_ ?_
    · exact Nat.le_trans (show 531 ≤ gr 540 0 by decide) (gr_mono 540 (Nat.zero_le _))
    · exact Nat.le_trans (show 535 ≤ gr 540 1 by decide) (gr_mono 540 (by omega))
theorem plain_bits {n : Nat} {l : List Int} (h : AllB n l) : AllB n (plainL l) := by
  unfold plainL posL
  split
  · intro y hy
    obtain ⟨x, hx, rfl⟩ := List.mem_map.mp hy
    exact (shr_bits h x hx).neg
  · exact shr_bits h
theorem fac_bits {b : Nat} {q d p : List Int} (hp : Tr p) (hne : p ≠ []) (hm : mulL q d = p) (hl : p.length ≤ 7) (hb : AllB b p) : AllB (b + 48) d := AllB.of_cf fun k => by
  have hM : ∀ x ∈ p, x.natAbs ≤ 2 ^ b := fun x hx => Nat.le_of_lt (hb x hx)
  have h1 := factor_bound hp hne hm hl hM k
  refine Nat.lt_of_le_of_lt h1 ?_
  have e : 2 ^ (b + 48) = 2 ^ b * 2 ^ 48 := Nat.pow_add _ _ _
  have e2 : 16 ^ 7 * (2 ^ b * 7 ^ 7) = 2 ^ b * (16 ^ 7 * 7 ^ 7) := by rw [Nat.mul_left_comm]
  rw [e, e2]
  exact Nat.mul_lt_mul_of_pos_left (by decide +kernel) (Nat.pow_pos (by decide))
theorem plain_to_shr {n : Nat} {l : List Int} (h : AllB n (plainL l)) : AllB n (shrL l) := by
  have e : plainL l = posL (shrL l) := rfl
  rw [e] at h
  unfold posL at h
  split at h
  · refine AllB.of_cf fun k => ?_
    have := h.cf k
    have e1 : cf ((shrL l).map fun x => -x) k = -cf (shrL l) k := by
      unfold cf
      simp [List.getD]
      cases (shrL l)[k]? <;> simp
    rw [e1] at this
    have h2 := this.neg
    rwa [Int.neg_neg] at h2
  · exact h
theorem shr_of_rest {xs ys r : List Int} (hy : ys ≠ []) (hyt : Tr ys) (h : IsRest xs ys r) : shrL r = shrL (divR xs ys) := by
  obtain ⟨tr, hl, f, q, hf, he⟩ := h
  have h1 := rest_prop hy hyt hl he
  exact shr_same (divF_pos (a := xs) hy hyt) hf tr (div_trR _ _) fun k => (h1 k).symm
/-- what part tells of a divisor -/
theorem part_facts {ns O g : List Int} (tn : Tr ns) (nn : ns ≠ []) (tO : Tr O) (nO : O ≠ []) (hd : Dv O ns) (hlen : O.length ≤ ns.length) (hg : g.length = ns.length - O.length + 1) (h : ∃ (f : Int) (r : List Int), 0 < f ∧ (∀ n, O.length ≤ n + 1 → cf r n = 0) ∧ ∀ n, f * cf ns n = mulc g O n + cf r n) :
    Tr g ∧ g ≠ [] ∧ Dv g ns := by
  obtain ⟨f, r, hf, hr, he⟩ := h
  have hOl := List.length_pos_iff.mpr nO
  have hnl := List.length_pos_iff.mpr nn
  have tl : (trim r).length < O.length := by
    rcases Nat.lt_or_ge (trim r).length O.length with z | z
    · exact z
    · exfalso
      have h1 := tr_trim r ((trim r).length - 1) (by omega)
      rw [cf_trim] at h1
      exact h1 (hr _ (by omega))
  have h2 := rest_prop nO tO tl (xs := ns) (q := g) (f := f) fun n => by rw [cf_trim]; exact he n
  have h3 : divR ns O = [] := Dv.rest nO tO hd
  have hF := divF_pos (a := ns) nO tO
  have hr0 : ∀ n, cf r n = 0 := fun n => by
    have := h2 n
    rw [h3, cf_nil, Int.mul_zero, cf_trim] at this
    rcases Int.mul_eq_zero.mp this.symm with z | z
    · omega
    · exact z
  have he' : ∀ n, f * cf ns n = mulc g O n := fun n => by rw [he n, hr0 n]; omega
  have gl : g.length = (ns.length - O.length) + 1 := hg
  have top := mulc_top (a := g) (b := O) (la := ns.length - O.length) (lb := O.length - 1) gl (by omega)
  have e1 : ns.length - O.length + (O.length - 1) = ns.length - 1 := by omega
  rw [e1, ← he' (ns.length - 1)] at top
  have hn1 := tn (ns.length - 1) (by omega)
  have hne : f * cf ns (ns.length - 1) ≠ 0 := Int.mul_ne_zero (by omega) hn1
  have gne : cf g (ns.length - O.length) ≠ 0 := fun z => by rw [z, Int.zero_mul] at top; exact hne top
  refine ⟨fun n hn => ?_, fun z => by rw [z] at gl; simp at gl, f, O, by omega, fun n => by rw [he' n, mulc_comm]⟩
  have : n = ns.length - O.length := by omega
  rw [this]; exact gne
def spFlat : Sp := fun vs H Q _ => ∃ (a : Addr) (ns : List Int), vs = [.ref a] ∧ H a = some (.lst (ns.map V.int)) ∧ Tr ns ∧ ns ≠ [] ∧ ns.length ≤ 6 ∧ AllB 7 ns ∧ ∀ r : List Int, Tr r → r ≠ [] → r.length ≤ 6 → AllB 60 r → mkL H Q r
theorem gr5 : gr 14 6 = 2366 := by decide
theorem ok__law_flat {f : Addr} {fd : FuncData} (F : Fun K "_law_flat" "_law_flat" s__law_flat f fd) (T : Txt K mg) {f__law_slope : Addr} {fd__law_slope : FuncData} (C__law_slope : Cal P w K mg base 1 "_law_slope" ["_law_kp"] spSlp f__law_slope fd__law_slope) {f__law_shrunk : Addr} {fd__law_shrunk : FuncData} (C__law_shrunk : Cal P w K mg base 33 "_law_shrunk" ["_law_kp"] spShr f__law_shrunk fd__law_shrunk) {f__law_rest : Addr} {fd__law_rest : FuncData} (C__law_rest : Cal P w K mg base 2 "_law_rest" ["_law_kp", "_law_kq"] spRest f__law_rest fd__law_rest) {f__law_part : Addr} {fd__law_part : FuncData} (C__law_part : Cal P w K mg base 1 "_law_part" ["_law_kp", "_law_kq"] spPrt f__law_part fd__law_part) : FnOk P w K mg base CX0 34 f fd ["_law_kp"] spFlat := by
  obtain ⟨G__law_slope, m__law_slope, k__law_slope, b__law_slope⟩ := C__law_slope
  obtain ⟨G__law_shrunk, m__law_shrunk, k__law_shrunk, b__law_shrunk⟩ := C__law_shrunk
  obtain ⟨G__law_rest, m__law_rest, k__law_rest, b__law_rest⟩ := C__law_rest
  obtain ⟨G__law_part, m__law_part, k__law_part, b__law_part⟩ := C__law_part
  refine F.ok sc__law_flat (fun vs H Q E h => ?_) (fun cdv A outer s H vs Q E hr h => ?_)
  · obtain ⟨a, ns, rfl, _⟩ := h
    rfl
  · obtain ⟨a, ns, rfl, hA, tn, nn, hl6, bn, k⟩ := h
    have hnl := List.length_pos_iff.mpr nn
    refine ⟨_, (pss_cons (ps_set (i := 1) sc__law_flat.nd rfl (Or.inl rfl) (pv 0))
      (pss_cons (ps_set (i := 2) sc__law_flat.nd rfl (Or.inl rfl) (pe_call G__law_slope (hr.mono (by decide)) rfl m__law_slope k__law_slope b__law_slope .nil pass0 (pa_cons (pv 0) pa_nil)))
      (pss_cons (ps_while PassesOwn.never (pt_cmpR op_gt (pe_callB (call_lenK (K := K) rfl) (by rfl) T.len_ PySem.boot_len (pa_cons (pv 2) pa_nil)) pe_int (nomark _))
        (pss_one (ps_par (i := 1) (j := 2) rfl sc__law_flat.nd rfl rfl (by decide) rfl rfl (pa_cons (pv 2) (pa_cons (pe_call G__law_shrunk (hr.mono (by decide)) rfl m__law_shrunk k__law_shrunk b__law_shrunk .nil pass0 (pa_cons (pe_call G__law_rest (hr.mono (by decide)) rfl m__law_rest k__law_rest b__law_rest .nil pass0 (pa_cons (pv 1) (pa_cons (pv 2) pa_nil))) pa_nil)) pa_nil)) (by rfl))))
      (pss_one (ps_ret (pe_call G__law_shrunk (hr.mono (by decide)) rfl m__law_shrunk k__law_shrunk b__law_shrunk .nil pass0 (pa_cons (pe_call G__law_part (hr.mono (by decide)) rfl m__law_part k__law_part b__law_part .nil pass0 (pa_cons (pv 0) (pa_cons (pv 1) pa_nil))) pa_nil))))))), ?_⟩
    refine rd_sa ⟨_, rfl, ?_⟩
    refine rd_sa ⟨_, rfl, a, ns, rfl, hA, by omega, bn.mono (by decide), fun p1 H1 s1 hp1 e1 => ?_⟩
    have lS := len_slope ns
    refine ⟨fun m σ' H' => ∃ (po pt : Addr) (O T : List Int) (x y s : Nat), σ' = [some (.ref a), some (.ref po), some (.ref pt)] ∧ Same H H' ∧ H' po = some (.lst (O.map V.int)) ∧ H' pt = some (.lst (T.map V.int)) ∧ Tr O ∧ Tr T ∧ O.length = s + 1 ∧ s ≤ 5 ∧ T.length ≤ s ∧ AllB x O ∧ AllB y T ∧ x + 1 ≤ gr 14 (5 - s) ∧ y + 1 ≤ gr 14 (5 - s + 1) ∧ m = T.length ∧ ∀ d, Dv d O → Dv d T → Dv d ns,
      ⟨_, a, p1, ns, slopeL ns, 7, 11, ns.length - 1, rfl, s1, s1 _ _ hA, e1, tn, tr_slope tn, by omega, by omega, by omega, bn, slope_bits bn (by omega), Nat.le_trans (show 7 + 1 ≤ gr 14 0 by decide) (gr_mono 14 (Nat.zero_le _)), Nat.le_trans (show 11 + 1 ≤ gr 14 1 by decide) (gr_mono 14 (by omega)), rfl, fun d h _ => h⟩, ?_⟩
    rintro m σ' H2 ⟨po, pt, O, T, x, y, s, rfl, s2, eo, et, tO, tT, lO, hs5, lT, bO, bT, gx, gy, rfl, hdv⟩
    have nO : O ≠ [] := fun z => by rw [z] at lO; simp at lO
    have gx2 : gr 14 (5 - s) ≤ 2366 := by rw [← gr5]; exact gr_mono 14 (by omega)
    have gy2 : gr 14 (5 - s + 1) ≤ 2366 := by rw [← gr5]; exact gr_mono 14 (by omega)
    refine ⟨_, rfl, pt, _, rfl, .inl (SqL.of et), _, _, rfl, rfl, _, rfl, rd_dec (fun hgt => ?_) (fun hle => ?_)⟩
    · have hgt' : 0 < ((T.map V.int).length : Int) := hgt
      rw [List.length_map] at hgt'
      have nT : T ≠ [] := fun z => by rw [z] at hgt'; simp at hgt'
      have hTl := List.length_pos_iff.mpr nT
      refine ⟨fun σ'' H'' => ∃ m', m' < T.length ∧ ∃ (po pt : Addr) (O T : List Int) (x y s : Nat), σ'' = [some (.ref a), some (.ref po), some (.ref pt)] ∧ Same H H'' ∧ H'' po = some (.lst (O.map V.int)) ∧ H'' pt = some (.lst (T.map V.int)) ∧ Tr O ∧ Tr T ∧ O.length = s + 1 ∧ s ≤ 5 ∧ T.length ≤ s ∧ AllB x O ∧ AllB y T ∧ x + 1 ≤ gr 14 (5 - s) ∧ y + 1 ≤ gr 14 (5 - s + 1) ∧ m' = T.length ∧ ∀ d, Dv d O → Dv d T → Dv d ns, fun _ _ h => h, ?_⟩
      refine ⟨_, rfl, _, rfl, _, rfl, po, pt, O, T, x, y, rfl, eo, et, nT, tO, tT, bO, bT, ?_, by omega, by omega, by omega, fun r hr p3 H3 s3 hp3 e3 => ?_⟩
      · have : O.length * (y + 1) ≤ 6 * 2366 := Nat.mul_le_mul (by omega) (by omega)
        omega
      obtain ⟨tr, lr, f', q', hf', he'⟩ := id hr
      refine ⟨p3, r, rfl, e3, tr, by omega, fun p4 H4 s4 hp4 e4 => ?_⟩
      have t4 := s2.trans (s3.trans s4)
      refine ⟨_, _, rfl, ?_⟩
      obtain ⟨d, hd⟩ : ∃ d, T.length = d + 1 := ⟨T.length - 1, by omega⟩
      have esh := shr_of_rest nT tT hr
      have hN : divN O T = (s - d - 1) + 2 := by unfold divN; omega
      have bR : AllB (x + divN O T * (y + 1)) (shrL r) := by
        rw [esh]
        refine shr_bits ?_
        unfold divR
        exact AllB.trim (div_bits2 bO bT _).2
      refine ⟨(shrL r).length, by rw [shr_len]; exact lr, pt, p4, T, shrL r, y, x + divN O T * (y + 1), d, rfl, t4, (s3.trans s4) _ _ et, e4, tT, tr_shrL tr, hd, by omega, by rw [shr_len]; omega, bT, bR, Nat.le_trans gy (gr_mono 14 (by omega)), ?_, rfl, fun z hz1 hz2 => ?_⟩
      · have e8 : 5 - s + 2 + (s - d - 1) = 5 - d + 1 := by omega
        have gj := gr_jump 14 (5 - s) (s - d - 1)
        rw [e8] at gj
        rw [hN]
        have h9 : ((s - d - 1) + 2) * (y + 1) ≤ ((s - d - 1) + 2) * gr 14 (5 - s + 1) := Nat.mul_le_mul_left _ gy
        omega
      · refine hdv z ?_ hz1
        refine Dv.up (f := f') (q := q') (r := r) (by omega) he' hz1 ?_
        by_cases hr0 : r = []
        · rw [hr0]; exact Dv.nil _
        · obtain ⟨g0, _, _, ec⟩ := shr_pos tr hr0
          exact Dv.prop_right (x := 1) (y := (gcdL r : Int)) (by decide) (fun n => by rw [ec n]; omega) hz2
    · have hT0 : T = [] := by
        have hle' : ¬ 0 < ((T.map V.int).length : Int) := hle
        rw [List.length_map] at hle'
        exact List.eq_nil_of_length_eq_zero (by omega)
      subst hT0
      have hdO : Dv O ns := hdv O (Dv.refl _) (Dv.nil _)
      have hlen : O.length ≤ ns.length := by
        rcases Nat.lt_or_ge ns.length O.length with z | z
        · exact absurd (Dv.short nO tO tn z hdO) nn
        · exact z
      have hA2 := s2 _ _ hA
      refine ⟨_, rfl, _, rfl, a, po, ns, O, 7, x, rfl, hA2, eo, nO, tO, hlen, by omega, bn, bO, by omega, ?_, fun g hg hpf p3 H3 s3 hp3 e3 => ?_⟩
      · have : (ns.length + 1) * (x + 1) ≤ 7 * 2366 := Nat.mul_le_mul (by omega) (by omega)
        omega
      obtain ⟨tg, gn, dg⟩ := part_facts tn nn tO nO hdO hlen hg hpf
      have pg := pln_plain tg gn
      obtain ⟨γ, hγ, eγ⟩ := plain_scale tg
      have dpg : Dv (plainL g) ns := Dv.prop_left (x := γ) (y := 1) hγ (by decide) (fun n => by rw [← eγ]; omega) dg
      obtain ⟨q, pq, eq⟩ := Dv.fellow pg tn nn dpg
      have bg : AllB (7 + 48) (plainL g) := fac_bits (tr_plain tn) (pln_plain tn nn).ne eq (by rw [RM.plain_len]; omega) (plain_bits bn)
      have bs : AllB 55 (shrL g) := plain_to_shr bg
      refine ⟨p3, g, rfl, e3, tg, by omega, fun p4 H4 s4 hp4 e4 => ?_⟩
      obtain ⟨_, _, ns', _⟩ := shr_pos tg gn
      exact k (shrL g) (tr_shrL tg) ns' (by rw [shr_len]; omega) (bs.mono (by decide)) p4 H4 (s2.trans (s3.trans s4)) ((s2.trans s3).free hp4) e4
def spRow : Sp := fun vs H Q _ => ∃ (a : Addr) (kp : List Int), vs = [.ref a] ∧ H a = some (.lst (kp.map V.int)) ∧ Tr kp ∧ kp ≠ [] ∧ kp.length ≤ 7 ∧ AllB 530 kp ∧
  ∀ (l : Addr) (ps : List Addr) (H' : Hp), Same H H' → H l = none → H' l = some (.lst (ps.map V.ref)) → RwH H' ps (kp :: rowS 8 (shrL (slopeL kp)) (nxt (shrL kp) (shrL (slopeL kp)))) → Q (.ref l) H'
theorem nxt_from {prev A c r : List Int} {g : Int} (hg : 0 < g) (hA : ∀ n, cf prev n = g * cf A n) (hc : c ≠ []) (tc : Tr c) (h : IsRest prev c r) : nxt A c = shrL (scL (-1) r) := by
  obtain ⟨tr, hl, f, q, hf, he⟩ := h
  refine nxt_eq (f := f * g) (q := q) (Int.mul_pos hf hg) hc tc hl tr fun n => ?_
  rw [Int.mul_assoc, ← hA n]; exact he n
theorem getD_last {r : List (List Int)} {c : List Int} : (r ++ [c]).getD ((r ++ [c]).length - 1) [] = c := by
  rw [List.length_append]
  show (r ++ [c]).getD (r.length + 1 - 1) [] = c
  simp [List.getD]
theorem getD_last2 {r : List (List Int)} {b c : List Int} : (r ++ [b] ++ [c]).getD ((r ++ [b] ++ [c]).length - 2) [] = b := by
  rw [List.length_append, List.length_append]
  show (r ++ [b] ++ [c]).getD (r.length + 1 + 1 - 2) [] = b
  have : r.length + 1 + 1 - 2 = r.length := by omega
  rw [this]
  simp [List.getD]
theorem tr_neg {r : List Int} (h : Tr r) : Tr (scL (-1) r) := fun n hn => by
  rw [length_scL] at hn
  rw [cf_scL]
  have := h n hn
  omega
theorem ok__law_row {f : Addr} {fd : FuncData} (F : Fun K "_law_row" "_law_row" s__law_row f fd) (T : Txt K mg) {f__law_slope : Addr} {fd__law_slope : FuncData} (C__law_slope : Cal P w K mg base 1 "_law_slope" ["_law_kp"] spSlp f__law_slope fd__law_slope) {f__law_shrunk : Addr} {fd__law_shrunk : FuncData} (C__law_shrunk : Cal P w K mg base 33 "_law_shrunk" ["_law_kp"] spShr f__law_shrunk fd__law_shrunk) {f__law_rest : Addr} {fd__law_rest : FuncData} (C__law_rest : Cal P w K mg base 2 "_law_rest" ["_law_kp", "_law_kq"] spRest f__law_rest fd__law_rest) : FnOk P w K mg base CX0 34 f fd ["_law_kp"] spRow := by
  obtain ⟨G__law_slope, m__law_slope, k__law_slope, b__law_slope⟩ := C__law_slope
  obtain ⟨G__law_shrunk, m__law_shrunk, k__law_shrunk, b__law_shrunk⟩ := C__law_shrunk
  obtain ⟨G__law_rest, m__law_rest, k__law_rest, b__law_rest⟩ := C__law_rest
  refine F.ok sc__law_row (fun vs H Q E h => ?_) (fun cdv A outer s H vs Q E hr h => ?_)
  · obtain ⟨a, kp, rfl, _⟩ := h
    rfl
  · obtain ⟨a, kp, rfl, hA, tk, nk, hl7, bk, k⟩ := h
    have big := sizeLine_eq
    have hkl := List.length_pos_iff.mpr nk
    refine ⟨_, (pss_cons (ps_set (i := 1) sc__law_row.nd rfl (Or.inl rfl) (pe_lst (pa_cons (pv 0) pa_nil)))
      (pss_cons (ps_set (i := 2) sc__law_row.nd rfl (Or.inl rfl) (pe_call G__law_slope (hr.mono (by decide)) rfl m__law_slope k__law_slope b__law_slope .nil pass0 (pa_cons (pv 0) pa_nil)))
      (pss_cons (ps_while PassesOwn.never (pt_cmpR op_gt (pe_callB (call_lenK (K := K) rfl) (by rfl) T.len_ PySem.boot_len (pa_cons (pv 2) pa_nil)) pe_int (nomark _))
        (pss_cons (ps_expr (pe_bm PySem.F.plainAttrs_list PySem.F.slot_list_append PySem.F.type_list_append mt_append (pv 1) (pa_cons (pe_call G__law_shrunk (hr.mono (by decide)) rfl m__law_shrunk k__law_shrunk b__law_shrunk .nil pass0 (pa_cons (pv 2) pa_nil)) pa_nil)))
          (pss_one (ps_setComp (i := 2) sc__law_row.nd rfl (Or.inl rfl) (own := ["_law_one"]) (fr := []) (js := []) (by walk_at "comp_ok") rfl (pi_listK (K := K) rfl (pe_call G__law_rest (hr.mono (by decide)) rfl m__law_rest k__law_rest b__law_rest .nil pass0 (pa_cons (pe_ix (ix_listK (K := K) rfl) (pv 1) (pe_un un_neg pe_int) (fun _ _ => rfl)) (pa_cons (pe_ix (ix_listK (K := K) rfl) (pv 1) (pe_un un_neg pe_int) (fun _ _ => rfl)) pa_nil)))) (fun _ _ _ _ => (pg_name (i := 0) (show List.Nodup (["_law_one"] : List Str) from by decide +kernel) rfl (Or.inl rfl))) (fun _ _ _ _ => (pe_op op_sub pe_int (pv 0))) (by rfl)))))
      (pss_one (ps_ret (pv 1)))))), ?_⟩
    refine rd_sa ⟨_, rfl, by show 1 ≤ sizeLine; decide, fun pl hpl => ?_⟩
    have s0 : Same H (upd H pl (.lst (([a] : List Addr).map V.ref))) := Same.upd_new hpl
    have e0 : upd H pl (.lst (([a] : List Addr).map V.ref)) pl = some (.lst (([a] : List Addr).map V.ref)) := upd_same
    show tSeq _ _ _ _ _
    refine rd_gen (fun σ' H' => σ' = [some (.ref a), some (.ref pl), none] ∧ H' = upd H pl (.lst (([a] : List Addr).map V.ref))) ⟨rfl, rfl⟩ ?_
    rintro σ' H0 ⟨rfl, hH0⟩
    rw [← hH0] at s0 e0
    clear hH0
    refine rd_sa ⟨_, rfl, a, kp, rfl, s0 _ _ hA, by omega, bk.mono (by decide), fun p1 H1 s1 hp1 e1 => ?_⟩
    obtain ⟨hrun, hends, hok⟩ := row_all tk bk hl7
    obtain ⟨g0, tF, nF, ecF⟩ := shr_pos tk nk
    have eRow : rowS 9 (shrL kp) (shrL (slopeL kp)) = shrL kp :: rowS 8 (shrL (slopeL kp)) (nxt (shrL kp) (shrL (slopeL kp))) := by show (if shrL kp = [] then _ else _) = _; rw [if_neg nF]
    have lS := len_slope kp
    have na1 : a ≠ pl := fun z => by rw [z, hpl] at hA; cases hA
    refine ⟨fun m σ' H' => ∃ (M : Nat) (pt : Addr) (ps : List Addr) (done : List (List Int)) (prev AA o : List Int) (g : Int), σ' = [some (.ref a), some (.ref pl), some (.ref pt)] ∧ Same H H' ∧ H' pl = some (.lst (ps.map V.ref)) ∧ RwH H' ps (done ++ [prev]) ∧ (∀ p ∈ ps, p ≠ pl) ∧ H' pt = some (.lst (o.map V.int)) ∧ m = o.length ∧ Tr o ∧ Tr prev ∧ prev ≠ [] ∧ 0 < g ∧ (∀ n, cf prev n = g * cf AA n) ∧ o.length < prev.length ∧ prev.length ≤ 7 ∧ AllB 91260 prev ∧ kp :: rowS 8 (shrL (slopeL kp)) (nxt (shrL kp) (shrL (slopeL kp))) = done ++ [prev] ++ rowS M (shrL o) (nxt AA (shrL o)) ∧ o.length ≤ M ∧ done.length + 1 + M = 9,
      ⟨_, 8, p1, [a], [], kp, shrL kp, slopeL kp, (gcdL kp : Int), rfl, s0.trans s1, s1 _ _ e0, RwH.nil.snoc ((s0.trans s1) _ _ hA), (fun p hp => by rw [List.mem_singleton.mp hp]; exact na1), e1, rfl, tr_slope tk, tk, nk, g0, ecF, by omega, hl7, bk.mono (by decide), rfl, by omega, rfl⟩, ?_⟩
    rintro m σ' H2 ⟨M, pt, ps, done, prev, AA, o, g, rfl, s2, el, hR, hno, et, rfl, to, tp, np, hg, ecp, hol, hpl7, bp, heq, hoM, hdM⟩
    refine ⟨_, rfl, pt, _, rfl, .inl (SqL.of et), _, _, rfl, rfl, _, rfl, rd_dec (fun hgt => ?_) (fun hle => ?_)⟩
    · have hgt' : 0 < ((o.map V.int).length : Int) := hgt
      rw [List.length_map] at hgt'
      have no : o ≠ [] := fun z => by rw [z] at hgt'; simp at hgt'
      have hol1 := List.length_pos_iff.mpr no
      obtain ⟨go, tc, nc, eco⟩ := shr_pos to no
      refine ⟨fun σ'' H'' => ∃ m', m' < o.length ∧ ∃ (M : Nat) (pt : Addr) (ps : List Addr) (done : List (List Int)) (prev AA o : List Int) (g : Int), σ'' = [some (.ref a), some (.ref pl), some (.ref pt)] ∧ Same H H'' ∧ H'' pl = some (.lst (ps.map V.ref)) ∧ RwH H'' ps (done ++ [prev]) ∧ (∀ p ∈ ps, p ≠ pl) ∧ H'' pt = some (.lst (o.map V.int)) ∧ m' = o.length ∧ Tr o ∧ Tr prev ∧ prev ≠ [] ∧ 0 < g ∧ (∀ n, cf prev n = g * cf AA n) ∧ o.length < prev.length ∧ prev.length ≤ 7 ∧ AllB 91260 prev ∧ kp :: rowS 8 (shrL (slopeL kp)) (nxt (shrL kp) (shrL (slopeL kp))) = done ++ [prev] ++ rowS M (shrL o) (nxt AA (shrL o)) ∧ o.length ≤ M ∧ done.length + 1 + M = 9, fun _ _ h => h, ?_⟩
      refine rd_sd ⟨_, rfl, .inl ⟨rfl, _, SqL.of el⟩, _, rfl, pt, o, rfl, et, to, by omega, fun p3 H3 s3 hp3 e3 => ?_⟩
      have el3 := s3 _ _ el
      have n3 : p3 ≠ pl := fun z => by rw [z, el] at hp3; cases hp3
      refine ⟨pl, _, _, rfl, rfl, el3, by rw [List.length_map, hR.1, List.length_append]; show done.length + 1 < _; omega, ?_⟩
      rw [map_ref_snoc]
      have t3 : Same H (upd H3 pl (.lst ((ps ++ [p3]).map V.ref))) := mut_same (s2.trans s3) hpl
      have el4 : upd H3 pl (.lst ((ps ++ [p3]).map V.ref)) pl = some (.lst ((ps ++ [p3]).map V.ref)) := upd_same
      have hno4 : ∀ p ∈ ps ++ [p3], p ≠ pl := fun p hp => by
        rcases List.mem_append.mp hp with z | z
        · exact hno p z
        · rw [List.mem_singleton.mp z]; exact n3
      have hR4 : RwH (upd H3 pl (.lst ((ps ++ [p3]).map V.ref))) (ps ++ [p3]) (done ++ [prev] ++ [shrL o]) := ((hR.same s3).snoc e3).upd_no hno4
      generalize upd H3 pl (.lst ((ps ++ [p3]).map V.ref)) = H4 at t3 el4 hR4 ⊢
      -- the row goes on
      obtain ⟨M', rfl⟩ : ∃ M', M = M' + 1 := ⟨M - 1, by omega⟩
      have eM : rowS (M' + 1) (shrL o) (nxt AA (shrL o)) = shrL o :: rowS M' (nxt AA (shrL o)) (nxt (shrL o) (nxt AA (shrL o))) := by show (if shrL o = [] then _ else _) = _; rw [if_neg nc]
      rw [eM] at heq
      have hmem : shrL o ∈ rowS 9 (shrL kp) (shrL (slopeL kp)) := by
        rw [eRow]
        refine List.mem_cons_of_mem _ ?_
        have h1 : rowS 8 (shrL (slopeL kp)) (nxt (shrL kp) (shrL (slopeL kp))) = (kp :: rowS 8 (shrL (slopeL kp)) (nxt (shrL kp) (shrL (slopeL kp)))).tail := rfl
        rw [h1, heq]
        cases done with
        | nil => exact List.mem_cons_self ..
        | cons x xs => simp
      obtain ⟨_, bc, lc⟩ := hok _ hmem
      have lco : (shrL o).length = o.length := shr_len o
      -- the rest of the last two
      obtain ⟨q2, a2, hq2⟩ := at_back (i := 2) hR4 (by decide) (by rw [List.length_append, List.length_append]; show 2 ≤ done.length + 1 + 1; omega)
      obtain ⟨q1, a1, hq1⟩ := at_back (i := 1) hR4 (by decide) (by rw [List.length_append]; show 1 ≤ _ + 1; omega)
      rw [getD_last2] at hq2
      rw [getD_last] at hq1
      refine ⟨_, rfl, _, rfl, pl, _, _, _, rfl, rfl, SqL.of el4, a2, _, rfl, _, rfl, pl, _, _, _, rfl, rfl, SqL.of el4, a1, q2, q1, prev, shrL o, 91260, 91260, rfl, hq2, hq1, nc, tp, tc, bp, bc, by have : prev.length * (91260 + 1) ≤ 7 * 91261 := Nat.mul_le_mul (by omega) (Nat.le_refl _); omega, by omega, by omega, by omega, fun r hr p5 H5 s5 hp5 e5 => ?_⟩
      have hnx := nxt_from hg ecp nc tc hr
      obtain ⟨trr, lr, _⟩ := id hr
      refine ⟨p5, rfl, ⟨_, SqL.of e5⟩, comp_list (K := K) (a := p5) (xs := r.map V.int) (fun j ms σ' H' => ∃ z0 : Option V, σ' = [z0] ∧ ms = ((r.take j).map fun v => 0 - v).map V.int ∧ H5 = H') (by rw [List.length_map]; omega) ⟨none, rfl, rfl, rfl⟩ ?_ ?_ ?_⟩
      · rintro j ms σ' H' _ ⟨z0, rfl, rfl, rfl⟩
        exact ⟨SqL.of e5, by rw [List.length_map, List.length_map, List.length_take]; exact Nat.min_le_left _ _⟩
      · rintro j v ms σ' H' hj ⟨z0, rfl, rfl, rfl⟩
        obtain ⟨c, _, rfl, _, et'⟩ := get_int hj
        refine ⟨_, rfl, _, _, rfl, rfl, _, rfl, ?_, rfl⟩
        rw [et', List.map_append, List.map_append]; rfl
      rintro ms σ' H' p6 ⟨z0, rfl, rfl, rfl⟩ hp6
      rw [List.length_map, List.take_length, neg_list]
      have s6 : Same H5 (upd H5 p6 (.lst ((scL (-1) r).map V.int))) := Same.upd_new hp6
      refine rd_name ?_
      refine ⟨(scL (-1) r).length, by rw [length_scL]; omega, M', p6, ps ++ [p3], done ++ [prev], shrL o, shrL o, scL (-1) r, 1, rfl, (t3.trans s5).trans s6, s6 _ _ (s5 _ _ el4), (hR4.same s5).same s6, hno4, upd_same, rfl, tr_neg trr, tc, nc, by decide, fun n => by omega, by rw [length_scL]; exact lr, by omega, bc, ?_, by rw [length_scL]; omega, by rw [List.length_append]; show done.length + 1 + 1 + M' = 9; omega⟩
      rw [heq, ← hnx]
      simp
    · have ho0 : o = [] := by
        have hle' : ¬ 0 < ((o.map V.int).length : Int) := hle
        rw [List.length_map] at hle'
        exact List.eq_nil_of_length_eq_zero (by omega)
      subst ho0
      have e9 : rowS M (shrL []) (nxt AA (shrL [])) = [] := rowS_nil M _
      rw [e9, List.append_nil] at heq
      rw [← heq] at hR
      exact ⟨_, rfl, k pl ps H2 s2 hpl el hR⟩
--SPLIT
theorem small9 {k : Int} (h0 : 0 ≤ k) (h : k < 2 ^ 12) : Bits 9000 k := Bits.mono (j := 12) (by show k.natAbs < 2 ^ 12; omega) (by decide)
def lsg (t b : Int) (xss : List (List Int)) : List Int := xss.map fun p => sg (lv t b p)
theorem lsg_take {t b : Int} {xss : List (List Int)} {i : Nat} {xs : List Int} (h : xss[i]? = some xs) : lsg t b (xss.take (i + 1)) = lsg t b (xss.take i) ++ [sg (lv t b xs)] := by
  unfold lsg
  rw [List.take_add_one, h, List.map_append]; rfl
theorem lsg_small (t b : Int) (xss : List (List Int)) : ∀ s ∈ lsg t b xss, s.natAbs ≤ 1 := fun s hs => by
  obtain ⟨x, _, rfl⟩ := List.mem_map.mp hs
  exact sg_small _
theorem lv_bits {t b : Int} (bt : Bits 60 t) (bb : Bits 60 b) : ∀ {l : List Int}, AllB 95000 l → Bits (95001 + 61 * l.length) (lv t b l)
  | [], _ => by refine Bits.mono (j := 1) ?_ (by omega); show (0 : Int).natAbs < 2 ^ 1; decide
  | v :: l, h => by
    show Bits _ (v * b ^ l.length + t * lv t b l)
    have h1 := h v (List.mem_cons_self ..)
    have h2 := lv_bits bt bb (l := l) fun x hx => h x (List.mem_cons_of_mem _ hx)
    have e1 := (h1.mul (bits_pow bb l.length)).mono (k := 95001 + 61 * l.length + 60) (by omega)
    have e2 := (bt.mul h2).mono (k := 95001 + 61 * l.length + 60) (by omega)
    exact (e1.add e2).mono (by rw [List.length_cons]; omega)
theorem sg_last {b y : Int} (hb : b = 1 ∨ b = 0 ∨ b = -1) : b * y < 0 ↔ sg y * b < 0 := by
  rcases sg_cases y with ⟨a1, a2⟩ | ⟨a1, a2⟩ | ⟨a1, a2⟩ <;> rcases hb with rfl | rfl | rfl <;> rw [a2] <;> omega
def spLch : Sp := fun vs H Q _ => ∃ (l p : Addr) (ps : List Addr) (xss : List (List Int)) (t b : Int), vs = [.ref l, .ref p] ∧ H l = some (.lst (ps.map V.ref)) ∧ H p = some (.tup ([t, b].map V.int)) ∧ RwH H ps xss ∧ Bits 60 t ∧ Bits 60 b ∧ (∀ xs ∈ xss, xs.length ≤ 20 ∧ AllB 95000 xs) ∧ Q (.int (chS (lsg t b xss)).1) H
theorem ok__law_changes {f : Addr} {fd : FuncData} (F : Fun K "_law_changes" "_law_changes" s__law_changes f fd) (T : Txt K mg) : FnOk P w K mg base CX0 1 f fd ["_law_row_here", "_law_spot"] spLch := by
  refine F.ok sc__law_changes (fun vs H Q E h => ?_) (fun cdv A outer s H vs Q E hr h => ?_)
  · obtain ⟨l, p, ps, xss, t, b, rfl, _⟩ := h
    rfl
  · obtain ⟨l, sp, ps, xss, t, b, rfl, hL, hP, hR, bt, bb, hb, k⟩ := h
    refine ⟨_, (pss_cons (ps_set (i := 2) sc__law_changes.nd rfl (Or.inl rfl) pe_int)
      (pss_cons (ps_set (i := 3) sc__law_changes.nd rfl (Or.inl rfl) pe_int)
      (pss_cons (ps_for PassesOwn.never rfl (pi_listK (K := K) rfl (pv 0)) (pg_name (i := 4) sc__law_changes.nd rfl (Or.inl rfl))
        (pss_cons (ps_set (i := 5) sc__law_changes.nd rfl (Or.inl rfl) pe_int)
          (pss_cons (ps_set (i := 6) sc__law_changes.nd rfl (Or.inl rfl) pe_int)
          (pss_cons (ps_for PassesOwn.never rfl (pi_rev rfl T.reversed_ (pa_cons (pv 4) pa_nil)) (pg_name (i := 7) sc__law_changes.nd rfl (Or.inl rfl))
            (pss_cons (ps_set (i := 5) sc__law_changes.nd rfl (Or.inl rfl) (pe_op op_add (pe_op op_mulB (pv 5) (pe_ix (ix_tupK (K := K) rfl) (pv 1) pe_int (fun _ _ => rfl))) (pe_op op_mulB (pv 7) (pv 6))))
              (pss_one (ps_set (i := 6) sc__law_changes.nd rfl (Or.inl rfl) (pe_op op_mulB (pv 6) (pe_ix (ix_tupK (K := K) rfl) (pv 1) pe_int (fun _ _ => rfl)))))))
          (pss_cons (ps_set (i := 2) sc__law_changes.nd rfl (Or.inl rfl) (pe_op op_add (pv 2) (pe_callTy call_int1 (by rfl) T.int_ PyProof.Rows.boot_int (pa_cons (pe_cmpR op_lt (pe_op op_mulB (pv 3) (pv 5)) pe_int (nomark _)) pa_nil))))
          (pss_one (ps_if (pt_cmpR op_neI (pv 5) pe_int (nomark _))
            (pss_one (ps_set (i := 3) sc__law_changes.nd rfl (Or.inl rfl) (pe_op op_sub (pe_callTy call_int1 (by rfl) T.int_ PyProof.Rows.boot_int (pa_cons (pe_cmpR op_gt (pv 5) pe_int (nomark _)) pa_nil)) (pe_callTy call_int1 (by rfl) T.int_ PyProof.Rows.boot_int (pa_cons (pe_cmpR op_lt (pv 5) pe_int (nomark _)) pa_nil)))))
            pss_nil)))))))
      (pss_one (ps_ret (pv 2)))))), ?_⟩
    have hpl : (ps.map V.ref).length = xss.length := by rw [List.length_map, hR.1]
    refine rd_sa ?_
    refine rd_sa ?_
    refine ⟨_, rfl, l, rfl, ⟨_, SqL.of hL⟩, for_list (K := K) (a := l) (xs := ps.map V.ref) (fun i σ' H' => ∃ (z4 z5 z6 z7 : Option V), σ' = [some (.ref l), some (.ref sp), some (.int (chS (lsg t b (xss.take i))).1), some (.int (chS (lsg t b (xss.take i))).2), z4, z5, z6, z7] ∧ H = H') ⟨none, none, none, none, rfl, rfl⟩ ?_ ?_ ?_⟩
    · rintro i σ' H' _ ⟨z4, z5, z6, z7, rfl, rfl⟩
      exact SqL.of hL
    · rintro i x σ' H1 hi ⟨z4, z5, z6, z7, rfl, rfl⟩
      obtain ⟨p, xs, rfl, ep, ex, hp, hlt⟩ := hR.of_get hi
      obtain ⟨hx1, hx2⟩ := hb xs (List.mem_of_getElem? ex)
      have hl : (xs.map V.int).length = xs.length := List.length_map _
      show tSeq (tAsg _ (gName 5)) _ _ _ _
      refine rd_sa ?_
      refine rd_sa ?_
      refine rd_cut (fun σ' H' => ∃ z7 : Option V, σ' = [some (.ref l), some (.ref sp), some (.int (chS (lsg t b (xss.take i))).1), some (.int (chS (lsg t b (xss.take i))).2), some (.ref p), some (.int (lv t b xs)), some (.int (b ^ xs.length)), z7] ∧ H = H') ?_ ?_
      case refine_2 =>
        intro rest
        refine ⟨_, rfl, p, _, rfl, SqL.of hp, for_rev (K := K) (a := p) (xs := xs.map V.int) (fun j σ' H' => ∃ z : Option V, σ' = [some (.ref l), some (.ref sp), some (.int (chS (lsg t b (xss.take i))).1), some (.int (chS (lsg t b (xss.take i))).2), some (.ref p), some (.int (lv t b (xs.drop (xs.length - j)))), some (.int (b ^ j)), z] ∧ H = H') ⟨z7, ?_, rfl⟩ ?_ ?_ ?_⟩
        · rw [Nat.sub_zero, List.drop_length, Int.pow_zero]; rfl
        · rintro j σ' H' _ ⟨z, rfl, rfl⟩
          exact SqL.of hp
        · rintro j v σ' H' hj hv ⟨z, rfl, rfl⟩
          rw [hl] at hj hv
          obtain ⟨c, ec, rfl, hc, _⟩ := get_int hv
          have hj' : j < xs.length := hj
          have e1 : xs.length - (j + 1) = xs.length - 1 - j := by omega
          have hd := drop_lv t b (l := xs) (n := xs.length - 1 - j) (by omega)
          have e2 : xs.length - 1 - j + 1 = xs.length - j := by omega
          have e3 : xs.length - (xs.length - j) = j := by omega
          rw [e2, e3, cf_some ec] at hd
          have bs := lv_bits bt bb (l := xs.drop (xs.length - j)) fun y hy => hx2 y (List.mem_of_mem_drop hy)
          rw [List.length_drop] at bs
          have bp := bits_pow bb j
          show tSeq _ _ _ _ _
          refine rd_sa ⟨_, rfl, _, rfl, sp, _, _, _, rfl, rfl, SqT.of hP, rfl, _, _, rfl, rfl, ⟨bs.mono (by omega), bt.mono (by decide)⟩, _, rfl, _, rfl, _, _, rfl, rfl, ⟨(hx2 c hc).mono (by decide), bp.mono (by omega)⟩, _, _, rfl, rfl, ?_⟩
          refine rd_asg ⟨_, rfl, _, rfl, sp, _, _, _, rfl, rfl, SqT.of hP, rfl, _, _, rfl, rfl, ⟨bp.mono (by omega), bb.mono (by decide)⟩, ?_⟩
          refine ⟨some (.int c), ?_, rfl⟩
          rw [e1, hd, Int.pow_succ b j, Int.add_comm, Int.mul_comm t]
          rfl
        · rintro σ' H' ⟨z, rfl, rfl⟩
          rw [hl, Nat.sub_self, List.drop_zero]
          exact rest _ _ ⟨z, rfl, rfl⟩
      rintro σ' H' ⟨z7', rfl, rfl⟩
      have bv := lv_bits bt bb hx2
      obtain ⟨c1, c2, c3⟩ := chS_small _ (lsg_small t b (xss.take i))
      rw [lsg_take ex, chS_snoc]
      generalize lv t b xs = here at bv ⊢
      generalize chS (lsg t b (xss.take i)) = z at c1 ⊢
      obtain ⟨m, bf⟩ := z
      have hbf : bf = 1 ∨ bf = 0 ∨ bf = -1 := by have : bf.natAbs ≤ 1 := c1; omega
      unfold chF
      dsimp only
      have bbf : Bits 1000000 bf := one_bits c1
      have hsl := sg_last (y := here) hbf
      refine rd_cut (fun σ' H' => σ' = [some (.ref l), some (.ref sp), some (.int (if sg here * bf < 0 then m + 1 else m)), some (.int bf), some (.ref p), some (.int here), some (.int (b ^ xs.length)), z7'] ∧ H = H') ?_ ?_
      case refine_2 =>
        intro rest
        refine rd_asg ⟨_, rfl, _, rfl, _, rfl, _, _, rfl, rfl, ⟨bbf, bv.mono (by omega)⟩, _, _, rfl, rfl, .inr ⟨_, rfl, _, _, rfl, rfl, rest _ _ ⟨?_, rfl⟩⟩⟩
        by_cases hc : bf * here < 0
        · rw [decide_eq_true hc, if_pos (hsl.mp hc)]; rfl
        · rw [decide_eq_false hc, if_neg (fun z => hc (hsl.mpr z))]
          show [some (V.ref l), some (V.ref sp), some (V.int (m + 0)), some (V.int bf), some (V.ref p), some (V.int here), some (V.int (b ^ xs.length)), z7'] = _
          rw [Int.add_zero]
      rintro σ' H' ⟨rfl, rfl⟩
      refine rd_if ⟨_, rfl, _, _, rfl, rfl, _, rfl, rd_ndec (fun h1 => ?_) (fun h1 => ?_)⟩
      · have h1' : ¬ here = 0 := h1
        have hz : ¬ sg here = 0 := fun z => h1' ((sg_zero here).mp z)
        refine rd_asg ⟨_, rfl, _, _, rfl, rfl, .inr ⟨_, rfl, _, rfl, _, _, rfl, rfl, .inr ⟨_, rfl, _, _, rfl, rfl, ?_⟩⟩⟩
        refine ⟨some (.ref p), some (.int here), some (.int (b ^ xs.length)), z7', ?_, rfl⟩
        rw [if_neg hz]
        rcases sg_cases here with ⟨a1, a2⟩ | ⟨a1, a2⟩ | ⟨a1, a2⟩
        · rw [decide_eq_false (show ¬ here > 0 by omega), decide_eq_true (show here < 0 by omega), a2]; rfl
        · exact absurd a1 h1'
        · rw [decide_eq_true (show here > 0 by omega), decide_eq_false (show ¬ here < 0 by omega), a2]; rfl
      · have h1' : here = 0 := h1
        have hz : sg here = 0 := (sg_zero here).mpr h1'
        refine ⟨some (.ref p), some (.int here), some (.int (b ^ xs.length)), z7', ?_, rfl⟩
        rw [if_pos hz]
    · rintro σ' H' ⟨z4, z5, z6, z7, rfl, rfl⟩
      rw [hpl, List.take_length]
      exact ⟨_, rfl, k⟩
def spAny : Sp := fun vs H Q _ => ∃ c : Int, vs = [.int c] ∧ ∀ r : List Int, Tr r → r.length ≤ 6 → AllB 60 r → mkL H Q r
theorem ok__law_any {f : Addr} {fd : FuncData} (F : Fun K "_law_any" "_law_any" s__law_any f fd) (T : Txt K mg) {f__law_trim : Addr} {fd__law_trim : FuncData} (C__law_trim : Cal P w K mg base 1 "_law_trim" ["_law_row_here"] (spTrim K) f__law_trim fd__law_trim) {f__law_flat : Addr} {fd__law_flat : FuncData} (C__law_flat : Cal P w K mg base 34 "_law_flat" ["_law_kp"] spFlat f__law_flat fd__law_flat) : FnOk P w K mg base CX0 35 f fd ["_law_cell"] spAny := by
  obtain ⟨G__law_trim, m__law_trim, k__law_trim, b__law_trim⟩ := C__law_trim
  obtain ⟨G__law_flat, m__law_flat, k__law_flat, b__law_flat⟩ := C__law_flat
  refine F.ok sc__law_any (fun vs H Q E h => ?_) (fun cdv A outer s H vs Q E hr h => ?_)
  · obtain ⟨c, rfl, _⟩ := h
    rfl
  · obtain ⟨c, rfl, k⟩ := h
    have big := sizeLine_eq
    refine ⟨_, (pss_cons (ps_set (i := 1) sc__law_any.nd rfl (Or.inl rfl) (pe_lst pa_nil))
      (pss_cons (ps_set (i := 2) sc__law_any.nd rfl (Or.inl rfl) (pe_op op_fdivP (pv 0) pe_int))
      (pss_cons (ps_for PassesOwn.never rfl (pi_range1 rfl T.range_ (pa_cons (pe_op op_add pe_int (pe_op op_modP (pv 0) pe_int)) pa_nil)) (pg_name (i := 3) sc__law_any.nd rfl (Or.inl rfl))
        (pss_cons (ps_expr (pe_bm PySem.F.plainAttrs_list PySem.F.slot_list_append PySem.F.type_list_append mt_append (pv 1) (pa_cons (pe_op op_sub (pe_op op_modP (pv 2) pe_int) pe_int) pa_nil)))
          (pss_one (ps_set (i := 2) sc__law_any.nd rfl (Or.inl rfl) (pe_op op_fdivP (pv 2) pe_int)))))
      (pss_cons (ps_set (i := 1) sc__law_any.nd rfl (Or.inl rfl) (pe_call G__law_trim (hr.mono (by decide)) rfl m__law_trim k__law_trim b__law_trim .nil pass0 (pa_cons (pv 1) pa_nil)))
      (pss_cons (ps_if (pt_cmpR op_eqI (pe_callB (call_lenK (K := K) rfl) (by rfl) T.len_ PySem.boot_len (pa_cons (pv 1) pa_nil)) pe_int (nomark _))
        (pss_one (ps_ret (pe_lst pa_nil)))
        pss_nil)
      (pss_one (ps_ret (pe_call G__law_flat (hr.mono (by decide)) rfl m__law_flat k__law_flat b__law_flat .nil pass0 (pa_cons (pv 1) pa_nil))))))))), ?_⟩
    refine rd_sa ⟨Nat.zero_le _, fun pm hpm => ?_⟩
    have s1 : Same H (upd H pm (.lst [])) := Same.upd_new hpm
    have q1 : upd H pm (.lst []) pm = some (.lst []) := upd_same
    generalize upd H pm (.lst []) = H1 at s1 q1 ⊢
    refine rd_sa ⟨_, rfl, _, _, rfl, rfl, ⟨by show (0 : Int) < 6; decide, small9 (by decide) (by decide)⟩, ?_⟩
    obtain ⟨m1, m2⟩ := mod3 (x := c) (m := 6) (by decide)
    refine rd_cut (fun σ' H' => ∃ (ms : List Int) (z2 z3 : Option V), σ' = [some (.int c), some (.ref pm), z2, z3] ∧ Same H H' ∧ H' pm = some (.lst (ms.map V.int)) ∧ ms.length ≤ 6 ∧ AllB 7 ms) ?_ ?_
    case refine_2 =>
      intro rest
      refine ⟨_, rfl, _, _, rfl, rfl, (by show (0 : Int) < 6; decide), _, _, rfl, rfl, _, rfl, by omega, by omega, for_range (lo := 0) (fun i σ' H' => ∃ (ms : List Int) (lf : Int) (z3 : Option V), σ' = [some (.int c), some (.ref pm), some (.int lf), z3] ∧ Same H H' ∧ H' pm = some (.lst (ms.map V.int)) ∧ ms.length = i ∧ AllB 7 ms) ⟨[], c / 6, none, rfl, s1, q1, rfl, AllB.nil⟩ ?_ ?_⟩
      · rintro i σ' H' hi ⟨ms, lf, z3, rfl, sm, em, hml, bm⟩
        obtain ⟨d1, d2⟩ := mod3 (x := lf) (m := 101) (by decide)
        show tSeq _ _ _ _ _
        refine rd_sd ⟨_, rfl, .inl ⟨rfl, _, SqL.of em⟩, _, rfl, _, _, rfl, rfl, (by show (0 : Int) < 101; decide), _, _, rfl, rfl, pm, _, _, rfl, rfl, em, by rw [List.length_map]; omega, ?_⟩
        refine rd_asg ⟨_, rfl, _, _, rfl, rfl, ⟨by show (0 : Int) < 101; decide, small9 (by decide) (by decide)⟩, ?_⟩
        refine ⟨ms ++ [lf % 101 - 50], lf / 101, _, rfl, mut_same sm hpm, ?_, by rw [List.length_append]; show ms.length + 1 = _; omega, bm.snoc (by show (lf % 101 - 50).natAbs < 128; omega)⟩
        rw [upd_same, map_snoc]
      · rintro σ' H' ⟨ms, lf, z3, rfl, sm, em, hml, bm⟩
        exact rest _ _ ⟨ms, _, _, rfl, sm, em, by omega, bm⟩
    rintro σ' H2 ⟨ms, z2, z3, rfl, s2, em, hml, bm⟩
    refine rd_sa ⟨_, rfl, pm, ms, rfl, SqL.of em, fun p3 H3 s3 hp3 e3 => ?_⟩
    have t3 := s2.trans s3
    have lt := length_trim ms
    refine rd_sr ⟨_, rfl, p3, _, rfl, .inl (SqL.of e3), _, _, rfl, rfl, _, rfl, rd_dec (fun h0 => ?_) (fun h0 => ?_)⟩
    · refine ⟨Nat.zero_le _, fun p4 hp4 => ?_⟩
      exact k [] tr_nil (by show 0 ≤ 6; decide) AllB.nil p4 _ (t3.then_new hp4) (t3.free hp4) upd_same
    · have hne : trim ms ≠ [] := fun z => by
        refine h0 ?_
        rw [z]; rfl
      refine rd_ret ⟨_, rfl, p3, trim ms, rfl, e3, tr_trim ms, hne, by omega, bm.trim, fun r tr rn rl br p4 H4 s4 hp4 e4 => ?_⟩
      exact k r tr rl br p4 H4 (t3.trans s4) (t3.free hp4) e4
theorem cntS_take {ls : List (List Int)} {i : Nat} {l : List Int} {t n t' n' : Int} (h : ls[i]? = some l) : cntS (ls.take (i + 1)) t n t' n' = cntS (ls.take i) t n t' n' + (if 0 < sideG l t n ∧ sideG l t' n' ≤ 0 then 1 else 0) := by
  unfold cntS
  rw [List.take_add_one, h, List.map_append, List.sum_append]
  simp
def spMany : Sp := fun vs H Q _ => ∃ (a pl ph : Addr) (ws : List Addr) (t n t' n' : Int), vs = [.ref a, .ref pl, .ref ph] ∧ H pl = some (.tup ([t, n].map V.int)) ∧ H ph = some (.tup ([t', n'].map V.int)) ∧ H a = some (.lst (ws.map V.ref)) ∧ Bits 60 t ∧ Bits 60 n ∧ Bits 60 t' ∧ Bits 60 n' ∧
  ((∃ ls : List (List Int), TuH H ws ls ∧ (∀ l ∈ ls, SpB l) ∧ Q (.int (cntS ls t n t' n')) H) ∨ (∃ xss : List (List Int), RwH H ws xss ∧ xss ≠ [] ∧ (∀ xs ∈ xss, xs.length ≤ 20 ∧ AllB 95000 xs) ∧ Q (.int ((chS (lsg t n xss)).1 - (chS (lsg t' n' xss)).1)) H))
theorem ok__law_many {f : Addr} {fd : FuncData} (F : Fun K "_law_many" "_law_many" s__law_many f fd) (T : Txt K mg) {f__law_changes : Addr} {fd__law_changes : FuncData} (C__law_changes : Cal P w K mg base 1 "_law_changes" ["_law_row_here", "_law_spot"] spLch f__law_changes fd__law_changes) {f__law_side : Addr} {fd__law_side : FuncData} (C__law_side : Cal P w K mg base 2 "_law_side" ["_law_spot", "_law_top", "_law_bottom"] spSide f__law_side fd__law_side) : FnOk P w K mg base CX0 3 f fd ["_law_spots", "_law_low", "_law_high"] spMany := by
  obtain ⟨G__law_changes, m__law_changes, k__law_changes, b__law_changes⟩ := C__law_changes
  obtain ⟨G__law_side, m__law_side, k__law_side, b__law_side⟩ := C__law_side
  refine F.ok sc__law_many (fun vs H Q E h => ?_) (fun cdv A outer s H vs Q E hr h => ?_)
  · obtain ⟨a, pl, ph, ws, t, n, t', n', rfl, _⟩ := h
    rfl
  · obtain ⟨a, pl, ph, ws, t, n, t', n', rfl, hPl, hPh, hA, bt, bn, bt', bn', hc⟩ := h
    refine ⟨_, (pss_cons (ps_if (PW.pt (pw_and (pt_cmpR op_gt (pe_callB (call_lenK (K := K) rfl) (by rfl) T.len_ PySem.boot_len (pa_cons (pv 0) pa_nil)) pe_int (nomark _)) (pw_and1 (pt_val (pe_callB (call_isinstK (K := K) rfl) (by rfl) T.isinstance_ PyProof.Rows.boot_isinstance (pa_cons (pe_ix (ix_listK (K := K) rfl) (pv 0) pe_int (fun _ _ => rfl)) (pa_cons (pe_bltn (v := .ty "list") (by rfl) T.list_ PyProof.Rows.boot_list (by rfl)) pa_nil)))))))
        (pss_one (ps_ret (pe_op op_sub (pe_call G__law_changes (hr.mono (by decide)) rfl m__law_changes k__law_changes b__law_changes .nil pass0 (pa_cons (pv 0) (pa_cons (pv 1) pa_nil))) (pe_call G__law_changes (hr.mono (by decide)) rfl m__law_changes k__law_changes b__law_changes .nil pass0 (pa_cons (pv 0) (pa_cons (pv 2) pa_nil))))))
        pss_nil)
      (pss_cons (ps_set (i := 3) sc__law_many.nd rfl (Or.inl rfl) pe_int)
      (pss_cons (ps_for PassesOwn.never rfl (pi_listK (K := K) rfl (pv 0)) (pg_name (i := 4) sc__law_many.nd rfl (Or.inl rfl))
        (pss_cons (ps_set (i := 5) sc__law_many.nd rfl (Or.inl rfl) (pe_call G__law_side (hr.mono (by decide)) rfl m__law_side k__law_side b__law_side .nil pass0 (pa_cons (pv 4) (pa_cons (pe_ix (ix_tupK (K := K) rfl) (pv 1) pe_int (fun _ _ => rfl)) (pa_cons (pe_ix (ix_tupK (K := K) rfl) (pv 1) pe_int (fun _ _ => rfl)) pa_nil)))))
          (pss_one (ps_if (PW.pt (pw_and (pt_cmpR op_gt (pv 5) pe_int (nomark _)) (pw_and1 (pt_cmpR op_le (pe_call G__law_side (hr.mono (by decide)) rfl m__law_side k__law_side b__law_side .nil pass0 (pa_cons (pv 4) (pa_cons (pe_ix (ix_tupK (K := K) rfl) (pv 2) pe_int (fun _ _ => rfl)) (pa_cons (pe_ix (ix_tupK (K := K) rfl) (pv 2) pe_int (fun _ _ => rfl)) pa_nil)))) pe_int (nomark _)))))
            (pss_one (ps_set (i := 3) sc__law_many.nd rfl (Or.inl rfl) (pe_op op_add (pv 3) pe_int)))
            pss_nil))))
      (pss_one (ps_ret (pv 3)))))), ?_⟩
    rcases hc with ⟨ls, hT, hF, k⟩ | ⟨xss, hR, hne, hb, k⟩
    · -- roots known
      have hpl : (ws.map V.ref).length = ls.length := by rw [List.length_map, hT.1]
      refine rd_cutIf (fun σ' H' => σ' = [some (.ref a), some (.ref pl), some (.ref ph), none, none, none] ∧ H = H') ?_ ?_
      case refine_2 =>
        intro rest
        refine rd_and ⟨_, rfl, a, _, rfl, .inl (SqL.of hA), _, _, rfl, rfl, _, rfl, rd_dec (fun h0 => ?_) (fun _ => ?_)⟩
        · have h0' : 0 < ((ws.map V.ref).length : Int) := h0
          have h1 : 0 < ws.length := by rw [List.length_map] at h0'; omega
          have h2 : 0 < ls.length := by rw [← hT.1]; exact h1
          have hq := hT.2 0 ws[0] ls[0] (List.getElem?_eq_getElem h1) (List.getElem?_eq_getElem h2)
          have e0 : atI (ws.map V.ref) 0 = some (.ref ws[0]) := (show atI _ ((0 : Nat) : Int) = _ from atI_nat (by rw [List.getElem?_map, List.getElem?_eq_getElem h1]; rfl))
          refine rd_B (rd_isI ⟨_, rfl, a, _, _, _, rfl, rfl, SqL.of hA, e0, isI_ty (.tup hq) (k := false) (by rfl) ⟨_, rfl, rest _ _ ⟨rfl, rfl⟩⟩⟩)
        · exact rd_false (rest _ _ ⟨rfl, rfl⟩)
      rintro σ' H' ⟨rfl, rfl⟩
      refine rd_sa ?_
      refine ⟨_, rfl, a, rfl, ⟨_, SqL.of hA⟩, for_list (K := K) (a := a) (xs := ws.map V.ref) (fun i σ' H' => ∃ (z4 z5 : Option V), σ' = [some (.ref a), some (.ref pl), some (.ref ph), some (.int (cntS (ls.take i) t n t' n')), z4, z5] ∧ H = H') ⟨none, none, rfl, rfl⟩ ?_ ?_ ?_⟩
      · rintro i σ' H' _ ⟨z4, z5, rfl, rfl⟩
        exact SqL.of hA
      · rintro i x σ' H' hi ⟨z4, z5, rfl, rfl⟩
        obtain ⟨q, l, rfl, eq, el, hq, hlt⟩ := hT.of_get hi
        have hl := hF l (List.mem_of_getElem? el)
        rw [cntS_take el]
        show tSeq _ _ _ _ _
        refine rd_sa ⟨_, rfl, _, rfl, pl, _, _, _, rfl, rfl, SqT.of hPl, rfl, _, rfl, pl, _, _, _, rfl, rfl, SqT.of hPl, rfl, q, l, t, n, rfl, hq, hl, bt.mono (by decide), bn.mono (by decide), ?_⟩
        refine rd_if (rd_and ⟨_, rfl, _, _, rfl, rfl, _, rfl, rd_dec (fun c1 => ?_) (fun c1 => ?_)⟩)
        · refine ⟨_, rfl, _, rfl, ph, _, _, _, rfl, rfl, SqT.of hPh, rfl, _, rfl, ph, _, _, _, rfl, rfl, SqT.of hPh, rfl, q, l, t', n', rfl, hq, hl, bt'.mono (by decide), bn'.mono (by decide), _, _, rfl, rfl, _, rfl, rd_dec (fun c2 => ?_) (fun c2 => ?_)⟩
          · refine rd_asg ⟨_, rfl, _, _, rfl, rfl, some (.ref q), some (.int (sideG l t n)), ?_, rfl⟩
            rw [if_pos ⟨c1, c2⟩]; rfl
          · refine ⟨some (.ref q), some (.int (sideG l t n)), ?_, rfl⟩
            rw [if_neg (fun z => c2 z.2), Int.add_zero]; rfl
        · refine rd_false ⟨some (.ref q), some (.int (sideG l t n)), ?_, rfl⟩
          rw [if_neg (fun z => c1 z.1), Int.add_zero]; rfl
      · rintro σ' H' ⟨z4, z5, rfl, rfl⟩
        rw [hpl, List.take_length]
        exact ⟨_, rfl, k⟩
    · -- a row
      have h1 : 0 < ws.length := by rw [hR.1]; exact List.length_pos_iff.mpr hne
      have h2 : 0 < xss.length := List.length_pos_iff.mpr hne
      have hq := hR.2 0 ws[0] xss[0] (List.getElem?_eq_getElem h1) (List.getElem?_eq_getElem h2)
      have e0 : atI (ws.map V.ref) 0 = some (.ref ws[0]) := (show atI _ ((0 : Nat) : Int) = _ from atI_nat (by rw [List.getElem?_map, List.getElem?_eq_getElem h1]; rfl))
      refine rd_sr (rd_and ⟨_, rfl, a, _, rfl, .inl (SqL.of hA), _, _, rfl, rfl, _, rfl, rd_dec (fun _ => ?_) (fun h0 => absurd (show ((ws.map V.ref).length : Int) > 0 by rw [List.length_map]; omega) h0)⟩)
      refine rd_B (rd_isI ⟨_, rfl, a, _, _, _, rfl, rfl, SqL.of hA, e0, isI_ty (.lst hq) (k := true) (by rfl) ⟨_, rfl, rd_true ?_⟩⟩)
      exact ⟨_, rfl, _, rfl, a, pl, ws, xss, t, n, rfl, hA, hPl, hR, bt, bn, hb, _, rfl, _, rfl, a, ph, ws, xss, t', n', rfl, hA, hPh, hR, bt', bn', hb, _, _, rfl, rfl, k⟩
def spEnd : Sp := fun vs H Q _ => ∃ (c mo : Int) (a : Addr) (qs : List Addr) (fs : List (List Int)), vs = [.int c, .ref a, .int mo] ∧ 0 ≤ mo ∧ mo ≤ 100000000 ∧ H a = some (.lst (qs.map V.ref)) ∧ TuH H qs fs ∧ (∀ l ∈ fs, Fac 100000000 l) ∧ fs.length ≤ 100 ∧
  ∀ (p : Addr) (H' : Hp) (x y : Int), Same H H' → H p = none → H' p = some (.tup ([x, y].map V.int)) → -100000000 ≤ x → x ≤ 100000000 → 1 ≤ y → y ≤ 9 → Q (.ref p) H'
theorem ok__law_end {f : Addr} {fd : FuncData} (F : Fun K "_law_end" "_law_end" s__law_end f fd) (T : Txt K mg) {f__law_within : Addr} {fd__law_within : FuncData} (C__law_within : Cal P w K mg base 1 "_law_within" ["_law_cell", "_law_most"] spSigned f__law_within fd__law_within) : FnOk P w K mg base CX0 2 f fd ["_law_cell", "_law_factors", "_law_most"] spEnd := by
  obtain ⟨G__law_within, m__law_within, k__law_within, b__law_within⟩ := C__law_within
  refine F.ok sc__law_end (fun vs H Q E h => ?_) (fun cdv A outer s H vs Q E hr h => ?_)
  · obtain ⟨c, mo, a, qs, fs, rfl, _⟩ := h
    rfl
  · obtain ⟨c, mo, a, qs, fs, rfl, hmo0, hmo1, hA, hT, hF, hn, k⟩ := h
    have big := sizeLine_eq
    refine ⟨_, (pss_cons (ps_setCompT (i := 3) sc__law_end.nd rfl (Or.inl rfl) (own := ["_law_one"]) (fr := []) (js := []) (by walk_at "comp_ok") rfl (pi_listK (K := K) rfl (pv 1)) (fun _ _ _ _ => (pg_name (i := 0) (show List.Nodup (["_law_one"] : List Str) from by decide +kernel) rfl (Or.inl rfl))) (fun _ _ _ _ => (pv 0)) (fun _ _ _ _ => (pt_cmpR op_eqI (pe_ix (ix_tupK (K := K) rfl) (pv 0) pe_int (fun _ _ => rfl)) pe_int (nomark _))) (by rfl))
      (pss_cons (ps_if (PW.pt (pw_and (pt_cmpR op_eqI (pe_op op_modP (pv 0) pe_int) pe_int (nomark _)) (pw_and1 (pt_cmpR op_gt (pe_callB (call_lenK (K := K) rfl) (by rfl) T.len_ PySem.boot_len (pa_cons (pv 3) pa_nil)) pe_int (nomark _)))))
        (pss_cons (ps_set (i := 4) sc__law_end.nd rfl (Or.inl rfl) (pe_ix (ix_listK (K := K) rfl) (pv 3) (pe_op op_modP (pe_op op_fdivP (pv 0) pe_int) (pe_callB (call_lenK (K := K) rfl) (by rfl) T.len_ PySem.boot_len (pa_cons (pv 3) pa_nil))) (fun _ _ => rfl)))
          (pss_one (ps_ret (pe_tup (pa_cons (pe_ix (ix_tupK (K := K) rfl) (pv 4) pe_int (fun _ _ => rfl)) (pa_cons (pe_ix (ix_tupK (K := K) rfl) (pv 4) pe_int (fun _ _ => rfl)) pa_nil))))))
        pss_nil)
      (pss_one (ps_ret (pe_tup (pa_cons (pe_call G__law_within (hr.mono (by decide)) rfl m__law_within k__law_within b__law_within .nil pass0 (pa_cons (pe_op op_fdivP (pv 0) pe_int) (pa_cons (pv 2) pa_nil))) (pa_cons (pe_op op_add pe_int (pe_op op_modP (pe_op op_modP (pe_op op_mul (pv 0) pe_int) pe_int) pe_int)) pa_nil))))))), ?_⟩
    have hpl : (qs.map V.ref).length = fs.length := by rw [List.length_map, hT.1]
    refine rd_seq ⟨_, rfl, a, rfl, ⟨_, SqL.of hA⟩, comp_listT (K := K) (a := a) (xs := qs.map V.ref) (fun i ys σ' H' => ∃ (z0 : Option V) (rs : List Addr), σ' = [z0] ∧ ys = rs.map V.ref ∧ rs.length ≤ i ∧ TuH H rs ((fs.take i).filter fun f => decide (cf f 1 = 0)) ∧ H = H') (by omega) ⟨none, [], rfl, rfl, Nat.le_refl _, TuH.nil, rfl⟩ ?_ ?_ ?_⟩
    · rintro i ys σ' H' _ ⟨z0, rs, rfl, rfl, hl, _, rfl⟩
      exact ⟨SqL.of hA, by rw [List.length_map]; exact hl⟩
    · rintro i x ys σ' H' hi ⟨z0, rs, rfl, rfl, hl, hT', rfl⟩
      obtain ⟨q, l, rfl, eq, el, hq, hlt⟩ := hT.of_get hi
      obtain ⟨u, e, b, rfl, h1, h2, h3, h4, h5, h6, h7⟩ := hF l (List.mem_of_getElem? el)
      have et : (fs.take (i + 1)).filter (fun f => decide (cf f 1 = 0)) = (fs.take i).filter (fun f => decide (cf f 1 = 0)) ++ (if e = 0 then [[u, e, b]] else []) := by
        rw [List.take_add_one, el, List.filter_append]
        congr 1
        show List.filter _ [[u, e, b]] = _
        by_cases z : e = 0
        · rw [if_pos z, List.filter_cons_of_pos (p := fun f => decide (cf f 1 = 0)) (decide_eq_true (show cf [u, e, b] 1 = 0 from z))]; rfl
        · rw [if_neg z, List.filter_cons_of_neg (p := fun f => decide (cf f 1 = 0)) (by simpa using (show ¬ cf [u, e, b] 1 = 0 from z))]; rfl
      refine ⟨_, rfl, q, _, _, _, rfl, rfl, SqT.of hq, rfl, _, _, rfl, rfl, _, rfl, rd_dec (fun h0 => ?_) (fun h0 => ?_)⟩
      · have h0' : e = 0 := h0
        rw [if_pos h0'] at et
        refine ⟨_, rfl, _, rs ++ [q], rfl, by rw [List.map_append]; rfl, by rw [List.length_append]; show rs.length + 1 ≤ i + 1; omega, ?_, rfl⟩
        rw [et]; exact hT'.snoc hq
      · have h0' : ¬ e = 0 := h0
        rw [if_neg h0', List.append_nil] at et
        refine ⟨_, rs, rfl, rfl, by omega, ?_, rfl⟩
        rw [et]; exact hT'
    rintro ys σ' H' pk ⟨z0, rs, rfl, rfl, hl, hT', rfl⟩ hpk
    rw [hpl, List.take_length] at hT'
    have s1 : Same H (upd H pk (.lst (rs.map V.ref))) := Same.upd_new hpk
    have ek : upd H pk (.lst (rs.map V.ref)) pk = some (.lst (rs.map V.ref)) := upd_same
    generalize upd H pk (.lst (rs.map V.ref)) = H1 at s1 ek ⊢
    refine rd_name ?_
    dsimp only
    have hrl : (rs.map V.ref).length = rs.length := List.length_map _
    refine rd_cutIf (fun σ' H' => σ' = [some (.int c), some (.ref a), some (.int mo), some (.ref pk), none] ∧ H1 = H') ?_ ?_
    case refine_2 =>
      intro rest
      refine rd_and ⟨_, rfl, _, _, rfl, rfl, (by show (0 : Int) < 2; decide), _, _, rfl, rfl, _, rfl, rd_dec (fun _ => ?_) (fun _ => rd_false (rest _ _ ⟨rfl, rfl⟩))⟩
      refine ⟨_, rfl, pk, _, rfl, .inl (SqL.of ek), _, _, rfl, rfl, _, rfl, rd_dec (fun h0 => ?_) (fun _ => rest _ _ ⟨rfl, rfl⟩)⟩
      have h0' : 0 < ((rs.map V.ref).length : Int) := h0
      have hk0 : 0 < rs.length := by rw [hrl] at h0'; omega
      obtain ⟨v, hv', ev⟩ := atI_mod (xs := rs.map V.ref) (n := ((rs.map V.ref).length : Int)) rfl (by rw [hrl]; omega) (c / 2)
      obtain ⟨q, hq, rfl⟩ := List.mem_map.mp hv'
      obtain ⟨i, hi, ei⟩ := List.mem_iff_getElem.mp hq
      have hi2 : i < ((fs.filter fun f => decide (cf f 1 = 0))).length := by rw [← hT'.1]; exact hi
      have hqH := hT'.2 i q _ (by rw [List.getElem?_eq_getElem hi, ei]) (List.getElem?_eq_getElem hi2)
      have hmem := (List.mem_filter.mp (List.getElem_mem hi2)).1
      generalize (fs.filter fun f => decide (cf f 1 = 0))[i] = l at hqH hmem
      obtain ⟨u, e, b, rfl, h1, h2, h3, h4, h5, h6, h7⟩ := hF l hmem
      have hq1 := s1 _ _ hqH
      refine rd_sa ⟨_, rfl, _, rfl, _, _, rfl, rfl, ⟨by show (0 : Int) < 2; decide, small9 (by decide) (by decide)⟩, _, rfl, pk, _, rfl, .inl (SqL.of ek), _, _, rfl, rfl, (by show (0 : Int) < _; rw [hrl]; omega), pk, _, _, _, rfl, rfl, SqL.of ek, ev, ?_⟩
      refine rd_ret ⟨_, rfl, q, _, _, _, rfl, rfl, SqT.of hq1, rfl, _, rfl, q, _, _, _, rfl, rfl, SqT.of hq1, rfl, by show 2 ≤ sizeLine; decide, fun p hp => ?_⟩
      exact k p _ u b (s1.then_new hp) (s1.free hp) upd_same (by omega) (by omega) h5 (by omega)
    rintro σ' H' ⟨rfl, rfl⟩
    have bmo : Bits 1000 mo := Bits.mono (j := 28) (by show mo.natAbs < 268435456; omega) (by decide)
    refine rd_ret ⟨_, rfl, _, _, rfl, rfl, ⟨by show (0 : Int) < 2; decide, small9 (by decide) (by decide)⟩, _, rfl, _, mo, rfl, hmo0, bmo, _, rfl, _, _, rfl, rfl, .inr ⟨by decide, by decide⟩, _, _, rfl, rfl, (by show (0 : Int) < 10007; decide), _, _, rfl, rfl, (by show (0 : Int) < 9; decide), _, _, rfl, rfl, by show 2 ≤ sizeLine; decide, fun p hp => ?_⟩
    obtain ⟨q1, q2⟩ := mod3 (x := c / 2) (m := 2 * mo + 1) (by omega)
    obtain ⟨q3, q4⟩ := mod3 (x := c * 48271 % 10007) (m := 9) (by decide)
    refine k p _ (c / 2 % (2 * mo + 1) - mo) (1 + c * 48271 % 10007 % 9) (s1.then_new hp) (s1.free hp) upd_same ?_ ?_ ?_ ?_
    all_goals omega
--SPLIT
theorem rt_bits {k : Nat} {t b : Int} (hb : b ≠ 0) (h : Bits k t) : Bits k (rt t b) := h.of_le (rt_abs hb)
theorem rb_bits {k : Nat} {t b : Int} (hb : b ≠ 0) (h : Bits k b) : Bits k (rb t b) := h.of_le (rb_abs hb)
theorem sl_degs : ∀ ss : List (List Int), (∀ s ∈ ss, s ≠ []) → sl ss = degs ss + ss.length
  | [], _ => rfl
  | s :: ss, h => by
    have h1 := List.length_pos_iff.mpr (h s (List.mem_cons_self ..))
    have h2 := sl_degs ss fun x hx => h x (List.mem_cons_of_mem _ hx)
    show s.length + sl ss = (s.length - 1) + degs ss + (ss.length + 1)
    omega
theorem degs_ge : ∀ ss : List (List Int), (∀ s ∈ ss, 2 ≤ s.length) → ss.length ≤ degs ss
  | [], _ => Nat.le_refl _
  | s :: ss, h => by
    have h1 := h s (List.mem_cons_self ..)
    have h2 := degs_ge ss fun x hx => h x (List.mem_cons_of_mem _ hx)
    rw [List.length_cons, degs]; omega
theorem fac_G {f : List Int} (h : Fac 100000000 f) : FacG f := by
  obtain ⟨u, e, b, rfl, h1, h2, h3, h4, h5, h6, h7⟩ := h
  exact ⟨u, e, b, rfl, by omega, by omega, by omega, by omega, h5, by omega, h7⟩
theorem sg_lv {t b : Int} (hb : 0 < b) (l : List Int) : sg (hv t b l) = sg (lv t b l) := by rw [hv_lv, sg_pos_mul hb]
theorem sgv_lsg {t b : Int} (hb : 0 < b) (xss : List (List Int)) : sgv xss t b = lsg t b xss := List.map_congr_left fun x _ => sg_lv hb x
theorem sgs_red {t b : Int} (hb : 0 < b) (xss : List (List Int)) : sgs (rt t b) (rb t b) xss = lsg t b xss := List.map_congr_left fun x _ => sg_red hb x
/-- what is due -/
def Due (kp : List Int) (t n t' n' d : Int) : Prop := (chS (lsg t n (rowS 9 (shrL kp) (shrL (slopeL kp))))).1 - (chS (lsg t' n' (rowS 9 (shrL kp) (shrL (slopeL kp))))).1 = d
theorem due_row {kp : List Int} (tk : Tr kp) (nk : kp ≠ []) {t n t' n' : Int} (hn : 0 < n) (hn' : 0 < n') : Due kp t n t' n' ((chS (lsg t n (kp :: rowS 8 (shrL (slopeL kp)) (nxt (shrL kp) (shrL (slopeL kp)))))).1 - (chS (lsg t' n' (kp :: rowS 8 (shrL (slopeL kp)) (nxt (shrL kp) (shrL (slopeL kp)))))).1) := by
  obtain ⟨g0, tF, nF, ecF⟩ := shr_pos tk nk
  have eRow : rowS 9 (shrL kp) (shrL (slopeL kp)) = shrL kp :: rowS 8 (shrL (slopeL kp)) (nxt (shrL kp) (shrL (slopeL kp))) := by show (if shrL kp = [] then _ else _) = _; rw [if_neg nF]
  have key : ∀ x y : Int, 0 < y → lsg x y (rowS 9 (shrL kp) (shrL (slopeL kp))) = lsg x y (kp :: rowS 8 (shrL (slopeL kp)) (nxt (shrL kp) (shrL (slopeL kp)))) := fun x y hy => by
    rw [eRow]
    show sg (lv x y (shrL kp)) :: _ = sg (lv x y kp) :: _
    have e : sg (lv x y kp) = sg (lv x y (shrL kp)) := by
      rw [← sg_lv hy, ← sg_lv hy]
      have e2 : hv x y kp = (gcdL kp : Int) * hv x y (shrL kp) := by
        calc hv x y kp = hv x y (scL (gcdL kp : Int) (shrL kp)) := by rw [shr_scale]
          _ = _ := hv_scL _ _ _ _
      rw [e2, sg_pos_mul g0]
    rw [e]
  unfold Due
  rw [key t n hn, key t' n' hn']
theorem due_spots {fs : List (List Int)} (hF : ∀ f ∈ fs, Fac 100000000 f) (hnd : (fs.map shpQ).Nodup) {c : Int} (hc : c ≠ 0) {kp : List Int} (hP : kp = mulL [c] (prodL [1] (fs.map shpQ))) (hl : kp.length ≤ 7) {t n t' n' : Int} (hn : 0 < n) (hn' : 0 < n') (hlt : t * n' < t' * n) : Due kp t n t' n' (cntS (spots fs) t n t' n') := by
  have := count_spots (N := 8) (fun f hf => fac_G (hF f hf)) hnd hc hP (by omega) (by omega) hn hn' hlt
  rw [sgv_lsg hn, sgv_lsg hn', ← chS_eq, ← chS_eq] at this
  exact this
theorem ok_law {C f : Addr} {fd : FuncData} (F : Fun K "law" "law" s_law f fd) (T : Txt K mg) (R : RCI K mg C) {f__law_cell_at : Addr} {fd__law_cell_at : FuncData} (C__law_cell_at : Cal P w K mg base 1 "_law_cell_at" ["_law_script", "_law_k"] (spCell K) f__law_cell_at fd__law_cell_at) {f__law_factors_by : Addr} {fd__law_factors_by : FuncData} (C__law_factors_by : Cal P w K mg base 36 "_law_factors_by" ["_law_drawn", "_law_most", "_law_room"] (spFs K) f__law_factors_by fd__law_factors_by) {f__law_mul : Addr} {fd__law_mul : FuncData} (C__law_mul : Cal P w K mg base 1 "_law_mul" ["_law_kp", "_law_kq"] spMul f__law_mul fd__law_mul) {f__law_product : Addr} {fd__law_product : FuncData} (C__law_product : Cal P w K mg base 36 "_law_product" ["_law_factors"] spPro f__law_product fd__law_product) {f__law_end : Addr} {fd__law_end : FuncData} (C__law_end : Cal P w K mg base 2 "_law_end" ["_law_cell", "_law_factors", "_law_most"] spEnd f__law_end fd__law_end) {f__law_many : Addr} {fd__law_many : FuncData} (C__law_many : Cal P w K mg base 3 "_law_many" ["_law_spots", "_law_low", "_law_high"] spMany f__law_many fd__law_many) {f__law_roots_of : Addr} {fd__law_roots_of : FuncData} (C__law_roots_of : Cal P w K mg base 1 "_law_roots_of" ["_law_factors"] spRo f__law_roots_of fd__law_roots_of) {f__law_any : Addr} {fd__law_any : FuncData} (C__law_any : Cal P w K mg base 35 "_law_any" ["_law_cell"] spAny f__law_any fd__law_any) {f__law_row : Addr} {fd__law_row : FuncData} (C__law_row : Cal P w K mg base 34 "_law_row" ["_law_kp"] spRow f__law_row fd__law_row) {f_row_of : Addr} {fd_row_of : FuncData} (C_row_of : Cal P w K mg base 35 "row_of" ["polynomial"] spRowOf f_row_of fd_row_of) {f_count : Addr} {fd_count : FuncData} (C_count : Cal P w K mg base 4 "count" ["row", "low", "high"] (spCnt C) f_count fd_count) {f_Ratio : Addr} {fd_Ratio : FuncData} {ds_Ratio : List Value} (C_Ratio : KCal P w K mg base 2 C "Ratio" ["self", "top", "bottom"] (spInit C) f_Ratio fd_Ratio ds_Ratio [.int 1]) {f__law_whole : Addr} {fd__law_whole : FuncData} (C__law_whole : Cal P w K mg base 1 "_law_whole" ["_law_found"] spWhole f__law_whole fd__law_whole) : FnOk P w K mg base CX0 37 f fd ["_law_script"] (spLaw K) := by
  obtain ⟨G__law_cell_at, m__law_cell_at, k__law_cell_at, b__law_cell_at⟩ := C__law_cell_at
  obtain ⟨G__law_factors_by, m__law_factors_by, k__law_factors_by, b__law_factors_by⟩ := C__law_factors_by
  obtain ⟨G__law_mul, m__law_mul, k__law_mul, b__law_mul⟩ := C__law_mul
  obtain ⟨G__law_product, m__law_product, k__law_product, b__law_product⟩ := C__law_product
  obtain ⟨G__law_end, m__law_end, k__law_end, b__law_end⟩ := C__law_end
  obtain ⟨G__law_many, m__law_many, k__law_many, b__law_many⟩ := C__law_many
  obtain ⟨G__law_roots_of, m__law_roots_of, k__law_roots_of, b__law_roots_of⟩ := C__law_roots_of
  obtain ⟨G__law_any, m__law_any, k__law_any, b__law_any⟩ := C__law_any
  obtain ⟨G__law_row, m__law_row, k__law_row, b__law_row⟩ := C__law_row
  obtain ⟨G_row_of, m_row_of, k_row_of, b_row_of⟩ := C_row_of
  obtain ⟨G_count, m_count, k_count, b_count⟩ := C_count
  obtain ⟨G_Ratio, M_Ratio, m_Ratio, b_Ratio, bD_Ratio, d_Ratio⟩ := C_Ratio
  obtain ⟨G__law_whole, m__law_whole, k__law_whole, b__law_whole⟩ := C__law_whole
  refine F.ok sc_law (fun vs H Q E h => ?_) (fun cdv A outer s H vs Q E hr h => ?_)
  · obtain ⟨a, ns, rfl, _⟩ := h
    rfl
  · obtain ⟨a, ns, rfl, hS, hlen, k⟩ := h
    have big := sizeLine_eq
    have hu := hr.units
    refine ⟨_, (pss_cons (ps_set (i := 1) sc_law.nd rfl (Or.inl rfl) (pe_ix (ix_listK (K := K) rfl) (pe_lst (pa_cons pe_int (pa_cons pe_int (pa_cons pe_int (pa_cons (pe_op op_pow pe_int pe_int) pa_nil))))) (pe_op op_modP (pe_call G__law_cell_at (hr.mono (by decide)) rfl m__law_cell_at k__law_cell_at b__law_cell_at .nil pass0 (pa_cons (pv 0) (pa_cons pe_int pa_nil))) pe_int) (fun _ _ => rfl)))
      (pss_cons (ps_set (i := 2) sc_law.nd rfl (Or.inl rfl) (pe_call G__law_factors_by (hr.mono (by decide)) rfl m__law_factors_by k__law_factors_by b__law_factors_by .nil pass0 (pa_cons (pe_slice (sl_listK (K := K) rfl) (pv 0) (po_some pe_int) po_none) (pa_cons (pv 1) (pa_cons pe_int pa_nil)))))
      (pss_cons (ps_set (i := 3) sc_law.nd rfl (Or.inr rfl) (pe_op op_mulB (pe_op op_add pe_int (pe_op op_modP (pe_op op_fdivP (pe_call G__law_cell_at (hr.mono (by decide)) rfl m__law_cell_at k__law_cell_at b__law_cell_at .nil pass0 (pa_cons (pv 0) (pa_cons pe_int pa_nil))) pe_int) (pe_op op_pow pe_int pe_int))) (pe_op op_sub pe_int (pe_op op_mulB pe_int (pe_op op_modP (pe_call G__law_cell_at (hr.mono (by decide)) rfl m__law_cell_at k__law_cell_at b__law_cell_at .nil pass0 (pa_cons (pv 0) (pa_cons pe_int pa_nil))) pe_int)))))
      (pss_cons (ps_set (i := 4) sc_law.nd rfl (Or.inl rfl) (pe_call G__law_mul (hr.mono (by decide)) rfl m__law_mul k__law_mul b__law_mul .nil pass0 (pa_cons (pe_lst (pa_cons (pv 3) pa_nil)) (pa_cons (pe_call G__law_product (hr.mono (by decide)) rfl m__law_product k__law_product b__law_product .nil pass0 (pa_cons (pv 2) pa_nil)) pa_nil))))
      (pss_cons (ps_set (i := 5) sc_law.nd rfl (Or.inl rfl) (pe_call G__law_end (hr.mono (by decide)) rfl m__law_end k__law_end b__law_end .nil pass0 (pa_cons (pe_call G__law_cell_at (hr.mono (by decide)) rfl m__law_cell_at k__law_cell_at b__law_cell_at .nil pass0 (pa_cons (pv 0) (pa_cons pe_int pa_nil))) (pa_cons (pv 2) (pa_cons (pv 1) pa_nil)))))
      (pss_cons (ps_set (i := 6) sc_law.nd rfl (Or.inl rfl) (pe_call G__law_end (hr.mono (by decide)) rfl m__law_end k__law_end b__law_end .nil pass0 (pa_cons (pe_call G__law_cell_at (hr.mono (by decide)) rfl m__law_cell_at k__law_cell_at b__law_cell_at .nil pass0 (pa_cons (pv 0) (pa_cons pe_int pa_nil))) (pa_cons (pv 2) (pa_cons (pv 1) pa_nil)))))
      (pss_cons (ps_if (pt_cmpR op_eqI (pe_op op_mulB (pe_ix (ix_tupK (K := K) rfl) (pv 5) pe_int (fun _ _ => rfl)) (pe_ix (ix_tupK (K := K) rfl) (pv 6) pe_int (fun _ _ => rfl))) (pe_op op_mulB (pe_ix (ix_tupK (K := K) rfl) (pv 6) pe_int (fun _ _ => rfl)) (pe_ix (ix_tupK (K := K) rfl) (pv 5) pe_int (fun _ _ => rfl))) (nomark _))
        (pss_one (ps_set (i := 6) sc_law.nd rfl (Or.inl rfl) (pe_tup (pa_cons (pe_op op_add (pe_ix (ix_tupK (K := K) rfl) (pv 5) pe_int (fun _ _ => rfl)) (pe_ix (ix_tupK (K := K) rfl) (pv 5) pe_int (fun _ _ => rfl))) (pa_cons (pe_ix (ix_tupK (K := K) rfl) (pv 5) pe_int (fun _ _ => rfl)) pa_nil)))))
        pss_nil)
      (pss_cons (ps_if (pt_cmpR op_gt (pe_op op_mulB (pe_ix (ix_tupK (K := K) rfl) (pv 5) pe_int (fun _ _ => rfl)) (pe_ix (ix_tupK (K := K) rfl) (pv 6) pe_int (fun _ _ => rfl))) (pe_op op_mulB (pe_ix (ix_tupK (K := K) rfl) (pv 6) pe_int (fun _ _ => rfl)) (pe_ix (ix_tupK (K := K) rfl) (pv 5) pe_int (fun _ _ => rfl))) (nomark _))
        (pss_cons (ps_set (i := 7) sc_law.nd rfl (Or.inl rfl) (pv 5))
          (pss_cons (ps_set (i := 5) sc_law.nd rfl (Or.inl rfl) (pv 6))
          (pss_one (ps_set (i := 6) sc_law.nd rfl (Or.inl rfl) (pv 7)))))
        pss_nil)
      (pss_cons (ps_set (i := 8) sc_law.nd rfl (Or.inl rfl) (pe_call G__law_many (hr.mono (by decide)) rfl m__law_many k__law_many b__law_many .nil pass0 (pa_cons (pe_call G__law_roots_of (hr.mono (by decide)) rfl m__law_roots_of k__law_roots_of b__law_roots_of .nil pass0 (pa_cons (pv 2) pa_nil)) (pa_cons (pv 5) (pa_cons (pv 6) pa_nil)))))
      (pss_cons (ps_if (pt_cmpR op_eqI (pe_op op_modP (pe_op op_fdivP (pe_call G__law_cell_at (hr.mono (by decide)) rfl m__law_cell_at k__law_cell_at b__law_cell_at .nil pass0 (pa_cons (pv 0) (pa_cons pe_int pa_nil))) pe_int) pe_int) pe_int (nomark _))
        (pss_cons (ps_setComp (i := 4) sc_law.nd rfl (Or.inl rfl) (own := ["_law_one"]) (fr := ["_law_lead"]) (js := [3]) (by walk_at "comp_ok") rfl (pi_listK (K := K) rfl (pe_call G__law_any (hr.mono (by decide)) rfl m__law_any k__law_any b__law_any .nil pass0 (pa_cons (pe_call G__law_cell_at (hr.mono (by decide)) rfl m__law_cell_at k__law_cell_at b__law_cell_at .nil pass0 (pa_cons (pv 0) (pa_cons pe_int pa_nil))) pa_nil))) (fun _ _ _ _ => (pg_name (i := 0) (show List.Nodup (["_law_one", "_law_lead"] : List Str) from by decide +kernel) rfl (Or.inl rfl))) (fun _ _ _ _ => (pe_op op_mulB (pv 0) (pv 1))) (by rfl))
          (pss_cons (ps_if (pt_cmpR (op_eqLK (K := K) rfl hu) (pv 4) (pe_lst pa_nil) (nomark _))
            (pss_one (ps_set (i := 4) sc_law.nd rfl (Or.inl rfl) (pe_lst (pa_cons (pv 3) pa_nil))))
            pss_nil)
          (pss_one (ps_set (i := 8) sc_law.nd rfl (Or.inl rfl) (pe_call G__law_many (hr.mono (by decide)) rfl m__law_many k__law_many b__law_many .nil pass0 (pa_cons (pe_call G__law_row (hr.mono (by decide)) rfl m__law_row k__law_row b__law_row .nil pass0 (pa_cons (pv 4) pa_nil)) (pa_cons (pv 5) (pa_cons (pv 6) pa_nil))))))))
        pss_nil)
      (pss_cons (ps_set (i := 9) sc_law.nd rfl (Or.inl rfl) (pe_callTy (call_listK (K := K) rfl) (by rfl) T.list_ PyProof.Rows.boot_list (pa_cons (pv 4) pa_nil)))
      (pss_cons (ps_set (i := 10) sc_law.nd rfl (Or.inl rfl) (pe_call G_row_of (hr.mono (by decide)) rfl m_row_of k_row_of b_row_of .nil pass0 (pa_cons (pv 9) pa_nil)))
      (pss_cons (ps_set (i := 11) sc_law.nd rfl (Or.inl rfl) (pe_call G_count (hr.mono (by decide)) rfl m_count k_count b_count .nil pass0 (pa_cons (pv 10) (pa_cons (pe_make M_Ratio G_Ratio (hr.mono (by decide)) rfl m_Ratio b_Ratio .nil pass0 (pa_cons (pe_ix (ix_tupK (K := K) rfl) (pv 5) pe_int (fun _ _ => rfl)) (pa_cons (pe_ix (ix_tupK (K := K) rfl) (pv 5) pe_int (fun _ _ => rfl)) pa_nil))) (pa_cons (pe_make M_Ratio G_Ratio (hr.mono (by decide)) rfl m_Ratio b_Ratio .nil pass0 (pa_cons (pe_ix (ix_tupK (K := K) rfl) (pv 6) pe_int (fun _ _ => rfl)) (pa_cons (pe_ix (ix_tupK (K := K) rfl) (pv 6) pe_int (fun _ _ => rfl)) pa_nil))) pa_nil)))))
      (pss_cons (ps_set (i := 12) sc_law.nd rfl (Or.inl rfl) (pe_call G_count (hr.mono (by decide)) rfl m_count k_count b_count .nil pass0 (pa_cons (pv 10) (pa_cons (pe_make M_Ratio G_Ratio (hr.mono (by decide)) rfl m_Ratio b_Ratio .nil pass0 (pa_cons (pe_ix (ix_tupK (K := K) rfl) (pv 6) pe_int (fun _ _ => rfl)) (pa_cons (pe_ix (ix_tupK (K := K) rfl) (pv 6) pe_int (fun _ _ => rfl)) pa_nil))) (pa_cons (pe_make M_Ratio G_Ratio (hr.mono (by decide)) rfl m_Ratio b_Ratio .nil pass0 (pa_cons (pe_ix (ix_tupK (K := K) rfl) (pv 5) pe_int (fun _ _ => rfl)) (pa_cons (pe_ix (ix_tupK (K := K) rfl) (pv 5) pe_int (fun _ _ => rfl)) pa_nil))) pa_nil)))))
      (pss_cons (ps_if (PW.pt (pw_or (pt_not (pt_val (pe_call G__law_whole (hr.mono (by decide)) rfl m__law_whole k__law_whole b__law_whole .nil pass0 (pa_cons (pv 11) pa_nil)))) (pw_or (pt_not (pt_val (pe_call G__law_whole (hr.mono (by decide)) rfl m__law_whole k__law_whole b__law_whole .nil pass0 (pa_cons (pv 12) pa_nil)))) (pw_or1 (pt_cmpR (op_neLK (K := K) rfl hu) (pv 9) (pv 4) (nomark _))))))
        (pss_one (ps_ret pe_bl))
        pss_nil)
      (pss_one (ps_ret (pe_and (pe_cmpR op_eqI (pv 11) (pv 8) (nomark _)) (pe_one (pe_cmpR op_eqI (pv 12) (pe_op op_sub pe_int (pv 8)) (nomark _))))))))))))))))))))), ?_⟩
    -- how far
    refine rd_sa ⟨_, _, rfl, rfl, ⟨by decide, by decide, by decide⟩, by show 4 ≤ sizeLine; decide, fun pw hpw => ?_⟩
    have s0 : Same H (upd H pw (.lst [V.int 11, V.int 11, V.int 11, V.int (10 ^ 8)])) := Same.upd_new hpw
    obtain ⟨vz, hvz, evz⟩ := atI_mod (xs := [V.int 11, V.int 11, V.int 11, V.int (10 ^ 8)]) (n := 4) rfl (by decide) (ns.getD 0 0)
    obtain ⟨mo, rfl, hmo0, hmo1⟩ : ∃ z : Int, vz = .int z ∧ 0 ≤ z ∧ z ≤ 100000000 := by
      simp only [List.mem_cons, List.not_mem_nil, or_false] at hvz
      rcases hvz with rfl | rfl | rfl | rfl
      · exact ⟨_, rfl, by decide, by decide⟩
      · exact ⟨_, rfl, by decide, by decide⟩
      · exact ⟨_, rfl, by decide, by decide⟩
      · exact ⟨_, rfl, by decide, by decide⟩
    refine ⟨_, rfl, a, ns, 0, rfl, s0.seq hS, _, _, rfl, rfl, (by show (0 : Int) < 4; decide), pw, _, _, _, rfl, rfl, SqL.of upd_same, evz, ?_⟩
    show tSeq _ _ _ _ _
    refine rd_gen (fun σ' H' => σ' = [some (.ref a), some (.int mo), none, none, none, none, none, none, none, none, none, none, none] ∧ Same H H') ⟨rfl, s0⟩ ?_
    clear s0 hpw evz
    rintro σ' H0 ⟨rfl, s0⟩
    -- factors
    refine rd_sa ⟨_, rfl, 5, rfl, a, _, rfl, s0.seq hS, fun p5 hp5 => ?_⟩
    rw [cutV_map]
    have t5 := s0.then_new (o := .lst ((cutL ns (some 5) none).map V.int)) hp5
    have h55 : upd H0 p5 (.lst ((cutL ns (some 5) none).map V.int)) p5 = some (.lst ((cutL ns (some 5) none).map V.int)) := upd_same
    generalize upd H0 p5 (.lst ((cutL ns (some 5) none).map V.int)) = H5 at t5 h55 ⊢
    have hcs : (cutL ns (some 5) none).length ≤ ns.length := cutL_len ns _ _
    generalize cutL ns (some 5) none = cs at h55 hcs ⊢
    refine ⟨_, rfl, p5, cs, mo, 6, rfl, hmo0, hmo1, SqL.of h55, by omega, fun pg H6 qs fs s6 hpg eg hT hF hnd hdg => ?_⟩
    have t6 := t5.trans s6
    have hfl : fs.length ≤ 6 := by
      have := degs_ge (fs.map shpQ) fun x hx => by
        obtain ⟨y, hy, rfl⟩ := List.mem_map.mp hx
        exact (shp_ok (hF y hy)).2.2.2.1
      rw [List.length_map] at this
      omega
    -- the number ahead
    obtain ⟨c1, c2⟩ := mod3 (x := ns.getD 1 0 / 2) (m := 10 ^ 20) (by decide +kernel)
    obtain ⟨c3, c4⟩ := mod3 (x := ns.getD 1 0) (m := 2) (by decide)
    have b20 : Bits 70 ((10 : Int) ^ 20) := by show ((10 : Int) ^ 20).natAbs < 2 ^ 70; decide +kernel
    have bt : Bits 2 (ns.getD 1 0 % 2) := by show (ns.getD 1 0 % 2).natAbs < 4; omega
    have bs : Bits 4 (1 - 2 * (ns.getD 1 0 % 2)) := by show (1 - 2 * (ns.getD 1 0 % 2)).natAbs < 16; omega
    have bl : Bits 71 (1 + ns.getD 1 0 / 2 % 10 ^ 20) := Bits.add (k := 70) (Bits.mono (j := 1) (by show (1 : Int).natAbs < 2 ^ 1; decide) (by decide)) (bits_le c1 (Int.le_of_lt c2) b20)
    refine rd_sa ⟨_, rfl, a, ns, 1, rfl, t6.seq hS, _, _, rfl, rfl, ⟨by decide, two9⟩, _, _, rfl, rfl, ⟨by decide, by decide, by decide⟩, _, _, rfl, rfl, (by show (0 : Int) < 10 ^ 20; decide +kernel), _, _, rfl, rfl, _, rfl, a, ns, 1, rfl, t6.seq hS, _, _, rfl, rfl, (by show (0 : Int) < 2; decide), _, _, rfl, rfl, ⟨two9.mono (by decide), bt.mono (by decide)⟩, _, _, rfl, rfl, _, _, rfl, rfl, ⟨bl.mono (by decide), bs.mono (by decide)⟩, ?_⟩
    show tSeq _ _ _ _ _
    refine rd_gen (fun σ' H' => ∃ last : Int, σ' = [some (.ref a), some (.int mo), some (.ref pg), some (.int last), none, none, none, none, none, none, none, none, none] ∧ H6 = H' ∧ last ≠ 0 ∧ Bits 75 last) ⟨_, rfl, rfl, Int.mul_ne_zero ?_ ?_, bl.mul bs⟩ ?_
    · show 1 + ns.getD 1 0 / 2 % 10 ^ 20 ≠ 0
      omega
    · show 1 - 2 * (ns.getD 1 0 % 2) ≠ 0
      omega
    clear bl bs bt c1 c2 c3 c4
    rintro σ' H' ⟨last, rfl, rfl, hl0, bl⟩
    -- the polynomial
    refine rd_sa ⟨_, rfl, by show 1 ≤ sizeLine; decide, fun p7 hp7 => ?_⟩
    have s7 : Same H6 (upd H6 p7 (.lst [V.int last])) := Same.upd_new hp7
    have e7 : upd H6 p7 (.lst [V.int last]) p7 = some (.lst (([last] : List Int).map V.int)) := upd_same
    generalize upd H6 p7 (.lst [V.int last]) = H7 at s7 e7 ⊢
    refine ⟨_, rfl, pg, qs, fs, rfl, s7 _ _ eg, hT.same s7, hF, by omega, fun p8 H8 s8 hp8 e8 => ?_⟩
    obtain ⟨b1, b2⟩ := pro_bits hF fs.length (Nat.le_refl _) (by omega)
    rw [List.take_length] at b1 b2
    have hss : ∀ s ∈ fs.map shpQ, s ≠ [] ∧ Tr s := fun s h => by
      obtain ⟨x, hx, rfl⟩ := List.mem_map.mp h
      obtain ⟨a, b, _⟩ := shp_ok (hF x hx)
      exact ⟨b, a⟩
    obtain ⟨p1, p2, p3⟩ := prodL_ok (fs.map shpQ) [1] (by simp) ((tr_snoc (r := [])).mpr (by decide)) hss
    have bl1 : AllB 75 [last] := fun x hx => by rw [List.mem_singleton.mp hx]; exact bl
    refine ⟨p7, p8, [last], prodL [1] (fs.map shpQ), rfl, s8 _ _ e7, e8, by show 1 ≤ 1000000; decide, by omega, bl1.mono (by decide), b1.mono (by omega), fun pk H9 s9 hpk ek => ?_⟩
    have u9 := s7.trans (s8.trans s9)
    have t9 := t6.trans u9
    have hkT : Tr (mulL [last] (prodL [1] (fs.map shpQ))) := tr_mulL ((tr_snoc (r := [])).mpr hl0) p2
    have hkn : mulL [last] (prodL [1] (fs.map shpQ)) ≠ [] := mulL_ne (by simp) p1
    have hkl : (mulL [last] (prodL [1] (fs.map shpQ))).length ≤ 7 := by
      have h1 := sl_degs (fs.map shpQ) fun s hs => (hss s hs).1
      rw [mulL_one_len p1]
      have h2 : ([1] : List Int).length = 1 := rfl
      omega
    have bk : AllB 530 (mulL [last] (prodL [1] (fs.map shpQ))) := mulL_bits bl1 b1 (by show 75 + (2 + 75 * fs.length) + 1 ≤ 530; omega)
    generalize hkp0 : mulL [last] (prodL [1] (fs.map shpQ)) = kp0 at hkT hkn hkl bk ek
    -- two fractions
    refine rd_sa ⟨_, rfl, a, ns, 2, rfl, t9.seq hS, _, rfl, _, rfl, _, mo, pg, qs, fs, rfl, hmo0, hmo1, u9 _ _ eg, hT.same u9, hF, by omega, fun pl HA x y sA hpl el x1 x2 y1 y2 => ?_⟩
    have u10 := u9.trans sA
    refine rd_sa ⟨_, rfl, a, ns, 3, rfl, (t6.trans u10).seq hS, _, rfl, _, rfl, _, mo, pg, qs, fs, rfl, hmo0, hmo1, u10 _ _ eg, hT.same u10, hF, by omega, fun ph HB x' y' sB hph eh x1' x2' y1' y2' => ?_⟩
    have u11 := u10.trans sB
    have el2 := sB _ _ el
    have ek2 := (sA.trans sB) _ _ ek
    have bx : Bits 40 x := by show x.natAbs < 1099511627776; omega
    have by' : Bits 40 y := by show y.natAbs < 1099511627776; omega
    have bx' : Bits 40 x' := by show x'.natAbs < 1099511627776; omega
    have byy : Bits 40 y' := by show y'.natAbs < 1099511627776; omega
    show tSeq _ _ _ _ _
    refine rd_cutIf (fun σ' H' => ∃ (ph : Addr) (x' y' : Int), σ' = [some (.ref a), some (.int mo), some (.ref pg), some (.int last), some (.ref pk), some (.ref pl), some (.ref ph), none, none, none, none, none, none] ∧ Same HB H' ∧ H' ph = some (.tup ([x', y'].map V.int)) ∧ 0 < y' ∧ Bits 42 x' ∧ Bits 42 y' ∧ x * y' ≠ x' * y) ?_ ?_
    case refine_2 =>
      intro rest
      refine ⟨_, rfl, pl, _, _, _, rfl, rfl, SqT.of el2, rfl, _, rfl, ph, _, _, _, rfl, rfl, SqT.of eh, rfl, _, _, rfl, rfl, ⟨bx.mono (by decide), byy.mono (by decide)⟩, _, rfl, ph, _, _, _, rfl, rfl, SqT.of eh, rfl, _, rfl, pl, _, _, _, rfl, rfl, SqT.of el2, rfl, _, _, rfl, rfl, ⟨bx'.mono (by decide), by'.mono (by decide)⟩, _, _, rfl, rfl, _, rfl, rd_dec (fun heq => ?_) (fun hne => ?_)⟩
      · refine rd_asg ⟨_, rfl, pl, _, _, _, rfl, rfl, SqT.of el2, rfl, _, rfl, pl, _, _, _, rfl, rfl, SqT.of el2, rfl, _, _, rfl, rfl, _, rfl, pl, _, _, _, rfl, rfl, SqT.of el2, rfl, by show 2 ≤ sizeLine; decide, fun pn hpn => ?_⟩
        refine rest _ _ ⟨pn, x + y, y, rfl, Same.upd_new hpn, upd_same, by omega, Bits.mono (bx.add by') (by decide), by'.mono (by decide), ?_⟩
        intro z
        have e1 : (x + y) * y = x * y + y * y := Int.add_mul _ _ _
        have e2 : 0 < y * y := Int.mul_pos (by omega) (by omega)
        omega
      · exact rest _ _ ⟨ph, x', y', rfl, Same.refl _, eh, by omega, bx'.mono (by decide), byy.mono (by decide), hne⟩
    clear eh hph sB bx' byy x1' x2' y1' y2' ph x' y'
    rintro σ' HC ⟨ph, x', y', rfl, sC, eh, y2', bx', byy, hne⟩
    have el3 := sC _ _ el2
    have ek3 := sC _ _ ek2
    have u12 := u11.trans sC
    refine rd_cutIf (fun σ' H' => ∃ (pl ph : Addr) (x y x' y' : Int) (z7 : Option V), σ' = [some (.ref a), some (.int mo), some (.ref pg), some (.int last), some (.ref pk), some (.ref pl), some (.ref ph), z7, none, none, none, none, none] ∧ HC = H' ∧ H' pl = some (.tup ([x, y].map V.int)) ∧ H' ph = some (.tup ([x', y'].map V.int)) ∧ 0 < y ∧ 0 < y' ∧ Bits 42 x ∧ Bits 42 y ∧ Bits 42 x' ∧ Bits 42 y' ∧ x * y' < x' * y) ?_ ?_
    case refine_2 =>
      intro rest
      refine ⟨_, rfl, pl, _, _, _, rfl, rfl, SqT.of el3, rfl, _, rfl, ph, _, _, _, rfl, rfl, SqT.of eh, rfl, _, _, rfl, rfl, ⟨bx.mono (by decide), byy.mono (by decide)⟩, _, rfl, ph, _, _, _, rfl, rfl, SqT.of eh, rfl, _, rfl, pl, _, _, _, rfl, rfl, SqT.of el3, rfl, _, _, rfl, rfl, ⟨bx'.mono (by decide), by'.mono (by decide)⟩, _, _, rfl, rfl, _, rfl, rd_dec (fun hgt => ?_) (fun hle => ?_)⟩
      · refine rd_sa ⟨_, rfl, ?_⟩
        refine rd_sa ⟨_, rfl, ?_⟩
        refine rd_asg ⟨_, rfl, rest _ _ ⟨ph, pl, x', y', x, y, some (.ref pl), rfl, rfl, eh, el3, y2', by omega, bx', byy, bx.mono (by decide), by'.mono (by decide), hgt⟩⟩
      · have hle' : ¬ x * y' > x' * y := hle
        exact rest _ _ ⟨pl, ph, x, y, x', y', none, rfl, rfl, el3, eh, by omega, y2', bx.mono (by decide), by'.mono (by decide), bx', byy, by omega⟩
    clear eh el3 el2 el hne bx by' bx' byy x1 x2 y1 y2 y2' sC hpl pl ph x y x' y'
    rintro σ' H' ⟨pl, ph, x, y, x', y', z7, rfl, rfl, el, eh, hy, hy', bx, by', bx', byy, hlt⟩
    -- what is due
    refine rd_sa ⟨_, rfl, pg, qs, fs, rfl, u12 _ _ eg, hT.same u12, hF, by omega, fun pr HD ws sD hpr er hW => ?_⟩
    have el4 := sD _ _ el
    have eh4 := sD _ _ eh
    have ek4 := sD _ _ ek3
    have u13 := u12.trans sD
    have hsB := spots_B hF
    refine ⟨_, rfl, _, rfl, pr, pl, ph, ws, x, y, x', y', rfl, el4, eh4, er, bx.mono (by decide), by'.mono (by decide), bx'.mono (by decide), byy.mono (by decide), .inl ⟨spots fs, hW, hsB, ?_⟩⟩
    have hdue0 := due_spots hF hnd hl0 hkp0.symm hkl hy hy' hlt
    show tSeq _ _ _ _ _
    refine rd_cutIf (fun σ' H' => ∃ (pk : Addr) (kp : List Int) (d : Int), σ' = [some (.ref a), some (.int mo), some (.ref pg), some (.int last), some (.ref pk), some (.ref pl), some (.ref ph), z7, some (.int d), none, none, none, none] ∧ Same HD H' ∧ H' pk = some (.lst (kp.map V.int)) ∧ Tr kp ∧ kp ≠ [] ∧ kp.length ≤ 7 ∧ AllB 530 kp ∧ Due kp x y x' y' d) ?_ ?_
    case refine_2 =>
      intro rest
      refine ⟨_, rfl, a, ns, 0, rfl, (t6.trans u13).seq hS, _, _, rfl, rfl, ⟨by show (0 : Int) < 4; decide, small9 (by decide) (by decide)⟩, _, _, rfl, rfl, (by show (0 : Int) < 2; decide), _, _, rfl, rfl, _, rfl, rd_dec (fun _ => ?_) (fun _ => rest _ _ ⟨pk, kp0, _, rfl, Same.refl _, ek4, hkT, hkn, hkl, bk, hdue0⟩)⟩
      refine rd_seq ⟨_, rfl, a, ns, 4, rfl, (t6.trans u13).seq hS, _, rfl, fun r tr rl br pr2 HE sE hpr2 er2 => ?_⟩
      refine ⟨pr2, rfl, ⟨_, SqL.of er2⟩, comp_list (K := K) (a := pr2) (xs := r.map V.int) (fun j ms σ' H' => ∃ z0 : Option V, σ' = [z0, some (.int last)] ∧ ms = (scL last (r.take j)).map V.int ∧ HE = H') (by rw [List.length_map]; omega) ⟨none, rfl, rfl, rfl⟩ ?_ ?_ ?_⟩
      · rintro j ms σ' H' _ ⟨z0, rfl, rfl, rfl⟩
        exact ⟨SqL.of er2, by rw [List.length_map, length_scL, List.length_take]; exact Nat.min_le_left _ _⟩
      · rintro j v ms σ' H' hj ⟨z0, rfl, rfl, rfl⟩
        obtain ⟨c, _, rfl, hmc, et⟩ := get_int hj
        refine ⟨_, rfl, _, rfl, _, _, rfl, rfl, ⟨(br c hmc).mono (by decide), bl.mono (by decide)⟩, _, rfl, ?_, rfl⟩
        rw [et]
        unfold scL
        rw [List.map_append, List.map_append]
        show _ ++ [V.int (c * _)] = _ ++ [V.int (_ * c)]
        rw [Int.mul_comm]
      rintro ms σ' H' p2 ⟨z0, rfl, rfl, rfl⟩ hp2
      rw [List.length_map, List.take_length]
      have t2 := Same.upd_new (o := .lst ((scL last r).map V.int)) hp2
      have e2 : upd HE p2 (.lst ((scL last r).map V.int)) p2 = some (.lst ((scL last r).map V.int)) := upd_same
      generalize upd HE p2 (.lst ((scL last r).map V.int)) = HF at t2 e2 ⊢
      have v2 := sE.trans t2
      refine rd_name ?_
      dsimp only
      refine rd_cutIf (fun σ' H' => ∃ (pk : Addr) (kp : List Int), σ' = [some (.ref a), some (.int mo), some (.ref pg), some (.int last), some (.ref pk), some (.ref pl), some (.ref ph), z7, some (.int (cntS (spots fs) x y x' y')), none, none, none, none] ∧ Same HD H' ∧ H' pk = some (.lst (kp.map V.int)) ∧ Tr kp ∧ kp ≠ [] ∧ kp.length ≤ 7 ∧ AllB 530 kp) ?_ ?_
      case refine_2 =>
        intro rest2
        refine ⟨_, rfl, Nat.zero_le _, fun p3 hp3 => ?_⟩
        have s3 : Same HF (upd HF p3 (.lst (([] : List Int).map V.int))) := Same.upd_new hp3
        refine ⟨p2, p3, scL last r, [], rfl, rfl, SqL.of (s3 _ _ e2), SqL.of upd_same, _, rfl, rd_dec (fun _ => ?_) (fun hne => ?_)⟩
        · refine rd_asg ⟨_, rfl, by show 1 ≤ sizeLine; decide, fun p4 hp4 => ?_⟩
          exact rest2 _ _ ⟨p4, [last], rfl, (v2.trans s3).then_new hp4, upd_same, (tr_snoc (r := [])).mpr hl0, by simp, by show 1 ≤ 7; decide, bl1.mono (by decide)⟩
        · refine rest2 _ _ ⟨p2, scL last r, rfl, v2.trans s3, s3 _ _ e2, ?_, hne, by rw [length_scL]; omega, ?_⟩
          · intro n hn
            rw [length_scL] at hn
            rw [cf_scL]
            exact Int.mul_ne_zero hl0 (tr n hn)
          · refine AllB.of_cf fun n => ?_
            rw [cf_scL]
            exact (bl.mul (br.cf n)).mono (by decide)
      rintro σ' HG ⟨pk2, kp, rfl, sG, ekG, tk, nk, kl, bkp⟩
      refine rd_asg ⟨_, rfl, pk2, kp, rfl, ekG, tk, nk, kl, bkp, fun lr ps HH sH hlr elr hRr => ?_⟩
      have v3 := sG.trans sH
      obtain ⟨_, _, hok⟩ := row_all tk bkp kl
      have hall : ∀ xs ∈ kp :: rowS 8 (shrL (slopeL kp)) (nxt (shrL kp) (shrL (slopeL kp))), xs.length ≤ 20 ∧ AllB 95000 xs := fun xs hx => by
        rcases List.mem_cons.mp hx with rfl | hx
        · exact ⟨by omega, bkp.mono (by decide)⟩
        · obtain ⟨g0, tF, nF, ecF⟩ := shr_pos tk nk
          have hm : xs ∈ rowS 9 (shrL kp) (shrL (slopeL kp)) := by
            have : rowS 9 (shrL kp) (shrL (slopeL kp)) = shrL kp :: rowS 8 (shrL (slopeL kp)) (nxt (shrL kp) (shrL (slopeL kp))) := by show (if shrL kp = [] then _ else _) = _; rw [if_neg nF]
            rw [this]; exact List.mem_cons_of_mem _ hx
          obtain ⟨_, o2, o3⟩ := hok xs hm
          exact ⟨by omega, o2.mono (by decide)⟩
      refine ⟨_, rfl, _, rfl, lr, pl, ph, ps, x, y, x', y', rfl, v3 _ _ el4, v3 _ _ eh4, elr, bx.mono (by decide), by'.mono (by decide), bx'.mono (by decide), byy.mono (by decide), .inr ⟨_, hRr, by simp, hall, ?_⟩⟩
      exact rest _ _ ⟨pk2, kp, _, rfl, v3, sH _ _ ekG, tk, nk, kl, bkp, due_row tk nk hy hy'⟩
    clear hdue0 ek4 ek3 ek2 ek hkT hkn hkl bk hkp0 hW er
    rintro σ' HE ⟨pk, kp, d, rfl, sE, ek, tk, nk, kl, bkp, hdue⟩
    have el5 := sE _ _ el4
    have eh5 := sE _ _ eh4
    refine rd_sa ⟨_, rfl, pk, _, rfl, .inl (SqL.of ek), fun pq hpq => ?_⟩
    have s14 : Same HE (upd HE pq (.lst (kp.map V.int))) := Same.upd_new hpq
    have e14 : upd HE pq (.lst (kp.map V.int)) pq = some (.lst (kp.map V.int)) := upd_same
    generalize upd HE pq (.lst (kp.map V.int)) = HF at s14 e14 ⊢
    obtain ⟨hrun, _, hok⟩ := row_all tk bkp kl
    refine rd_sa ⟨_, rfl, pq, kp, 9, rfl, e14, tk, bkp.mono (by decide), by omega, by decide, hrun, fun lr ps HG sG hlr hps elr hRr => ?_⟩
    have v15 := s14.trans sG
    have el6 := v15 _ _ el5
    have eh6 := v15 _ _ eh5
    have hall : ∀ xs ∈ rowS 9 (shrL kp) (shrL (slopeL kp)), xs.length ≤ 20 ∧ AllB 95000 xs := fun xs hx => by
      obtain ⟨_, o2, o3⟩ := hok xs hx
      exact ⟨by omega, o2.mono (by decide)⟩
    have hrl := rowS_len 9 (shrL kp) (shrL (slopeL kp))
    have yn : y ≠ 0 := by omega
    have yn' : y' ≠ 0 := by omega
    have rt1 := rt_bits yn bx
    have rb1 := rb_bits (t := x) yn by'
    have rt2 := rt_bits yn' bx'
    have rb2 := rb_bits (t := x') yn' byy
    -- both counts
    refine rd_sa ⟨_, rfl, _, rfl, pl, _, _, _, rfl, rfl, SqT.of el6, rfl, _, rfl, pl, _, _, _, rfl, rfl, SqT.of el6, rfl, make_R (t := x) (b := y) yn (by'.mono (by decide)) fun r1 HH sH hr1 hR1 => ?_⟩
    have eh7 := sH _ _ eh6
    have el7 := sH _ _ el6
    refine ⟨_, rfl, ph, _, _, _, rfl, rfl, SqT.of eh7, rfl, _, rfl, ph, _, _, _, rfl, rfl, SqT.of eh7, rfl, make_R (t := x') (b := y') yn' (byy.mono (by decide)) fun r2 HI sI hr2 hR2 => ?_⟩
    have v16 := sH.trans sI
    refine ⟨lr, r1, r2, ps, _, _, _, _, _, rfl, v16 _ _ elr, hRr.same v16, hR1.same sI, hR2, rt1.mono (by decide), rb1.mono (by decide), rt2.mono (by decide), rb2.mono (by decide), hall, by omega, fun HJ sJ => ?_⟩
    have v17 := v16.trans sJ
    have el8 := v17 _ _ el6
    have eh8 := v17 _ _ eh6
    refine rd_sa ⟨_, rfl, _, rfl, ph, _, _, _, rfl, rfl, SqT.of eh8, rfl, _, rfl, ph, _, _, _, rfl, rfl, SqT.of eh8, rfl, make_R (t := x') (b := y') yn' (byy.mono (by decide)) fun r3 HK sK hr3 hR3 => ?_⟩
    have el9 := sK _ _ el8
    refine ⟨_, rfl, pl, _, _, _, rfl, rfl, SqT.of el9, rfl, _, rfl, pl, _, _, _, rfl, rfl, SqT.of el9, rfl, make_R (t := x) (b := y) yn (by'.mono (by decide)) fun r4 HL sL hr4 hR4 => ?_⟩
    have v18 := v17.trans (sK.trans sL)
    refine ⟨lr, r3, r4, ps, _, _, _, _, _, rfl, v18 _ _ elr, hRr.same v18, hR3.same sL, hR4, rt2.mono (by decide), rb2.mono (by decide), rt1.mono (by decide), rb1.mono (by decide), hall, by omega, fun HM sM => ?_⟩
    have v19 := (sG.trans (v18.trans sM))
    rw [sgs_red hy, sgs_red hy']
    unfold Due at hdue
    have hback : (chS (lsg x' y' (rowS 9 (shrL kp) (shrL (slopeL kp))))).1 - (chS (lsg x y (rowS 9 (shrL kp) (shrL (slopeL kp))))).1 = 0 - d := by omega
    rw [hdue, hback]
    show tSeq _ _ _ _ _
    have ekM := (s14.trans v19) _ _ ek
    have eqM := v19 _ _ e14
    refine rd_sr (rd_or (rd_not ⟨_, rfl, _, rfl, _, rfl, rd_false ?_⟩))
    refine rd_or (rd_not ⟨_, rfl, _, rfl, _, rfl, rd_false ?_⟩)
    refine ⟨_, rfl, _, rfl, pq, pk, kp, kp, rfl, rfl, SqL.of eqM, SqL.of ekM, _, rfl, rd_ndec (fun h => absurd rfl h) (fun _ => ?_)⟩
    refine rd_ret (rd_andV ⟨_, rfl, _, rfl, _, _, rfl, rfl, _, rfl, ?_⟩)
    rw [decide_eq_true (show d = d from rfl)]
    refine rd_true ⟨_, rfl, _, rfl, _, _, rfl, rfl, _, _, rfl, rfl, ?_⟩
    exact rd_eqT rfl (k _)
--SPLIT
end
theorem all_mk {l : PySem.W.OpenLaw} {w : World} {K : PySem.W.Frag} {h : Heap} {mg : Str → Option Value} {fa CC1 f1 f2 f3 f4 dt4 f5 f6 f7 f8 f9 f10 f11 f12 f13 f14 f15 f16 f17 f18 f19 f20 f21 f22 f23 f24 f25 f26 f27 f28 f29 f30 f31 f32 f33 f34 f35 f36 f37 f38 f39 f40 f41 f42 f43 f44 : Addr} (X : K.In h) (G : h.Ns mainGlobals mg) (hfa : mg "law" = some (.ref fa))
    {od1 an1 od2 an2 od3 an3 od4 an4 odt4 od5 an5 od6 an6 od7 an7 od8 an8 od9 an9 od10 an10 od11 an11 od12 an12 od13 an13 od14 an14 od15 an15 od16 an16 od17 an17 od18 an18 od19 an19 od20 an20 od21 an21 od22 an22 od23 an23 od24 an24 od25 an25 od26 an26 od27 an27 od28 an28 od29 an29 od30 an30 od31 an31 od32 an32 od33 an33 od34 an34 od35 an35 od36 an36 od37 an37 od38 an38 od39 an39 od40 an40 od41 an41 od42 an42 od43 an43 od44 an44 : Option Addr} {sl1 sl2 sl3 sl4 slt4 sl5 sl6 sl7 sl8 sl9 sl10 sl11 sl12 sl13 sl14 sl15 sl16 sl17 sl18 sl19 sl20 sl21 sl22 sl23 sl24 sl25 sl26 sl27 sl28 sl29 sl30 sl31 sl32 sl33 sl34 sl35 sl36 sl37 sl38 sl39 sl40 sl41 sl42 sl43 sl44 : Array (Option Value)} {oc1 kV1 dc1 pm1 cd1 ct1 oc2 kV2 dc2 pm2 cd2 ct2 oc3 kV3 dc3 pm3 cd3 ct3 oc4 kV4 dc4 pm4 cd4 ct4 oct4 oc5 kV5 dc5 pm5 cd5 ct5 oc6 kV6 dc6 pm6 cd6 ct6 oc7 kV7 dc7 pm7 cd7 ct7 oc8 kV8 dc8 pm8 cd8 ct8 oc9 kV9 dc9 pm9 cd9 ct9 oc10 kV10 dc10 pm10 cd10 ct10 oc11 kV11 dc11 pm11 cd11 ct11 oc12 kV12 dc12 pm12 cd12 ct12 oc13 kV13 dc13 pm13 cd13 ct13 oc14 kV14 dc14 pm14 cd14 ct14 oc15 kV15 dc15 pm15 cd15 ct15 oc16 kV16 dc16 pm16 cd16 ct16 oc17 kV17 dc17 pm17 cd17 ct17 oc18 kV18 dc18 pm18 cd18 ct18 oc19 kV19 dc19 pm19 cd19 ct19 oc20 kV20 dc20 pm20 cd20 ct20 oc21 kV21 dc21 pm21 cd21 ct21 oc22 kV22 dc22 pm22 cd22 ct22 oc23 kV23 dc23 pm23 cd23 ct23 oc24 kV24 dc24 pm24 cd24 ct24 oc25 kV25 dc25 pm25 cd25 ct25 oc26 kV26 dc26 pm26 cd26 ct26 oc27 kV27 dc27 pm27 cd27 ct27 oc28 kV28 dc28 pm28 cd28 ct28 oc29 kV29 dc29 pm29 cd29 ct29 oc30 kV30 dc30 pm30 cd30 ct30 oc31 kV31 dc31 pm31 cd31 ct31 oc32 kV32 dc32 pm32 cd32 ct32 oc33 kV33 dc33 pm33 cd33 ct33 oc34 kV34 dc34 pm34 cd34 ct34 oc35 kV35 dc35 pm35 cd35 ct35 oc36 kV36 dc36 pm36 cd36 ct36 oc37 kV37 dc37 pm37 cd37 ct37 oc38 kV38 dc38 pm38 cd38 ct38 oc39 kV39 dc39 pm39 cd39 ct39 oc40 kV40 dc40 pm40 cd40 ct40 oc41 kV41 dc41 pm41 cd41 ct41 oc42 kV42 dc42 pm42 cd42 ct42 oc43 kV43 dc43 pm43 cd43 ct43 oc44 kV44 dc44 pm44 cd44 ct44 : Value} {nt4 : Nat} {tk4_0 : Tok}
    (aC1 : PySem.W.nsIn K mainGlobals "Ratio" = some (some (.ref CC1)))
    (pg1 : PySem.W.plainGet K CC1 Str.empty = true)
    (hd1 : PySem.W.hasDictIn K CC1 = true)
    (po1 : PySem.W.plainOver K CC1 = true)
    (sa1 : PySem.W.findIn K (.ref CC1) "__setattr__" = some (some (.builtin "object.__setattr__")))
    (mk1 : PySem.W.makesIn K CC1 = true)
    (kc1 : PySem.W.keepIn K (.ref CC1) = true)
    (n1_top : PySem.W.findIn K (.ref CC1) "top" = some none)
    (n1_bottom : PySem.W.findIn K (.ref CC1) "bottom" = some none)
    (ha1 : PySem.W.findIn K (.ref CC1) "__class__" = some (some (.builtin "object.__class__")))
    (hn1 : PySem.W.specialIn K (.builtin "object.__class__") "__get__" = some (some (.builtin "getset_descriptor.__get__")))
    (ht1 : PySem.W.takesIn K (.builtin "object.__class__") = some true)
    (hm1 : PySem.W.mroIn K CC1 (.type "object") = some true)
    (a1 : PySem.W.nsIn K mainGlobals "shared_by_two" = some (some (.ref f1)))
    (l1 : K.lookup f1 = some ⟨oc1, od1, .func (PySem.W.fnOf "shared_by_two" "shared_by_two" (defArgs s_shared_by_two) (defBody s_shared_by_two) (defScope s_shared_by_two) .none kV1 dc1 pm1 an1 cd1 ct1), sl1⟩) (c1 : PySem.W.codeIn K cd1 "shared_by_two" = true) (k1 : PySem.W.keepIn K (.ref f1) = true)
    (a2 : PySem.W.nsIn K mainGlobals "shared" = some (some (.ref f2)))
    (l2 : K.lookup f2 = some ⟨oc2, od2, .func (PySem.W.fnOf "shared" "shared" (defArgs s_shared) (defBody s_shared) (defScope s_shared) .none kV2 dc2 pm2 an2 cd2 ct2), sl2⟩) (c2 : PySem.W.codeIn K cd2 "shared" = true) (k2 : PySem.W.keepIn K (.ref f2) = true)
    (a3 : PySem.W.nsIn K mainGlobals "whole_sign" = some (some (.ref f3)))
    (l3 : K.lookup f3 = some ⟨oc3, od3, .func (PySem.W.fnOf "whole_sign" "whole_sign" (defArgs s_whole_sign) (defBody s_whole_sign) (defScope s_whole_sign) .none kV3 dc3 pm3 an3 cd3 ct3), sl3⟩) (c3 : PySem.W.codeIn K cd3 "whole_sign" = true) (k3 : PySem.W.keepIn K (.ref f3) = true)
    (a4 : PySem.W.findIn K (.ref CC1) "__init__" = some (some (.ref f4))) (i4 : PySem.W.isFn K (.ref f4) = true)
    (l4 : K.lookup f4 = some ⟨oc4, od4, .func (PySem.W.fnOf "__init__" "Ratio.__init__" (defArgs s_Ratio___init__) (defBody s_Ratio___init__) (defScope s_Ratio___init__) (.ref dt4) kV4 dc4 pm4 an4 cd4 ct4), sl4⟩) (c4 : PySem.W.codeIn K cd4 "Ratio.__init__" = true) (k4 : PySem.W.keepIn K (.ref f4) = true)
    (t4 : K.lookup dt4 = some ⟨oct4, odt4, .seq #[.int 1 tk4_0] nt4, slt4⟩)
    (a5 : PySem.W.nsIn K mainGlobals "poly" = some (some (.ref f5)))
    (l5 : K.lookup f5 = some ⟨oc5, od5, .func (PySem.W.fnOf "poly" "poly" (defArgs s_poly) (defBody s_poly) (defScope s_poly) .none kV5 dc5 pm5 an5 cd5 ct5), sl5⟩) (c5 : PySem.W.codeIn K cd5 "poly" = true) (k5 : PySem.W.keepIn K (.ref f5) = true)
    (a6 : PySem.W.nsIn K mainGlobals "degree" = some (some (.ref f6)))
    (l6 : K.lookup f6 = some ⟨oc6, od6, .func (PySem.W.fnOf "degree" "degree" (defArgs s_degree) (defBody s_degree) (defScope s_degree) .none kV6 dc6 pm6 an6 cd6 ct6), sl6⟩) (c6 : PySem.W.codeIn K cd6 "degree" = true) (k6 : PySem.W.keepIn K (.ref f6) = true)
    (a7 : PySem.W.nsIn K mainGlobals "coefficient" = some (some (.ref f7)))
    (l7 : K.lookup f7 = some ⟨oc7, od7, .func (PySem.W.fnOf "coefficient" "coefficient" (defArgs s_coefficient) (defBody s_coefficient) (defScope s_coefficient) .none kV7 dc7 pm7 an7 cd7 ct7), sl7⟩) (c7 : PySem.W.codeIn K cd7 "coefficient" = true) (k7 : PySem.W.keepIn K (.ref f7) = true)
    (a8 : PySem.W.nsIn K mainGlobals "taken" = some (some (.ref f8)))
    (l8 : K.lookup f8 = some ⟨oc8, od8, .func (PySem.W.fnOf "taken" "taken" (defArgs s_taken) (defBody s_taken) (defScope s_taken) .none kV8 dc8 pm8 an8 cd8 ct8), sl8⟩) (c8 : PySem.W.codeIn K cd8 "taken" = true) (k8 : PySem.W.keepIn K (.ref f8) = true)
    (a9 : PySem.W.nsIn K mainGlobals "slope" = some (some (.ref f9)))
    (l9 : K.lookup f9 = some ⟨oc9, od9, .func (PySem.W.fnOf "slope" "slope" (defArgs s_slope) (defBody s_slope) (defScope s_slope) .none kV9 dc9 pm9 an9 cd9 ct9), sl9⟩) (c9 : PySem.W.codeIn K cd9 "slope" = true) (k9 : PySem.W.keepIn K (.ref f9) = true)
    (a10 : PySem.W.nsIn K mainGlobals "shrunk" = some (some (.ref f10)))
    (l10 : K.lookup f10 = some ⟨oc10, od10, .func (PySem.W.fnOf "shrunk" "shrunk" (defArgs s_shrunk) (defBody s_shrunk) (defScope s_shrunk) .none kV10 dc10 pm10 an10 cd10 ct10), sl10⟩) (c10 : PySem.W.codeIn K cd10 "shrunk" = true) (k10 : PySem.W.keepIn K (.ref f10) = true)
    (a11 : PySem.W.nsIn K mainGlobals "scaled" = some (some (.ref f11)))
    (l11 : K.lookup f11 = some ⟨oc11, od11, .func (PySem.W.fnOf "scaled" "scaled" (defArgs s_scaled) (defBody s_scaled) (defScope s_scaled) .none kV11 dc11 pm11 an11 cd11 ct11), sl11⟩) (c11 : PySem.W.codeIn K cd11 "scaled" = true) (k11 : PySem.W.keepIn K (.ref f11) = true)
    (a12 : PySem.W.nsIn K mainGlobals "lowered" = some (some (.ref f12)))
    (l12 : K.lookup f12 = some ⟨oc12, od12, .func (PySem.W.fnOf "lowered" "lowered" (defArgs s_lowered) (defBody s_lowered) (defScope s_lowered) .none kV12 dc12 pm12 an12 cd12 ct12), sl12⟩) (c12 : PySem.W.codeIn K cd12 "lowered" = true) (k12 : PySem.W.keepIn K (.ref f12) = true)
    (a13 : PySem.W.nsIn K mainGlobals "divided" = some (some (.ref f13)))
    (l13 : K.lookup f13 = some ⟨oc13, od13, .func (PySem.W.fnOf "divided" "divided" (defArgs s_divided) (defBody s_divided) (defScope s_divided) .none kV13 dc13 pm13 an13 cd13 ct13), sl13⟩) (c13 : PySem.W.codeIn K cd13 "divided" = true) (k13 : PySem.W.keepIn K (.ref f13) = true)
    (a14 : PySem.W.nsIn K mainGlobals "row_from" = some (some (.ref f14)))
    (l14 : K.lookup f14 = some ⟨oc14, od14, .func (PySem.W.fnOf "row_from" "row_from" (defArgs s_row_from) (defBody s_row_from) (defScope s_row_from) .none kV14 dc14 pm14 an14 cd14 ct14), sl14⟩) (c14 : PySem.W.codeIn K cd14 "row_from" = true) (k14 : PySem.W.keepIn K (.ref f14) = true)
    (a15 : PySem.W.nsIn K mainGlobals "row_of" = some (some (.ref f15)))
    (l15 : K.lookup f15 = some ⟨oc15, od15, .func (PySem.W.fnOf "row_of" "row_of" (defArgs s_row_of) (defBody s_row_of) (defScope s_row_of) .none kV15 dc15 pm15 an15 cd15 ct15), sl15⟩) (c15 : PySem.W.codeIn K cd15 "row_of" = true) (k15 : PySem.W.keepIn K (.ref f15) = true)
    (a16 : PySem.W.nsIn K mainGlobals "value_parts" = some (some (.ref f16)))
    (l16 : K.lookup f16 = some ⟨oc16, od16, .func (PySem.W.fnOf "value_parts" "value_parts" (defArgs s_value_parts) (defBody s_value_parts) (defScope s_value_parts) .none kV16 dc16 pm16 an16 cd16 ct16), sl16⟩) (c16 : PySem.W.codeIn K cd16 "value_parts" = true) (k16 : PySem.W.keepIn K (.ref f16) = true)
    (a17 : PySem.W.nsIn K mainGlobals "sign_at" = some (some (.ref f17)))
    (l17 : K.lookup f17 = some ⟨oc17, od17, .func (PySem.W.fnOf "sign_at" "sign_at" (defArgs s_sign_at) (defBody s_sign_at) (defScope s_sign_at) .none kV17 dc17 pm17 an17 cd17 ct17), sl17⟩) (c17 : PySem.W.codeIn K cd17 "sign_at" = true) (k17 : PySem.W.keepIn K (.ref f17) = true)
    (a18 : PySem.W.nsIn K mainGlobals "changes" = some (some (.ref f18)))
    (l18 : K.lookup f18 = some ⟨oc18, od18, .func (PySem.W.fnOf "changes" "changes" (defArgs s_changes) (defBody s_changes) (defScope s_changes) .none kV18 dc18 pm18 an18 cd18 ct18), sl18⟩) (c18 : PySem.W.codeIn K cd18 "changes" = true) (k18 : PySem.W.keepIn K (.ref f18) = true)
    (a19 : PySem.W.nsIn K mainGlobals "count" = some (some (.ref f19)))
    (l19 : K.lookup f19 = some ⟨oc19, od19, .func (PySem.W.fnOf "count" "count" (defArgs s_count) (defBody s_count) (defScope s_count) .none kV19 dc19 pm19 an19 cd19 ct19), sl19⟩) (c19 : PySem.W.codeIn K cd19 "count" = true) (k19 : PySem.W.keepIn K (.ref f19) = true)
    (a20 : PySem.W.nsIn K mainGlobals "_law_cell_at" = some (some (.ref f20)))
    (l20 : K.lookup f20 = some ⟨oc20, od20, .func (PySem.W.fnOf "_law_cell_at" "_law_cell_at" (defArgs s__law_cell_at) (defBody s__law_cell_at) (defScope s__law_cell_at) .none kV20 dc20 pm20 an20 cd20 ct20), sl20⟩) (c20 : PySem.W.codeIn K cd20 "_law_cell_at" = true) (k20 : PySem.W.keepIn K (.ref f20) = true)
    (a21 : PySem.W.nsIn K mainGlobals "_law_whole" = some (some (.ref f21)))
    (l21 : K.lookup f21 = some ⟨oc21, od21, .func (PySem.W.fnOf "_law_whole" "_law_whole" (defArgs s__law_whole) (defBody s__law_whole) (defScope s__law_whole) .none kV21 dc21 pm21 an21 cd21 ct21), sl21⟩) (c21 : PySem.W.codeIn K cd21 "_law_whole" = true) (k21 : PySem.W.keepIn K (.ref f21) = true)
    (a22 : PySem.W.nsIn K mainGlobals "_law_within" = some (some (.ref f22)))
    (l22 : K.lookup f22 = some ⟨oc22, od22, .func (PySem.W.fnOf "_law_within" "_law_within" (defArgs s__law_within) (defBody s__law_within) (defScope s__law_within) .none kV22 dc22 pm22 an22 cd22 ct22), sl22⟩) (c22 : PySem.W.codeIn K cd22 "_law_within" = true) (k22 : PySem.W.keepIn K (.ref f22) = true)
    (a23 : PySem.W.nsIn K mainGlobals "_law_trim" = some (some (.ref f23)))
    (l23 : K.lookup f23 = some ⟨oc23, od23, .func (PySem.W.fnOf "_law_trim" "_law_trim" (defArgs s__law_trim) (defBody s__law_trim) (defScope s__law_trim) .none kV23 dc23 pm23 an23 cd23 ct23), sl23⟩) (c23 : PySem.W.codeIn K cd23 "_law_trim" = true) (k23 : PySem.W.keepIn K (.ref f23) = true)
    (a24 : PySem.W.nsIn K mainGlobals "_law_mul" = some (some (.ref f24)))
    (l24 : K.lookup f24 = some ⟨oc24, od24, .func (PySem.W.fnOf "_law_mul" "_law_mul" (defArgs s__law_mul) (defBody s__law_mul) (defScope s__law_mul) .none kV24 dc24 pm24 an24 cd24 ct24), sl24⟩) (c24 : PySem.W.codeIn K cd24 "_law_mul" = true) (k24 : PySem.W.keepIn K (.ref f24) = true)
    (a25 : PySem.W.nsIn K mainGlobals "_law_gcd" = some (some (.ref f25)))
    (l25 : K.lookup f25 = some ⟨oc25, od25, .func (PySem.W.fnOf "_law_gcd" "_law_gcd" (defArgs s__law_gcd) (defBody s__law_gcd) (defScope s__law_gcd) .none kV25 dc25 pm25 an25 cd25 ct25), sl25⟩) (c25 : PySem.W.codeIn K cd25 "_law_gcd" = true) (k25 : PySem.W.keepIn K (.ref f25) = true)
    (a26 : PySem.W.nsIn K mainGlobals "_law_shrunk" = some (some (.ref f26)))
    (l26 : K.lookup f26 = some ⟨oc26, od26, .func (PySem.W.fnOf "_law_shrunk" "_law_shrunk" (defArgs s__law_shrunk) (defBody s__law_shrunk) (defScope s__law_shrunk) .none kV26 dc26 pm26 an26 cd26 ct26), sl26⟩) (c26 : PySem.W.codeIn K cd26 "_law_shrunk" = true) (k26 : PySem.W.keepIn K (.ref f26) = true)
    (a27 : PySem.W.nsIn K mainGlobals "_law_plain" = some (some (.ref f27)))
    (l27 : K.lookup f27 = some ⟨oc27, od27, .func (PySem.W.fnOf "_law_plain" "_law_plain" (defArgs s__law_plain) (defBody s__law_plain) (defScope s__law_plain) .none kV27 dc27 pm27 an27 cd27 ct27), sl27⟩) (c27 : PySem.W.codeIn K cd27 "_law_plain" = true) (k27 : PySem.W.keepIn K (.ref f27) = true)
    (a28 : PySem.W.nsIn K mainGlobals "_law_factor_by" = some (some (.ref f28)))
    (l28 : K.lookup f28 = some ⟨oc28, od28, .func (PySem.W.fnOf "_law_factor_by" "_law_factor_by" (defArgs s__law_factor_by) (defBody s__law_factor_by) (defScope s__law_factor_by) .none kV28 dc28 pm28 an28 cd28 ct28), sl28⟩) (c28 : PySem.W.codeIn K cd28 "_law_factor_by" = true) (k28 : PySem.W.keepIn K (.ref f28) = true)
    (a29 : PySem.W.nsIn K mainGlobals "_law_shape" = some (some (.ref f29)))
    (l29 : K.lookup f29 = some ⟨oc29, od29, .func (PySem.W.fnOf "_law_shape" "_law_shape" (defArgs s__law_shape) (defBody s__law_shape) (defScope s__law_shape) .none kV29 dc29 pm29 an29 cd29 ct29), sl29⟩) (c29 : PySem.W.codeIn K cd29 "_law_shape" = true) (k29 : PySem.W.keepIn K (.ref f29) = true)
    (a30 : PySem.W.nsIn K mainGlobals "_law_factors_by" = some (some (.ref f30)))
    (l30 : K.lookup f30 = some ⟨oc30, od30, .func (PySem.W.fnOf "_law_factors_by" "_law_factors_by" (defArgs s__law_factors_by) (defBody s__law_factors_by) (defScope s__law_factors_by) .none kV30 dc30 pm30 an30 cd30 ct30), sl30⟩) (c30 : PySem.W.codeIn K cd30 "_law_factors_by" = true) (k30 : PySem.W.keepIn K (.ref f30) = true)
    (a31 : PySem.W.nsIn K mainGlobals "_law_product" = some (some (.ref f31)))
    (l31 : K.lookup f31 = some ⟨oc31, od31, .func (PySem.W.fnOf "_law_product" "_law_product" (defArgs s__law_product) (defBody s__law_product) (defScope s__law_product) .none kV31 dc31 pm31 an31 cd31 ct31), sl31⟩) (c31 : PySem.W.codeIn K cd31 "_law_product" = true) (k31 : PySem.W.keepIn K (.ref f31) = true)
    (a32 : PySem.W.nsIn K mainGlobals "_law_sure" = some (some (.ref f32)))
    (l32 : K.lookup f32 = some ⟨oc32, od32, .func (PySem.W.fnOf "_law_sure" "_law_sure" (defArgs s__law_sure) (defBody s__law_sure) (defScope s__law_sure) .none kV32 dc32 pm32 an32 cd32 ct32), sl32⟩) (c32 : PySem.W.codeIn K cd32 "_law_sure" = true) (k32 : PySem.W.keepIn K (.ref f32) = true)
    (a33 : PySem.W.nsIn K mainGlobals "_law_side" = some (some (.ref f33)))
    (l33 : K.lookup f33 = some ⟨oc33, od33, .func (PySem.W.fnOf "_law_side" "_law_side" (defArgs s__law_side) (defBody s__law_side) (defScope s__law_side) .none kV33 dc33 pm33 an33 cd33 ct33), sl33⟩) (c33 : PySem.W.codeIn K cd33 "_law_side" = true) (k33 : PySem.W.keepIn K (.ref f33) = true)
    (a34 : PySem.W.nsIn K mainGlobals "_law_roots_of" = some (some (.ref f34)))
    (l34 : K.lookup f34 = some ⟨oc34, od34, .func (PySem.W.fnOf "_law_roots_of" "_law_roots_of" (defArgs s__law_roots_of) (defBody s__law_roots_of) (defScope s__law_roots_of) .none kV34 dc34 pm34 an34 cd34 ct34), sl34⟩) (c34 : PySem.W.codeIn K cd34 "_law_roots_of" = true) (k34 : PySem.W.keepIn K (.ref f34) = true)
    (a35 : PySem.W.nsIn K mainGlobals "_law_rest" = some (some (.ref f35)))
    (l35 : K.lookup f35 = some ⟨oc35, od35, .func (PySem.W.fnOf "_law_rest" "_law_rest" (defArgs s__law_rest) (defBody s__law_rest) (defScope s__law_rest) .none kV35 dc35 pm35 an35 cd35 ct35), sl35⟩) (c35 : PySem.W.codeIn K cd35 "_law_rest" = true) (k35 : PySem.W.keepIn K (.ref f35) = true)
    (a36 : PySem.W.nsIn K mainGlobals "_law_slope" = some (some (.ref f36)))
    (l36 : K.lookup f36 = some ⟨oc36, od36, .func (PySem.W.fnOf "_law_slope" "_law_slope" (defArgs s__law_slope) (defBody s__law_slope) (defScope s__law_slope) .none kV36 dc36 pm36 an36 cd36 ct36), sl36⟩) (c36 : PySem.W.codeIn K cd36 "_law_slope" = true) (k36 : PySem.W.keepIn K (.ref f36) = true)
    (a37 : PySem.W.nsIn K mainGlobals "_law_part" = some (some (.ref f37)))
    (l37 : K.lookup f37 = some ⟨oc37, od37, .func (PySem.W.fnOf "_law_part" "_law_part" (defArgs s__law_part) (defBody s__law_part) (defScope s__law_part) .none kV37 dc37 pm37 an37 cd37 ct37), sl37⟩) (c37 : PySem.W.codeIn K cd37 "_law_part" = true) (k37 : PySem.W.keepIn K (.ref f37) = true)
    (a38 : PySem.W.nsIn K mainGlobals "_law_flat" = some (some (.ref f38)))
    (l38 : K.lookup f38 = some ⟨oc38, od38, .func (PySem.W.fnOf "_law_flat" "_law_flat" (defArgs s__law_flat) (defBody s__law_flat) (defScope s__law_flat) .none kV38 dc38 pm38 an38 cd38 ct38), sl38⟩) (c38 : PySem.W.codeIn K cd38 "_law_flat" = true) (k38 : PySem.W.keepIn K (.ref f38) = true)
    (a39 : PySem.W.nsIn K mainGlobals "_law_row" = some (some (.ref f39)))
    (l39 : K.lookup f39 = some ⟨oc39, od39, .func (PySem.W.fnOf "_law_row" "_law_row" (defArgs s__law_row) (defBody s__law_row) (defScope s__law_row) .none kV39 dc39 pm39 an39 cd39 ct39), sl39⟩) (c39 : PySem.W.codeIn K cd39 "_law_row" = true) (k39 : PySem.W.keepIn K (.ref f39) = true)
    (a40 : PySem.W.nsIn K mainGlobals "_law_changes" = some (some (.ref f40)))
    (l40 : K.lookup f40 = some ⟨oc40, od40, .func (PySem.W.fnOf "_law_changes" "_law_changes" (defArgs s__law_changes) (defBody s__law_changes) (defScope s__law_changes) .none kV40 dc40 pm40 an40 cd40 ct40), sl40⟩) (c40 : PySem.W.codeIn K cd40 "_law_changes" = true) (k40 : PySem.W.keepIn K (.ref f40) = true)
    (a41 : PySem.W.nsIn K mainGlobals "_law_any" = some (some (.ref f41)))
    (l41 : K.lookup f41 = some ⟨oc41, od41, .func (PySem.W.fnOf "_law_any" "_law_any" (defArgs s__law_any) (defBody s__law_any) (defScope s__law_any) .none kV41 dc41 pm41 an41 cd41 ct41), sl41⟩) (c41 : PySem.W.codeIn K cd41 "_law_any" = true) (k41 : PySem.W.keepIn K (.ref f41) = true)
    (a42 : PySem.W.nsIn K mainGlobals "_law_many" = some (some (.ref f42)))
    (l42 : K.lookup f42 = some ⟨oc42, od42, .func (PySem.W.fnOf "_law_many" "_law_many" (defArgs s__law_many) (defBody s__law_many) (defScope s__law_many) .none kV42 dc42 pm42 an42 cd42 ct42), sl42⟩) (c42 : PySem.W.codeIn K cd42 "_law_many" = true) (k42 : PySem.W.keepIn K (.ref f42) = true)
    (a43 : PySem.W.nsIn K mainGlobals "_law_end" = some (some (.ref f43)))
    (l43 : K.lookup f43 = some ⟨oc43, od43, .func (PySem.W.fnOf "_law_end" "_law_end" (defArgs s__law_end) (defBody s__law_end) (defScope s__law_end) .none kV43 dc43 pm43 an43 cd43 ct43), sl43⟩) (c43 : PySem.W.codeIn K cd43 "_law_end" = true) (k43 : PySem.W.keepIn K (.ref f43) = true)
    (a44 : PySem.W.nsIn K mainGlobals "law" = some (some (.ref f44)))
    (l44 : K.lookup f44 = some ⟨oc44, od44, .func (PySem.W.fnOf "law" "law" (defArgs s_law) (defBody s_law) (defScope s_law) .none kV44 dc44 pm44 an44 cd44 ct44), sl44⟩) (c44 : PySem.W.codeIn K cd44 "law" = true) (k44 : PySem.W.keepIn K (.ref f44) = true)
    (z0 : PySem.W.nsIn K mainGlobals "abs" = some none)
    (z1 : PySem.W.nsIn K mainGlobals "len" = some none)
    (z2 : PySem.W.nsIn K mainGlobals "max" = some none)
    (z3 : PySem.W.nsIn K mainGlobals "range" = some none)
    (z4 : PySem.W.nsIn K mainGlobals "reversed" = some none)
    (z5 : PySem.W.nsIn K mainGlobals "list" = some none)
    (z6 : PySem.W.nsIn K mainGlobals "enumerate" = some none)
    (z7 : PySem.W.nsIn K mainGlobals "isinstance" = some none)
    (z8 : PySem.W.nsIn K mainGlobals "int" = some none)
    (z9 : PySem.W.nsIn K mainGlobals "bool" = some none)
    (hTr : l.prog.given.tree = none)
    : ∃ fd : FuncData, (∀ (s : Shared) (v : Value), BindsTo s fd ⟨[v], []⟩ [("_law_script", v)]) ∧ ∀ base : Heap, K.In base → base.Ns mainGlobals mg → base.NoSeer → FnOk l.prog w K mg base CX0 37 fa fd ["_law_script"] (spLaw K) := by
  have e := hfa.symm.trans (PySem.W.mg_of X G a44)
  cases e
  have T : Txt K mg := ⟨PySem.W.mg_none_of X G z0, PySem.W.mg_none_of X G z1, PySem.W.mg_none_of X G z2, PySem.W.mg_none_of X G z3, PySem.W.mg_none_of X G z4, PySem.W.mg_none_of X G z5, PySem.W.mg_none_of X G z6, PySem.W.mg_none_of X G z7, PySem.W.mg_none_of X G z8, PySem.W.mg_none_of X G z9⟩
  have R1 : RCI K mg CC1 := ⟨⟨pg1, hd1, po1, sa1⟩, n1_top, n1_bottom, PySem.W.mg_of X G aC1, ha1, hn1, ht1, hm1⟩
  have F1 := fun_mk (st := s_shared_by_two) l1 c1 k1
  have b1 := F1.binds (ps := ["one", "other"]) fun _ _ _ _ _ _ us hl => match us, hl with | [_, _], _ => rfl
  have F2 := fun_mk (st := s_shared) l2 c2 k2
  have b2 := F2.binds (ps := ["row"]) fun _ _ _ _ _ _ us hl => match us, hl with | [_], _ => rfl
  have F3 := fun_mk (st := s_whole_sign) l3 c3 k3
  have b3 := F3.binds (ps := ["value"]) fun _ _ _ _ _ _ us hl => match us, hl with | [_], _ => rfl
  have F4 := funD_mk (st := s_Ratio___init__) l4 c4 k4
  have b4 := FunD.bindsD (ps := ["self", "top", "bottom"]) (ds := []) (tup := [.int 1 tk4_0]) 3 F4 t4 rfl rfl fun _ _ _ _ _ _ us hl => match us, hl with | [_, _, _], _ => ⟨_, rfl, rfl⟩
  have bD4 := FunD.bindsD (ps := ["self", "top", "bottom"]) (ds := [.int 1 tk4_0]) (tup := [.int 1 tk4_0]) 2 F4 t4 rfl rfl fun _ _ _ _ _ _ us hl => match us, hl with | [_, _], _ => ⟨_, rfl, rfl⟩
  have F5 := fun_mk (st := s_poly) l5 c5 k5
  have b5 := F5.binds (ps := ["row"]) fun _ _ _ _ _ _ us hl => match us, hl with | [_], _ => rfl
  have F6 := fun_mk (st := s_degree) l6 c6 k6
  have b6 := F6.binds (ps := ["row"]) fun _ _ _ _ _ _ us hl => match us, hl with | [_], _ => rfl
  have F7 := fun_mk (st := s_coefficient) l7 c7 k7
  have b7 := F7.binds (ps := ["row", "place"]) fun _ _ _ _ _ _ us hl => match us, hl with | [_, _], _ => rfl
  have F8 := fun_mk (st := s_taken) l8 c8 k8
  have b8 := F8.binds (ps := ["first", "second"]) fun _ _ _ _ _ _ us hl => match us, hl with | [_, _], _ => rfl
  have F9 := fun_mk (st := s_slope) l9 c9 k9
  have b9 := F9.binds (ps := ["row"]) fun _ _ _ _ _ _ us hl => match us, hl with | [_], _ => rfl
  have F10 := fun_mk (st := s_shrunk) l10 c10 k10
  have b10 := F10.binds (ps := ["row"]) fun _ _ _ _ _ _ us hl => match us, hl with | [_], _ => rfl
  have F11 := fun_mk (st := s_scaled) l11 c11 k11
  have b11 := F11.binds (ps := ["row", "factor"]) fun _ _ _ _ _ _ us hl => match us, hl with | [_, _], _ => rfl
  have F12 := fun_mk (st := s_lowered) l12 c12 k12
  have b12 := F12.binds (ps := ["row", "second", "place", "lead"]) fun _ _ _ _ _ _ us hl => match us, hl with | [_, _, _, _], _ => rfl
  have F13 := fun_mk (st := s_divided) l13 c13 k13
  have b13 := F13.binds (ps := ["first", "second"]) fun _ _ _ _ _ _ us hl => match us, hl with | [_, _], _ => rfl
  have F14 := fun_mk (st := s_row_from) l14 c14 k14
  have b14 := F14.binds (ps := ["first", "second"]) fun _ _ _ _ _ _ us hl => match us, hl with | [_, _], _ => rfl
  have F15 := fun_mk (st := s_row_of) l15 c15 k15
  have b15 := F15.binds (ps := ["polynomial"]) fun _ _ _ _ _ _ us hl => match us, hl with | [_], _ => rfl
  have F16 := fun_mk (st := s_value_parts) l16 c16 k16
  have b16 := F16.binds (ps := ["row", "top", "bottom"]) fun _ _ _ _ _ _ us hl => match us, hl with | [_, _, _], _ => rfl
  have F17 := fun_mk (st := s_sign_at) l17 c17 k17
  have b17 := F17.binds (ps := ["row", "ratio"]) fun _ _ _ _ _ _ us hl => match us, hl with | [_, _], _ => rfl
  have F18 := fun_mk (st := s_changes) l18 c18 k18
  have b18 := F18.binds (ps := ["row", "ratio"]) fun _ _ _ _ _ _ us hl => match us, hl with | [_, _], _ => rfl
  have F19 := fun_mk (st := s_count) l19 c19 k19
  have b19 := F19.binds (ps := ["row", "low", "high"]) fun _ _ _ _ _ _ us hl => match us, hl with | [_, _, _], _ => rfl
  have F20 := fun_mk (st := s__law_cell_at) l20 c20 k20
  have b20 := F20.binds (ps := ["_law_script", "_law_k"]) fun _ _ _ _ _ _ us hl => match us, hl with | [_, _], _ => rfl
  have F21 := fun_mk (st := s__law_whole) l21 c21 k21
  have b21 := F21.binds (ps := ["_law_found"]) fun _ _ _ _ _ _ us hl => match us, hl with | [_], _ => rfl
  have F22 := fun_mk (st := s__law_within) l22 c22 k22
  have b22 := F22.binds (ps := ["_law_cell", "_law_most"]) fun _ _ _ _ _ _ us hl => match us, hl with | [_, _], _ => rfl
  have F23 := fun_mk (st := s__law_trim) l23 c23 k23
  have b23 := F23.binds (ps := ["_law_row_here"]) fun _ _ _ _ _ _ us hl => match us, hl with | [_], _ => rfl
  have F24 := fun_mk (st := s__law_mul) l24 c24 k24
  have b24 := F24.binds (ps := ["_law_kp", "_law_kq"]) fun _ _ _ _ _ _ us hl => match us, hl with | [_, _], _ => rfl
  have F25 := fun_mk (st := s__law_gcd) l25 c25 k25
  have b25 := F25.binds (ps := ["_law_a", "_law_b"]) fun _ _ _ _ _ _ us hl => match us, hl with | [_, _], _ => rfl
  have F26 := fun_mk (st := s__law_shrunk) l26 c26 k26
  have b26 := F26.binds (ps := ["_law_kp"]) fun _ _ _ _ _ _ us hl => match us, hl with | [_], _ => rfl
  have F27 := fun_mk (st := s__law_plain) l27 c27 k27
  have b27 := F27.binds (ps := ["_law_kp"]) fun _ _ _ _ _ _ us hl => match us, hl with | [_], _ => rfl
  have F28 := fun_mk (st := s__law_factor_by) l28 c28 k28
  have b28 := F28.binds (ps := ["_law_cell", "_law_most"]) fun _ _ _ _ _ _ us hl => match us, hl with | [_, _], _ => rfl
  have F29 := fun_mk (st := s__law_shape) l29 c29 k29
  have b29 := F29.binds (ps := ["_law_factor"]) fun _ _ _ _ _ _ us hl => match us, hl with | [_], _ => rfl
  have F30 := fun_mk (st := s__law_factors_by) l30 c30 k30
  have b30 := F30.binds (ps := ["_law_drawn", "_law_most", "_law_room"]) fun _ _ _ _ _ _ us hl => match us, hl with | [_, _, _], _ => rfl
  have F31 := fun_mk (st := s__law_product) l31 c31 k31
  have b31 := F31.binds (ps := ["_law_factors"]) fun _ _ _ _ _ _ us hl => match us, hl with | [_], _ => rfl
  have F32 := fun_mk (st := s__law_sure) l32 c32 k32
  have b32 := F32.binds (ps := ["_law_square", "_law_due"]) fun _ _ _ _ _ _ us hl => match us, hl with | [_, _], _ => rfl
  have F33 := fun_mk (st := s__law_side) l33 c33 k33
  have b33 := F33.binds (ps := ["_law_spot", "_law_top", "_law_bottom"]) fun _ _ _ _ _ _ us hl => match us, hl with | [_, _, _], _ => rfl
  have F34 := fun_mk (st := s__law_roots_of) l34 c34 k34
  have b34 := F34.binds (ps := ["_law_factors"]) fun _ _ _ _ _ _ us hl => match us, hl with | [_], _ => rfl
  have F35 := fun_mk (st := s__law_rest) l35 c35 k35
  have b35 := F35.binds (ps := ["_law_kp", "_law_kq"]) fun _ _ _ _ _ _ us hl => match us, hl with | [_, _], _ => rfl
  have F36 := fun_mk (st := s__law_slope) l36 c36 k36
  have b36 := F36.binds (ps := ["_law_kp"]) fun _ _ _ _ _ _ us hl => match us, hl with | [_], _ => rfl
  have F37 := fun_mk (st := s__law_part) l37 c37 k37
  have b37 := F37.binds (ps := ["_law_kp", "_law_kq"]) fun _ _ _ _ _ _ us hl => match us, hl with | [_, _], _ => rfl
  have F38 := fun_mk (st := s__law_flat) l38 c38 k38
  have b38 := F38.binds (ps := ["_law_kp"]) fun _ _ _ _ _ _ us hl => match us, hl with | [_], _ => rfl
  have F39 := fun_mk (st := s__law_row) l39 c39 k39
  have b39 := F39.binds (ps := ["_law_kp"]) fun _ _ _ _ _ _ us hl => match us, hl with | [_], _ => rfl
  have F40 := fun_mk (st := s__law_changes) l40 c40 k40
  have b40 := F40.binds (ps := ["_law_row_here", "_law_spot"]) fun _ _ _ _ _ _ us hl => match us, hl with | [_, _], _ => rfl
  have F41 := fun_mk (st := s__law_any) l41 c41 k41
  have b41 := F41.binds (ps := ["_law_cell"]) fun _ _ _ _ _ _ us hl => match us, hl with | [_], _ => rfl
  have F42 := fun_mk (st := s__law_many) l42 c42 k42
  have b42 := F42.binds (ps := ["_law_spots", "_law_low", "_law_high"]) fun _ _ _ _ _ _ us hl => match us, hl with | [_, _, _], _ => rfl
  have F43 := fun_mk (st := s__law_end) l43 c43 k43
  have b43 := F43.binds (ps := ["_law_cell", "_law_factors", "_law_most"]) fun _ _ _ _ _ _ us hl => match us, hl with | [_, _, _], _ => rfl
  have F44 := fun_mk (st := s_law) l44 c44 k44
  have b44 := F44.binds (ps := ["_law_script"]) fun _ _ _ _ _ _ us hl => match us, hl with | [_], _ => rfl
  refine ⟨PySem.W.fnOf "law" "law" (defArgs s_law) (defBody s_law) (defScope s_law) .none kV44 dc44 pm44 an44 cd44 ct44, fun s v => .of_eq rfl, fun base KB GB hNS => ?_⟩
  have C1 : Cal l.prog w K mg base 1 "shared_by_two" ["one", "other"] sp2 _ _ := ⟨ok_shared_by_two F1 T  , PySem.W.mg_of X G a1, k1, b1⟩
  have C2 : Cal l.prog w K mg base 2 "shared" ["row"] (spShared K) _ _ := ⟨ok_shared F2 T  C1, PySem.W.mg_of X G a2, k2, b2⟩
  have C3 : Cal l.prog w K mg base 1 "whole_sign" ["value"] spSg _ _ := ⟨ok_whole_sign F3 T  , PySem.W.mg_of X G a3, k3, b3⟩
  have K1 : KCal l.prog w K mg base 2 CC1 "Ratio" ["self", "top", "bottom"] (spInit CC1) _ _ _ [.int 1] := ⟨ok_Ratio___init__ F4 T R1 C1, ⟨mk1, a4, i4, kc1⟩, PySem.W.mg_of X G aC1, b4, bD4, .cons ⟨_, rfl⟩ .nil⟩
  have C5 : Cal l.prog w K mg base 1 "poly" ["row"] (spTrim K) _ _ := ⟨ok_poly F5 T  , PySem.W.mg_of X G a5, k5, b5⟩
  have C6 : Cal l.prog w K mg base 1 "degree" ["row"] spDeg _ _ := ⟨ok_degree F6 T  , PySem.W.mg_of X G a6, k6, b6⟩
  have C7 : Cal l.prog w K mg base 1 "coefficient" ["row", "place"] (spCell K) _ _ := ⟨ok_coefficient F7 T  , PySem.W.mg_of X G a7, k7, b7⟩
  have C8 : Cal l.prog w K mg base 2 "taken" ["first", "second"] (sp2L K subL) _ _ := ⟨ok_taken F8 T  C5 C7, PySem.W.mg_of X G a8, k8, b8⟩
  have C9 : Cal l.prog w K mg base 1 "slope" ["row"] (sp1 slopeL) _ _ := ⟨ok_slope F9 T  , PySem.W.mg_of X G a9, k9, b9⟩
  have C10 : Cal l.prog w K mg base 33 "shrunk" ["row"] spShr _ _ := ⟨ok_shrunk F10 T  hNS hTr C2, PySem.W.mg_of X G a10, k10, b10⟩
  have C11 : Cal l.prog w K mg base 1 "scaled" ["row", "factor"] spSc _ _ := ⟨ok_scaled F11 T  , PySem.W.mg_of X G a11, k11, b11⟩
  have C12 : Cal l.prog w K mg base 1 "lowered" ["row", "second", "place", "lead"] spLow _ _ := ⟨ok_lowered F12 T  , PySem.W.mg_of X G a12, k12, b12⟩
  have C13 : Cal l.prog w K mg base 2 "divided" ["first", "second"] spDiv _ _ := ⟨ok_divided F13 T  C3 C6 C11 C12 C5, PySem.W.mg_of X G a13, k13, b13⟩
  have C14 : Cal l.prog w K mg base 34 "row_from" ["first", "second"] spRowF _ _ := ⟨ok_row_from F14 T  C10 C13 C8, PySem.W.mg_of X G a14, k14, b14⟩
  have C15 : Cal l.prog w K mg base 35 "row_of" ["polynomial"] spRowOf _ _ := ⟨ok_row_of F15 T  C14 C9, PySem.W.mg_of X G a15, k15, b15⟩
  have C16 : Cal l.prog w K mg base 1 "value_parts" ["row", "top", "bottom"] spVp _ _ := ⟨ok_value_parts F16 T  , PySem.W.mg_of X G a16, k16, b16⟩
  have C17 : Cal l.prog w K mg base 2 "sign_at" ["row", "ratio"] (spSa CC1) _ _ := ⟨ok_sign_at F17 T R1 C16 C3, PySem.W.mg_of X G a17, k17, b17⟩
  have C18 : Cal l.prog w K mg base 3 "changes" ["row", "ratio"] (spChg CC1) _ _ := ⟨ok_changes F18 T R1 C17, PySem.W.mg_of X G a18, k18, b18⟩
  have C19 : Cal l.prog w K mg base 4 "count" ["row", "low", "high"] (spCnt CC1) _ _ := ⟨ok_count F19 T R1 C18, PySem.W.mg_of X G a19, k19, b19⟩
  have C20 : Cal l.prog w K mg base 1 "_law_cell_at" ["_law_script", "_law_k"] (spCell K) _ _ := ⟨ok__law_cell_at F20 T  , PySem.W.mg_of X G a20, k20, b20⟩
  have C21 : Cal l.prog w K mg base 1 "_law_whole" ["_law_found"] spWhole _ _ := ⟨ok__law_whole F21 T  , PySem.W.mg_of X G a21, k21, b21⟩
  have C22 : Cal l.prog w K mg base 1 "_law_within" ["_law_cell", "_law_most"] spSigned _ _ := ⟨ok__law_within F22 T  , PySem.W.mg_of X G a22, k22, b22⟩
  have C23 : Cal l.prog w K mg base 1 "_law_trim" ["_law_row_here"] (spTrim K) _ _ := ⟨ok__law_trim F23 T  , PySem.W.mg_of X G a23, k23, b23⟩
  have C24 : Cal l.prog w K mg base 1 "_law_mul" ["_law_kp", "_law_kq"] spMul _ _ := ⟨ok__law_mul F24 T  , PySem.W.mg_of X G a24, k24, b24⟩
  have C25 : Cal l.prog w K mg base 1 "_law_gcd" ["_law_a", "_law_b"] sp2 _ _ := ⟨ok__law_gcd F25 T  , PySem.W.mg_of X G a25, k25, b25⟩
  have C26 : Cal l.prog w K mg base 33 "_law_shrunk" ["_law_kp"] spShr _ _ := ⟨ok__law_shrunk F26 T  hNS hTr C25, PySem.W.mg_of X G a26, k26, b26⟩
  have C27 : Cal l.prog w K mg base 34 "_law_plain" ["_law_kp"] spPlain _ _ := ⟨ok__law_plain F27 T  C26, PySem.W.mg_of X G a27, k27, b27⟩
  have C28 : Cal l.prog w K mg base 1 "_law_factor_by" ["_law_cell", "_law_most"] spFb _ _ := ⟨ok__law_factor_by F28 T  , PySem.W.mg_of X G a28, k28, b28⟩
  have C29 : Cal l.prog w K mg base 35 "_law_shape" ["_law_factor"] spShape _ _ := ⟨ok__law_shape F29 T  C27, PySem.W.mg_of X G a29, k29, b29⟩
  have C30 : Cal l.prog w K mg base 36 "_law_factors_by" ["_law_drawn", "_law_most", "_law_room"] (spFs K) _ _ := ⟨ok__law_factors_by F30 T  C28 C29, PySem.W.mg_of X G a30, k30, b30⟩
  have C31 : Cal l.prog w K mg base 36 "_law_product" ["_law_factors"] spPro _ _ := ⟨ok__law_product F31 T  C24 C29, PySem.W.mg_of X G a31, k31, b31⟩
  have C32 : Cal l.prog w K mg base 1 "_law_sure" ["_law_square", "_law_due"] spSure _ _ := ⟨ok__law_sure F32 T  , PySem.W.mg_of X G a32, k32, b32⟩
  have C33 : Cal l.prog w K mg base 2 "_law_side" ["_law_spot", "_law_top", "_law_bottom"] spSide _ _ := ⟨ok__law_side F33 T  C32, PySem.W.mg_of X G a33, k33, b33⟩
  have C34 : Cal l.prog w K mg base 1 "_law_roots_of" ["_law_factors"] spRo _ _ := ⟨ok__law_roots_of F34 T  , PySem.W.mg_of X G a34, k34, b34⟩
  have C35 : Cal l.prog w K mg base 2 "_law_rest" ["_law_kp", "_law_kq"] spRest _ _ := ⟨ok__law_rest F35 T  C23, PySem.W.mg_of X G a35, k35, b35⟩
  have C36 : Cal l.prog w K mg base 1 "_law_slope" ["_law_kp"] spSlp _ _ := ⟨ok__law_slope F36 T  , PySem.W.mg_of X G a36, k36, b36⟩
  have C37 : Cal l.prog w K mg base 1 "_law_part" ["_law_kp", "_law_kq"] spPrt _ _ := ⟨ok__law_part F37 T  , PySem.W.mg_of X G a37, k37, b37⟩
  have C38 : Cal l.prog w K mg base 34 "_law_flat" ["_law_kp"] spFlat _ _ := ⟨ok__law_flat F38 T  C36 C26 C35 C37, PySem.W.mg_of X G a38, k38, b38⟩
  have C39 : Cal l.prog w K mg base 34 "_law_row" ["_law_kp"] spRow _ _ := ⟨ok__law_row F39 T  C36 C26 C35, PySem.W.mg_of X G a39, k39, b39⟩
  have C40 : Cal l.prog w K mg base 1 "_law_changes" ["_law_row_here", "_law_spot"] spLch _ _ := ⟨ok__law_changes F40 T  , PySem.W.mg_of X G a40, k40, b40⟩
  have C41 : Cal l.prog w K mg base 35 "_law_any" ["_law_cell"] spAny _ _ := ⟨ok__law_any F41 T  C23 C38, PySem.W.mg_of X G a41, k41, b41⟩
  have C42 : Cal l.prog w K mg base 3 "_law_many" ["_law_spots", "_law_low", "_law_high"] spMany _ _ := ⟨ok__law_many F42 T  C40 C33, PySem.W.mg_of X G a42, k42, b42⟩
  have C43 : Cal l.prog w K mg base 2 "_law_end" ["_law_cell", "_law_factors", "_law_most"] spEnd _ _ := ⟨ok__law_end F43 T  C22, PySem.W.mg_of X G a43, k43, b43⟩
  exact ok_law F44 T R1 C20 C30 C24 C31 C43 C42 C34 C41 C39 C15 C19 K1 C21
theorem walk {l : PySem.W.OpenLaw} {q : Program} {loose : List Str} {XP : (Str → Option Value) → Heap → Prop} {YP : World → Heap → Prop} {d : DefRec} {K : Params → PySem.W.Frag} (hi : PyProof.Rows.importsNone q = true) (hn : l.most = some 63) (hdf : d.params.defaults = [])
    (hY : ∀ (w : World) (h : Heap), YP w h → (K w.params).In h)
    (F : ∀ (w : World) (mg : Str → Option Value) (fa : Addr) (h : Heap), (K w.params).In h → h.Ns mainGlobals mg → mg d.name = some (.ref fa) →
      ∃ fd : FuncData, (∀ (s : Shared) (u : Value), BindsTo s fd ⟨[u], []⟩ [("_law_script", u)]) ∧ ∀ base : Heap, (K w.params).In base → base.Ns mainGlobals mg → base.NoSeer → FnOk l.prog w (K w.params) mg base CX0 37 fa fd ["_law_script"] (spLaw (K w.params))) :
    PySem.W.WalkO q loose XP YP l.row.toRowW d [] (fun f vs => PySem.call f vs) :=
  L2.walk_ofS (n := 63) (k := 37) (x := "_law_script") (CX := fun _ => CX0) (sp := fun w => spLaw (K w.params)) hi hn (by decide) hdf ⟨rfl, by decide, by decide⟩ hY F (fun _ _ a ns hl _ hS => ⟨a, ns, rfl, hS, hl, fun _ => rfl⟩) fun _ _ _ _ _ z => z
end R24
open PySem PySem.W PyProof.Rows
set_option maxRecDepth 100000 in
set_option maxHeartbeats 0 in
theorem PySem.Challenge.cw_rootspan_k24_whole_counts_holds : PySem.Challenge.rw_rootspan_k24_whole_counts.Holds := by
  w_on; o_law; k_head; (case hw => w_witness2)
  k_fill
  refine R24.walk (l := PySem.Challenge.rw_rootspan_k24_whole_counts) (by decide +kernel) rfl rfl (fun w h Y => PySem.W.kIn_of Y) ?F
  case F =>
    intro w mg fa h KX G hmg
    refine' R24.all_mk KX G hmg ?aC1 ?pg1 ?hd1 ?po1 ?sa1 ?mk1 ?kc1 ?n1_top ?n1_bottom ?ha1 ?hn1 ?ht1 ?hm1 ?a1 ?l1 ?c1 ?k1 ?a2 ?l2 ?c2 ?k2 ?a3 ?l3 ?c3 ?k3 ?a4 ?i4 ?l4 ?c4 ?k4 ?t4 ?a5 ?l5 ?c5 ?k5 ?a6 ?l6 ?c6 ?k6 ?a7 ?l7 ?c7 ?k7 ?a8 ?l8 ?c8 ?k8 ?a9 ?l9 ?c9 ?k9 ?a10 ?l10 ?c10 ?k10 ?a11 ?l11 ?c11 ?k11 ?a12 ?l12 ?c12 ?k12 ?a13 ?l13 ?c13 ?k13 ?a14 ?l14 ?c14 ?k14 ?a15 ?l15 ?c15 ?k15 ?a16 ?l16 ?c16 ?k16 ?a17 ?l17 ?c17 ?k17 ?a18 ?l18 ?c18 ?k18 ?a19 ?l19 ?c19 ?k19 ?a20 ?l20 ?c20 ?k20 ?a21 ?l21 ?c21 ?k21 ?a22 ?l22 ?c22 ?k22 ?a23 ?l23 ?c23 ?k23 ?a24 ?l24 ?c24 ?k24 ?a25 ?l25 ?c25 ?k25 ?a26 ?l26 ?c26 ?k26 ?a27 ?l27 ?c27 ?k27 ?a28 ?l28 ?c28 ?k28 ?a29 ?l29 ?c29 ?k29 ?a30 ?l30 ?c30 ?k30 ?a31 ?l31 ?c31 ?k31 ?a32 ?l32 ?c32 ?k32 ?a33 ?l33 ?c33 ?k33 ?a34 ?l34 ?c34 ?k34 ?a35 ?l35 ?c35 ?k35 ?a36 ?l36 ?c36 ?k36 ?a37 ?l37 ?c37 ?k37 ?a38 ?l38 ?c38 ?k38 ?a39 ?l39 ?c39 ?k39 ?a40 ?l40 ?c40 ?k40 ?a41 ?l41 ?c41 ?k41 ?a42 ?l42 ?c42 ?k42 ?a43 ?l43 ?c43 ?k43 ?a44 ?l44 ?c44 ?k44 ?z0 ?z1 ?z2 ?z3 ?z4 ?z5 ?z6 ?z7 ?z8 ?z9 rfl
    (case aC1 => k_is)
    (case pg1 => k_is)
    (case hd1 => k_is)
    (case po1 => k_is)
    (case sa1 => k_is)
    (case mk1 => k_is)
    (case kc1 => k_is)
    (case n1_top => k_is)
    (case n1_bottom => k_is)
    (case ha1 => k_is)
    (case hn1 => k_is)
    (case ht1 => k_is)
    (case hm1 => k_is)
    (case a1 => k_is)
    (case l1 => k_is)
    (case c1 => k_is)
    (case k1 => k_is)
    (case a2 => k_is)
    (case l2 => k_is)
    (case c2 => k_is)
    (case k2 => k_is)
    (case a3 => k_is)
    (case l3 => k_is)
    (case c3 => k_is)
    (case k3 => k_is)
    (case a4 => k_is)
    (case i4 => k_is)
    (case l4 => k_is)
    (case c4 => k_is)
    (case k4 => k_is)
    (case t4 => k_is)
    (case a5 => k_is)
    (case l5 => k_is)
    (case c5 => k_is)
    (case k5 => k_is)
    (case a6 => k_is)
    (case l6 => k_is)
    (case c6 => k_is)
    (case k6 => k_is)
    (case a7 => k_is)
    (case l7 => k_is)
    (case c7 => k_is)
    (case k7 => k_is)
    (case a8 => k_is)
    (case l8 => k_is)
    (case c8 => k_is)
    (case k8 => k_is)
    (case a9 => k_is)
    (case l9 => k_is)
    (case c9 => k_is)
    (case k9 => k_is)
    (case a10 => k_is)
    (case l10 => k_is)
    (case c10 => k_is)
    (case k10 => k_is)
    (case a11 => k_is)
    (case l11 => k_is)
    (case c11 => k_is)
    (case k11 => k_is)
    (case a12 => k_is)
    (case l12 => k_is)
    (case c12 => k_is)
    (case k12 => k_is)
    (case a13 => k_is)
    (case l13 => k_is)
    (case c13 => k_is)
    (case k13 => k_is)
    (case a14 => k_is)
    (case l14 => k_is)
    (case c14 => k_is)
    (case k14 => k_is)
    (case a15 => k_is)
    (case l15 => k_is)
    (case c15 => k_is)
    (case k15 => k_is)
    (case a16 => k_is)
    (case l16 => k_is)
    (case c16 => k_is)
    (case k16 => k_is)
    (case a17 => k_is)
    (case l17 => k_is)
    (case c17 => k_is)
    (case k17 => k_is)
    (case a18 => k_is)
    (case l18 => k_is)
    (case c18 => k_is)
    (case k18 => k_is)
    (case a19 => k_is)
    (case l19 => k_is)
    (case c19 => k_is)
    (case k19 => k_is)
    (case a20 => k_is)
    (case l20 => k_is)
    (case c20 => k_is)
    (case k20 => k_is)
    (case a21 => k_is)
    (case l21 => k_is)
    (case c21 => k_is)
    (case k21 => k_is)
    (case a22 => k_is)
    (case l22 => k_is)
    (case c22 => k_is)
    (case k22 => k_is)
    (case a23 => k_is)
    (case l23 => k_is)
    (case c23 => k_is)
    (case k23 => k_is)
    (case a24 => k_is)
    (case l24 => k_is)
    (case c24 => k_is)
    (case k24 => k_is)
    (case a25 => k_is)
    (case l25 => k_is)
    (case c25 => k_is)
    (case k25 => k_is)
    (case a26 => k_is)
    (case l26 => k_is)
    (case c26 => k_is)
    (case k26 => k_is)
    (case a27 => k_is)
    (case l27 => k_is)
    (case c27 => k_is)
    (case k27 => k_is)
    (case a28 => k_is)
    (case l28 => k_is)
    (case c28 => k_is)
    (case k28 => k_is)
    (case a29 => k_is)
    (case l29 => k_is)
    (case c29 => k_is)
    (case k29 => k_is)
    (case a30 => k_is)
    (case l30 => k_is)
    (case c30 => k_is)
    (case k30 => k_is)
    (case a31 => k_is)
    (case l31 => k_is)
    (case c31 => k_is)
    (case k31 => k_is)
    (case a32 => k_is)
    (case l32 => k_is)
    (case c32 => k_is)
    (case k32 => k_is)
    (case a33 => k_is)
    (case l33 => k_is)
    (case c33 => k_is)
    (case k33 => k_is)
    (case a34 => k_is)
    (case l34 => k_is)
    (case c34 => k_is)
    (case k34 => k_is)
    (case a35 => k_is)
    (case l35 => k_is)
    (case c35 => k_is)
    (case k35 => k_is)
    (case a36 => k_is)
    (case l36 => k_is)
    (case c36 => k_is)
    (case k36 => k_is)
    (case a37 => k_is)
    (case l37 => k_is)
    (case c37 => k_is)
    (case k37 => k_is)
    (case a38 => k_is)
    (case l38 => k_is)
    (case c38 => k_is)
    (case k38 => k_is)
    (case a39 => k_is)
    (case l39 => k_is)
    (case c39 => k_is)
    (case k39 => k_is)
    (case a40 => k_is)
    (case l40 => k_is)
    (case c40 => k_is)
    (case k40 => k_is)
    (case a41 => k_is)
    (case l41 => k_is)
    (case c41 => k_is)
    (case k41 => k_is)
    (case a42 => k_is)
    (case l42 => k_is)
    (case c42 => k_is)
    (case k42 => k_is)
    (case a43 => k_is)
    (case l43 => k_is)
    (case c43 => k_is)
    (case k43 => k_is)
    (case a44 => k_is)
    (case l44 => k_is)
    (case c44 => k_is)
    (case k44 => k_is)
    (case z0 => k_is)
    (case z1 => k_is)
    (case z2 => k_is)
    (case z3 => k_is)
    (case z4 => k_is)
    (case z5 => k_is)
    (case z6 => k_is)
    (case z7 => k_is)
    (case z8 => k_is)
    (case z9 => k_is)
