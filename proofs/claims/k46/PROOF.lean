import PyProof.Rows.All
import Wide.All
import OpenK.AllK
import Wide.FinOn
import Lean
import PyProof.EqAt
import PyProof.EqKinds
import PyProof.TupleCall
import PySem.Challenge.RW_rootspan_k46_narrow_spans
set_option Elab.async false
set_option linter.all false
set_option maxRecDepth 100000
def PySem.W.Fast.tw15485154222979791273 : Unit := ()
def PySem.W.Fast.tw17674102543065449233 : Unit := ()
def PySem.W.Fast.tw2841682449825938042 : Unit := ()
def PySem.W.Fast.tw8193661706095394909 : Unit := ()
def PySem.W.Fast.tw12928837260983807211 : Unit := ()
def PySem.W.Fast.tw10522767432933880674 : Unit := ()
def PySem.W.Fast.tw1045021501336712287 : Unit := ()
def PySem.W.Fast.tw11675971545374001944 : Unit := ()
def PySem.W.Fast.tw1876345879342888488 : Unit := ()
def PySem.W.Fast.tw14346697147356291921 : Unit := ()
def PySem.W.Fast.tw3346960749261749829 : Unit := ()
def PySem.W.Fast.tw563370146782759883 : Unit := ()
def PySem.W.Fast.tw3907040277350739461 : Unit := ()
def PySem.W.Fast.tw776700826471565416 : Unit := ()
def PySem.W.Fast.tw16889072237669375301 : Unit := ()
def PySem.W.Fast.tw9087416058866559773 : Unit := ()
def PySem.W.Fast.tw11355286271686347274 : Unit := ()
def PySem.W.Fast.tw5122814342956826950 : Unit := ()
def PySem.W.Fast.tw13878678195369699767 : Unit := ()
def PySem.W.Fast.tw6343555711337028858 : Unit := ()
def PySem.W.Fast.tw16669179307399155512 : Unit := ()
def PySem.W.Fast.tw8723359644194194903 : Unit := ()
def PySem.W.Fast.tw3646607178470681721 : Unit := ()
def PySem.W.Fast.tw1114763510171174311 : Unit := ()
def PySem.W.Fast.tw459905573941021293 : Unit := ()
def PySem.W.Fast.tw1908852328478821302 : Unit := ()
def PySem.W.Fast.tw1238968892038287722 : Unit := ()
def PySem.W.Fast.tw9231206516916748528 : Unit := ()
def PySem.W.Fast.tw2040935755100312953 : Unit := ()
def PySem.W.Fast.tw1977564153967130221 : Unit := ()
def PySem.W.Fast.tw886514687743226747 : Unit := ()
def PySem.W.Fast.tw4424086948399307485 : Unit := ()
def PySem.W.Fast.tw1550936329163274335 : Unit := ()
def PySem.W.Fast.tw15696444172153024425 : Unit := ()
def PySem.W.Fast.tw17020198031968729285 : Unit := ()
def PySem.W.Fast.tw6577525942973329214 : Unit := ()
def PySem.W.Fast.tw14433668195237639334 : Unit := ()
def PySem.W.Fast.tw15106642687136386229 : Unit := ()
def PySem.W.Fast.tw18283979145091726548 : Unit := ()
def PySem.W.Fast.tw14837214617804819000 : Unit := ()
def PySem.W.Fast.tw2100348275679106717 : Unit := ()
def PySem.W.Fast.tw15937313205519455552 : Unit := ()
def PySem.W.Fast.tw8989963600569960850 : Unit := ()
def PySem.W.Fast.tw18348626491646251994 : Unit := ()
def PySem.W.Fast.tw18227989792490403142 : Unit := ()
def PySem.W.Fast.tw4991843499675376776 : Unit := ()
def PySem.W.Fast.tw4264114455142231446 : Unit := ()
def PySem.W.Fast.tw6262298891657090539 : Unit := ()
def PySem.W.Fast.tw12584472734496383246 : Unit := ()
def PySem.W.Fast.tw7145834290648212711 : Unit := ()
def PySem.W.Fast.tw18251856219683010450 : Unit := ()
def PySem.W.Fast.tw12465065485522245532 : Unit := ()
def PySem.W.Fast.tw6887904879788155865 : Unit := ()
def PySem.W.Fast.tw7942574117348751426 : Unit := ()
def PySem.W.Fast.tw15425961718731919223 : Unit := ()
def PySem.W.Fast.tw10198121395687379409 : Unit := ()
def PySem.W.Fast.tw12597766702433776059 : Unit := ()
def PySem.W.Fast.tw17631683694195608818 : Unit := ()
def PySem.W.Fast.tw3962035052554035366 : Unit := ()
def PySem.W.Fast.tw12510534747809022837 : Unit := ()
def PySem.W.Fast.tw13736875947290451121 : Unit := ()
/-! THE HAND LAYER, for ints, bools, texts, own classes, LISTS and tuples (index, slices, in, append, pop ..), calls, loops. Paste it whole ahead of your own text; what your proof does not reach may be deleted. -/
namespace L2
open PySem PySem.Spec PyProof.Rows

/-- a key: an int or a str -/
abbrev Key := Sum Int Str
def keyIs : Key → Value → Bool
  | .inl k, v => Value.isInt k v
  | .inr x, v => Value.isStrOf x v
def keyH (w : World) : Key → Int
  | .inl k => hashInt k
  | .inr x => hashStr w x
theorem keyIs_shape : ∀ {k : Key} {v : Value}, keyIs k v = true → (∃ i t, k = Sum.inl i ∧ v = Value.int i t) ∨ (∃ x t, k = Sum.inr x ∧ v = Value.str x t)
  | .inl i, v, h => by
    obtain ⟨t, e⟩ := Value.isInt_shape (k := i) (v := v) h
    exact .inl ⟨i, t, rfl, e⟩
  | .inr x, v, h => by
    obtain ⟨t, e⟩ := Value.isStrOf_shape (x := x) (v := v) h
    exact .inr ⟨x, t, rfl, e⟩
theorem key_ll (a b : Int) : decide ((Sum.inl a : Key) = Sum.inl b) = (a == b) := by
  by_cases e : a = b
  · subst e; simp
  · have h : ¬ (Sum.inl a : Key) = Sum.inl b := fun q => e (Sum.inl.inj q)
    rw [decide_eq_false h]
    exact (beq_eq_false_iff_ne.mpr e).symm
theorem key_rr (a b : Str) : decide ((Sum.inr a : Key) = Sum.inr b) = decide (a = b) := by
  by_cases e : a = b
  · subst e; simp
  · have h : ¬ (Sum.inr a : Key) = Sum.inr b := fun q => e (Sum.inr.inj q)
    rw [decide_eq_false h, decide_eq_false e]
theorem key_lr (a : Int) (b : Str) : decide ((Sum.inl a : Key) = Sum.inr b) = false := decide_eq_false (fun q => nomatch q)
theorem key_rl (a : Str) (b : Int) : decide ((Sum.inr a : Key) = Sum.inl b) = false := decide_eq_false (fun q => nomatch q)

def mixKind (prog : Program) (w : World) : PySem.KeyKind prog w Key where
  is := keyIs
  hash := keyH w
  inj := fun v a b ha hb => by
    rcases keyIs_shape ha with ⟨i, t, rfl, rfl⟩ | ⟨x, t, rfl, rfl⟩
    · rcases keyIs_shape hb with ⟨j, u, rfl, e⟩ | ⟨y, u, rfl, e⟩
      · injection e with e1 _; rw [e1]
      · exact nomatch e
    · rcases keyIs_shape hb with ⟨j, u, rfl, e⟩ | ⟨y, u, rfl, e⟩
      · exact nomatch e
      · injection e with e1 _; rw [e1]
  byValue := fun k v h => by
    rcases keyIs_shape h with ⟨i, t, rfl, rfl⟩ | ⟨x, t, rfl, rfl⟩ <;> rfl
  pyHash := fun hv h => by
    rcases keyIs_shape hv with ⟨i, t, rfl, rfl⟩ | ⟨x, t, rfl, rfl⟩
    · exact wpAny_pyHash_int h
    · exact wpAny_pyHash_str h
  eqBool := fun hu hv h => by
    rcases keyIs_shape hu with ⟨i, t, rfl, rfl⟩ | ⟨x, t, rfl, rfl⟩
    · rcases keyIs_shape hv with ⟨j, u, rfl, rfl⟩ | ⟨y, u, rfl, rfl⟩
      · rw [key_ll] at h; exact wpAny_eqBool_int h
      · rw [key_lr] at h; exact SeqAt.EqAt.int_str i t y u _ _ _ _ h
    · rcases keyIs_shape hv with ⟨j, u, rfl, rfl⟩ | ⟨y, u, rfl, rfl⟩
      · rw [key_rl] at h; exact SeqAt.EqAt.str_int x t j u _ _ _ _ h
      · rw [key_rr] at h; exact wpAny_eqBool_str h
  «strs» := fun k x t v h => by
    rcases keyIs_shape h with ⟨i, u, rfl, e⟩ | ⟨y, u, rfl, e⟩
    · exact nomatch e
    · injection e with e1 _
      subst e1
      cases v <;> rfl

end L2

namespace L2
open PySem PySem.Spec PyProof.Rows

/-- a value, without the heap -/
inductive V where
  | non | bl (b : Bool) | int (i : Int) | str (x : Str) | byt (b : Array UInt8) | flt (b : UInt64) | ref (a : Addr) | ty (n : String)
  deriving DecidableEq

def RelV : V → Value → Prop
  | .non, u => u = Value.none
  | .bl b, u => u = Value.bool b
  | .int i, u => ∃ t, u = Value.int i t
  | .str x, u => ∃ t, u = Value.str x t
  | .byt b, u => ∃ t, u = Value.bytes b t
  | .flt b, u => ∃ t, u = Value.float b t
  | .ref a, u => u = Value.ref a
  | .ty n, u => u = Value.type n

abbrev Vals : List V → List Value → Prop := Paired RelV
theorem Vals.length {xs : List V} {us : List Value} (r : Vals xs us) : xs.length = us.length := Paired.length r
theorem Vals.get : ∀ {xs : List V} {us : List Value} {i : Nat} {x : V}, Vals xs us → xs[i]? = some x → ∃ u, us[i]? = some u ∧ RelV x u
  | _, _, _, _, .nil, e => by simp at e
  | _, _, 0, _, .cons r _, e => by simp at e; subst e; exact ⟨_, rfl, r⟩
  | _, _, i + 1, x, .cons _ t, e => by
    obtain ⟨u, h1, h2⟩ := Vals.get (i := i) (x := x) t (by simpa using e)
    exact ⟨u, by simpa using h1, h2⟩
theorem Vals.set {x : V} {u : Value} (r : RelV x u) : ∀ {xs : List V} {us : List Value} (i : Nat), Vals xs us → Vals (xs.set i x) (us.set i u)
  | _, _, _, .nil => .nil
  | _, _, 0, .cons _ t => .cons r t
  | _, _, i + 1, .cons q t => .cons q (Vals.set r i t)
theorem Vals.append : ∀ {xs ys : List V} {us ws : List Value}, Vals xs us → Vals ys ws → Vals (xs ++ ys) (us ++ ws)
  | _, _, _, _, .nil, s => s
  | _, _, _, _, .cons r t, s => .cons r (Vals.append t s)
theorem Vals.take : ∀ {xs : List V} {us : List Value} (n : Nat), Vals xs us → Vals (xs.take n) (us.take n)
  | _, _, 0, _ => .nil
  | _, _, _ + 1, .nil => .nil
  | _, _, n + 1, .cons r t => .cons r (Vals.take n t)
theorem Vals.drop : ∀ {xs : List V} {us : List Value} (n : Nat), Vals xs us → Vals (xs.drop n) (us.drop n)
  | _, _, 0, r => r
  | _, _, _ + 1, .nil => .nil
  | _, _, n + 1, .cons _ t => Vals.drop n t
theorem Vals.none_of : ∀ {xs : List V} {us : List Value} {i : Nat}, Vals xs us → xs[i]? = none → us[i]? = none := fun {xs us i} r e => by
  have h1 := r.length
  have h2 : xs.length ≤ i := List.getElem?_eq_none_iff.mp e
  exact List.getElem?_eq_none_iff.mpr (by omega)

def RelO : Option V → Option Value → Prop
  | some v, some u => RelV v u
  | none, none => True
  | _, _ => False
def KV {κ : Type} : List (κ × V) → List (κ × Value) → Prop := Paired fun (p : κ × V) (q : κ × Value) => p.1 = q.1 ∧ RelV p.2 q.2

/-- a key of a dict (00_mix): an int or a text -/
def kV : Key → V
  | .inl i => .int i
  | .inr x => .str x

/-- what stands at a tracked address -/
inductive HO where
  /-- a list -/
  | lst (xs : List V)
  /-- a tuple (never changes) -/
  | tup (xs : List V)
  /-- a dict whose keys are ints and texts; one whose keys are tuples of ints and texts (the empty one is both) -/
  | dK (kvs : List (Key × V)) | dT (kvs : List (List Key × V))
  /-- a set of ints: its members, its size -/
  | set (S : Int → Bool) (n : Nat)
  /-- an instance of the class at C, its dict at dx, its attributes -/
  | ins (C dx : Addr) (fs : List (Str × V))
  /-- the dict of the instance at x -/
  | own (x : Addr)
  /-- the dict of an exception -/
  | xd (fs : List (Str × V))
  /-- a bound method, f of x -/
  | met (f x : Addr)
  /-- a range object lo, lo + 1, .. below hi -/
  | rng (lo hi : Int)
  /-- a thing that is known to the object (the script; a dict while a loop walks it): read, never written while it is so -/
  | frz (o : Obj) (u : HO)
  /-- a code object's table -/
  | tbl (ps : Array Value)
  /-- any other thing, by what is true of its one object (a def of one's own: SetO a S n := HO.ext fun h => ..) -/
  | ext (φ : Heap → Prop)

abbrev Hp := Addr → Option HO
def upd (H : Hp) (a : Addr) (o : HO) : Hp := fun b => if b = a then some o else H b
theorem upd_same {H : Hp} {a : Addr} {o : HO} : upd H a o a = some o := by unfold upd; rw [if_pos rfl]
theorem upd_ne {H : Hp} {a b : Addr} {o : HO} (h : b ≠ a) : upd H a o b = H b := by unfold upd; rw [if_neg h]
theorem upd_upd {H : Hp} {a : Addr} {o u : HO} : upd (upd H a o) a u = upd H a u := by
  funext b; unfold upd; split <;> rfl
theorem ne_of_none {H : Hp} {a b : Addr} {o : HO} (h : H a = some o) (h' : H b = none) : a ≠ b := by
  intro e; subst e; rw [h] at h'; cases h'

section
variable (P : Program) (w : World)
def ObjOk (H : Hp) (h : Heap) (a : Addr) : HO → Prop
  | .lst xs => xs.length ≤ sizeLine ∧ ∃ (its : List Value) (n : Nat), Vals xs its ∧ h.get? a = some { cls := .type "list", data := .seq its.toArray n }
  | .tup xs => xs.length ≤ sizeLine ∧ ∃ its : List Value, Vals xs its ∧ IsTup h a its.toArray
  | .dK kvs => kvs.length ≤ sizeLine ∧ (a == sysModules) = false ∧ ∃ vs, KV kvs vs ∧ h.DictOf (mixKind P w) a vs
  | .dT kvs => kvs.length ≤ sizeLine ∧ (a == sysModules) = false ∧ ∃ xs : List (List Key × Addr × Value),
      Paired (fun (p : List Key × V) (q : List Key × Addr × Value) => p.1 = q.1 ∧ H q.2.1 = some (.tup (p.1.map kV)) ∧ RelV p.2 q.2.2) kvs xs ∧
      ∃ o es ep, h.get? a = some o ∧ o.ExactDict ∧ o.data = .dict es ep ∧ es.toList = xs.map (entryOfKey (tupleKind (mixKind P w))) ∧ (xs.map (·.1)).Nodup
  | .set S n => h.SetOf (intKind P w) a S n
  | .ins C dx fs => H dx = some (.own a) ∧ fs.length ≤ 1000 ∧ dx ≠ a ∧ h.get? a = some (PySem.W.instObj C dx) ∧
      ∃ mA, h.Ns1 dx mA ∧ (∀ f, RelO (fs.lookup f) (mA f)) ∧ PySem.Within mA (fs.map (·.1))
  | .own _ => ∃ o, h.get? a = some o
  | .xd fs => ∃ mA, h.Ns1 a mA ∧ ∀ f, RelO (fs.lookup f) (mA f)
  | .rng lo hi => ∃ t u v, h.get? a = some { cls := .type "range", data := .fields #[.int lo t, .int hi u, .int 1 v] }
  | .frz o u => h.get? a = some o ∧ ObjOk H h a u
  | .tbl ps => h.get? a = some { cls := .none, data := .fields ps }
  | .met f x => h.get? a = some (PySem.W.methodObj (.ref f) (.ref x))
  | .ext φ => φ h ∧ (∃ o, h.get? a = some o) ∧ ∀ h1 h2 : Heap, φ h1 → (∀ o, h1.get? a = some o → h2.get? a = some o) → φ h2
/-- the abstract heap is held -/
def HOk (H : Hp) (h : Heap) : Prop := ∀ a o, H a = some o → ObjOk P w H h a o
end

section
variable {P : Program} {w : World} {H H' : Hp} {h h' : Heap} {a : Addr} {o : HO}
theorem ObjOk.lt (x : ObjOk P w H h a o) : a < h.objs.size := by
  cases o with
  | lst xs => obtain ⟨_, _, _, _, e⟩ := x; exact Heap.lt_size e
  | tup xs => obtain ⟨_, _, _, p⟩ := x; exact p.lt
  | dK kvs => obtain ⟨_, _, _, _, o, _, _, e, _⟩ := x; exact Heap.lt_size e
  | dT kvs => obtain ⟨_, _, _, _, o, _, _, e, _⟩ := x; exact Heap.lt_size e
  | set S n => obtain ⟨o, _, _, _, e, _⟩ := x; exact Heap.lt_size e
  | ins C dx fs => obtain ⟨_, _, _, e, _⟩ := x; exact Heap.lt_size e
  | own y => obtain ⟨_, e⟩ := x; exact Heap.lt_size e
  | xd fs => obtain ⟨_, ⟨_, _, _, e, _⟩, _⟩ := x; exact Heap.lt_size e
  | rng lo hi => obtain ⟨_, _, _, e⟩ := x; exact Heap.lt_size e
  | frz ob u => obtain ⟨e, _⟩ := x; exact Heap.lt_size e
  | tbl ps => exact Heap.lt_size (show h.get? a = some _ from x)
  | met f y => exact Heap.lt_size (show h.get? a = some _ from x)
  | ext φ => obtain ⟨_, ⟨_, e⟩, _⟩ := x; exact Heap.lt_size e
theorem Paired.mapP {α β : Type} {F G : α → β → Prop} : ∀ {l₁ : List α} {l₂ : List β}, Paired F l₁ l₂ → (∀ a b, F a b → G a b) → Paired G l₁ l₂
  | _, _, .nil, _ => .nil
  | _, _, .cons r t, f => .cons (f _ _ r) (Paired.mapP t f)
/-- what an object's description leans on: its own object, its own dict, the tuples -/
theorem ObjOk.stay (x : ObjOk P w H h a o) (k : ∀ b u, (b = a ∨ H b = some (.own a)) → h.get? b = some u → h'.get? b = some u)
    (ho : ∀ b, H b = some (.own a) → H' b = some (.own a)) (ht : ∀ b xs, H b = some (.tup xs) → H' b = some (.tup xs)) : ObjOk P w H' h' a o := by
  induction o with
  | lst xs => obtain ⟨z, its, n, r, e⟩ := x; exact ⟨z, its, n, r, k _ _ (.inl rfl) e⟩
  | tup xs => obtain ⟨z, its, r, ob, e, c⟩ := x; exact ⟨z, its, r, ob, k _ _ (.inl rfl) e, c⟩
  | dK kvs => obtain ⟨z, y, vs, r, ob, es, ep, e, c⟩ := x; exact ⟨z, y, vs, r, ob, es, ep, k _ _ (.inl rfl) e, c⟩
  | dT kvs =>
    obtain ⟨z, y, xs, r, ob, es, ep, e, c⟩ := x
    exact ⟨z, y, xs, Paired.mapP r fun p q z => ⟨z.1, ht _ _ z.2.1, z.2.2⟩, ob, es, ep, k _ _ (.inl rfl) e, c⟩
  | set S n => obtain ⟨ob, es, ep, t, e, c⟩ := x; exact ⟨ob, es, ep, t, k _ _ (.inl rfl) e, c⟩
  | ins C dx fs =>
    obtain ⟨d, z, ne, e, mA, ⟨od, es, ep, e2, c⟩, r⟩ := x
    exact ⟨ho _ d, z, ne, k _ _ (.inl rfl) e, mA, ⟨od, es, ep, k _ _ (.inr d) e2, c⟩, r⟩
  | own y => obtain ⟨ob, e⟩ := x; exact ⟨ob, k _ _ (.inl rfl) e⟩
  | xd fs => obtain ⟨mA, ⟨od, es, ep, e, c⟩, r⟩ := x; exact ⟨mA, ⟨od, es, ep, k _ _ (.inl rfl) e, c⟩, r⟩
  | rng lo hi => obtain ⟨t, u, v, e⟩ := x; exact ⟨t, u, v, k _ _ (.inl rfl) e⟩
  | frz ob u ih => obtain ⟨e, q⟩ := x; exact ⟨k _ _ (.inl rfl) e, ih q⟩
  | tbl ps =>
    have e : h.get? a = some { cls := .none, data := .fields ps } := x
    show h'.get? a = some { cls := .none, data := .fields ps }
    exact k a _ (.inl rfl) e
  | met f y =>
    have e : h.get? a = some (PySem.W.methodObj (.ref f) (.ref y)) := x
    show h'.get? a = some (PySem.W.methodObj (.ref f) (.ref y))
    exact k a _ (.inl rfl) e
  | ext φ => obtain ⟨p, ⟨o, e⟩, st⟩ := x; exact ⟨st _ _ p fun o q => k _ _ (.inl rfl) q, ⟨o, k _ _ (.inl rfl) e⟩, st⟩
theorem HOk.lt (x : HOk P w H h) (e : H a = some o) : a < h.objs.size := (x a o e).lt
theorem HOk.fresh (x : HOk P w H h) (e : h.objs.size ≤ a) : H a = none := by
  cases q : H a with
  | none => rfl
  | some u => exact absurd (Nat.lt_of_lt_of_le (x.lt q) e) (Nat.lt_irrefl _)
/-- every object of the heap is kept -/
theorem HOk.kept (x : HOk P w H h) (k : ∀ b u, h.get? b = some u → h'.get? b = some u) : HOk P w H h' := fun a o e =>
  (x a o e).stay (fun b u _ q => k b u q) (fun _ q => q) fun _ _ q => q
/-- a new object is laid and tracked -/
theorem HOk.laid (x : HOk P w H h) (k : ∀ b u, h.get? b = some u → h'.get? b = some u) (hp : h.objs.size ≤ a) (new : ObjOk P w (upd H a o) h' a o) : HOk P w (upd H a o) h' := fun b u e => by
  have hn := x.fresh hp
  by_cases hb : b = a
  · subst hb; rw [upd_same] at e; cases e; exact new
  · rw [upd_ne hb] at e
    exact (x b u e).stay (fun c v _ q => k c v q) (fun c q => by rw [upd_ne (ne_of_none q hn)]; exact q) fun c xs q => by rw [upd_ne (ne_of_none q hn)]; exact q
end

/-- what may be read as u: it is u, or a known u -/
def Rd (H : Hp) (a : Addr) (u : HO) : Prop := H a = some u ∨ ∃ o, H a = some (.frz o u)
theorem Rd.of {H : Hp} {a : Addr} {u : HO} (h : H a = some u) : Rd H a u := .inl h
theorem Rd.ok {P : Program} {w : World} {H : Hp} {h : Heap} {a : Addr} {u : HO} (r : Rd H a u) (x : HOk P w H h) : ObjOk P w H h a u := by
  rcases r with r | ⟨o, r⟩
  · exact x a u r
  · obtain ⟨_, q⟩ := x a _ r
    exact q
/-- what may be written -/
def Mut : Option HO → Prop
  | some (.lst _) => True
  | some (.dK _) => True
  | some (.dT _) => True
  | some (.set _ _) => True
  | some (.ins _ _ _) => True
  | some (.ext _) => True
  | _ => False
section
variable {P : Program} {w : World} {H : Hp} {h h' : Heap} {x e : Addr} {o' : HO}
/-- the object at e is changed: x itself, or the dict of the instance x -/
theorem HOk.write (ok : HOk P w H h) (mu : Mut (H x)) (he : e = x ∨ H e = some (.own x)) (k : ∀ b u, b ≠ e → h.get? b = some u → h'.get? b = some u) (heo : ∃ u, h'.get? e = some u)
    (new : ObjOk P w (upd H x o') h' x o') : HOk P w (upd H x o') h' := fun b u q => by
  have nown : ∀ c y, H c = some (.own y) → c ≠ x := fun c y r z => by subst z; rw [r] at mu; exact mu
  have ntup : ∀ c xs, H c = some (.tup xs) → c ≠ x := fun c xs r z => by subst z; rw [r] at mu; exact mu
  by_cases hb : b = x
  · subst hb; rw [upd_same] at q; cases q; exact new
  · rw [upd_ne hb] at q
    by_cases hbe : b = e
    · have q' : H b = some (.own x) := by
        rcases he with z | z
        · exact absurd (hbe.trans z) hb
        · rw [hbe]; exact z
      rw [q] at q'; cases q'
      obtain ⟨v, hv⟩ := heo
      exact ⟨v, by rw [hbe]; exact hv⟩
    · refine (ok b u q).stay (fun c v hc r => k c v ?_ r) (fun c r => by rw [upd_ne (nown c b r)]; exact r) fun c xs r => by rw [upd_ne (ntup c xs r)]; exact r
      rcases hc with rfl | hc
      · exact hbe
      · rintro rfl
        rcases he with z | z
        · exact nown c b hc z
        · rw [hc] at z; cases z; exact hb rfl
end

/-! ### kept unless tracked; of the frames at fs (the callers') the slots may change (an exception that passes writes there); of the records at ex (iterators) nothing is said -/
structure Un (fs ex : List Addr) (H H' : Hp) (h h' : Heap) : Prop where
  keep : ∀ b o, h.get? b = some o → H b = none → b ∉ fs → b ∉ ex → h'.get? b = some o
  slot : ∀ b o, h.get? b = some o → H b = none → b ∈ fs → b ∉ ex → ∃ sl, h'.get? b = some { o with slots := sl }
  free : ∀ b o, h.get? b = some o → H b = none → b ∉ ex → H' b = none
  there : ∀ b o, h.get? b = some o → b ∉ ex → ∃ o', h'.get? b = some o'
  tups : ∀ b xs, H b = some (.tup xs) → H' b = some (.tup xs)
  frzs : ∀ b o u, H b = some (.frz o u) → H' b = some (.frz o u)
  tbls : ∀ b ps, H b = some (.tbl ps) → ∃ more, H' b = some (.tbl (ps ++ more))
section
variable {fs fs' ex ex' : List Addr} {H H1 H2 : Hp} {h h1 h2 h' : Heap} {a x e : Addr} {o : HO}
theorem Un.any (u : Un fs ex H H1 h h1) {b : Addr} {ob : Obj} (q : h.get? b = some ob) (n : H b = none) (hx : b ∉ ex) : ∃ sl, h1.get? b = some { ob with slots := sl } := by
  by_cases hb : b ∈ fs
  · exact u.slot b ob q n hb hx
  · exact ⟨ob.slots, u.keep b ob q n hb hx⟩
theorem Un.trans (a : Un fs ex H H1 h h1) (b : Un fs ex H1 H2 h1 h2) : Un fs ex H H2 h h2 where
  keep := fun c ob q n hc hx => b.keep c ob (a.keep c ob q n hc hx) (a.free c ob q n hx) hc hx
  slot := fun c ob q n hc hx => by
    obtain ⟨sl, e1⟩ := a.slot c ob q n hc hx
    obtain ⟨sl', e2⟩ := b.slot c _ e1 (a.free c ob q n hx) hc hx
    exact ⟨sl', e2⟩
  free := fun c ob q n hx => by
    obtain ⟨o', e1⟩ := a.there c ob q hx
    exact b.free c o' e1 (a.free c ob q n hx) hx
  there := fun c ob q hx => by
    obtain ⟨o', e1⟩ := a.there c ob q hx
    exact b.there c o' e1 hx
  tups := fun c xs q => b.tups c xs (a.tups c xs q)
  frzs := fun c ob xs q => b.frzs c ob xs (a.frzs c ob xs q)
  tbls := fun c ps q => by
    obtain ⟨m1, e1⟩ := a.tbls c ps q
    obtain ⟨m2, e2⟩ := b.tbls c _ e1
    exact ⟨m1 ++ m2, by rw [e2, Array.append_assoc]⟩
theorem Un.kept (k : ∀ b u, h.get? b = some u → h'.get? b = some u) : Un fs ex H H h h' :=
  ⟨fun b ob q _ _ _ => k b ob q, fun b ob q _ _ _ => ⟨ob.slots, k b ob q⟩, fun _ _ _ n _ => n, fun b ob q _ => ⟨ob, k b ob q⟩, fun _ _ q => q, fun _ _ _ q => q, fun _ ps q => ⟨#[], by rw [q]; simp⟩⟩
theorem Un.refl : Un fs ex H H h h := Un.kept fun _ _ q => q
theorem Un.laid (k : ∀ b u, h.get? b = some u → h'.get? b = some u) (hp : h.objs.size ≤ a) (hn : H a = none) : Un fs ex H (upd H a o) h h' where
  keep := fun b u q _ _ _ => k b u q
  slot := fun b u q _ _ _ => ⟨u.slots, k b u q⟩
  free := fun b u q n _ => by rw [upd_ne (Nat.ne_of_lt (Nat.lt_of_lt_of_le (Heap.lt_size q) hp))]; exact n
  there := fun b u q _ => ⟨u, k b u q⟩
  tups := fun b xs q => by rw [upd_ne (ne_of_none q hn)]; exact q
  frzs := fun b u xs q => by rw [upd_ne (ne_of_none q hn)]; exact q
  tbls := fun b ps q => ⟨#[], by rw [upd_ne (ne_of_none q hn), q]; simp⟩
theorem Un.write (mu : Mut (H x)) (he : e = x ∨ H e = some (.own x)) (k : ∀ b u, b ≠ e → h.get? b = some u → h'.get? b = some u) (heo : ∃ u, h'.get? e = some u) : Un fs ex H (upd H x o) h h' := by
  have hx : ∀ b, H b = none → b ≠ x := fun b n z => by subst z; rw [n] at mu; exact mu
  have hb : ∀ b, H b = none → b ≠ e := fun b n z => by
    subst z
    rcases he with r | r
    · exact hx b n r
    · rw [n] at r; cases r
  have hm : ∀ b u, H b = some u → ¬ Mut (some u) → b ≠ x := fun b u q nm z => by subst z; rw [q] at mu; exact nm mu
  refine ⟨fun b u q n _ _ => k b u (hb b n) q, fun b u q n _ _ => ⟨u.slots, k b u (hb b n) q⟩, fun b u q n _ => by rw [upd_ne (hx b n)]; exact n, fun b u q _ => ?_,
    fun b xs q => by rw [upd_ne (hm b _ q fun z => z)]; exact q, fun b u xs q => by rw [upd_ne (hm b _ q fun z => z)]; exact q, fun b ps q => ⟨#[], by rw [upd_ne (hm b _ q fun z => z), q]; simp⟩⟩
  by_cases hbe : b = e
  · subst hbe; exact heo
  · exact ⟨u, k b u hbe q⟩
theorem Un.mono (u : Un fs ex H H1 h h1) (hs : ∀ b ∈ fs, b ∈ fs') (hx : ∀ b ∈ ex, b ∈ ex') : Un fs' ex' H H1 h h1 :=
  ⟨fun b ob q n hb he => u.keep b ob q n (fun z => hb (hs b z)) fun z => he (hx b z), fun _ _ q n _ he => u.any q n fun z => he (hx _ z), fun b ob q n he => u.free b ob q n fun z => he (hx b z), fun b ob q he => u.there b ob q fun z => he (hx b z), u.tups, u.frzs, u.tbls⟩
end

/-! ### the heap without what is tracked -/
def trk (h : Heap) (H : Hp) : List Addr := (List.range h.objs.size).filter fun a => (H a).isSome
def hidT (h : Heap) (H : Hp) : Heap := PySem.W.hideAll h (trk h H)
theorem hidT_size (h : Heap) (H : Hp) : (hidT h H).objs.size = h.objs.size := PySem.W.hideAll_size _ _
theorem hidT_get {h : Heap} {H : Hp} {b : Addr} {o : Obj} (e : h.get? b = some o) (n : H b = none) : (hidT h H).get? b = some o :=
  PySem.W.hideAll_get _ e fun hm => by
    have q : (H b).isSome = true := (List.mem_filter.mp hm).2
    rw [n] at q; simp at q
theorem of_hidT {h : Heap} {H : Hp} {b : Addr} {o : Obj} (e : (hidT h H).get? b = some o) : h.get? b = some o ∧ H b = none := by
  have e' : h.get? b = some o := PySem.W.of_hideAll (trk h H) e
  refine ⟨e', ?_⟩
  cases q : H b with
  | none => rfl
  | some x =>
    have hm : b ∈ trk h H := List.mem_filter.mpr ⟨List.mem_range.mpr (Heap.lt_size e'), by simp [q]⟩
    have z : (hidT h H).get? b = none := PySem.W.hideAll_none (trk h H) hm
    rw [z] at e; cases e

/-! ### OpenK's ledger, filled with every new object but one -/
def allNews (g h : Heap) (L : Addr) : List (Addr × Obj) := (List.range h.objs.size).filterMap fun a => if a = L ∨ (g.get? a).isSome = true then none else (h.get? a).map fun o => (a, o)
def rest (g h : Heap) (L d : Addr) : List (Addr × Obj) := (allNews g h L).filter fun p => decide (p.1 ≠ d)
end L2

namespace L2
open PySem PySem.Spec PyProof.Rows

/-- the module's facts, over the base: the heap at the law's entry without what is tracked there -/
structure Mod (K : PySem.W.Frag) (mg : Str → Option Value) (base : Heap) : Prop where
  kin : K.In base
  glob : base.Ns mainGlobals mg
  blt : ∃ mb, base.Ns builtinsNs mb ∧ ∀ x : Str, x ≠ "__name__" → mb x = bootBuiltins x
  nolimit : base.NoLimit

/-- the context: a def's body (or a comprehension's block) running. base: fixed through the whole law; s₀, H₀: the entry; outer: the frames whose slots others may change (a def's callers); stack: all frames that run;
   ex: iterators that were made ahead of the entry and are walked here (a comprehension's); fn: the names whose cells were made at the entry (a def: all; a comprehension's block: its own); calm: not within an except suite; pn: pins that every state bears; xe: what is wanted of an exception that leaves the code -/
structure Cx where
  prog : Program
  w : World
  K : PySem.W.Frag
  mg : Str → Option Value
  base : Heap
  A : Around
  N : List Str
  s₀ : Shared
  H₀ : Hp
  env : Env
  outer : List Env
  stack : List Env
  ex : List Addr
  fn : Str → Bool
  calm : Bool
  pn : List (Addr × Obj)
  xe : Value → Shared → Prop
/-- the callers' frames -/
def frs (l : List Env) : List Addr := l.filterMap (·.frame)
abbrev Cx.fs (X : Cx) : List Addr := frs X.outer

def Vis (sc : Scope) (x : Str) : Prop := sc.names.lookup x = some .local ∨ sc.names.lookup x = some .cell ∨ sc.names.lookup x = some .free
def Loc (sc : Scope) (x : Str) : Prop := sc.names.lookup x = some .local ∨ sc.names.lookup x = some .cell
def Look (env : Env) (h : Heap) (m : Str → Option Value) (x : Str) (u : Value) : Prop :=
  (env.kindOf x = some .local ∧ m x = some u) ∨ ((env.kindOf x = some .cell ∨ env.kindOf x = some .free) ∧ ∃ c, env.cells.lookup x = some c ∧ h.IsCell c (some u))

structure Cx.Ok (X : Cx) : Prop where
  mod : Mod X.K X.mg X.base
  kind : X.env.scope.kind = .function
  glob : X.env.globals = mainGlobals
  blt : X.env.builtins = builtinsNs
  above : X.s₀.heap.objs.size ≤ X.env.locals
  inj : ∀ x y c, X.env.cells.lookup x = some c → X.env.cells.lookup y = some c → x = y
  has : ∀ x, (X.env.kindOf x = some .cell ∨ X.env.kindOf x = some .free) → ∃ c, X.env.cells.lookup x = some c
  cab : ∀ x c, X.fn x = true → X.env.cells.lookup x = some c → X.s₀.heap.objs.size ≤ c
  hd : X.calm = true → X.A.handled = none
  frames : X.A.frames = some X.stack
  stk : X.stack = X.outer ∨ (X.stack = X.env :: X.outer ∧ X.env.frame = some X.env.locals)
  exf : ∀ b ∈ X.ex, b ≠ X.env.locals ∧ ∀ x c, X.env.cells.lookup x = some c → c ≠ b
  bs : ∀ b o, X.base.get? b = some o → X.s₀.heap.get? b = some o ∧ X.H₀ b = none
  bsz : X.base.objs.size ≤ X.s₀.heap.objs.size
  noex : ∀ b o, X.base.get? b = some o → b ∉ X.ex
  exfs : ∀ b ∈ X.ex, b ∉ X.fs
  funs : X.s₀.heap.FunFrames X.base X.outer
  frf : ∀ b ∈ X.fs, X.H₀ b = none

structure Inv (X : Cx) (pins : List (Addr × Obj)) (σ : List (Option V)) (H : Hp) (s : Shared) : Prop where
  ok : X.Ok
  os : s.os = X.s₀.os
  bare : AllBare s.gens
  base : Un X.fs X.ex X.H₀ H X.s₀.heap s.heap
  loc : ∃ m, s.heap.Ns X.env.locals m ∧ ∀ (i : Nat) (x : Str) (v : V), X.N[i]? = some x → σ[i]? = some (some v) → Vis X.env.scope x → ∃ u, RelV v u ∧ Look X.env s.heap m x u
  cell : ∀ x c, X.env.cells.lookup x = some c → ∃ v, s.heap.IsCell c v
  free : H X.env.locals = none
  freeC : ∀ x c, X.env.cells.lookup x = some c → H c = none
  pin : ∀ p ∈ X.pn ++ pins, s.heap.get? p.1 = some p.2 ∧ H p.1 = none ∧ p.1 ≠ X.env.locals ∧ p.1 ∉ X.fs ∧ ∀ v, p.2.data ≠ .cell v
  hok : HOk X.prog X.w H s.heap
  len : σ.length = X.N.length

section
variable {X : Cx} {pins : List (Addr × Obj)} {σ : List (Option V)} {H H' : Hp} {s : Shared} {h' : Heap}

theorem Cx.Ok.nofr (ok : X.Ok) {b : Addr} {o : Obj} (e : X.base.get? b = some o) : b ∉ X.fs := fun hb => by
  have := (ok.funs.mem hb).1
  rw [e] at this; cases this
theorem Inv.bs (I : Inv X pins σ H s) : ∀ b o, X.base.get? b = some o → s.heap.get? b = some o ∧ H b = none := fun b o e =>
  ⟨I.base.keep b o (I.ok.bs b o e).1 (I.ok.bs b o e).2 (I.ok.nofr e) (I.ok.noex b o e), I.base.free b o (I.ok.bs b o e).1 (I.ok.bs b o e).2 (I.ok.noex b o e)⟩
theorem Inv.bk (I : Inv X pins σ H s) : ∀ b o, X.base.get? b = some o → s.heap.get? b = some o := fun b o e => (I.bs b o e).1
theorem Inv.mod (I : Inv X pins σ H s) : Mod X.K X.mg X.base := I.ok.mod
theorem Inv.kIn (I : Inv X pins σ H s) : X.K.In s.heap := I.ok.mod.kin.keeps I.bk
theorem Inv.nolimit (I : Inv X pins σ H s) : s.heap.NoLimit := I.ok.mod.nolimit.keeps I.bk
/-- the frame over the base: for OpenK's rules (K.In X.base is I.mod.kin) -/
theorem Inv.fr (I : Inv X pins σ H s) : ∃ m, Fr X.base X.env.locals s.heap m :=
  let ⟨m, hn, _⟩ := I.loc
  ⟨m, hn, I.bk, Nat.le_trans I.ok.bsz I.ok.above⟩
theorem Inv.lt (I : Inv X pins σ H s) : X.env.locals < s.heap.objs.size := let ⟨_, hn, _⟩ := I.loc; hn.lt
theorem Inv.sz (I : Inv X pins σ H s) : X.s₀.heap.objs.size ≤ s.heap.objs.size := Nat.le_trans I.ok.above (Nat.le_of_lt I.lt)
theorem Inv.nofs (I : Inv X pins σ H s) {a : Addr} (h : s.heap.objs.size ≤ a) : a ∉ X.fs := fun hb => by
  obtain ⟨_, o, ho, _⟩ := I.ok.funs.mem hb
  exact absurd (Nat.lt_of_lt_of_le (Heap.lt_size ho) (Nat.le_trans I.sz h)) (Nat.lt_irrefl _)
theorem Inv.cne (I : Inv X pins σ H s) : ∀ x c, X.env.cells.lookup x = some c → c ≠ X.env.locals := fun x c e z => by
  obtain ⟨v, o, ho, hd⟩ := I.cell x c e
  obtain ⟨m, ⟨o', es, ep, ho', hd', _⟩, _⟩ := I.loc
  rw [z, ho'] at ho; cases ho; rw [hd'] at hd; cases hd
theorem Inv.funs (I : Inv X pins σ H s) : s.heap.FunFrames X.base X.outer := by
  have all : ∀ (l : List Env), (∀ b ∈ frs l, b ∈ X.fs) → X.s₀.heap.FunFrames X.base l → s.heap.FunFrames X.base l := by
    intro l
    induction l with
    | nil => intro _ _; trivial
    | cons env r ih =>
      intro hs hl
      obtain ⟨hk, ⟨L, o, hf, hn, ho, hd⟩, hr⟩ := hl
      have hL : L ∈ X.fs := hs L (by unfold frs; rw [List.filterMap_cons, hf]; exact List.mem_cons_self)
      obtain ⟨sl, e⟩ := I.base.slot L o ho (I.ok.frf L hL) hL fun z => I.ok.exfs L z hL
      exact ⟨hk, ⟨L, _, hf, hn, e, hd⟩, ih (fun b hb => hs b (by unfold frs; rw [List.filterMap_cons, hf]; exact List.mem_cons_of_mem _ hb)) hr⟩
  exact all X.outer (fun _ hb => hb) I.ok.funs

/-- the frames that run, for a call -/
theorem Inv.stack (I : Inv X pins σ H s) : s.heap.FunFrames X.base X.stack := by
  rcases I.ok.stk with e | ⟨e, hf⟩
  · rw [e]; exact I.funs
  · rw [e]
    obtain ⟨m, hn, _⟩ := I.loc
    refine .cons (by rw [I.ok.kind]; decide) hf hn ?_ I.funs
    exact Heap.get?_none_of_le (Nat.le_trans I.ok.bsz I.ok.above)
theorem Inv.stkSub (I : Inv X pins σ H s) : ∀ b ∈ frs X.stack, b ∈ X.env.locals :: X.fs := fun b hb => by
  rcases I.ok.stk with e | ⟨e, hf⟩
  · rw [e] at hb; exact List.mem_cons_of_mem _ hb
  · rw [e] at hb
    unfold frs at hb
    rw [List.filterMap_cons, hf] at hb
    exact hb
theorem Inv.stkFree (I : Inv X pins σ H s) : ∀ b ∈ frs X.stack, H b = none := fun b hb => by
  rcases List.mem_cons.mp (I.stkSub b hb) with e | hb
  · rw [e]; exact I.free
  · obtain ⟨_, o, ho, _⟩ := I.ok.funs.mem hb
    exact I.base.free b o ho (I.ok.frf b hb) fun z => I.ok.exfs b z hb

/-- THE STEP: the untracked objects but the frame and the records at ch are kept (the callers' frames up to slots), the frame's map is kept, the new abstract heap is held -/
theorem Inv.step {g' : Array GenState} {t' : Nat} {d' : Drawn} {ch : List Addr} (I : Inv X pins σ H s)
    (hch : ∀ b ∈ ch, (b ∈ X.ex ∨ X.s₀.heap.objs.size ≤ b) ∧ b ≠ X.env.locals ∧ (∀ x c, X.env.cells.lookup x = some c → c ≠ b) ∧ ∀ p ∈ X.pn ++ pins, p.1 ≠ b)
    (keep : ∀ b o, b ≠ X.env.locals → b ∉ X.fs → b ∉ ch → s.heap.get? b = some o → H b = none → h'.get? b = some o)
    (slot : ∀ b o, b ≠ X.env.locals → b ∈ X.fs → b ∉ ch → s.heap.get? b = some o → H b = none → ∃ sl, h'.get? b = some { o with slots := sl }) (free : ∀ b o, b ∉ ch → s.heap.get? b = some o → H b = none → H' b = none)
    (there : ∀ b o, b ∉ ch → s.heap.get? b = some o → ∃ o', h'.get? b = some o')
    (tups : ∀ b xs, H b = some (.tup xs) → H' b = some (.tup xs)) (frzs : ∀ b o u, H b = some (.frz o u) → H' b = some (.frz o u)) (tbls : ∀ b ps, H b = some (.tbl ps) → ∃ more, H' b = some (.tbl (ps ++ more)))
    (ns : ∀ m, s.heap.Ns X.env.locals m → h'.Ns X.env.locals m) (hok : HOk X.prog X.w H' h') (hg : AllBare g') :
    Inv X pins σ H' { s with heap := h', gens := g', drawn := d', toks := t' } := by
  have neL : ∀ b o, X.s₀.heap.get? b = some o → b ≠ X.env.locals := fun b o e => Nat.ne_of_lt (Nat.lt_of_lt_of_le (Heap.lt_size e) I.ok.above)
  have neC : ∀ b o, X.s₀.heap.get? b = some o → b ∉ X.ex → b ∉ ch := fun b o e hx hb => by
    rcases (hch b hb).1 with z | z
    · exact hx z
    · exact absurd (Nat.lt_of_lt_of_le (Heap.lt_size e) z) (Nat.lt_irrefl _)
  have cellK : ∀ x c, X.env.cells.lookup x = some c → ∀ v, s.heap.IsCell c v → h'.IsCell c v := fun x c e v ⟨o, ho, hd⟩ => by
    have nch : c ∉ ch := fun z => (hch c z).2.2.1 x c e rfl
    by_cases hc : c ∈ X.fs
    · obtain ⟨sl, q⟩ := slot c o (I.cne x c e) hc nch ho (I.freeC x c e)
      exact ⟨_, q, hd⟩
    · exact ⟨o, keep c o (I.cne x c e) hc nch ho (I.freeC x c e), hd⟩
  refine ⟨I.ok, I.os, hg, ⟨fun b o e n hb hx => ?_, fun b o e n hb hx => ?_, fun b o e n hx => ?_, fun b o e hx => ?_, fun b xs e => tups b xs (I.base.tups b xs e), fun b o xs e => frzs b o xs (I.base.frzs b o xs e), fun b ps e => ?_⟩, ?_, fun x c e => ?_, ?_, fun x c e => ?_, fun p hp => ?_, hok, I.len⟩
  · exact keep b o (neL b o e) hb (neC b o e hx) (I.base.keep b o e n hb hx) (I.base.free b o e n hx)
  · obtain ⟨sl, e1⟩ := I.base.slot b o e n hb hx
    obtain ⟨sl', e2⟩ := slot b _ (neL b o e) hb (neC b o e hx) e1 (I.base.free b o e n hx)
    exact ⟨sl', e2⟩
  · obtain ⟨o', e1⟩ := I.base.there b o e hx
    exact free b o' (neC b o e hx) e1 (I.base.free b o e n hx)
  · obtain ⟨o', e1⟩ := I.base.there b o e hx
    exact there b o' (neC b o e hx) e1
  · obtain ⟨m1, e1⟩ := I.base.tbls b ps e
    obtain ⟨m2, e2⟩ := tbls b _ e1
    exact ⟨m1 ++ m2, by rw [e2, Array.append_assoc]⟩
  · obtain ⟨m, hn, hl⟩ := I.loc
    refine ⟨m, ns m hn, fun i x v e1 e2 e3 => ?_⟩
    obtain ⟨u, r, l⟩ := hl i x v e1 e2 e3
    refine ⟨u, r, ?_⟩
    rcases l with l | ⟨k, c, e, z⟩
    · exact .inl l
    · exact .inr ⟨k, c, e, cellK x c e _ z⟩
  · obtain ⟨v, z⟩ := I.cell x c e
    exact ⟨v, cellK x c e v z⟩
  · obtain ⟨m, ⟨o, _, _, ho, _⟩, _⟩ := I.loc
    exact free _ o (fun z => (hch _ z).2.1 rfl) ho I.free
  · obtain ⟨v, o, ho, hd⟩ := I.cell x c e
    exact free c o (fun z => (hch c z).2.2.1 x c e rfl) ho (I.freeC x c e)
  · obtain ⟨e, n, ne, nf, d⟩ := I.pin p hp
    have nch : p.1 ∉ ch := fun z => (hch p.1 z).2.2.2 p hp rfl
    exact ⟨keep p.1 p.2 ne nf nch e n, free p.1 p.2 nch e n, ne, nf, d⟩
/-- .. where the frame's own object is kept too -/
theorem Inv.un {t' : Nat} (I : Inv X pins σ H s) (u : Un X.fs [] H H' s.heap h') (hok : HOk X.prog X.w H' h') : Inv X pins σ H' { s with heap := h', toks := t' } := by
  obtain ⟨m, ⟨o, es, ep, ho, r⟩, _⟩ := id I.loc
  obtain ⟨sl, hL⟩ := u.any ho I.free (by simp)
  exact I.step (g' := s.gens) (d' := s.drawn) (ch := []) (fun _ z => nomatch z) (fun b o _ hb _ e n => u.keep b o e n hb (by simp)) (fun b o _ hb _ e n => u.slot b o e n hb (by simp)) (fun b o _ e n => u.free b o e n (by simp)) (fun b o _ e => u.there b o e (by simp)) u.tups u.frzs u.tbls (fun m' hm => by
    obtain ⟨o', es', ep', ho', r'⟩ := hm
    rw [ho] at ho'; cases ho'
    exact ⟨_, es', ep', hL, r'⟩) hok I.bare
/-- behind a call (or a comprehension's block): the slots of this frame may have changed too, the records at ch may have turned -/
theorem Inv.call {g' : Array GenState} {t' : Nat} {d' : Drawn} {ch : List Addr} (I : Inv X pins σ H s) (u : Un (frs X.stack) ch H H' s.heap h') (hok : HOk X.prog X.w H' h') (hg : AllBare g')
    (hch : ∀ b ∈ ch, (b ∈ X.ex ∨ X.s₀.heap.objs.size ≤ b) ∧ b ≠ X.env.locals ∧ (∀ x c, X.env.cells.lookup x = some c → c ≠ b) ∧ ∀ p ∈ X.pn ++ pins, p.1 ≠ b) :
    Inv X pins σ H' { s with heap := h', gens := g', drawn := d', toks := t' } := by
  obtain ⟨m, ⟨o, es, ep, ho, r⟩, _⟩ := id I.loc
  obtain ⟨sl, hL⟩ := u.any ho I.free fun z => (hch _ z).2.1 rfl
  exact I.step (ch := ch) hch (fun b o hL hb hc e n => u.keep b o e n (fun z => (List.mem_cons.mp (I.stkSub b z)).elim hL hb) hc) (fun b o _ _ hc e n => u.any e n hc) (fun b o hc e n => u.free b o e n hc) (fun b o hc e => u.there b o e hc) u.tups u.frzs u.tbls (fun m' hm => by
    obtain ⟨o', es', ep', ho', r'⟩ := hm
    rw [ho] at ho'; cases ho'
    exact ⟨_, es', ep', hL, r'⟩) hok hg
/-- an untracked record of ours (an iterator) has turned -/
theorem Inv.turned {t' : Nat} {it : Addr} (I : Inv X pins σ H s) (k : ∀ b o, b ≠ it → s.heap.get? b = some o → h'.get? b = some o) (hn : H it = none) (hL : it ≠ X.env.locals)
    (h1 : it ∈ X.ex ∨ X.s₀.heap.objs.size ≤ it) (h2 : ∀ x c, X.env.cells.lookup x = some c → c ≠ it) (h3 : ∀ p ∈ X.pn ++ pins, p.1 ≠ it) : Inv X pins σ H { s with heap := h', toks := t' } := by
  have nit : ∀ b u, H b = some u → b ≠ it := fun b u e z => by rw [z, hn] at e; cases e
  refine I.step (g' := s.gens) (d' := s.drawn) (ch := [it]) (fun b hb => ?_) (fun b o _ _ hc e _ => k b o (fun z => hc (by simp [z])) e) (fun b o _ _ hc e _ => ⟨o.slots, k b o (fun z => hc (by simp [z])) e⟩) (fun _ _ _ _ n => n)
    (fun b o hc e => ⟨o, k b o (fun z => hc (by simp [z])) e⟩) (fun _ _ e => e) (fun _ _ _ e => e) (fun b ps e => ⟨#[], by rw [e]; simp⟩) (fun m hm => ?_) (fun b u e => ?_) I.bare
  · have e : b = it := by simpa using hb
    subst e
    exact ⟨h1, hL, h2, h3⟩
  · obtain ⟨o, es, ep, ho, r⟩ := hm
    exact ⟨o, es, ep, k _ o (Ne.symm hL) ho, r⟩
  · refine (I.hok b u e).stay (fun c v hc q => k c v ?_ q) (fun _ q => q) fun _ _ q => q
    rcases hc with z | z
    · rw [z]; exact nit b u e
    · exact nit c _ z
theorem Inv.tok (I : Inv X pins σ H s) (t : Nat) : Inv X pins σ H { s with toks := t } := I.un (h' := s.heap) (t' := t) Un.refl I.hok
/-- all objects kept -/
theorem Inv.kept {t' : Nat} (I : Inv X pins σ H s) (k : ∀ b u, s.heap.get? b = some u → h'.get? b = some u) : Inv X pins σ H { s with heap := h', toks := t' } := I.un (Un.kept k) (I.hok.kept k)
/-- a new object laid and tracked -/
theorem Inv.laid {a : Addr} {o : HO} {t' : Nat} (I : Inv X pins σ H s) (k : ∀ b u, s.heap.get? b = some u → h'.get? b = some u) (hp : s.heap.objs.size ≤ a) (new : ObjOk X.prog X.w (upd H a o) h' a o) :
    Inv X pins σ (upd H a o) { s with heap := h', toks := t' } := I.un (Un.laid k hp (I.hok.fresh hp)) (I.hok.laid k hp new)
/-- an object written -/
theorem Inv.write {x e : Addr} {o : HO} {t' : Nat} (I : Inv X pins σ H s) (mu : Mut (H x)) (he : e = x ∨ H e = some (.own x)) (k : ∀ b u, b ≠ e → s.heap.get? b = some u → h'.get? b = some u) (heo : ∃ u, h'.get? e = some u)
    (new : ObjOk X.prog X.w (upd H x o) h' x o) : Inv X pins σ (upd H x o) { s with heap := h', toks := t' } := I.un (Un.write mu he k heo) (I.hok.write mu he k heo new)
theorem Inv.pins_of {pins' : List (Addr × Obj)} (I : Inv X pins σ H s) (h : ∀ p ∈ pins', s.heap.get? p.1 = some p.2 ∧ H p.1 = none ∧ p.1 ≠ X.env.locals ∧ p.1 ∉ X.fs ∧ ∀ v, p.2.data ≠ .cell v) : Inv X pins' σ H s :=
  ⟨I.ok, I.os, I.bare, I.base, I.loc, I.cell, I.free, I.freeC, fun p hp => (List.mem_append.mp hp).elim (fun z => I.pin p (List.mem_append_left _ z)) (h p), I.hok, I.len⟩

theorem nodup_ix {N : List Str} (hN : N.Nodup) {i j : Nat} {x : Str} (a : N[i]? = some x) (b : N[j]? = some x) : i = j := by
  obtain ⟨h1, e1⟩ := List.getElem?_eq_some_iff.mp a
  obtain ⟨h2, e2⟩ := List.getElem?_eq_some_iff.mp b
  exact (List.getElem_inj hN).mp (e1.trans e2.symm)

/-- a name is stored; what changed -/
theorem store_ok2 {M : Model} {A : Around} {E : Value → Shared → Prop} {i : Nat} {x : Str} {v : V} {u : Value} {Q : Unit → Shared → Prop} (I : Inv X pins σ H s) (hN : X.N.Nodup) (hi : X.N[i]? = some x) (hx : Loc X.env.scope x) (r : RelV v u)
    (h : ∀ s', Inv X pins (σ.set i (some v)) H s' → (∃ a, Heap.SameBut a s.heap s'.heap ∧ (a = X.env.locals ∨ X.env.cells.lookup x = some a)) → Q () s') (hf : X.fn x = true ∨ X.env.scope.names.lookup x = some .local := by first | exact .inl rfl | exact .inr rfl | assumption) : wpAny M A (storeName X.env x u) Q E s := by
  obtain ⟨m, hn, hl⟩ := id I.loc
  have hcls : (X.env.scope.kind == .class || (X.env.scope.kind == .module && X.env.locals != X.env.globals)) = false := by rw [I.ok.kind]; rfl
  have hiσ : i < σ.length := by rw [I.len]; exact (List.getElem?_eq_some_iff.mp hi).1
  have cne := I.cne
  have tracked : ∀ {a : Addr} {h' : Heap}, (∃ o, s.heap.get? a = some o ∧ H a = none) → Heap.SameBut a s.heap h' → HOk X.prog X.w H h' := fun {a h'} ha hs b ob e => by
    obtain ⟨_, _, hfree⟩ := ha
    refine (I.hok b ob e).stay (fun c w' hc q => (hs.2 c ?_).trans q) (fun _ q => q) fun _ _ q => q
    rintro rfl
    rcases hc with rfl | hc
    · rw [hfree] at e; cases e
    · rw [hfree] at hc; cases hc
  rcases hx with hk | hk
  · refine wpAny_storeName_local hk hn (fun h' hn' hs => ?_) hcls
    obtain ⟨oL, _, _, hoL, _⟩ := id hn
    refine h _ ⟨I.ok, I.os, I.bare, ⟨fun b o e n hb hx => ?_, fun b o e n hb hx => ?_, I.base.free, fun b o e hx => ?_, I.base.tups, I.base.frzs, I.base.tbls⟩, ⟨_, hn', fun j y v' e1 e2 e3 => ?_⟩, fun y c e => ?_, I.free, I.freeC, fun p hp => ?_, tracked ⟨oL, hoL, I.free⟩ hs, by simpa using I.len⟩ ⟨_, hs, .inl rfl⟩
    · exact (hs.2 b (Nat.ne_of_lt (Nat.lt_of_lt_of_le (Heap.lt_size e) I.ok.above))).trans (I.base.keep b o e n hb hx)
    · obtain ⟨sl, e1⟩ := I.base.slot b o e n hb hx
      exact ⟨sl, (hs.2 b (Nat.ne_of_lt (Nat.lt_of_lt_of_le (Heap.lt_size e) I.ok.above))).trans e1⟩
    · obtain ⟨o', e1⟩ := I.base.there b o e hx
      exact ⟨o', (hs.2 b (Nat.ne_of_lt (Nat.lt_of_lt_of_le (Heap.lt_size e) I.ok.above))).trans e1⟩
    · by_cases hj : j = i
      · subst hj
        rw [hi] at e1; cases e1
        rw [List.getElem?_set_self hiσ] at e2
        cases e2
        exact ⟨u, r, .inl ⟨hk, by simp⟩⟩
      · rw [List.getElem?_set_ne (Ne.symm hj)] at e2
        obtain ⟨u', r', q⟩ := hl j y v' e1 e2 e3
        refine ⟨u', r', ?_⟩
        rcases q with ⟨k, e⟩ | ⟨k, c, e, z⟩
        · refine .inl ⟨k, ?_⟩
          have : y ≠ x := fun e => hj (nodup_ix hN e1 (e ▸ hi))
          simp [this, e]
        · exact .inr ⟨k, c, e, z.sameBut hs (cne y c e)⟩
    · obtain ⟨w', z⟩ := I.cell y c e
      exact ⟨w', z.sameBut hs (cne y c e)⟩
    · obtain ⟨e, n, ne, nf, d⟩ := I.pin p hp
      exact ⟨(hs.2 p.1 ne).trans e, n, ne, nf, d⟩
  · have hfn : X.fn x = true := by
      rcases hf with z | z
      · exact z
      · rw [z] at hk; cases hk
    obtain ⟨c, hc⟩ := I.ok.has x (.inl hk)
    obtain ⟨w', z⟩ := I.cell x c hc
    refine wpAny_storeName_cell I.ok.kind hk hc z (fun h' hc' hs => ?_)
    obtain ⟨oc, hoc, hocd⟩ := id z
    refine h { s with heap := h' } ⟨I.ok, I.os, I.bare, ⟨fun b o e n hb hx => ?_, fun b o e n hb hx => ?_, I.base.free, fun b o e hx => ?_, I.base.tups, I.base.frzs, I.base.tbls⟩, ⟨m, hn.sameBut hs (Ne.symm (cne x c hc)), fun j y v' e1 e2 e3 => ?_⟩, fun y c' e => ?_, I.free, I.freeC, fun p hp => ?_, tracked ⟨oc, hoc, I.freeC x c hc⟩ hs, by simpa using I.len⟩ ⟨c, hs, .inr hc⟩
    · exact (hs.2 b (Nat.ne_of_lt (Nat.lt_of_lt_of_le (Heap.lt_size e) (I.ok.cab x c hfn hc)))).trans (I.base.keep b o e n hb hx)
    · obtain ⟨sl, e1⟩ := I.base.slot b o e n hb hx
      exact ⟨sl, (hs.2 b (Nat.ne_of_lt (Nat.lt_of_lt_of_le (Heap.lt_size e) (I.ok.cab x c hfn hc)))).trans e1⟩
    · obtain ⟨o', e1⟩ := I.base.there b o e hx
      exact ⟨o', (hs.2 b (Nat.ne_of_lt (Nat.lt_of_lt_of_le (Heap.lt_size e) (I.ok.cab x c hfn hc)))).trans e1⟩
    · by_cases hj : j = i
      · subst hj
        rw [hi] at e1; cases e1
        rw [List.getElem?_set_self hiσ] at e2
        cases e2
        exact ⟨u, r, .inr ⟨.inl hk, c, hc, hc'⟩⟩
      · rw [List.getElem?_set_ne (Ne.symm hj)] at e2
        obtain ⟨u', r', q⟩ := hl j y v' e1 e2 e3
        refine ⟨u', r', ?_⟩
        rcases q with q | ⟨k, c', e, z'⟩
        · exact .inl q
        · refine .inr ⟨k, c', e, z'.sameBut hs ?_⟩
          rintro rfl
          exact hj (nodup_ix hN e1 (I.ok.inj _ _ _ e hc ▸ hi))
    · by_cases hcc : c' = c
      · subst hcc; exact ⟨_, hc'⟩
      · obtain ⟨w2, z2⟩ := I.cell y c' e
        exact ⟨w2, z2.sameBut hs hcc⟩
    · obtain ⟨e, n, ne, nf, d⟩ := I.pin p hp
      refine ⟨(hs.2 p.1 ?_).trans e, n, ne, nf, d⟩
      intro q
      rw [q, hoc] at e
      have q' : oc = p.2 := Option.some.inj e
      exact d w' (by rw [← q']; exact hocd)
theorem store_ok {M : Model} {A : Around} {E : Value → Shared → Prop} {i : Nat} {x : Str} {v : V} {u : Value} {Q : Unit → Shared → Prop} (I : Inv X pins σ H s) (hN : X.N.Nodup) (hi : X.N[i]? = some x) (hx : Loc X.env.scope x) (r : RelV v u)
    (h : ∀ s', Inv X pins (σ.set i (some v)) H s' → Q () s') (hf : X.fn x = true ∨ X.env.scope.names.lookup x = some .local := by first | exact .inl rfl | exact .inr rfl | assumption) : wpAny M A (storeName X.env x u) Q E s :=
  store_ok2 I hN hi hx r (fun s' I' _ => h s' I') hf
/-- behind a call or a block, the state as it is -/
theorem Inv.call' {s' : Shared} {ch : List Addr} (I : Inv X pins σ H s) (ho : s'.os = s.os) (u : Un (frs X.stack) ch H H' s.heap s'.heap) (hok : HOk X.prog X.w H' s'.heap) (hg : AllBare s'.gens)
    (hch : ∀ b ∈ ch, (b ∈ X.ex ∨ X.s₀.heap.objs.size ≤ b) ∧ b ≠ X.env.locals ∧ (∀ x c, X.env.cells.lookup x = some c → c ≠ b) ∧ ∀ p ∈ X.pn ++ pins, p.1 ≠ b) : Inv X pins σ H' s' := by
  obtain ⟨h', g', d', t', o'⟩ := s'
  have e : o' = s.os := ho
  subst e
  exact I.call (g' := g') (t' := t') (d' := d') u hok hg hch
end

/-! ### the judgements -/
/-- an exception: its class, its own dict's address (where it has one), the abstract heap behind it -/
abbrev XK := Value → Option Addr → Hp → Prop
abbrev St := List (Option V)
abbrev VK := V → Hp → Prop
/-- an expression's reading; a test's; an argument list's -/
abbrev TE := St → Hp → VK → Prop
abbrev TT := St → Hp → (Bool → Hp → Prop) → Prop
abbrev TA := St → Hp → (List V → Hp → Prop) → Prop
/-- what is wanted behind a statement -/
structure Ends where
  nx : St → Hp → Prop
  rt : VK
  bk : St → Hp → Prop := fun _ _ => False
  ct : St → Hp → Prop := fun _ _ => False
abbrev TS := Ends → St → Hp → Prop

def EP (X : Cx) (pins : List (Addr × Obj)) (σ : St) (Q : VK) (u : Value) (s' : Shared) : Prop := ∃ v H', Inv X pins σ H' s' ∧ RelV v u ∧ Q v H'
def TP (X : Cx) (pins : List (Addr × Obj)) (σ : St) (Q : Bool → Hp → Prop) (b : Bool) (s' : Shared) : Prop := ∃ H', Inv X pins σ H' s' ∧ Q b H'
def AP (X : Cx) (pins : List (Addr × Obj)) (σ : St) (Q : List V → Hp → Prop) (us : List Value) (s' : Shared) : Prop := ∃ vs H', Inv X pins σ H' s' ∧ Vals vs us ∧ Q vs H'
def SP (X : Cx) (pins : List (Addr × Obj)) (D : Ends) (f : Flow) (s' : Shared) : Prop :=
  match f with
  | .next => ∃ σ' H', Inv X pins σ' H' s' ∧ D.nx σ' H'
  | .brk => ∃ σ' H', Inv X pins σ' H' s' ∧ D.bk σ' H'
  | .cont => ∃ σ' H', Inv X pins σ' H' s' ∧ D.ct σ' H'
  | .ret u => ∃ v σ' H', Inv X pins σ' H' s' ∧ RelV v u ∧ D.rt v H'

def PE (X : Cx) (e : Expr) (t : TE) : Prop :=
  ∀ (pins : List (Addr × Obj)) (s : Shared) (σ : St) (H : Hp) (Q : VK), Inv X pins σ H s → t σ H Q → wpAny (model X.prog X.w) X.A (eval e X.env) (EP X pins σ Q) X.xe s
def PT (X : Cx) (e : Expr) (t : TT) : Prop :=
  ∀ (pins : List (Addr × Obj)) (s : Shared) (σ : St) (H : Hp) (Q : Bool → Hp → Prop), Inv X pins σ H s → t σ H Q → wpAny (model X.prog X.w) X.A (isTrue e X.env (eval e X.env)) (TP X pins σ Q) X.xe s
/-- a test whatever its 'whole' is (and, or) -/
def PW (X : Cx) (e : Expr) (t : TT) : Prop :=
  ∀ (whole : Sem Value) (pins : List (Addr × Obj)) (s : Shared) (σ : St) (H : Hp) (Q : Bool → Hp → Prop), Inv X pins σ H s → t σ H Q → wpAny (model X.prog X.w) X.A (isTrue e X.env whole) (TP X pins σ Q) X.xe s
theorem PW.pt {X : Cx} {e : Expr} {t : TT} (h : PW X e t) : PT X e t := h _
/-- an argument list (no star), from the left -/
def PA (X : Cx) (es : List Expr) (t : TA) : Prop :=
  ∀ (pos : Pos) (pins : List (Addr × Obj)) (s : Shared) (σ : St) (H : Hp) (Q : List V → Hp → Prop), Inv X pins σ H s → t σ H Q → wpAny (model X.prog X.w) X.A (spliced (backTo pos (starEach es X.env))) (AP X pins σ Q) X.xe s
def PS (X : Cx) (st : Stmt) (t : TS) : Prop :=
  ∀ (pins : List (Addr × Obj)) (s : Shared) (σ : St) (H : Hp) (D : Ends), Inv X pins σ H s → t D σ H → wpAny (model X.prog X.w) X.A (exec st X.env) (SP X pins D) X.xe s
def PSs (X : Cx) (st : List Stmt) (t : TS) : Prop :=
  ∀ (pins : List (Addr × Obj)) (s : Shared) (σ : St) (H : Hp) (D : Ends), Inv X pins σ H s → t D σ H → wpAny (model X.prog X.w) X.A (execs st X.env) (SP X pins D) X.xe s
/-- weaken the end -/
theorem thn {α : Type} {t : Sem α} {Q Q' : α → Shared → Prop} {M : Model} {A : Around} {E : Value → Shared → Prop} {s : Shared} (h : wpAny M A t Q E s) (hQ : ∀ a s, Q a s → Q' a s) : wpAny M A t Q' E s := wpAny_mono h hQ fun _ _ x => x
end L2

namespace L2
open PySem PySem.Spec PyProof.Rows
section
variable {X : Cx}

/-! ### names and constants -/
def tVar (i : Nat) : TE := fun σ H Q => ∃ v, σ[i]? = some (some v) ∧ Q v H
def tC (v : V) : TE := fun _ H Q => Q v H
theorem pe_var {i : Nat} {x : Str} {pos : Pos} (hN : X.N[i]? = some x) (hv : Vis X.env.scope x) (hd : (x == ("__debug__" : Str)) = false := by decide) (hcd : (x == ("__classdict__" : Str)) = false := by decide) : PE X (.Name x pos) (tVar i) := by
  intro pins s σ H Q I h
  obtain ⟨v, e, h⟩ := h
  obtain ⟨m, hn, hl⟩ := I.loc
  obtain ⟨u, r, l⟩ := hl i x v hN e hv
  have fin : EP X pins σ Q u s := ⟨v, H, I, r, h⟩
  rcases l with ⟨hk, hm⟩ | ⟨hk, c, hc, hcell⟩
  · exact wpAny_Name (wpAny_loadName_local I.ok.kind hk hn hm fin) hd
  · rcases hk with hk | hk
    · exact wpAny_Name (wpAny_loadName_cell I.ok.kind hk hc hcell fin) hd
    · exact wpAny_Name (wpAny_loadName_free I.ok.kind hk hc hcell fin hcd) hd
theorem pe_int {i j pos} : PE X (.Constant (.int i) j pos) (tC (.int i)) := fun _ _ _ H _ I h => wpAny_Constant_int ⟨.int i, H, I.tok _, ⟨_, rfl⟩, h⟩
theorem pe_bl {b j pos} : PE X (.Constant (.bool b) j pos) (tC (.bl b)) := fun _ _ _ H _ I h => Constant_bool ⟨.bl b, H, I, rfl, h⟩
theorem pe_non {j pos} : PE X (.Constant .none j pos) (tC .non) := fun _ _ _ H _ I h => Constant_none ⟨.non, H, I, rfl, h⟩
/-- a global name of the def -/
def Gl (X : Cx) (x : Str) : Prop := X.env.kindOf x = some .globalImplicit
theorem ld_glob {E : Value → Shared → Prop} {pins : List (Addr × Obj)} {s : Shared} {σ : St} {H : Hp} {x : Str} {u : Value} {pos : Pos} {Q : Value → Shared → Prop} (I : Inv X pins σ H s) (hg : Gl X x) (hm : X.mg x = some u) (h : Q u s)
    (hd : (x == ("__debug__" : Str)) = false := by decide) : wpAny (model X.prog X.w) X.A (eval (.Name x pos) X.env) Q E s :=
  Calls.Name_function_global I.ok.kind hg (Calls.loadGlobal_global (by rw [I.ok.glob]; exact I.mod.glob.keeps I.bk) hm h) hd
theorem ld_blt {E : Value → Shared → Prop} {pins : List (Addr × Obj)} {s : Shared} {σ : St} {H : Hp} {x : Str} {u : Value} {pos : Pos} {Q : Value → Shared → Prop} (I : Inv X pins σ H s) (hg : Gl X x) (hm : X.mg x = none) (hv : bootBuiltins x = some u) (h : Q u s)
    (hn : x ≠ "__name__" := by decide) (hd : (x == ("__debug__" : Str)) = false := by decide) : wpAny (model X.prog X.w) X.A (eval (.Name x pos) X.env) Q E s := by
  obtain ⟨mb, h1, h2⟩ := I.mod.blt
  exact Calls.Name_function_global I.ok.kind hg (Calls.loadGlobal_builtin (by rw [I.ok.glob]; exact I.mod.glob.keeps I.bk) hm (by rw [I.ok.blt]; exact h1.keeps I.bk) ((h2 x hn).trans hv) h) hd
/-- a module's constant, a class, a function, as a value -/
theorem pe_glob {x : Str} {v : V} {u : Value} {pos : Pos} (hg : Gl X x) (hm : X.mg x = some u) (r : RelV v u) (hd : (x == ("__debug__" : Str)) = false := by decide) : PE X (.Name x pos) (tC v) :=
  fun _ _ _ H _ I h => ld_glob I hg hm ⟨v, H, I, r, h⟩ hd
theorem pe_bltn {x : Str} {v : V} {u : Value} {pos : Pos} (hg : Gl X x) (hm : X.mg x = none) (hv : bootBuiltins x = some u) (r : RelV v u) (hn : x ≠ "__name__" := by decide) (hd : (x == ("__debug__" : Str)) = false := by decide) : PE X (.Name x pos) (tC v) :=
  fun _ _ _ H _ I h => ld_blt I hg hm hv ⟨v, H, I, r, h⟩ hn hd

/-! ### arithmetic -/
variable {a b : Expr} {ta tb : TE} {pos : Pos}
/-! ### comparisons -/
/-- a comparison as a value, as a test -/
def tB (t : TE) : TT := fun σ H Q => t σ H fun x H1 => ∃ c, x = .bl c ∧ Q c H1
/-- an expression whose value is a bool, as a test -/
theorem pt_val {e : Expr} {t : TE} (h : PE X e t) (he : ∀ whole, isTrue e X.env whole = (do let v ← whole; standAt e.pos; holding [v] (truthy v)) := by intro _; rfl) : PT X e (tB t) := by
  intro pins s σ H Q I hw
  refine isTrue_plain (thn (h pins s σ H _ I hw) fun v s1 ⟨x, H1, I1, r1, q1⟩ => ?_) (he _)
  obtain ⟨d, rfl, q⟩ := q1
  cases r1
  exact wpAny_truthy_bool ⟨H1, I1, q⟩

/-! ### and, or, not -/
variable {tA tB' : TT} {rest : List Expr}
def tAnd (t u : TT) : TT := fun σ H Q => t σ H fun c H1 => if c = true then u σ H1 Q else Q false H1
def tOr (t u : TT) : TT := fun σ H Q => t σ H fun c H1 => if c = true then Q true H1 else u σ H1 Q
def tNot (t : TT) : TT := fun σ H Q => t σ H fun c H1 => Q (!c) H1
theorem pw_and1 (ha : PT X a tA) : PW X (.BoolOp .And [a] pos) tA := by
  intro wh pins s σ H Q I h
  refine isTrue_and (thn (ha pins s σ H Q I h) fun c s1 e => ?_)
  cases c with
  | true => exact isTrue_and_nil e
  | false => exact e
theorem pw_or1 (ha : PT X a tA) : PW X (.BoolOp .Or [a] pos) tA := by
  intro wh pins s σ H Q I h
  refine isTrue_or (thn (ha pins s σ H Q I h) fun c s1 e => ?_)
  cases c with
  | false => exact isTrue_or_nil e
  | true => exact e
theorem pw_and (ha : PT X a tA) (hb : PW X (.BoolOp .And (b :: rest) pos) tB') : PW X (.BoolOp .And (a :: b :: rest) pos) (tAnd tA tB') := by
  intro wh pins s σ H Q I h
  refine isTrue_and (thn (ha pins s σ H _ I h) fun c s1 ⟨H1, I1, q1⟩ => ?_)
  cases c with
  | true => exact hb wh pins s1 σ H1 Q I1 q1
  | false => exact ⟨H1, I1, q1⟩
theorem pw_or (ha : PT X a tA) (hb : PW X (.BoolOp .Or (b :: rest) pos) tB') : PW X (.BoolOp .Or (a :: b :: rest) pos) (tOr tA tB') := by
  intro wh pins s σ H Q I h
  refine isTrue_or (thn (ha pins s σ H _ I h) fun c s1 ⟨H1, I1, q1⟩ => ?_)
  cases c with
  | true => exact ⟨H1, I1, q1⟩
  | false => exact hb wh pins s1 σ H1 Q I1 q1
theorem pt_not (ha : PT X a tA) : PT X (.UnaryOp .Not a pos) (tNot tA) := by
  intro pins s σ H Q I h
  exact isTrue_not (ha pins s σ H (fun c H1 => Q (!c) H1) I h)
/-- .. as values (bools) -/
def tAndV (ta tb : TE) : TE := fun σ H Q => ta σ H fun x H1 => ∃ c, x = .bl c ∧ if c = true then tb σ H1 Q else Q (.bl false) H1
def tOrV (ta tb : TE) : TE := fun σ H Q => ta σ H fun x H1 => ∃ c, x = .bl c ∧ if c = true then Q (.bl true) H1 else tb σ H1 Q
def tNotV (ta : TE) : TE := fun σ H Q => ta σ H fun x H1 => ∃ c, x = .bl c ∧ Q (.bl (!c)) H1
theorem pe_one {op} {t : TE} (h : PE X a t) : PE X (.BoolOp op [a] pos) t := fun pins s σ H Q I hw => BoolOp_one (h pins s σ H Q I hw)
theorem pe_and (ha : PE X a ta) (hb : PE X (.BoolOp .And (b :: rest) pos) tb) : PE X (.BoolOp .And (a :: b :: rest) pos) (tAndV ta tb) := by
  intro pins s σ H Q I h
  refine BoolOp_and (thn (ha pins s σ H _ I h) fun v s1 ⟨x, H1, I1, r1, q1⟩ => ?_)
  obtain ⟨c, rfl, q1⟩ := q1
  cases r1
  refine wpAny_truthy_bool ?_
  cases c with
  | true => exact hb pins s1 σ H1 Q I1 q1
  | false => exact ⟨.bl false, H1, I1, rfl, q1⟩
theorem pe_or (ha : PE X a ta) (hb : PE X (.BoolOp .Or (b :: rest) pos) tb) : PE X (.BoolOp .Or (a :: b :: rest) pos) (tOrV ta tb) := by
  intro pins s σ H Q I h
  refine BoolOp_or (thn (ha pins s σ H _ I h) fun v s1 ⟨x, H1, I1, r1, q1⟩ => ?_)
  obtain ⟨c, rfl, q1⟩ := q1
  cases r1
  refine wpAny_truthy_bool ?_
  cases c with
  | false => exact hb pins s1 σ H1 Q I1 q1
  | true => exact ⟨.bl true, H1, I1, rfl, q1⟩
theorem pe_not (ha : PE X a ta) : PE X (.UnaryOp .Not a pos) (tNotV ta) := by
  intro pins s σ H Q I h
  refine UnaryOp_ (thn (ha pins s σ H _ I h) fun v s1 ⟨x, H1, I1, r1, q1⟩ => ?_)
  obtain ⟨c, rfl, q1⟩ := q1
  cases r1
  exact not_of (wpAny_truthy_bool ⟨.bl (!c), H1, I1, rfl, q1⟩)
/-- a if t else b -/
def tIf (t : TT) (ta tb : TE) : TE := fun σ H Q => t σ H fun c H1 => if c = true then ta σ H1 Q else tb σ H1 Q
theorem pe_ifExp {c : Expr} (hc : PT X c tA) (ha : PE X a ta) (hb : PE X b tb) : PE X (.IfExp c a b pos) (tIf tA ta tb) := by
  intro pins s σ H Q I h
  refine wpAny_IfExp (thn (hc pins s σ H _ I h) fun d s1 ⟨H1, I1, q1⟩ => ?_)
  cases d with
  | true => exact ha pins s1 σ H1 Q I1 q1
  | false => exact hb pins s1 σ H1 Q I1 q1
end
end L2

namespace L2
open PySem PySem.Spec PyProof.Rows

/-! ### a list, a tuple that is read: tracked, frozen, or an object of the module -/
def SqL (K : PySem.W.Frag) (H : Hp) (a : Addr) (xs : List V) : Prop :=
  Rd H a (.lst xs) ∨
    ∃ (o : Obj) (its : Array Value) (n : Nat), K.lookup a = some o ∧ o.cls = .type "list" ∧ o.dict = none ∧ o.data = .seq its n ∧ its.size ≤ sizeLine ∧ Vals xs its.toList
def SqT (K : PySem.W.Frag) (H : Hp) (a : Addr) (xs : List V) : Prop :=
  Rd H a (.tup xs) ∨
    ∃ (o : Obj) (its : Array Value) (n : Nat), K.lookup a = some o ∧ o.cls = .type "tuple" ∧ o.data = .seq its n ∧ its.size ≤ sizeLine ∧ Vals xs its.toList
def absV : Value → Option V
  | .none => some .non
  | .bool b => some (.bl b)
  | .int i _ => some (.int i)
  | .str x _ => some (.str x)
  | .bytes b _ => some (.byt b)
  | .float b _ => some (.flt b)
  | .ref a => some (.ref a)
  | .type n => some (.ty n)
  | _ => none
theorem RelV.abs {x : V} {u : Value} (r : RelV x u) : absV u = some x := by
  cases x with
  | non => cases r; rfl
  | bl _ => cases r; rfl
  | int _ => obtain ⟨t, rfl⟩ := r; rfl
  | str _ => obtain ⟨t, rfl⟩ := r; rfl
  | byt _ => obtain ⟨t, rfl⟩ := r; rfl
  | flt _ => obtain ⟨t, rfl⟩ := r; rfl
  | ref _ => cases r; rfl
  | ty _ => cases r; rfl
theorem RelV.inj {x y : V} {u : Value} (r : RelV x u) (q : RelV y u) : x = y := Option.some.inj (r.abs.symm.trans q.abs)
theorem Vals.inj : ∀ {xs ys : List V} {us : List Value}, Vals xs us → Vals ys us → xs = ys
  | _, _, _, .nil, .nil => rfl
  | _, _, _, .cons r t, .cons r' t' => by rw [r.inj r', Vals.inj t t']
section
variable {X : Cx} {pins : List (Addr × Obj)} {σ : St} {H : Hp} {s : Shared} {a : Addr} {xs ys : List V}
theorem SqL.of {K : PySem.W.Frag} (h : H a = some (.lst xs)) : SqL K H a xs := .inl (.inl h)
theorem SqT.of {K : PySem.W.Frag} (h : H a = some (.tup xs)) : SqT K H a xs := .inl (.inl h)
theorem Inv.list (I : Inv X pins σ H s) (h : SqL X.K H a xs) : ∃ its : List Value, Vals xs its ∧ PlainL s.heap a its.toArray ∧ xs.length ≤ sizeLine := by
  rcases h with h | ⟨o, its, n, hk, hc, hd, hs, hz, r⟩
  · obtain ⟨z, its, n, r, e⟩ := h.ok I.hok
    exact ⟨its, r, ⟨_, n, e, rfl, rfl, rfl⟩, z⟩
  · refine ⟨its.toList, r, ⟨o, n, I.kIn a o hk, hc, hd, by simpa using hs⟩, ?_⟩
    have e := r.length
    simp only [Array.length_toList] at e
    omega
theorem Inv.tuple (I : Inv X pins σ H s) (h : SqT X.K H a xs) : ∃ its : List Value, Vals xs its ∧ IsTup s.heap a its.toArray ∧ xs.length ≤ sizeLine := by
  rcases h with h | ⟨o, its, n, hk, hc, hs, hz, r⟩
  · obtain ⟨z, its, r, p⟩ := h.ok I.hok
    exact ⟨its, r, p, z⟩
  · refine ⟨its.toList, r, ⟨o, I.kIn a o hk, hc, n, by simpa using hs⟩, ?_⟩
    have e := r.length
    simp only [Array.length_toList] at e
    omega
theorem Inv.list_inj (I : Inv X pins σ H s) (h : SqL X.K H a xs) (h' : SqL X.K H a ys) : xs = ys := by
  obtain ⟨its, r, ⟨o, n, e, _, _, d⟩, _⟩ := I.list h
  obtain ⟨its', r', ⟨o', n', e', _, _, d'⟩, _⟩ := I.list h'
  rw [e] at e'; cases e'
  rw [d] at d'
  injection d' with d1 _
  have : its = its' := by simpa using congrArg Array.toList d1
  subst this
  exact r.inj r'
end

/-! ### another wish about exceptions -/
abbrev Cx.wish (X : Cx) (E : Value → Shared → Prop) : Cx := { X with xe := E }
/-- no exception leaves -/
abbrev Cx.nox (X : Cx) : Cx := X.wish fun _ _ => False
theorem Cx.Ok.wish {X : Cx} (ok : X.Ok) (E : Value → Shared → Prop) : (X.wish E).Ok :=
  ⟨ok.mod, ok.kind, ok.glob, ok.blt, ok.above, ok.inj, ok.has, ok.cab, ok.hd, ok.frames, ok.stk, ok.exf, ok.bs, ok.bsz, ok.noex, ok.exfs, ok.funs, ok.frf⟩
theorem Cx.Ok.unwish {X : Cx} {E : Value → Shared → Prop} (ok : (X.wish E).Ok) : X.Ok :=
  ⟨ok.mod, ok.kind, ok.glob, ok.blt, ok.above, ok.inj, ok.has, ok.cab, ok.hd, ok.frames, ok.stk, ok.exf, ok.bs, ok.bsz, ok.noex, ok.exfs, ok.funs, ok.frf⟩
section
variable {X : Cx} {pins : List (Addr × Obj)} {σ : St} {H : Hp} {s : Shared} {E : Value → Shared → Prop}
theorem Inv.wish (I : Inv X pins σ H s) (E : Value → Shared → Prop) : Inv (X.wish E) pins σ H s := ⟨I.ok.wish E, I.os, I.bare, I.base, I.loc, I.cell, I.free, I.freeC, I.pin, I.hok, I.len⟩
theorem Inv.unwish (I : Inv (X.wish E) pins σ H s) : Inv X pins σ H s := ⟨I.ok.unwish, I.os, I.bare, I.base, I.loc, I.cell, I.free, I.freeC, I.pin, I.hok, I.len⟩
theorem SP.unwish {D : Ends} {f : Flow} {s' : Shared} (h : SP (X.wish E) pins D f s') : SP X pins D f s' := by
  cases f with
  | next => obtain ⟨σ', H', I, q⟩ := h; exact ⟨σ', H', I.unwish, q⟩
  | brk => obtain ⟨σ', H', I, q⟩ := h; exact ⟨σ', H', I.unwish, q⟩
  | cont => obtain ⟨σ', H', I, q⟩ := h; exact ⟨σ', H', I.unwish, q⟩
  | ret u => obtain ⟨v, σ', H', I, r, q⟩ := h; exact ⟨v, σ', H', I.unwish, r, q⟩
theorem PE.nox {e : Expr} {t : TE} (h : PE X.nox e t) : PE X e t := fun pins s σ H Q I hw =>
  wpAny_mono (h pins s σ H Q (I.wish _) hw) (fun _ _ ⟨v, H', I', r, q⟩ => ⟨v, H', I'.unwish, r, q⟩) fun _ _ z => False.elim z
theorem PT.nox {e : Expr} {t : TT} (h : PT X.nox e t) : PT X e t := fun pins s σ H Q I hw =>
  wpAny_mono (h pins s σ H Q (I.wish _) hw) (fun _ _ ⟨H', I', q⟩ => ⟨H', I'.unwish, q⟩) fun _ _ z => False.elim z
theorem PSs.nox {st : List Stmt} {t : TS} (h : PSs X.nox st t) : PSs X st t := fun pins s σ H D I hw =>
  wpAny_mono (h pins s σ H D (I.wish _) hw) (fun _ _ q => q.unwish) fun _ _ z => False.elim z
end

/-! ### blocks and small statements -/
section
variable {X : Cx} {st : Stmt} {rest : List Stmt} {t u : TS} {e : Expr} {te : TE} {pos : Pos}
def tNext : TS := fun D σ H => D.nx σ H
def tSeq (t u : TS) : TS := fun D σ H => t { D with nx := u D } σ H
theorem pss_nil : PSs X [] tNext := fun _ _ σ H _ I h => wpAny_execs_nil ⟨σ, H, I, h⟩
theorem pss_cons (h1 : PS X st t) (h2 : PSs X rest u) : PSs X (st :: rest) (tSeq t u) := by
  intro pins s σ H D I h
  refine wpAny_execs_cons (thn (h1 pins s σ H { D with nx := u D } I h) fun f s1 q => ?_)
  cases f with
  | next =>
    obtain ⟨σ', H', I', q⟩ := q
    exact h2 pins s1 σ' H' D I' q
  | ret v => exact q
  | brk => exact q
  | cont => exact q
theorem pss_one (h1 : PS X st t) : PSs X [st] t := by
  intro pins s σ H D I h
  refine wpAny_execs_cons (thn (h1 pins s σ H D I h) fun f s1 q => ?_)
  cases f with
  | next => exact wpAny_execs_nil q
  | ret v => exact q
  | brk => exact q
  | cont => exact q
/-- in a def's body nothing is shown -/
theorem Inv.quiet {pins : List (Addr × Obj)} {σ : St} {H : Hp} {s : Shared} (I : Inv X pins σ H s) : interactive X.env = false := by simp [interactive, I.ok.kind]
/-- an expression whose value is dropped -/
def tDrop (te : TE) : TS := fun D σ H => te σ H fun _ H1 => D.nx σ H1
theorem ps_expr (he : PE X e te) (hs : swapsWith e none pos.line X.env = pure false := by rfl) : PS X (.Expr e pos) (tDrop te) := by
  intro pins s σ H D I h
  exact wpAny_Expr_any (thn (he pins s σ H _ I h) fun v s1 ⟨x, H1, I1, r1, q1⟩ => ⟨σ, H1, I1, q1⟩) I.quiet hs
def tRet (te : TE) : TS := fun D σ H => te σ H D.rt
theorem ps_ret (he : PE X e te) : PS X (.Return (some e) pos) (tRet te) := by
  intro pins s σ H D I h
  exact wpAny_Return_some (thn (he pins s σ H _ I h) fun v s1 ⟨x, H1, I1, r1, q1⟩ => ⟨x, σ, H1, I1, r1, q1⟩)
def tIfS (c : TT) (t u : TS) : TS := fun D σ H => c σ H fun b H1 => if b = true then t D σ H1 else u D σ H1
theorem ps_if {c : Expr} {a b : List Stmt} {tc : TT} (hc : PT X c tc) (ha : PSs X a t) (hb : PSs X b u) : PS X (.If c a b pos) (tIfS tc t u) := by
  intro pins s σ H D I h
  refine wpAny_If (thn (hc pins s σ H _ I h) fun d s1 ⟨H1, I1, q1⟩ => ?_)
  cases d with
  | true => exact ha pins s1 σ H1 D I1 q1
  | false => exact hb pins s1 σ H1 D I1 q1
/-- code that the proof never comes to -/
def tNever : TS := fun _ _ _ => False
theorem ps_never : PS X st tNever := fun _ _ _ _ _ _ h => h.elim
end

/-! ### targets -/
abbrev TG := V → St → Hp → (St → Hp → Prop) → Prop
abbrev TGs := List V → St → Hp → (St → Hp → Prop) → Prop
def PG (X : Cx) (target : Expr) (t : TG) : Prop :=
  ∀ (pins : List (Addr × Obj)) (s : Shared) (σ : St) (H : Hp) (v : V) (u : Value) (Q : St → Hp → Prop), Inv X pins σ H s → RelV v u → t v σ H Q →
    wpAny (model X.prog X.w) X.A (assign target X.env u) (fun _ s' => ∃ σ' H', Inv X pins σ' H' s' ∧ Q σ' H') X.xe s
/-- several targets, one after another -/
def PGs (X : Cx) (ts : List Expr) (t : TGs) : Prop :=
  ∀ (pins : List (Addr × Obj)) (s : Shared) (σ : St) (H : Hp) (vs : List V) (us : List Value) (Q : St → Hp → Prop), Inv X pins σ H s → Vals vs us → t vs σ H Q →
    wpAny (model X.prog X.w) X.A (assignInOrder ((assignEach ts X.env).map (·.2)) us) (fun _ s' => ∃ σ' H', Inv X pins σ' H' s' ∧ Q σ' H') X.xe s
/-- o[i] = v, by values -/
abbrev TSet := V → V → V → Hp → (Hp → Prop) → Prop
def PSet (X : Cx) (t : TSet) : Prop :=
  ∀ (pins : List (Addr × Obj)) (s : Shared) (σ : St) (H : Hp) (o i v : V) (ov iv u : Value) (Q : Hp → Prop), Inv X pins σ H s → RelV o ov → RelV i iv → RelV v u → t o i v H Q →
    wpAny (model X.prog X.w) X.A (setItem ov iv u) (fun _ s' => ∃ H', Inv X pins σ H' s' ∧ Q H') X.xe s
section
variable {X : Cx} {pos : Pos}
def gName (i : Nat) : TG := fun v σ H Q => Q (σ.set i (some v)) H
theorem pg_name {i : Nat} {x : Str} (hN : X.N.Nodup) (hi : X.N[i]? = some x) (hx : Loc X.env.scope x) (hf : X.fn x = true ∨ X.env.scope.names.lookup x = some .local := by first | exact .inl rfl | exact .inr rfl | assumption) : PG X (.Name x pos) (gName i) := by
  intro pins s σ H v u Q I r h
  exact wpAny_assign_Name (store_ok I hN hi hx r (fun s' I' => ⟨_, H, I', h⟩) hf)
def gNil : TGs := fun vs σ H Q => vs = [] ∧ Q σ H
def gCons (t : TG) (u : TGs) : TGs := fun vs σ H Q => ∃ v r, vs = v :: r ∧ t v σ H fun σ' H' => u r σ' H' Q
theorem pgs_nil : PGs X [] gNil := by
  intro pins s σ H vs us Q I r h
  obtain ⟨e, h⟩ := h
  subst e
  cases r
  exact assignInOrder_nil ⟨σ, H, I, h⟩
theorem pgs_cons {e : Expr} {es : List Expr} {t : TG} {u : TGs} (h1 : PG X e t) (h2 : PGs X es u)
    (hs : (assignEach (e :: es) X.env).map (·.2) = assign e X.env :: (assignEach es X.env).map (·.2) := by rfl) : PGs X (e :: es) (gCons t u) := by
  intro pins s σ H vs us Q I r h
  obtain ⟨v, vr, e1, h⟩ := h
  subst e1
  cases r with
  | cons r rr =>
    rw [hs]
    refine assignInOrder_cons (thn (h1 pins s σ H _ _ _ I r h) fun _ s1 ⟨σ1, H1, I1, q1⟩ => ?_)
    exact h2 pins s1 σ1 H1 _ _ Q I1 rr q1
/-- (a, b, ..) = a tuple of that length -/
def gTup (K : PySem.W.Frag) (n : Nat) (t : TGs) : TG := fun v σ H Q => ∃ a xs, v = .ref a ∧ SqT K H a xs ∧ xs.length = n ∧ t xs σ H Q
theorem pg_tup {es : List Expr} {k : Nat} {t : TGs} {n : Nat} (hc : X.calm = true) (h : PGs X es t)
    (hn : (assignEach es X.env).length = n := by rfl) (hst : (assignEach es X.env).findIdx? (·.1) = none := by rfl) : PG X (.Tuple es k pos) (gTup X.K n t) := by
  intro pins s σ H v u Q I r hw
  obtain ⟨a, xs, e1, hq, hl, hw⟩ := hw
  subst e1
  cases r
  obtain ⟨its, rv, ht, hz⟩ := I.tuple hq
  refine assign_Tuple_tuple (I.ok.hd hc) ht (by simp [hn, ← hl, rv.length]) hst fun h' hx => ?_
  have I1 : Inv X pins σ H { s with heap := h' } := I.kept (t' := s.toks) fun b o e => hx b o (Nat.ne_of_lt (Heap.lt_size e)) e
  exact h pins _ σ H xs _ Q I1 (by simpa using rv) hw
/-- o[i] = .. -/
def gSub (to ti : TE) (t : TSet) : TG := fun v σ H Q => to σ H fun o H1 => ti σ H1 fun i H2 => t o i v H2 fun H3 => Q σ H3
theorem pg_sub {o i : Expr} {to ti : TE} {t : TSet} (ho : PE X o to) (hi : PE X i ti) (hs : PSet X t)
    (ha : ∀ v, assign (.Subscript o i pos) X.env v = (do
      let ov ← holding [v] (eval o X.env)
      let iv ← holding [v, ov] (eval i X.env)
      standAt pos
      holding [v, ov, iv] (setItem ov iv v)
      release [v, ov, iv] []) := by intro _; rfl) : PG X (.Subscript o i pos) (gSub to ti t) := by
  intro pins s σ H v u Q I r h
  rw [ha]
  refine wpAny_bind (wpAny_holding (thn (ho pins s σ H _ I h) fun ov s1 ⟨x, H1, I1, r1, q1⟩ => ?_))
  refine wpAny_bind (wpAny_holding (thn (hi pins s1 σ H1 _ I1 q1) fun iv s2 ⟨y, H2, I2, r2, q2⟩ => ?_))
  refine wpAny_bind (wpAny_standAt (wpAny_bind (wpAny_holding (thn (hs pins s2 σ H2 x y v ov iv u _ I2 r1 r2 r q2) fun _ s3 ⟨H3, I3, q3⟩ => ?_))))
  exact wpAny_release ⟨σ, H3, I3, q3⟩
/-- target = value -/
def tAsg (te : TE) (g : TG) : TS := fun D σ H => te σ H fun x H1 => g x σ H1 D.nx
theorem ps_asg {tg e : Expr} {te : TE} {g : TG} (he : PE X e te) (hg : PG X tg g) (hs : swapsWithSole [tg] e pos.line X.env = pure false := by rfl) (hw : swappedStores [tg] e X.env = pure none := by rfl)
    (h1 : (assignEach [tg] X.env).map (·.2) = [assign tg X.env] := by rfl) : PS X (.Assign [tg] e pos) (tAsg te g) := by
  intro pins s σ H D I h
  refine wpAny_Assign_stores (thn (he pins s σ H _ I h) fun v s1 ⟨x, H1, I1, r1, q1⟩ => ?_) hs hw
  rw [h1]
  exact thn (hg pins s1 σ H1 x v _ I1 r1 q1) fun _ s2 q => q
/-- name = value -/
theorem ps_set {i : Nat} {x : Str} {e : Expr} {te : TE} {pos' : Pos} (hN : X.N.Nodup) (hi : X.N[i]? = some x) (hx : Loc X.env.scope x) (he : PE X e te) (hs : swapsWith e (some (.Name x pos')) pos.line X.env = pure false := by rfl) (hf : X.fn x = true ∨ X.env.scope.names.lookup x = some .local := by first | exact .inl rfl | exact .inr rfl | assumption) :
    PS X (.Assign [.Name x pos'] e pos) (tAsg te (gName i)) := by
  intro pins s σ H D I h
  refine wpAny_Assign_Name (thn (he pins s σ H _ I h) fun v s1 ⟨y, H1, I1, r1, q1⟩ => ?_) hs
  exact store_ok I1 hN hi hx r1 (fun s2 I2 => ⟨_, H1, I2, q1⟩) hf
end

/-! ### while -/
section
variable {X : Cx} {pos : Pos}
/-- the invariant W with its measure -/
def tWhile (c : TT) (tb : TS) : TS := fun D σ H => ∃ W : Nat → St → Hp → Prop, (∃ m, W m σ H) ∧ ∀ m σ H, W m σ H →
  c σ H fun b H1 => if b = true then ∃ N : St → Hp → Prop, (∀ σ' H', N σ' H' → ∃ m', m' < m ∧ W m' σ' H') ∧ tb { D with nx := N, ct := N, bk := D.nx } σ H1 else D.nx σ H1
theorem ps_while {c : Expr} {body : List Stmt} {tc : TT} {tb : TS} (hp : PassesOwn (model X.prog X.w) X.A X.env X.xe) (hc : PT X c tc) (hb : PSs X body tb) : PS X (.While c body [] pos) (tWhile tc tb) := by
  intro pins s σ H D I h
  obtain ⟨W, ⟨m0, w0⟩, turn⟩ := h
  refine wpAny_While (codeAny_whileLoop (fun n s' => ∃ σ' H', Inv X pins σ' H' s' ∧ W n σ' H') ?_ m0 ⟨σ, H, I, w0⟩)
  rintro n s1 ⟨σ1, H1, I1, w1⟩
  refine wpAny_passesOwn hp (thn (hc pins s1 σ1 H1 _ I1 (turn n σ1 H1 w1)) fun b s2 ⟨H2, I2, q2⟩ => ?_)
  cases b with
  | true =>
    obtain ⟨N, hN, q2⟩ := q2
    rw [if_pos rfl]
    refine wpAny_passesOwn hp (thn (hb pins s2 σ1 H2 _ I2 q2) fun f s3 q3 => ?_)
    cases f with
    | next =>
      obtain ⟨σ3, H3, I3, n3⟩ := q3
      obtain ⟨m', hm, w3⟩ := hN σ3 H3 n3
      exact ⟨m', hm, σ3, H3, I3, w3⟩
    | cont =>
      obtain ⟨σ3, H3, I3, n3⟩ := q3
      obtain ⟨m', hm, w3⟩ := hN σ3 H3 n3
      exact ⟨m', hm, σ3, H3, I3, w3⟩
    | brk => exact q3
    | ret v => exact q3
  | false =>
    rw [if_neg Bool.false_ne_true]
    exact wpAny_execs_nil ⟨σ1, H2, I2, q2⟩
end

/-! ### what a loop or a comprehension walks -/
/-- at turn i: it yields x (the heap may grow), or it stops -/
structure It where
  go : Nat → Hp → Prop
  yld : Nat → Hp → V → Hp → Prop
  stop : Nat → Hp → Prop
/-- the iterator's own objects may turn: they are not the frame's, not pinned, younger than the entry (or a comprehension's own) -/
def FpOk (X : Cx) (pins : List (Addr × Obj)) (H : Hp) (b : Addr) : Prop :=
  H b = none ∧ b ≠ X.env.locals ∧ b ∉ X.fs ∧ (b ∈ X.ex ∨ X.s₀.heap.objs.size ≤ b) ∧ (∀ x c, X.env.cells.lookup x = some c → c ≠ b) ∧ ∀ p ∈ X.pn ++ pins, p.1 ≠ b
theorem Inv.fpOk {X : Cx} {pins : List (Addr × Obj)} {σ : St} {H H' : Hp} {s : Shared} {b : Addr} (I : Inv X pins σ H s) (hb : s.heap.objs.size ≤ b) (hn : H' b = none) : FpOk X pins H' b := by
  refine ⟨hn, Nat.ne_of_gt (Nat.lt_of_lt_of_le I.lt hb), I.nofs hb, .inr (Nat.le_trans I.sz hb), fun x c e z => ?_, fun p hp z => ?_⟩
  · obtain ⟨v, q⟩ := I.cell x c e
    exact absurd (Nat.lt_of_lt_of_le q.lt (by rw [z]; exact hb)) (Nat.lt_irrefl _)
  · exact absurd (Nat.lt_of_lt_of_le (Heap.lt_size (I.pin p hp).1) (by rw [z]; exact hb)) (Nat.lt_irrefl _)
structure Turn (P : Program) (w : World) (K : PySem.W.Frag) (tg : Expr) (J : It) (fp : List Addr) (it : Addr) (tn : Nat → Heap → Prop) : Prop where
  mem : it ∈ fp
  obj : ∀ i h, tn i h → ∀ b ∈ fp, ∃ o, h.get? b = some o ∧ ∀ v, o.data ≠ .cell v
  keep : ∀ i h h', tn i h → (∀ b ∈ fp, ∀ o, h.get? b = some o → h'.get? b = some o) → tn i h'
  item : ∀ (X : Cx), X.prog = P → X.w = w → X.K = K → X.calm = true → ∀ (i : Nat) (pins : List (Addr × Obj)) (s : Shared) (σ : St) (H : Hp) (E : Value → Shared → Prop), Inv X pins σ H s → (∀ b ∈ fp, FpOk X pins H b) → tn i s.heap → J.go i H →
    wpAny (model P w) X.A (pyNext (.ref it)) (fun r s1 => ∃ u, r = some u ∧
      wpAny (model P w) X.A (letOwnedTupleGo tg (.ref it) u) (fun _ s2 => ∃ x H', Inv X pins σ H' s2 ∧ RelV x u ∧ J.yld i H x H' ∧ tn (i + 1) s2.heap ∧ ∀ b ∈ fp, H' b = none) E s1) E s
  done : ∀ (X : Cx), X.prog = P → X.w = w → X.K = K → X.calm = true → ∀ (i : Nat) (pins : List (Addr × Obj)) (s : Shared) (σ : St) (H : Hp) (E : Value → Shared → Prop), Inv X pins σ H s → (∀ b ∈ fp, FpOk X pins H b) → tn i s.heap → J.stop i H →
    wpAny (model P w) X.A (pyNext (.ref it)) (fun r s1 => r = none ∧ Inv X pins σ H s1) E s
  self : ∀ (A : Around) (i : Nat) (s : Shared) (Q : Value → Shared → Prop) (E : Value → Shared → Prop), tn i s.heap → Q (.ref it) s → wpAny (model P w) A (pyIter (.ref it)) Q E s
abbrev TI := St → Hp → (It → Hp → Prop) → Prop
/-- an iterator has come -/
def PIE (X : Cx) (pins : List (Addr × Obj)) (σ : St) (tg : Expr) (R : It → Hp → Prop) (itv : Value) (s2 : Shared) : Prop :=
  ∃ (it : Addr) (fp : List Addr) (tn : Nat → Heap → Prop) (J : It) (H' : Hp), itv = .ref it ∧ Inv X pins σ H' s2 ∧ Turn X.prog X.w X.K tg J fp it tn ∧ tn 0 s2.heap ∧ (∀ b ∈ fp, FpOk X pins H' b) ∧ R J H'
def PI (X : Cx) (tg iter : Expr) (wi : TI) : Prop :=
  ∀ (pins : List (Addr × Obj)) (s : Shared) (σ : St) (H : Hp) (R : It → Hp → Prop), Inv X pins σ H s → wi σ H R →
    wpAny (model X.prog X.w) X.A (eval iter X.env) (fun v s1 => wpAny (model X.prog X.w) X.A (pyIter v) (PIE X pins σ tg R) X.xe s1) X.xe s

/-- the step ahead of the store is nothing for an iterator that keeps no tuple -/
theorem go_of {M : Model} {A : Around} {E : Value → Shared → Prop} {s : Shared} {tg : Expr} {it : Addr} {u : Value} {o : Obj} {n : String} {vs : Array Value} {Q : Unit → Shared → Prop} (ho : s.heap.get? it = some o) (hc : o.cls = .type n) (hd : o.data = .fields vs)
    (hn : ["enumerate", "zip", "dict_itemiterator", "dict_reverseitemiterator", "odict_iterator", "itertools.zip_longest", "itertools.pairwise"].contains n = false) (hQ : Q () s) : wpAny M A (letOwnedTupleGo tg (.ref it) u) Q E s := by
  unfold letOwnedTupleGo
  cases tg <;> first
    | exact wpAny_pure hQ
    | (cases u <;> first
        | exact wpAny_pure hQ
        | (refine wpAny_bind (wpAny_load ho ?_)
           rw [hc, hd]
           show wpAny M A (if (["enumerate", "zip", "dict_itemiterator", "dict_reverseitemiterator", "odict_iterator", "itertools.zip_longest", "itertools.pairwise"].contains n && vs[0]? == some (rawInt _)) = true then _ else _) Q E s
           rw [if_neg (by intro h; rw [hn, Bool.false_and] at h; cases h)]
           exact wpAny_pure hQ))

/-- the list at a, as it stands at each turn (a loop may append to it) -/
def Itl (K : PySem.W.Frag) (a : Addr) : It :=
  ⟨fun i H => ∃ xs x, SqL K H a xs ∧ xs[i]? = some x, fun i H x H' => H' = H ∧ ∀ xs, SqL K H a xs → xs[i]? = some x, fun i H => ∃ xs, SqL K H a xs ∧ xs.length ≤ i⟩
/-- lo, lo + 1, .. (n of them) -/
def Itr (lo : Int) (n : Nat) : It := ⟨fun i _ => i < n, fun i H x H' => H' = H ∧ x = .int (lo + i), fun i _ => n ≤ i⟩
theorem turn_list {P : Program} {w : World} {K : PySem.W.Frag} {tg : Expr} (a it : Addr) : Turn P w K tg (Itl K a) [it] it (fun i h => h.IsListIter it a i) where
  mem := by simp
  obj := fun i h st b hb => by
    have e : b = it := by simpa using hb
    subst e
    obtain ⟨o, e, c, d⟩ := st
    exact ⟨o, e, fun v z => by rw [d] at z; cases z⟩
  keep := fun i h h' st k => st.at fun o e => k it (by simp) o e
  item := by
    intro X hP hw hK hc i pins s σ H E I hf st hg
    subst hP hw hK
    obtain ⟨xs, x, hq, hx⟩ := hg
    obtain ⟨its, rv, p, hz⟩ := I.list hq
    obtain ⟨u, hu, ru⟩ := rv.get hx
    obtain ⟨f0, f1, f2, f3, f4, f5⟩ := hf it (by simp)
    refine wpAny_pyNext_list_item st p.isList (x := u) (by simpa using hu) fun h' st' sb => ?_
    have I1 : Inv X pins σ H { s with heap := h' } := I.turned (t' := s.toks) (fun b o hb e => (sb.2 b hb).trans e) f0 f1 f3 f4 f5
    obtain ⟨o, e, c, d⟩ := id st'
    exact ⟨u, rfl, go_of (s := { s with heap := h' }) e c d (by decide) ⟨x, H, I1, ru, ⟨rfl, fun ys hy => by rw [I.list_inj hy hq]; exact hx⟩, st', fun b hb => (hf b hb).1⟩⟩
  done := by
    intro X hP hw hK hc i pins s σ H E I hf st hg
    subst hP hw hK
    obtain ⟨xs, hq, hx⟩ := hg
    obtain ⟨its, rv, p, hz⟩ := I.list hq
    obtain ⟨f0, f1, f2, f3, f4, f5⟩ := hf it (by simp)
    have hl := rv.length
    exact wpAny_pyNext_list_end (I.ok.hd hc) st p.isList (by simp; omega) fun h' eb => ⟨rfl, I.turned (t' := s.toks) (fun b o hb e => eb b o hb e) f0 f1 f3 f4 f5⟩
  self := fun _ _ _ _ _ st h => wpAny_pyIter_listiter st h
theorem turn_range {P : Program} {w : World} {K : PySem.W.Frag} {tg : Expr} (it : Addr) (lo : Int) (n : Nat) : Turn P w K tg (Itr lo n) [it] it (fun i h => IsRangeIter h it (lo + (i : Nat) * 1) ((n : Int) - (i : Nat)) 1) where
  mem := by simp
  obj := fun i h st b hb => by
    have e : b = it := by simpa using hb
    subst e
    exact ⟨_, st, fun v z => by
      have z' : Data.fields _ = Data.cell v := z
      cases z'⟩
  keep := fun i h h' st k => k it (by simp) _ st
  item := by
    intro X hP hw hK hc i pins s σ H E I hf st hg
    subst hP hw hK
    obtain ⟨f0, f1, f2, f3, f4, f5⟩ := hf it (by simp)
    have W := Walks.range (prog := X.prog) (w := X.w) (I.ok.hd hc) it lo 1 n
    refine W.item i s _ _ hg st fun v h' tk hv st' kk => ?_
    obtain ⟨t, rfl⟩ := hv
    have I1 : Inv X pins σ H { s with heap := h', toks := tk } := I.turned (fun b o hb e => kk b o (by simpa using hb) e) f0 f1 f3 f4 f5
    refine ⟨_, rfl, go_of (s := { s with heap := h', toks := tk }) (n := "range_iterator") st' rfl rfl (by decide) ⟨.int (lo + i), H, I1, ⟨t, ?_⟩, ⟨rfl, rfl⟩, st', fun b hb => (hf b hb).1⟩⟩
    rw [Int.mul_one]
  done := by
    intro X hP hw hK hc i pins s σ H E I hf st hg
    subst hP hw hK
    obtain ⟨f0, f1, f2, f3, f4, f5⟩ := hf it (by simp)
    exact wpAny_pyNext_range_end (I.ok.hd hc) st (by have : n ≤ i := hg; omega) fun h' eb => ⟨rfl, I.turned (t' := s.toks) (fun b o hb e => eb b o hb e) f0 f1 f3 f4 f5⟩
  self := fun _ _ _ _ _ st h => wpAny_pyIter_rangeiter st h
end L2

namespace L2
open PySem PySem.Spec PyProof.Rows
section
variable {X : Cx} {tg : Expr}
def iList (K : PySem.W.Frag) (tl : TE) : TI := fun σ H R => tl σ H fun x H1 => ∃ a, x = .ref a ∧ (∃ xs, SqL K H1 a xs) ∧ R (Itl K a) H1
theorem pi_list {l : Expr} {tl : TE} (hl : PE X l tl) : PI X tg l (iList X.K tl) := by
  intro pins s σ H R I h
  refine thn (hl pins s σ H _ I h) fun v s1 ⟨x, H1, I1, r1, q1⟩ => ?_
  obtain ⟨a, e, ⟨xs, hq⟩, q⟩ := q1
  subst e
  cases r1
  obtain ⟨its, rv, p, hz⟩ := I1.list hq
  refine wpAny_pyIter_list p.isList ?_
  refine ⟨s1.heap.objs.size, [s1.heap.objs.size], _, _, H1, rfl, I1.kept (t' := s1.toks) fun b o e => Heap.get?_push_of_some _ e, turn_list a _, ⟨_, Heap.get?_push_size _ rfl, rfl, rfl⟩, fun b hb => ?_, q⟩
  have e : b = s1.heap.objs.size := by simpa using hb
  subst e
  exact I1.fpOk (Nat.le_refl _) (I1.hok.fresh (Nat.le_refl _))
/-- a range object just made, walked -/
theorem range_it {pins : List (Addr × Obj)} {σ : St} {H : Hp} {s : Shared} {R : It → Hp → Prop} {E : Value → Shared → Prop} {lo hi : Int} {t u v : Tok} {tk : Nat} (I : Inv X pins σ H s) (h1 : -(2 ^ 62) ≤ lo) (h2 : lo < 2 ^ 62) (h3 : -(2 ^ 62) ≤ hi) (h4 : hi < 2 ^ 62)
    (q : R (Itr lo (hi - lo).toNat) H) : wpAny (model X.prog X.w) X.A (pyIter (.ref s.heap.objs.size)) (PIE X pins σ tg R) E { s with heap := s.heap.push { cls := .type "range", data := .fields #[.int lo t, .int hi u, .int 1 v] }, toks := tk } := by
  refine wpAny_pyIter_range (IsRange.new ..) (small_one h1 h2 h3 h4) ?_
  have I1 : Inv X pins σ H { s with heap := s.heap.push { cls := .type "range", data := .fields #[.int lo t, .int hi u, .int 1 v] }, toks := tk } := I.kept fun b o e => Heap.get?_push_of_some _ e
  refine ⟨(s.heap.push { cls := .type "range", data := .fields #[.int lo t, .int hi u, .int 1 v] }).objs.size, [(s.heap.push { cls := .type "range", data := .fields #[.int lo t, .int hi u, .int 1 v] }).objs.size], _, _, H, rfl,
    I1.kept (t' := tk) fun b o e => Heap.get?_push_of_some _ e, turn_range _ lo (hi - lo).toNat, ?_, fun b hb => ?_, q⟩
  · have e1 : lo + ((0 : Nat) : Int) * 1 = lo := by simp
    have e2 : (((hi - lo).toNat : Nat) : Int) - ((0 : Nat) : Int) = Builtin.Range.rangeSize lo hi 1 := by rw [rangeSize_one]; split <;> omega
    show IsRangeIter _ _ (lo + ((0 : Nat) : Int) * 1) ((((hi - lo).toNat : Nat) : Int) - ((0 : Nat) : Int)) 1
    rw [e1, e2]
    exact Heap.get?_push_size _ rfl
  · have e : b = (s.heap.push { cls := .type "range", data := .fields #[.int lo t, .int hi u, .int 1 v] }).objs.size := by simpa using hb
    subst e
    exact I1.fpOk (Nat.le_refl _) (I1.hok.fresh (Nat.le_refl _))
def iRng1 (ta : TA) : TI := fun σ H R => ta σ H fun vs H1 => ∃ j : Int, vs = [.int j] ∧ -(2 ^ 62) ≤ j ∧ j < 2 ^ 62 ∧ R (Itr 0 j.toNat) H1
def iRng2 (ta : TA) : TI := fun σ H R => ta σ H fun vs H1 => ∃ i j : Int, vs = [.int i, .int j] ∧ (-(2 ^ 62) ≤ i ∧ i < 2 ^ 62 ∧ -(2 ^ 62) ≤ j ∧ j < 2 ^ 62) ∧ R (Itr i (j - i).toNat) H1
theorem pi_range1 {a : Expr} {ta : TA} {p pos : Pos} (hg : Gl X "range") (hm : X.mg "range" = none) (ha : PA X [a] ta) (hs : starEach [a] X.env = [(false, eval a X.env)] := by rfl) : PI X tg (.Call (.Name "range" p) [a] [] pos) (iRng1 ta) := by
  intro pins s σ H R I h
  refine Call_ (ld_blt I hg hm boot_range (PyProof.Rows.callWith_type1 (thn (ha pos pins s σ H _ I h) fun us s1 ⟨vs, H1, I1, r1, q1⟩ => ?_) hs rfl))
  obtain ⟨j, e, q1, q2, q⟩ := q1
  subst e
  cases r1 with
  | cons r rr =>
    cases rr
    obtain ⟨t, rfl⟩ := r
    exact call_range_1 (range_it I1 (by omega) (by omega) q1 q2 (by simpa using q))
theorem pi_range2 {a b : Expr} {ta : TA} {p pos : Pos} (hg : Gl X "range") (hm : X.mg "range" = none) (ha : PA X [a, b] ta) (hs : starEach [a, b] X.env = [(false, eval a X.env), (false, eval b X.env)] := by rfl) (hs2 : starEach [b] X.env = [(false, eval b X.env)] := by rfl) :
    PI X tg (.Call (.Name "range" p) [a, b] [] pos) (iRng2 ta) := by
  intro pins s σ H R I h
  refine Call_ (ld_blt I hg hm boot_range (PyProof.Rows.callWith_type1 (thn (ha pos pins s σ H _ I h) fun us s1 ⟨vs, H1, I1, r1, q1⟩ => ?_) (by rw [hs, hs2]) (by rw [hs2]; rfl)))
  obtain ⟨i, j, e, ⟨q1, q2, q3, q4⟩, q⟩ := q1
  subst e
  cases r1 with
  | cons r rr =>
    cases rr with
    | cons r' rr =>
      cases rr
      obtain ⟨t, rfl⟩ := r
      obtain ⟨t', rfl⟩ := r'
      exact call_range_2 (range_it I1 q1 q2 q3 q4 q)

/-! ### for -/
/-- W: the invariant by the turn and a measure; N: what the body is to reach -/
def tFor (wi : TI) (g : TG) (tb : TS) : TS := fun D σ H => wi σ H fun J H1 => ∃ W : Nat → Nat → St → Hp → Prop, (∃ m, W 0 m σ H1) ∧ ∀ i m σ H, W i m σ H →
  (J.stop i H ∧ D.nx σ H) ∨ (J.go i H ∧ ∃ N : St → Hp → Prop, (∀ σ' H', N σ' H' → ∃ m', m' < m ∧ W (i + 1) m' σ' H') ∧ ∀ x H', J.yld i H x H' → g x σ H' fun σ2 H2 => tb { D with nx := N, ct := N, bk := D.nx } σ2 H2)
/-- the records at fp as they stand -/
def pinsAt (fp : List Addr) (h : Heap) : List (Addr × Obj) := fp.filterMap fun b => (h.get? b).map fun o => (b, o)
theorem mem_pinsAt {fp : List Addr} {h : Heap} {b : Addr} {o : Obj} (hb : b ∈ fp) (e : h.get? b = some o) : (b, o) ∈ pinsAt fp h := List.mem_filterMap.mpr ⟨b, hb, by rw [e]; rfl⟩
theorem of_pinsAt {fp : List Addr} {h : Heap} {p : Addr × Obj} (hp : p ∈ pinsAt fp h) : p.1 ∈ fp ∧ h.get? p.1 = some p.2 := by
  obtain ⟨b, hb, e⟩ := List.mem_filterMap.mp hp
  cases q : h.get? b with
  | none => rw [q] at e; cases e
  | some o =>
    rw [q] at e
    have e' : (b, o) = p := Option.some.inj e
    subst e'
    exact ⟨hb, q⟩
theorem Inv.pinned {pins : List (Addr × Obj)} {σ : St} {H : Hp} {s : Shared} {fp : List Addr} (I : Inv X pins σ H s) (hf : ∀ b ∈ fp, FpOk X pins H b) (ho : ∀ b ∈ fp, ∃ o, s.heap.get? b = some o ∧ ∀ v, o.data ≠ .cell v) : Inv X (pins ++ pinsAt fp s.heap) σ H s :=
  I.pins_of fun p hp => (List.mem_append.mp hp).elim (fun z => I.pin p (List.mem_append_right _ z)) fun z => by
    obtain ⟨hb, e⟩ := of_pinsAt z
    obtain ⟨f0, f1, f2, _⟩ := hf p.1 hb
    obtain ⟨o, e', d⟩ := ho p.1 hb
    rw [e] at e'; cases e'
    exact ⟨e, f0, f1, f2, d⟩
theorem Inv.unpinned {pins pl : List (Addr × Obj)} {σ : St} {H : Hp} {s : Shared} (I : Inv X (pins ++ pl) σ H s) : Inv X pins σ H s := I.pins_of fun p hp => I.pin p (List.mem_append_right _ (List.mem_append_left _ hp))
theorem ps_for {iter : Expr} {body : List Stmt} {wi : TI} {g : TG} {tb : TS} {pos : Pos} (hp : PassesOwn (model X.prog X.w) X.A X.env X.xe) (hc : X.calm = true) (hi : PI X tg iter wi) (hg : PG X tg g) (hb : PSs X body tb)
    (hs : ∀ x, foldedSetIterable iter X.env x = pure x := by intro _; rfl) : PS X (.For tg iter body [] pos) (tFor wi g tb) := by
  intro pins s σ H D I h
  refine wpAny_For (thn (hi pins s σ H _ I h) fun v s1 h1 => thn h1 fun itv s2 h2 => ?_) hs
  obtain ⟨it, fp, tn, J, H2, e, I2, T, st2, f2, W, ⟨m0, w0⟩, turn⟩ := h2
  subst e
  -- what stays true of the iterator's objects through the loop
  have stat : ∀ {H' : Hp}, (∀ b ∈ fp, H' b = none) → ∀ b ∈ fp, FpOk X pins H' b := fun hn b hb => ⟨hn b hb, (f2 b hb).2⟩
  refine codeAny_forLoop_any (fun n s' => ∃ i σ' H', Inv X pins σ' H' s' ∧ tn i s'.heap ∧ (∀ b ∈ fp, H' b = none) ∧ W i n σ' H') ?_ m0 ⟨0, σ, H2, I2, st2, fun b hb => (f2 b hb).1, w0⟩
  rintro n s3 ⟨i, σ3, H3, I3, st3, fr3, w3⟩
  rcases turn i n σ3 H3 w3 with ⟨stop, qn⟩ | ⟨go, N, hN, step⟩
  · refine wpAny_passesOwn hp (thn (T.done X rfl rfl rfl hc i pins s3 σ3 H3 X.xe I3 (stat fr3) st3 stop) fun r s4 ⟨hr, I4⟩ => ?_)
    subst hr
    exact wpAny_execs_nil ⟨σ3, H3, I4, qn⟩
  · refine wpAny_passesOwn hp (thn (T.item X rfl rfl rfl hc i pins s3 σ3 H3 X.xe I3 (stat fr3) st3 go) fun r s4 ⟨u, hr, h4⟩ => ?_)
    subst hr
    refine wpAny_passesOwn hp (thn h4 fun _ s5 ⟨x, H5, I5, r5, y5, st5, fr5⟩ => ?_)
    have I5' := I5.pinned (stat fr5) (T.obj _ _ st5)
    refine wpAny_passesOwn hp (thn (hg _ s5 σ3 H5 x u _ I5' r5 (step x H5 y5)) fun _ s6 ⟨σ6, H6, I6, q6⟩ => ?_)
    refine wpAny_passesOwn hp (thn (hb _ s6 σ6 H6 _ I6 q6) fun f s7 q7 => ?_)
    have again : ∀ {σ7 : St} {H7 : Hp}, Inv X (pins ++ pinsAt fp s5.heap) σ7 H7 s7 → N σ7 H7 → ∃ m, m < n ∧ ∃ i σ' H', Inv X pins σ' H' s7 ∧ tn i s7.heap ∧ (∀ b ∈ fp, H' b = none) ∧ W i m σ' H' := fun {σ7 H7} I7 n7 => by
      obtain ⟨m', hm, w7⟩ := hN σ7 H7 n7
      refine ⟨m', hm, i + 1, σ7, H7, I7.unpinned, T.keep _ _ _ st5 fun b hb o e => (I7.pin (b, o) (List.mem_append_right _ (List.mem_append_right _ (mem_pinsAt hb e)))).1, fun b hb => ?_, w7⟩
      obtain ⟨o, e, d⟩ := T.obj _ _ st5 b hb
      exact (I7.pin (b, o) (List.mem_append_right _ (List.mem_append_right _ (mem_pinsAt hb e)))).2.1
    cases f with
    | next => obtain ⟨σ7, H7, I7, n7⟩ := q7; exact again I7 n7
    | cont => obtain ⟨σ7, H7, I7, n7⟩ := q7; exact again I7 n7
    | brk => obtain ⟨σ7, H7, I7, q7⟩ := q7; exact ⟨σ7, H7, I7.unpinned, q7⟩
    | ret v => obtain ⟨x7, σ7, H7, I7, r7, q7⟩ := q7; exact ⟨x7, σ7, H7, I7.unpinned, r7, q7⟩
end

/-! ### the forms one uses -/
/-- over a list that the body leaves as it is -/
theorem for_list {K : PySem.W.Frag} {a : Addr} {xs : List V} {g : TG} {tb : TS} {D : Ends} {σ : St} {H : Hp} (Pv : Nat → St → Hp → Prop) (h0 : Pv 0 σ H) (hl : ∀ i σ H, i ≤ xs.length → Pv i σ H → SqL K H a xs)
    (hs : ∀ i x σ H, xs[i]? = some x → Pv i σ H → g x σ H fun σ2 H2 => tb { D with nx := Pv (i + 1), ct := Pv (i + 1), bk := D.nx } σ2 H2) (hd : ∀ σ H, Pv xs.length σ H → D.nx σ H) :
    ∃ W : Nat → Nat → St → Hp → Prop, (∃ m, W 0 m σ H) ∧ ∀ i m σ H, W i m σ H →
      ((Itl K a).stop i H ∧ D.nx σ H) ∨ ((Itl K a).go i H ∧ ∃ N : St → Hp → Prop, (∀ σ' H', N σ' H' → ∃ m', m' < m ∧ W (i + 1) m' σ' H') ∧ ∀ x H', (Itl K a).yld i H x H' → g x σ H' fun σ2 H2 => tb { D with nx := N, ct := N, bk := D.nx } σ2 H2) := by
  refine ⟨fun i m σ H => m = xs.length - i ∧ i ≤ xs.length ∧ Pv i σ H, ⟨xs.length, by simp, Nat.zero_le _, h0⟩, ?_⟩
  rintro i m σ H ⟨rfl, hi, p⟩
  have q := hl i σ H hi p
  by_cases hlt : i < xs.length
  · refine .inr ⟨⟨xs, xs[i], q, by simp [hlt]⟩, Pv (i + 1), fun σ' H' p' => ⟨xs.length - (i + 1), by omega, rfl, hlt, p'⟩, fun x H' y => ?_⟩
    obtain ⟨e, y⟩ := y
    subst e
    exact hs i x σ _ (y xs q) p
  · have e : i = xs.length := by omega
    subst e
    exact .inl ⟨⟨xs, q, Nat.le_refl _⟩, hd σ H p⟩
theorem for_range {lo : Int} {n : Nat} {g : TG} {tb : TS} {D : Ends} {σ : St} {H : Hp} (Pv : Nat → St → Hp → Prop) (h0 : Pv 0 σ H)
    (hs : ∀ i σ H, i < n → Pv i σ H → g (.int (lo + i)) σ H fun σ2 H2 => tb { D with nx := Pv (i + 1), ct := Pv (i + 1), bk := D.nx } σ2 H2) (hd : ∀ σ H, Pv n σ H → D.nx σ H) :
    ∃ W : Nat → Nat → St → Hp → Prop, (∃ m, W 0 m σ H) ∧ ∀ i m σ H, W i m σ H →
      ((Itr lo n).stop i H ∧ D.nx σ H) ∨ ((Itr lo n).go i H ∧ ∃ N : St → Hp → Prop, (∀ σ' H', N σ' H' → ∃ m', m' < m ∧ W (i + 1) m' σ' H') ∧ ∀ x H', (Itr lo n).yld i H x H' → g x σ H' fun σ2 H2 => tb { D with nx := N, ct := N, bk := D.nx } σ2 H2) := by
  refine ⟨fun i m σ H => m = n - i ∧ i ≤ n ∧ Pv i σ H, ⟨n, by simp, Nat.zero_le _, h0⟩, ?_⟩
  rintro i m σ H ⟨rfl, hi, p⟩
  by_cases hlt : i < n
  · refine .inr ⟨hlt, Pv (i + 1), fun σ' H' p' => ⟨n - (i + 1), by omega, rfl, hlt, p'⟩, fun x H' y => ?_⟩
    obtain ⟨e, y⟩ := y
    subst e y
    exact hs i σ _ hlt p
  · have e : i = n := by omega
    subst e
    exact .inl ⟨Nat.le_refl _, hd σ H p⟩
end L2

namespace L2
open PySem PySem.Spec PyProof.Rows

abbrev R2 := V → V → Hp → VK → Prop
/-- a two-place operation on values: f is binaryOp op, inplaceOp op or compareOp op -/
def OpR (X : Cx) (f : Value → Value → Sem Value) (r : R2) : Prop :=
  ∀ (pins : List (Addr × Obj)) (s : Shared) (σ : St) (H : Hp) (x y : V) (v u : Value) (Q : VK), Inv X pins σ H s → RelV x v → RelV y u → r x y H Q →
    wpAny (model X.prog X.w) X.A (f v u) (EP X pins σ Q) X.xe s
/-- a one-place operation -/
def UnR (X : Cx) (f : Value → Sem Value) (r : V → Hp → VK → Prop) : Prop :=
  ∀ (pins : List (Addr × Obj)) (s : Shared) (σ : St) (H : Hp) (x : V) (v : Value) (Q : VK), Inv X pins σ H s → RelV x v → r x H Q →
    wpAny (model X.prog X.w) X.A (f v) (EP X pins σ Q) X.xe s
/-- a call of a value that is known (a builtin, a type) with values -/
def CallR (X : Cx) (f : Value) (r : List V → Hp → VK → Prop) : Prop :=
  ∀ (pins : List (Addr × Obj)) (s : Shared) (σ : St) (H : Hp) (xs : List V) (us : List Value) (Q : VK), Inv X pins σ H s → Vals xs us → r xs H Q →
    wpAny (model X.prog X.w) X.A (call f us) (EP X pins σ Q) X.xe s
/-- a value's truth -/
def TruR (X : Cx) (r : V → Hp → (Bool → Hp → Prop) → Prop) : Prop :=
  ∀ (pins : List (Addr × Obj)) (s : Shared) (σ : St) (H : Hp) (x : V) (v : Value) (Q : Bool → Hp → Prop), Inv X pins σ H s → RelV x v → r x H Q →
    wpAny (model X.prog X.w) X.A (truthy v) (TP X pins σ Q) X.xe s

def tOp (r : R2) (ta tb : TE) : TE := fun σ H Q => ta σ H fun x H1 => tb σ H1 fun y H2 => r x y H2 Q
def tUn (r : V → Hp → VK → Prop) (ta : TE) : TE := fun σ H Q => ta σ H fun x H1 => r x H1 Q
/-- ints in, under C, and a value out -/
def rI (C : Int → Int → Prop) (g : Int → Int → V) : R2 := fun x y H Q => ∃ i j, x = .int i ∧ y = .int j ∧ C i j ∧ Q (g i j) H
def rI0 (g : Int → Int → V) : R2 := fun x y H Q => ∃ i j, x = .int i ∧ y = .int j ∧ Q (g i j) H
def rU (g : Int → V) : V → Hp → VK → Prop := fun x H Q => ∃ i, x = .int i ∧ Q (g i) H

section
variable {X : Cx} {a b c : Expr} {ta tb tc : TE} {pos : Pos}

theorem binT (ha : PE X a ta) (hb : PE X b tb) {pins : List (Addr × Obj)} {s : Shared} {σ : St} {H : Hp} {R : V → V → Hp → Prop} (I : Inv X pins σ H s)
    (h : ta σ H fun x H1 => tb σ H1 fun y H2 => R x y H2) {Q : Value → Shared → Prop} {f : Value → Value → Sem Value}
    (hf : ∀ v u s2 x y H2, Inv X pins σ H2 s2 → RelV x v → RelV y u → R x y H2 → wpAny (model X.prog X.w) X.A (f v u) Q X.xe s2) :
    wpAny (model X.prog X.w) X.A (eval a X.env) (fun v s₁ => wpAny (model X.prog X.w) X.A (eval b X.env) (fun u s₂ => wpAny (model X.prog X.w) X.A (f v u) Q X.xe s₂) X.xe s₁) X.xe s := by
  refine thn (ha pins s σ H _ I h) fun v s1 ⟨x, H1, I1, r1, q1⟩ => ?_
  refine thn (hb pins s1 σ H1 _ I1 q1) fun u s2 ⟨y, H2, I2, r2, q2⟩ => ?_
  exact hf v u s2 x y H2 I2 r1 r2 q2

theorem pe_op {op : Operator} {r : R2} (ho : OpR X (binaryOp op) r) (ha : PE X a ta) (hb : PE X b tb) : PE X (.BinOp a op b pos) (tOp r ta tb) := by
  intro pins s σ H Q I h
  exact wpAny_BinOp (binT ha hb I h fun v u s2 x y H2 I2 rx ry q => ho pins s2 σ H2 x y v u Q I2 rx ry q)
theorem pe_un {op : UnaryOp} {r : V → Hp → VK → Prop} (ho : UnR X (unaryOp op) r) (ha : PE X a ta) : PE X (.UnaryOp op a pos) (tUn r ta) := by
  intro pins s σ H Q I h
  exact UnaryOp_ (thn (ha pins s σ H _ I h) fun v s1 ⟨x, H1, I1, r1, q1⟩ => ho pins s1 σ H1 x v Q I1 r1 q1)
/-! ### ints -/
theorem opI {f : Value → Value → Sem Value} {C : Int → Int → Prop} {g : Int → Int → Int}
    (rule : ∀ (i j : Int) (t u : Tok) (s : Shared) (Q : Value → Shared → Prop) (E : Value → Shared → Prop), C i j → Q (.int (g i j) s.toks) { s with toks := s.toks + 1 } → wpAny (model X.prog X.w) X.A (f (.int i t) (.int j u)) Q E s) :
    OpR X f (rI C fun i j => .int (g i j)) := by
  intro pins s σ H x y v u Q I rx ry h
  obtain ⟨i, j, rfl, rfl, hc, q⟩ := h
  obtain ⟨t, rfl⟩ := rx
  obtain ⟨t', rfl⟩ := ry
  exact rule i j t t' s _ _ hc ⟨.int (g i j), H, I.tok _, ⟨_, rfl⟩, q⟩
theorem opI0 {f : Value → Value → Sem Value} {g : Int → Int → Int}
    (rule : ∀ (i j : Int) (t u : Tok) (s : Shared) (Q : Value → Shared → Prop) (E : Value → Shared → Prop), Q (.int (g i j) s.toks) { s with toks := s.toks + 1 } → wpAny (model X.prog X.w) X.A (f (.int i t) (.int j u)) Q E s) :
    OpR X f (rI0 fun i j => .int (g i j)) := by
  intro pins s σ H x y v u Q I rx ry h
  obtain ⟨i, j, rfl, rfl, q⟩ := h
  obtain ⟨t, rfl⟩ := rx
  obtain ⟨t', rfl⟩ := ry
  exact rule i j t t' s _ _ ⟨.int (g i j), H, I.tok _, ⟨_, rfl⟩, q⟩
theorem opB0 {f : Value → Value → Sem Value} {g : Int → Int → Bool}
    (rule : ∀ (i j : Int) (t u : Tok) (s : Shared) (Q : Value → Shared → Prop) (E : Value → Shared → Prop), Q (.bool (g i j)) s → wpAny (model X.prog X.w) X.A (f (.int i t) (.int j u)) Q E s) :
    OpR X f (rI0 fun i j => .bl (g i j)) := by
  intro pins s σ H x y v u Q I rx ry h
  obtain ⟨i, j, rfl, rfl, q⟩ := h
  obtain ⟨t, rfl⟩ := rx
  obtain ⟨t', rfl⟩ := ry
  exact rule i j t t' s _ _ ⟨.bl (g i j), H, I, rfl, q⟩

def CPow (i j : Int) : Prop := 0 ≤ j ∧ j ≤ 1000000 ∧ i.natAbs < 2 ^ 64
def CMul (i j : Int) : Prop := (-(2 ^ 64) < i ∧ i < 2 ^ 64) ∨ (-(2 ^ 64) < j ∧ j < 2 ^ 64)
theorem CMul.ok {i j : Int} (h : CMul i j) : IntMulOk i j := by
  rcases h with ⟨h1, h2⟩ | ⟨h1, h2⟩
  · exact .of_left (intBits_le_64 h1 h2)
  · exact .of_right (intBits_le_64 h1 h2)
theorem op_add : OpR X (binaryOp .Add) (rI0 fun i j => .int (i + j)) := opI0 fun _ _ _ _ _ _ _ q => add_int q
theorem op_sub : OpR X (binaryOp .Sub) (rI0 fun i j => .int (i - j)) := opI0 fun _ _ _ _ _ _ _ q => sub_int q
/-- % by a positive divisor of any size -/
theorem op_mod : OpR X (binaryOp .Mod) (rI (fun _ j => 0 < j) fun i j => .int (i % j)) := opI fun i j _ _ _ _ _ hc q => by
  have h1 : (0 : Int) < j := hc
  exact mod_int' (by omega) (by rw [Int.fmod_eq_emod_of_nonneg i (by omega)]; exact q)
theorem op_pow : OpR X (binaryOp .Pow) (rI CPow fun i j => .int (i ^ j.toNat)) := opI fun _ _ _ _ _ _ _ hc q => pow_int_small hc.1 hc.2.1 hc.2.2 q
theorem unI {f : Value → Sem Value} {g : Int → Int}
    (rule : ∀ (i : Int) (t : Tok) (s : Shared) (Q : Value → Shared → Prop) (E : Value → Shared → Prop), Q (.int (g i) s.toks) { s with toks := s.toks + 1 } → wpAny (model X.prog X.w) X.A (f (.int i t)) Q E s) :
    UnR X f (rU fun i => .int (g i)) := by
  intro pins s σ H x v Q I rx h
  obtain ⟨i, rfl, q⟩ := h
  obtain ⟨t, rfl⟩ := rx
  exact rule i t s _ _ ⟨.int (g i), H, I.tok _, ⟨_, rfl⟩, q⟩
theorem un_neg : UnR X (unaryOp .USub) (rU fun i => .int (-i)) := unI fun _ _ _ _ _ q => neg_int q
/-! ### bools among ints: n += (a < b) -/
end

/-! ### comparisons -/
section
variable {X : Cx} {a b c : Expr} {ta tb tc : TE} {pos : Pos}
theorem fin_bl {pins : List (Addr × Obj)} {σ : St} {H : Hp} {s : Shared} {Q : VK} {k k' : Bool} (I : Inv X pins σ H s) (q : Q (.bl k) H) (e : k = k') : EP X pins σ Q (.bool k') s := by
  subst e
  exact ⟨.bl k, H, I, rfl, q⟩
theorem op_lt : OpR X (compareOp .Lt) (rI0 fun i j => .bl (decide (i < j))) := opB0 fun _ _ _ _ _ _ _ q => lt_int q
theorem op_le : OpR X (compareOp .LtE) (rI0 fun i j => .bl (decide (i ≤ j))) := opB0 fun _ _ _ _ _ _ _ q => le_int q
theorem op_gt : OpR X (compareOp .Gt) (rI0 fun i j => .bl (decide (j < i))) := opB0 fun _ _ _ _ _ _ _ q => gt_int q
theorem op_ge : OpR X (compareOp .GtE) (rI0 fun i j => .bl (decide (j ≤ i))) := opB0 fun _ _ _ _ _ _ _ q => ge_int q
/-- is None, is not None: the right side a value none -/
theorem op_isN : OpR X (compareOp .Is) (fun x y H Q => y = .non ∧ Q (.bl (decide (x = .non))) H) := by
  intro pins s σ H x y v u Q I rx ry h
  obtain ⟨rfl, q⟩ := h
  cases ry
  refine is_none_gen (fin_bl I q ?_)
  cases x <;> first
    | (cases rx; rfl)
    | (obtain ⟨t, rfl⟩ := rx; rfl)
/-- two rules for one operation: by cases -/
theorem OpR.or {f : Value → Value → Sem Value} {r r' : R2} (h : OpR X f r) (h' : OpR X f r') : OpR X f (fun x y H Q => r x y H Q ∨ r' x y H Q) := by
  intro pins s σ H x y v u Q I rx ry q
  rcases q with q | q
  · exact h pins s σ H x y v u Q I rx ry q
  · exact h' pins s σ H x y v u Q I rx ry q

theorem nomark (b : Expr) {op : CmpOp} (h : op ≠ .In := by decide) (h2 : op ≠ .NotIn := by decide) : behindInMarks op b = false := by
  have e1 : (op == CmpOp.In) = false := by cases op <;> first | rfl | exact absurd rfl h
  have e2 : (op == CmpOp.NotIn) = false := by cases op <;> first | rfl | exact absurd rfl h2
  cases b <;> simp [behindInMarks, e1, e2]
/-- a comparison as a value; hm: nomark b, or (for in, not in) by with_unfolding_all rfl -/
theorem pe_cmpR {op : CmpOp} {r : R2} (ho : OpR X (compareOp op) r) (ha : PE X a ta) (hb : PE X b tb) (hm : behindInMarks op b = false) : PE X (.Compare a [op] [b] pos) (tOp r ta tb) := by
  intro pins s σ H Q I h
  exact wpAny_Compare1 (binT ha hb I h fun v u s2 x y H2 I2 rx ry q => ho pins s2 σ H2 x y v u Q I2 rx ry q) hm
/-- a reading of a value as a test -/
def tTest (t : TE) : TT := fun σ H Q => t σ H fun x H' => ∃ k, x = .bl k ∧ Q k H'
theorem pt_cmpR {op : CmpOp} {r : R2} (ho : OpR X (compareOp op) r) (ha : PE X a ta) (hb : PE X b tb) (hm : behindInMarks op b = false) : PT X (.Compare a [op] [b] pos) (tTest (tOp r ta tb)) := by
  intro pins s σ H Q I h
  refine wpAny_isTrue_Compare1 (thn (ha pins s σ H _ I h) fun v s1 ⟨x, H1, I1, r1, q1⟩ => thn (hb pins s1 σ H1 _ I1 q1) fun u s2 ⟨y, H2, I2, r2, q2⟩ =>
    thn (ho pins s2 σ H2 x y v u _ I2 r1 r2 q2) fun c s3 ⟨z, H3, I3, r3, k, e, q3⟩ => ?_) hm
  subst e
  cases r3
  exact wpAny_truthy_bool ⟨H3, I3, q3⟩
/-! ### truth -/
/-- a value's truth by the abstract heap -/
def TruV (K : PySem.W.Frag) (x : V) (H : Hp) (k : Bool) : Prop :=
  match x with
  | .non => k = false
  | .bl b => k = b
  | .int i => k = (i != 0)
  | .str y => y.length ≤ sizeLine ∧ k = ((y.length : Int) != 0)
  | .byt y => y.size ≤ sizeLine ∧ k = ((y.size : Int) != 0)
  | .ref p => (∃ xs, SqL K H p xs ∧ k = !xs.isEmpty) ∨ (∃ xs, SqT K H p xs ∧ k = !xs.isEmpty) ∨ ∃ kvs, H p = some (.dK kvs) ∧ k = !kvs.isEmpty
  | _ => False
theorem isEmpty_kv {κ : Type} {kvs : List (κ × V)} {vs : List (κ × Value)} (r : KV kvs vs) : (!vs.isEmpty) = !kvs.isEmpty := by
  cases r <;> rfl
theorem isEmpty_of {xs : List V} {its : List Value} (r : Vals xs its) : (!its.toArray.isEmpty) = !xs.isEmpty := by
  cases r <;> simp
theorem line63 : (sizeLine : Nat) < 2 ^ 63 := by rw [sizeLine_eq]; decide
theorem tru_ok : TruR X (fun x H Q => ∃ k, TruV X.K x H k ∧ Q k H) := by
  intro pins s σ H x v Q I rx h
  obtain ⟨k, e, q⟩ := h
  have hl := line63
  have hs : sizeLine = 16777216 := sizeLine_eq
  cases x with
  | non =>
    cases rx
    have e' : k = false := e
    subst e'
    exact truthy_none ⟨H, I, q⟩
  | bl b =>
    cases rx
    have e' : k = b := e
    subst e'
    exact wpAny_truthy_bool ⟨H, I, q⟩
  | int i =>
    obtain ⟨t, rfl⟩ := rx
    have e' : k = (i != 0) := e
    subst e'
    exact PySem.P.truthy_int ⟨H, I, q⟩
  | str y =>
    obtain ⟨t, rfl⟩ := rx
    obtain ⟨hy, e'⟩ : y.length ≤ sizeLine ∧ k = ((y.length : Int) != 0) := e
    subst e'
    exact PySem.P.truthy_str (by omega) ⟨H, I.tok _, q⟩
  | byt y =>
    obtain ⟨t, rfl⟩ := rx
    obtain ⟨hy, e'⟩ : y.size ≤ sizeLine ∧ k = ((y.size : Int) != 0) := e
    subst e'
    exact PySem.W.truthy_bytes (by omega) ⟨H, I.tok _, q⟩
  | ref p =>
    cases rx
    have e' : (∃ xs, SqL X.K H p xs ∧ k = !xs.isEmpty) ∨ (∃ xs, SqT X.K H p xs ∧ k = !xs.isEmpty) ∨ ∃ kvs, H p = some (.dK kvs) ∧ k = !kvs.isEmpty := e
    rcases e' with ⟨xs, hx, e'⟩ | ⟨xs, hx, e'⟩ | ⟨kvs, hx, e'⟩
    · subst e'
      obtain ⟨its, r, pl, hz⟩ := I.list hx
      have hlen := r.length
      exact wpAny_truthy_list pl.isList (by simp only [List.size_toArray]; omega) ⟨H, I.tok _, by rw [isEmpty_of r]; exact q⟩
    · subst e'
      obtain ⟨its, r, pl, hz⟩ := I.tuple hx
      have hlen := r.length
      exact truthy_tuple pl (by simp only [List.size_toArray]; omega) ⟨H, I.tok _, by rw [isEmpty_of r]; exact q⟩
    · subst e'
      obtain ⟨hz, hS, vs, r, m⟩ : kvs.length ≤ sizeLine ∧ (p == sysModules) = false ∧ ∃ vs, KV kvs vs ∧ s.heap.DictOf (mixKind X.prog X.w) p vs := I.hok p _ hx
      have hlen : kvs.length = vs.length := Paired.length r
      exact wpAny_truthy_dict hS m (by omega) ⟨H, I.tok _, by rw [isEmpty_kv r]; exact q⟩
  | _ => exact (show False from e).elim
/-- any expression whose test is its value's truth (a name, a call, a subscript, a field ..: he by fun _ => rfl) -/
theorem pt_truth (ha : PE X a ta) (he : ∀ whole, isTrue a X.env whole = (do let v ← whole; standAt a.pos; holding [v] (truthy v))) :
    PT X a (fun σ H Q => ta σ H fun x H' => ∃ k, TruV X.K x H' k ∧ Q k H') := by
  intro pins s σ H Q I h
  exact isTrue_plain (thn (ha pins s σ H _ I h) fun v s1 ⟨x, H1, I1, r1, q1⟩ => tru_ok pins s1 σ H1 x v Q I1 r1 q1) (he _)

/-! ### strs and bytes -/
/-! ### scalar builtins, by CallR -/
theorem vals1 {x : V} {us : List Value} (r : Vals [x] us) : ∃ u, us = [u] ∧ RelV x u := by
  cases r with
  | cons r1 r2 => cases r2; exact ⟨_, rfl, r1⟩
theorem vals2 {x y : V} {us : List Value} (r : Vals [x, y] us) : ∃ u w', us = [u, w'] ∧ RelV x u ∧ RelV y w' := by
  cases r with
  | cons r1 r2 =>
    cases r2 with
    | cons r3 r4 => cases r4; exact ⟨_, _, rfl, r1, r3⟩
theorem call_abs : CallR X (.builtin "abs") (fun xs H Q => ∃ i, xs = [.int i] ∧ Q (.int (if i < 0 then -i else i)) H) := by
  intro pins s σ H xs us Q I r h
  obtain ⟨i, rfl, q⟩ := h
  obtain ⟨u, rfl, t, rfl⟩ := vals1 r
  exact call_abs_int fun u tk => ⟨.int (if i < 0 then -i else i), H, I.tok _, ⟨_, rfl⟩, q⟩
theorem call_max2 (hc : X.calm = true) : CallR X (.builtin "max") (fun xs H Q => ∃ i j, xs = [.int i, .int j] ∧ Q (.int (if j > i then j else i)) H) := by
  intro pins s σ H xs us Q I r h
  obtain ⟨i, j, rfl, q⟩ := h
  obtain ⟨u, w', rfl, ⟨t, rfl⟩, ⟨t', rfl⟩⟩ := vals2 r
  refine max_two_ints (I.ok.hd hc) fun h' tk k => ⟨_, H, I.kept k, ?_, q⟩
  by_cases hj : j > i
  · rw [if_pos hj, if_pos hj]; exact ⟨_, rfl⟩
  · rw [if_neg hj, if_neg hj]; exact ⟨_, rfl⟩
theorem call_int1 : CallR X (.type "int") (fun xs H Q => (∃ i, xs = [.int i] ∧ Q (.int i) H) ∨ ∃ k, xs = [.bl k] ∧ Q (.int (if k then 1 else 0)) H) := by
  intro pins s σ H xs us Q I r h
  rcases h with ⟨i, rfl, q⟩ | ⟨k, rfl, q⟩
  · obtain ⟨u, rfl, t, rfl⟩ := vals1 r
    exact call_int_int ⟨.int i, H, I, ⟨_, rfl⟩, q⟩
  · obtain ⟨u, rfl, r1⟩ := vals1 r
    cases r1
    exact call_int_bool ⟨.int (if k then 1 else 0), H, I.tok _, ⟨_, rfl⟩, q⟩
end
end L2

namespace L2
open PySem PySem.Spec PyProof.Rows

/-! ### an instance, its attributes a map -/
structure ObjM (h : Heap) (x dx C : Addr) (mA : Str → Option Value) : Prop where
  obj : h.get? x = some (PySem.W.instObj C dx)
  ns : h.Ns1 dx mA
  ne : dx ≠ x

theorem lookIn_ns {h : Heap} {dx : Addr} {mA : Str → Option Value} (n : h.Ns1 dx mA) : ∃ od, h.get? dx = some od ∧ ∀ name, PySem.W.lookIn name od = some (mA name) := by
  obtain ⟨o, es, ep, ho, hd, hk, _, hm⟩ := n
  refine ⟨o, ho, fun name => ?_⟩
  have e := hm name
  unfold nsFind findBy at e
  rw [← Array.find?_toList] at e
  unfold PySem.W.lookIn
  rw [hd]
  dsimp only
  split
  · rename_i y q
    rw [q] at e
    exact congrArg some e
  · rename_i q
    rw [q] at e
    have a : es.toList.any (·.refKey) = false := by
      rw [List.any_eq_false]
      intro y hy
      obtain ⟨z, t, hkey⟩ := hk y (Array.mem_toList_iff.mp hy)
      simp [DictEntry.refKey, hkey]
    have a' : ¬ es.toList.any (·.refKey) = true := by rw [a]; exact Bool.false_ne_true
    rw [if_neg a']
    exact congrArg some e

theorem ObjM.look {h : Heap} {x dx C : Addr} {mA : Str → Option Value} (I : ObjM h x dx C mA) : ∃ od, PySem.W.InstAt h x (PySem.W.instObj C dx) C (some od) ∧ ∀ name, PySem.W.lookIn name od = some (mA name) :=
  let ⟨od, ho, hl⟩ := lookIn_ns I.ns
  ⟨od, ⟨I.obj, rfl, rfl, ho⟩, hl⟩

section
variable {prog : Program} {w : World} {A : Around} {E : Value → Shared → Prop} {s : Shared} {K : PySem.W.Frag} {x dx C f : Addr} {mA : Str → Option Value} {name : Str} {v : Value}

theorem get_map {expr : Bool} {Q : Value → Shared → Prop} (X : K.In s.heap) (I : ObjM s.heap x dx C mA) (hg : PySem.W.plainGet K C name = true) (hh : PySem.W.hasDictIn K C = true)
    (ha : PySem.W.findIn K (.ref C) name = some none) (hv : mA name = some v) (hv' : PySem.W.handedIn v = true) (h : Q v { s with toks := s.toks + 1 }) :
    wpAny (model prog w) A (getAttr (.ref x) name expr) Q E s := by
  obtain ⟨od, J, hl⟩ := I.look
  exact PySem.W.get_value X J (PySem.W.plainGet_of hg).1 (PySem.W.findObj_own hh ha rfl (by rw [hl, hv])) hv' h

theorem get_meth {pl : Sem Bool} {Q : Value × List Value → Shared → Prop} (X : K.In s.heap) (I : ObjM s.heap x dx C mA) (hg : PySem.W.plainGet K C name = true)
    (hf : PySem.W.findIn K (.ref C) name = some (some (.ref f))) (ht : PySem.W.isFn K (.ref f) = true) (hv : mA name = none) (h : Q (.ref f, [.ref x]) s) :
    wpAny (model prog w) A (getMethod (.ref x) name pl) Q E s := by
  obtain ⟨od, J, hl⟩ := I.look
  exact PySem.W.method_fn X J (PySem.W.plainGet_of hg).1 (PySem.W.plainGet_of hg).2 hf (beq_iff_eq.mp ht) (by show (PySem.W.lookIn name od).map (·.isSome) = some false; rw [hl, hv]; rfl) h

theorem set_map {ns : List Str} {Q : Unit → Shared → Prop} (X : K.In s.heap) (I : ObjM s.heap x dx C mA)
    (hs : PySem.W.findIn K (.ref C) "__setattr__" = some (some (.builtin "object.__setattr__"))) (hp : PySem.W.plainOver K C = true) (ht : PySem.W.takerIn K C name = some none) (hh : PySem.W.hasDictIn K C = true)
    (hw : PySem.Within mA ns) (hsz : ns.length ≤ sizeLine)
    (h : ∀ h', ObjM h' x dx C (fun y => if y = name then some v else mA y) → Heap.SameBut dx s.heap h' → Q () { s with heap := h', toks := s.toks + 2 }) :
    wpAny (model prog w) A (setAttr (.ref x) name v) Q E s := by
  obtain ⟨od, J, hl⟩ := I.look
  refine PySem.W.set_plain X J hs (PySem.W.osa_open (s := { s with toks := s.toks + 1 }) (r := none) X J hp ht fun b => ?_)
  obtain ⟨cd, hc, hd'⟩ := PySem.W.any_some hh
  have hx : s.heap.get? x = some ⟨.ref C, some dx, .plain, #[]⟩ := I.obj
  refine wpAny_bind (wpAny_pure (wpAny_bind (wpAny_bind (wpAny_loadPart hx (wpAny_bind (PySem.W.Looks.here (s := { s with toks := s.toks + 1 }) (PySem.W.looks_clsIn X hc) ?_))))))
  rw [hd']
  refine wpAny_pure (a := some dx) (wpAny_bind (wpAny_pure (wpAny_bind ?_)))
  refine wpAny_nsSet1 (s := { s with toks := s.toks + 1 }) I.ns fun h' hn2 hs2 => ?_
  obtain ⟨oD, esD, epD, hoD, hdD, hcD⟩ := hn2.count (PySem.Within.cons name v hw)
  refine wpAny_bind (wpAny_lookBehind hoD (by rw [hdD]; exact pastItsLine_dict (Nat.le_trans hcD (by rw [List.length_cons]; omega))) ?_)
  exact wpAny_pure (h _ ⟨(hs2.2 _ (Ne.symm I.ne)).trans I.obj, hn2, I.ne⟩ hs2)

/-- C(..): the dict at the heap's end, the instance behind it; then its __init__ -/
theorem make_map {R : Result → Shared → Prop} {vs : List Value} {kw : List (Str × Value)} (X : K.In s.heap) (hm : PySem.W.makesIn K C = true)
    (hi : PySem.W.findIn K (.ref C) "__init__" = some (some (.ref f))) (hf : PySem.W.typeIn K (.ref f) = some (.type "function"))
    (h : codeAny (model prog w) (A.under (.builtin "type.__call__" ⟨.ref C :: vs, kw⟩)) (.call (.ref f) ⟨.ref (s.heap.objs.size + 1) :: vs, kw⟩) (PySem.W.InitBack (s.heap.objs.size + 1) R)
      { s with heap := (s.heap.push PySem.W.emptyDict).push (PySem.W.instObj C s.heap.objs.size) }) :
    codeAny (model prog w) A (.call (.ref C) ⟨vs, kw⟩) R s := by
  obtain ⟨hh, g, d, t, os⟩ := s
  exact PySem.W.make_core (PySem.W.makes_of X hm) (PySem.W.looks_findIn X hi) (fun self => PySem.W.bind_fn X self hf) (.inl rfl) h
end

/-! ### the attributes as a list of pairs -/
def putF (f : Str) (v : V) : List (Str × V) → List (Str × V)
  | [] => [(f, v)]
  | (g, x) :: r => if g = f then (g, v) :: r else (g, x) :: putF f v r
theorem lookup_putF (f g : Str) (v : V) : ∀ fs : List (Str × V), (putF f v fs).lookup g = if g = f then some v else fs.lookup g
  | [] => by
    show List.lookup g [(f, v)] = _
    by_cases h : g = f
    · have hb : (g == f) = true := beq_iff_eq.mpr h
      simp only [List.lookup, hb, if_pos h]
    · have hb : (g == f) = false := beq_eq_false_iff_ne.mpr h
      simp only [List.lookup, hb, if_neg h]
  | (k, x) :: r => by
    have ih := lookup_putF f g v r
    rw [show putF f v ((k, x) :: r) = (if k = f then (k, v) :: r else (k, x) :: putF f v r) from rfl]
    by_cases hk : k = f
    · rw [if_pos hk]
      by_cases h : g = k
      · have hb : (g == k) = true := beq_iff_eq.mpr h
        simp only [List.lookup, hb, if_pos (h.trans hk)]
      · have hb : (g == k) = false := beq_eq_false_iff_ne.mpr h
        simp only [List.lookup, hb, if_neg (fun e : g = f => h (e.trans hk.symm))]
    · rw [if_neg hk]
      by_cases h : g = k
      · have hb : (g == k) = true := beq_iff_eq.mpr h
        simp only [List.lookup, hb, if_neg (fun e : g = f => hk (h.symm.trans e))]
      · have hb : (g == k) = false := beq_eq_false_iff_ne.mpr h
        simp only [List.lookup, hb]
        exact ih
theorem keys_putF (f : Str) (v : V) : ∀ fs : List (Str × V), f ∈ (putF f v fs).map (·.1) ∧ ∀ g, g ∈ fs.map (·.1) → g ∈ (putF f v fs).map (·.1)
  | [] => ⟨by simp [putF], fun g h => by simp at h⟩
  | (k, x) :: r => by
    obtain ⟨i1, i2⟩ := keys_putF f v r
    rw [show putF f v ((k, x) :: r) = (if k = f then (k, v) :: r else (k, x) :: putF f v r) from rfl]
    by_cases hk : k = f
    · rw [if_pos hk]
      subst hk
      exact ⟨by simp, fun g h => by simpa using h⟩
    · rw [if_neg hk]
      refine ⟨?_, fun g h => ?_⟩
      · rw [List.map_cons]
        exact List.mem_cons_of_mem _ i1
      · rw [List.map_cons] at h ⊢
        rcases List.mem_cons.mp h with e | e
        · exact List.mem_cons.mpr (.inl e)
        · exact List.mem_cons_of_mem _ (i2 g e)
theorem length_putF (f : Str) (v : V) : ∀ fs : List (Str × V), (putF f v fs).length ≤ fs.length + 1
  | [] => by simp [putF]
  | (k, x) :: r => by
    have ih := length_putF f v r
    rw [show putF f v ((k, x) :: r) = (if k = f then (k, v) :: r else (k, x) :: putF f v r) from rfl]
    by_cases hk : k = f
    · rw [if_pos hk, List.length_cons, List.length_cons]; omega
    · rw [if_neg hk, List.length_cons, List.length_cons]; omega

theorem RelO.some_of {v : V} {o : Option Value} (r : RelO (some v) o) : ∃ u, o = some u ∧ RelV v u := by
  cases o with
  | none => exact (show False from r).elim
  | some u => exact ⟨u, rfl, r⟩
theorem RelO.none_of {o : Option Value} (r : RelO none o) : o = none := by
  cases o with
  | none => rfl
  | some u => exact (show False from r).elim
theorem handed_of {v : V} {u : Value} (r : RelV v u) : PySem.W.handedIn u = true := by
  cases v with
  | non => cases (show u = Value.none from r); rfl
  | bl b => cases (show u = Value.bool b from r); rfl
  | int i => obtain ⟨t, e⟩ := (show ∃ t, u = Value.int i t from r); cases e; rfl
  | str x => obtain ⟨t, e⟩ := (show ∃ t, u = Value.str x t from r); cases e; rfl
  | byt b => obtain ⟨t, e⟩ := (show ∃ t, u = Value.bytes b t from r); cases e; rfl
  | flt b => obtain ⟨t, e⟩ := (show ∃ t, u = Value.float b t from r); cases e; rfl
  | ref a => cases (show u = Value.ref a from r); rfl
  | ty n => cases (show u = Value.type n from r); rfl

section
variable {P : Program} {w : World} {H H' : Hp} {h h' : Heap} {a C dx : Addr} {fs fs' : List (Str × V)}
theorem ins_get (hok : HOk P w H h) (e : H a = some (.ins C dx fs)) : ∃ mA, ObjM h a dx C mA ∧ (∀ f, RelO (fs.lookup f) (mA f)) ∧ PySem.Within mA (fs.map (·.1)) ∧ fs.length ≤ 1000 ∧ H dx = some (.own a) := by
  obtain ⟨d, z, ne, ob, mA, n, r, q⟩ := (show ObjOk P w H h a (.ins C dx fs) from hok a _ e)
  exact ⟨mA, ⟨ob, n, ne⟩, r, q, z, d⟩
end

/-! ### what of the text a class must have -/
structure Cls (K : PySem.W.Frag) (C : Addr) : Prop where
  pg : PySem.W.plainGet K C Str.empty = true
  hd : PySem.W.hasDictIn K C = true
  po : PySem.W.plainOver K C = true
  sa : PySem.W.findIn K (.ref C) "__setattr__" = some (some (.builtin "object.__setattr__"))
theorem Cls.get {K : PySem.W.Frag} {C : Addr} (c : Cls K C) (f : Str) : PySem.W.plainGet K C f = true := c.pg
/-- no class of it has the name -/
def NoAttr (K : PySem.W.Frag) (C : Addr) (f : Str) : Prop := PySem.W.findIn K (.ref C) f = some none
theorem NoAttr.taker {K : PySem.W.Frag} {C : Addr} {f : Str} (n : NoAttr K C f) : PySem.W.takerIn K C f = some none := by
  unfold PySem.W.takerIn
  rw [show PySem.W.findIn K (.ref C) f = some none from n]
  rfl
/-- a method: a plain def of the class or of one above it -/
structure Meth (K : PySem.W.Frag) (C : Addr) (m : Str) (f : Addr) : Prop where
  at_ : PySem.W.findIn K (.ref C) m = some (some (.ref f))
  fn : PySem.W.isFn K (.ref f) = true
  kp : PySem.W.keepIn K (.ref f) = true

section
variable {X : Cx} {pins : List (Addr × Obj)} {σ : St} {H : Hp} {s : Shared} {a C dx : Addr} {fs : List (Str × V)} {f : Str} {v : V} {A : Around} {E : Value → Shared → Prop}

theorem getattr_ok {b : Bool} {Q : Value → Shared → Prop} (I : Inv X pins σ H s) (e : H a = some (.ins C dx fs)) (c : Cls X.K C) (n : NoAttr X.K C f) (l : fs.lookup f = some v)
    (h : ∀ u s', Inv X pins σ H s' → RelV v u → Q u s') : wpAny (model X.prog X.w) A (getAttr (.ref a) f b) Q E s := by
  obtain ⟨mA, O, r, _, _, _⟩ := ins_get I.hok e
  obtain ⟨u, hu, ru⟩ := RelO.some_of (v := v) (o := mA f) (by rw [← l]; exact r f)
  exact get_map I.kIn O (c.get f) c.hd n hu (handed_of ru) (h u _ (I.tok _) ru)

theorem getmeth_ok {m : Str} {g : Addr} {pl : Sem Bool} {Q : Value × List Value → Shared → Prop} (I : Inv X pins σ H s) (e : H a = some (.ins C dx fs)) (c : Cls X.K C) (k : Meth X.K C m g) (l : fs.lookup m = none)
    (h : Q (.ref g, [.ref a]) s) : wpAny (model X.prog X.w) A (getMethod (.ref a) m pl) Q E s := by
  obtain ⟨mA, O, r, _, _, _⟩ := ins_get I.hok e
  have hn : mA m = none := RelO.none_of (by rw [← l]; exact r m)
  exact get_meth I.kIn O (c.get m) k.at_ k.fn hn h

theorem setattr_ok {y : V} {u : Value} {Q : Unit → Shared → Prop} (I : Inv X pins σ H s) (e : H a = some (.ins C dx fs)) (c : Cls X.K C) (n : NoAttr X.K C f) (hl : fs.length < 1000) (ry : RelV y u)
    (h : ∀ s', Inv X pins σ (upd H a (.ins C dx (putF f y fs))) s' → Q () s') : wpAny (model X.prog X.w) A (setAttr (.ref a) f u) Q E s := by
  obtain ⟨mA, O, r, wi, _, ho⟩ := ins_get I.hok e
  have hz : (fs.map (·.1)).length ≤ sizeLine := by rw [List.length_map, sizeLine_eq]; omega
  refine set_map I.kIn O c.sa c.po n.taker c.hd wi hz fun h' O' sb => h _ ?_
  have hd : ∃ o, h'.get? dx = some o := let ⟨o, _, _, e', _⟩ := O'.ns; ⟨o, e'⟩
  refine I.write (x := a) (e := dx) (by rw [e]; exact True.intro) (.inr ho) (fun b q hb z => (sb.2 b hb).trans z) hd ?_
  refine ⟨by rw [upd_ne O.ne]; exact ho, ?_, O.ne, O'.obj, _, O'.ns, fun g => ?_, fun g hg => ?_⟩
  · have := length_putF f y fs; omega
  · show RelO ((putF f y fs).lookup g) (if g = f then some u else mA g)
    rw [lookup_putF]
    by_cases q : g = f
    · rw [if_pos q, if_pos q]; exact ry
    · rw [if_neg q, if_neg q]; exact r g
  · by_cases q : g = f
    · rw [q]; exact (keys_putF f y fs).1
    · refine (keys_putF f y fs).2 g (wi g fun z => hg ?_)
      show (if g = f then some u else mA g) = none
      rw [if_neg q]; exact z

/-- a new instance, tracked, without attributes -/
theorem Inv.made (I : Inv X pins σ H s) : Inv X pins σ (upd (upd H s.heap.objs.size (.own (s.heap.objs.size + 1))) (s.heap.objs.size + 1) (.ins C s.heap.objs.size []))
    { s with heap := (s.heap.push PySem.W.emptyDict).push (PySem.W.instObj C s.heap.objs.size) } := by
  have e1 : (s.heap.push PySem.W.emptyDict).get? s.heap.objs.size = some PySem.W.emptyDict := Heap.get?_push_size s.heap rfl
  have e2 : ((s.heap.push PySem.W.emptyDict).push (PySem.W.instObj C s.heap.objs.size)).get? (s.heap.objs.size + 1) = some (PySem.W.instObj C s.heap.objs.size) := by
    have := Heap.get?_push_size (s.heap.push PySem.W.emptyDict) (o := PySem.W.instObj C s.heap.objs.size) rfl
    rwa [Heap.size_push] at this
  have e3 : (s.heap.push PySem.W.emptyDict).Ns s.heap.objs.size (fun _ => none) := ⟨PySem.W.emptyDict, #[], _, e1, rfl, (fun e he => absurd he (by simp)), fun _ => rfl⟩
  have I1 := I.laid (a := s.heap.objs.size) (o := .own (s.heap.objs.size + 1)) (h' := s.heap.push PySem.W.emptyDict) (t' := s.toks) (fun b u q => Heap.get?_push_of_some _ q) (Nat.le_refl _) ⟨_, e1⟩
  refine I1.laid (a := s.heap.objs.size + 1) (o := .ins C s.heap.objs.size []) (t' := s.toks) (fun b u q => Heap.get?_push_of_some _ q) (Nat.le_of_eq (Heap.size_push _ _)) ?_
  have ne : s.heap.objs.size ≠ s.heap.objs.size + 1 := Nat.ne_of_lt (Nat.lt_succ_self _)
  refine ⟨by rw [upd_ne ne, upd_same], Nat.zero_le _, ne, e2, fun _ => none, (Heap.Ns1.of_empty e3).at fun o q => Heap.get?_push_of_some _ q, fun _ => True.intro, fun y hy => absurd rfl hy⟩

/-- e.f where nothing but the object is asked: through attributeBase (super) and the last hold -/
theorem attr_of {prog : Program} {w : World} {env : Env} {e : Expr} {f : Str} {pos : Pos} {s : Shared} {Q : Value → Shared → Prop} (hb : attributeBase e f env (eval e env) = eval e env)
    (h : wpAny (model prog w) A (eval e env) (fun o s₁ => wpAny (model prog w) A (getAttr o f true) Q E s₁) E s) : wpAny (model prog w) A (eval (.Attribute e f pos) env) Q E s :=
  Attribute_any_ h (by rw [arm_eval_Attribute, hb])
end

/-! ### readings and rules -/
/-- e.f, an attribute of the instance -/
def tFld (K : PySem.W.Frag) (ta : TE) (f : Str) : TE := fun σ H Q => ta σ H fun x H1 => ∃ a C dx fs v, x = .ref a ∧ H1 a = some (.ins C dx fs) ∧ Cls K C ∧ NoAttr K C f ∧ fs.lookup f = some v ∧ Q v H1
/-- e.f = value -/
def sFld (K : PySem.W.Frag) (ta tv : TE) (f : Str) : TS := fun D σ H => tv σ H fun y H1 => ta σ H1 fun x H2 => ∃ a C dx fs, x = .ref a ∧ H2 a = some (.ins C dx fs) ∧ Cls K C ∧ NoAttr K C f ∧ fs.length < 1000 ∧
  D.nx σ (upd H2 a (.ins C dx (putF f y fs)))
section
variable {X : Cx} {o e value : Expr} {f : Str} {pos pos' tpos : Pos} {ta tv : TE}
theorem pe_fld (he : PE X e ta) (hb : attributeBase e f X.env (eval e X.env) = eval e X.env) : PE X (.Attribute e f pos) (tFld X.K ta f) := by
  intro pins s σ H Q I h
  refine attr_of hb (thn (he pins s σ H _ I h) fun u s1 ⟨x, H1, I1, rx, a, C, dx, fs, v, ex, ea, c, n, l, q⟩ => ?_)
  subst ex
  obtain rfl : u = Value.ref a := rx
  exact getattr_ok I1 ea c n l fun u' s2 I2 ru => ⟨v, H1, I2, ru, q⟩
theorem ps_fld (ha : PE X o ta) (hv : PE X value tv) (hs : swapsWith value (some (.Attribute o f pos')) pos.line X.env = pure false) : PS X (.Assign [.Attribute o f pos'] value pos) (sFld X.K ta tv f) := by
  intro pins s σ H D I h
  refine plainObj_wpAny_Assign_Attribute (thn (hv pins s σ H _ I h) fun u s1 ⟨y, H1, I1, ry, q⟩ => thn (ha pins s1 σ H1 _ I1 q) fun ov s2 ⟨x, H2, I2, rx, a, C, dx, fs, ex, ea, c, n, l, q2⟩ => ?_) hs
  subst ex
  obtain rfl : ov = Value.ref a := rx
  exact setattr_ok I2 ea c n l ry fun s3 I3 => ⟨σ, _, I3, q2⟩
end

/-! ### isinstance -/
section
variable {X : Cx} {pins : List (Addr × Obj)} {σ : St} {H : Hp} {s : Shared} {A : Around} {E : Value → Shared → Prop} {Q : Value → Shared → Prop} {c : Value} {b : Bool}
/-- the type of a value, as the fragment's deciders take it; for an instance its class -/
inductive TyOf (K : PySem.W.Frag) (H : Hp) : V → Value → Prop where
  | non : TyOf K H .non (.type "NoneType")
  | bl (x : Bool) : TyOf K H (.bl x) (.type "bool")
  | int (i : Int) : TyOf K H (.int i) (.type "int")
  | str (x : Str) : TyOf K H (.str x) (.type "str")
  | flt (x : UInt64) : TyOf K H (.flt x) (.type "float")
  | lst {a : Addr} {xs : List V} (e : H a = some (.lst xs)) : TyOf K H (.ref a) (.type "list")
  | frz {a : Addr} {o : Obj} {xs : List V} (e : H a = some (.frz o (.lst xs))) : TyOf K H (.ref a) (.type "list")
  | tup {a : Addr} {xs : List V} (e : H a = some (.tup xs)) : TyOf K H (.ref a) (.type "tuple")
  | dK {a : Addr} {kvs : List (Key × V)} (e : H a = some (.dK kvs)) : TyOf K H (.ref a) (.type "dict")
  | dT {a : Addr} {kvs : List (List Key × V)} (e : H a = some (.dT kvs)) : TyOf K H (.ref a) (.type "dict")
  | ins {a C dx : Addr} {fs : List (Str × V)} (e : H a = some (.ins C dx fs)) (cl : Cls K C) (ha : PySem.W.findIn K (.ref C) "__class__" = some (some (.builtin "object.__class__")))
      (hn : PySem.W.specialIn K (.builtin "object.__class__") "__get__" = some (some (.builtin "getset_descriptor.__get__"))) (htk : PySem.W.takesIn K (.builtin "object.__class__") = some true)
      (hm : PySem.W.mroIn K C (.type "object") = some true) : TyOf K H (.ref a) (.ref C)
/-- isinstance(x, c) for one class c, a built-in or an own one: kitOne's answer -/
theorem isinst_ok {x : V} {u t : Value} (I : Inv X pins σ H s) (rx : RelV x u) (ty : TyOf X.K H x t) (e : PySem.W.kitOne X.K t c = some b) (h : ∀ tk, Q (.bool b) { s with toks := tk }) :
    wpAny (model X.prog X.w) A (call (.builtin "isinstance") [u, c]) Q E s := by
  cases ty with
  | non => cases (show u = Value.none from rx); exact PySem.W.kia_one PySem.W.kitx_none I.kIn True.intro e (fun z => nomatch z) h
  | bl y => cases (show u = Value.bool y from rx); exact PySem.W.kia_one PySem.W.kitx_bool I.kIn True.intro e (fun z => nomatch z) h
  | int i => obtain ⟨t, q⟩ := (show ∃ t, u = Value.int i t from rx); cases q; exact PySem.W.kia_one PySem.W.kitx_int I.kIn True.intro e (fun z => nomatch z) h
  | str y => obtain ⟨t, q⟩ := (show ∃ t, u = Value.str y t from rx); cases q; exact PySem.W.kia_one PySem.W.kitx_str I.kIn True.intro e (fun z => nomatch z) h
  | flt y => obtain ⟨t, q⟩ := (show ∃ t, u = Value.float y t from rx); cases q; exact PySem.W.kia_one PySem.W.kitx_float I.kIn True.intro e (fun z => nomatch z) h
  | @lst a xs ea =>
    cases (show u = Value.ref a from rx)
    obtain ⟨_, _, n, _, h1⟩ := (show ObjOk X.prog X.w H s.heap a (.lst xs) from I.hok a _ ea)
    exact PySem.W.kia_one PySem.W.kitx_list I.kIn ⟨_, h1, rfl⟩ e (fun z => nomatch z) h
  | @frz a ob xs ea =>
    cases (show u = Value.ref a from rx)
    obtain ⟨_, _, _, n, _, h1⟩ := (show ObjOk X.prog X.w H s.heap a (.frz ob (.lst xs)) from I.hok a _ ea)
    exact PySem.W.kia_one PySem.W.kitx_list I.kIn ⟨_, h1, rfl⟩ e (fun z => nomatch z) h
  | @tup a xs ea =>
    cases (show u = Value.ref a from rx)
    obtain ⟨_, _, _, p⟩ := (show ObjOk X.prog X.w H s.heap a (.tup xs) from I.hok a _ ea)
    obtain ⟨o, h1, h2, _⟩ := p
    exact PySem.W.kia_one PySem.W.kitx_tuple I.kIn ⟨o, h1, h2⟩ e (fun z => nomatch z) h
  | @dK a kvs ea =>
    cases (show u = Value.ref a from rx)
    obtain ⟨_, _, vs, _, p⟩ := (show ObjOk X.prog X.w H s.heap a (.dK kvs) from I.hok a _ ea)
    obtain ⟨o, es, ep, h1, h2, _⟩ := p
    exact PySem.W.kia_one PySem.W.kitx_dict I.kIn ⟨o, h1, h2.1⟩ e (fun z => nomatch z) h
  | @dT a kvs ea =>
    cases (show u = Value.ref a from rx)
    obtain ⟨_, _, xs, _, o, es, ep, h1, h2, _⟩ := (show ObjOk X.prog X.w H s.heap a (.dT kvs) from I.hok a _ ea)
    exact PySem.W.kia_one PySem.W.kitx_dict I.kIn ⟨o, h1, h2.1⟩ e (fun z => nomatch z) h
  | @ins a C dx fs ea cl ha hn htk hm =>
    cases (show u = Value.ref a from rx)
    obtain ⟨mA, O, _⟩ := ins_get I.hok ea
    obtain ⟨od, J, _⟩ := O.look
    exact PySem.W.kia_one (PySem.W.kitx_own (cl.get _) cl.hd ha hn htk hm) I.kIn J e (fun z => nomatch z) h
end
end L2

namespace L2
open PySem PySem.Spec PyProof.Rows

/-! ### room -/
structure Room (k : Nat) (A : Around) : Prop where
  hd : A.handled = none
  dp : A.depth + 3 * k + 5 < recursionLimit
  un : A.units + 16 * k + 200 < cLine
theorem Room.mono {j k : Nat} {A : Around} (r : Room k A) (h : j ≤ k) : Room j A := ⟨r.hd, by have := r.dp; omega, by have := r.un; omega⟩
theorem Room.deeper {k : Nat} {A : Around} (r : Room (k + 1) A) (env : Env) : Room k (A.deeper env) :=
  ⟨r.hd, by have := r.dp; show A.depth + 1 + 3 * k + 5 < _; omega, by have := r.un; show A.units + 3 + 16 * k + 200 < _; omega⟩
theorem Room.in1 {k : Nat} {A : Around} (r : Room (k + 1) A) : Room k A.in1 :=
  ⟨r.hd, by have := r.dp; show A.depth + 3 * k + 5 < _; omega, by have := r.un; show A.units + 1 + 16 * k + 200 < _; omega⟩
theorem make_depth {A : Around} {C : Addr} {us : List Value} {kw : List (Str × Value)} : (A.under (.builtin "type.__call__" ⟨.ref C :: us, kw⟩)).depth = A.depth + 1 := by
  first | rfl | simp [Around.under, Code.weight, Code.isCreation, Code.isGuard, Code.isCaller, Code.frames, Code.isFrame, guardIds]
theorem make_units {A : Around} {C : Addr} {us : List Value} {kw : List (Str × Value)} : (A.under (.builtin "type.__call__" ⟨.ref C :: us, kw⟩)).units = A.units + 1 := by
  first | rfl | simp [Around.under, Code.cUnits, Code.frames, Code.isFrame]
theorem Room.make {k : Nat} {A : Around} (r : Room (k + 1) A) (C : Addr) (us : List Value) (kw : List (Str × Value)) : Room k (A.under (.builtin "type.__call__" ⟨.ref C :: us, kw⟩)) :=
  ⟨r.hd, by have := r.dp; rw [make_depth]; omega, by have := r.un; rw [make_units]; omega⟩
theorem Room.depth {k : Nat} {A : Around} (r : Room k A) : A.depth < recursionLimit := by have := r.dp; omega
theorem Room.units {k : Nat} {A : Around} (r : Room k A) : A.units + 64 < cLine := by have := r.un; omega
/-! ### argument lists and displays -/
def tNil : TA := fun _ H Q => Q [] H
def tCons (ta : TE) (tr : TA) : TA := fun σ H Q => ta σ H fun x H1 => tr σ H1 fun xs H2 => Q (x :: xs) H2
section
variable {X : Cx} {e : Expr} {es : List Expr} {te : TE} {t : TA} {pos : Pos}
theorem pa_nil : PA X [] tNil := fun _ _ _ _ H Q I h => Calls.spliced_nil ⟨[], H, I, .nil, h⟩
theorem pa_cons (ha : PE X e te) (hr : PA X es t) (hs : starEach (e :: es) X.env = (false, eval e X.env) :: starEach es X.env := by rfl) : PA X (e :: es) (tCons te t) := by
  intro pos pins s σ H Q I h
  rw [hs]
  show wpAny _ _ (spliced ((false, eval e X.env) :: backTo pos (starEach es X.env))) _ _ s
  refine Calls.spliced_cons (thn (ha pins s σ H _ I h) fun u s1 ⟨x, H1, I1, r1, q1⟩ => ?_)
  exact thn (hr pos pins s1 σ H1 _ I1 q1) fun us s2 ⟨xs, H2, I2, r2, q2⟩ => ⟨x :: xs, H2, I2, .cons r1 r2, q2⟩

/-- a tuple, a list of written items -/
def tTup (t : TA) : TE := fun σ H Q => t σ H fun xs H1 => xs.length ≤ sizeLine ∧ ∀ p, H1 p = none → Q (.ref p) (upd H1 p (.tup xs))
def tLst (t : TA) : TE := fun σ H Q => t σ H fun xs H1 => xs.length ≤ sizeLine ∧ ∀ p, H1 p = none → Q (.ref p) (upd H1 p (.lst xs))
theorem pe_tup {x1} (h : PA X es t) : PE X (.Tuple es x1 pos) (tTup t) := by
  intro pins s σ H Q I hq
  refine wpAny_Tuple_spliced (thn (h pos pins s σ H _ I hq) fun us s1 ⟨xs, H1, I1, r, z, q⟩ => ⟨by rw [← r.length]; exact z, ?_⟩)
  have hf : H1 s1.heap.objs.size = none := I1.hok.fresh (Nat.le_refl _)
  refine ⟨.ref s1.heap.objs.size, upd H1 s1.heap.objs.size (.tup xs), I1.laid (t' := s1.toks) (fun b u e => Heap.get?_push_of_some _ e) (Nat.le_refl _) ?_, rfl, q _ hf⟩
  exact ⟨z, us, r, ⟨_, Heap.get?_push_size _ rfl, rfl, _, rfl⟩⟩
theorem pe_lst (h : PA X es t) : PE X (.List es pos) (tLst t) := by
  intro pins s σ H Q I hq
  refine wpAny_List_spliced (thn (h pos pins s σ H _ I hq) fun us s1 ⟨xs, H1, I1, r, z, q⟩ => ⟨by rw [← r.length]; exact z, ?_⟩)
  have hf : H1 s1.heap.objs.size = none := I1.hok.fresh (Nat.le_refl _)
  refine ⟨.ref s1.heap.objs.size, upd H1 s1.heap.objs.size (.lst xs), I1.laid (t' := s1.toks) (fun b u e => Heap.get?_push_of_some _ e) (Nat.le_refl _) ?_, rfl, q _ hf⟩
  exact ⟨z, us, 0, r, Heap.get?_push_size _ rfl⟩
end

/-! ### what a def promises -/
/-- a def's promise: the bound arguments in the parameters' order, the heap, the wanted end, the wanted exception -/
abbrev Sp := List V → Hp → VK → XK → Prop
/-- how an exception lies behind a call (file 08 gives it): the callers' frames, abstract heap and state ahead of the call, the wish, the exception, the state -/
abbrev CXT := List Env → Hp → Shared → XK → Value → Shared → Prop

/-- the state at a call -/
structure Env0 (P : Program) (w : World) (K : PySem.W.Frag) (mg : Str → Option Value) (base : Heap) (A : Around) (outer : List Env) (s : Shared) (H : Hp) : Prop where
  frames : A.frames = some outer
  mod : Mod K mg base
  bs : ∀ b o, base.get? b = some o → s.heap.get? b = some o ∧ H b = none
  bsz : base.objs.size ≤ s.heap.objs.size
  funs : s.heap.FunFrames base outer
  frf : ∀ b ∈ frs outer, H b = none
  hok : HOk P w H s.heap
  bare : AllBare s.gens
/-- a call's end -/
def CE (outer : List Env) (P : Program) (w : World) (H : Hp) (s : Shared) (Q : VK) (u : Value) (s' : Shared) : Prop :=
  ∃ v H', s'.os = s.os ∧ AllBare s'.gens ∧ Un (frs outer) [] H H' s.heap s'.heap ∧ HOk P w H' s'.heap ∧ RelV v u ∧ Q v H'
def CR (CX : CXT) (outer : List Env) (P : Program) (w : World) (H : Hp) (s : Shared) (Q : VK) (E : XK) (r : Result) (s' : Shared) : Prop :=
  match r with
  | .ok (.ret u) => CE outer P w H s Q u s'
  | .ok _ => False
  | .error e => CX outer H s E e s'
structure FnOk (P : Program) (w : World) (K : PySem.W.Frag) (mg : Str → Option Value) (base : Heap) (CX : CXT) (k : Nat) (f : Addr) (fd : FuncData) (ps : List Str) (sp : Sp) : Prop where
  len : ∀ vs H Q E, sp vs H Q E → vs.length = ps.length
  run : ∀ (A : Around) (outer : List Env) (s : Shared) (H : Hp) (args : Args) (us : List Value) (vs : List V) (Q : VK) (E : XK), Room k A → Env0 P w K mg base A outer s H → BindsTo s fd args (ps.zip us) → Vals vs us → sp vs H Q E →
    codeAny (model P w) A (.call (.ref f) args) (CR CX outer P w H s Q E) s
theorem FnOk.mono {P : Program} {w : World} {K : PySem.W.Frag} {mg : Str → Option Value} {base : Heap} {CX : CXT} {j k : Nat} {f : Addr} {fd : FuncData} {ps : List Str} {sp : Sp} (F : FnOk P w K mg base CX j f fd ps sp) (h : j ≤ k) :
    FnOk P w K mg base CX k f fd ps sp := ⟨F.len, fun A outer s H args us vs Q E hr => F.run A outer s H args us vs Q E (hr.mono h)⟩
theorem Env0.make {P : Program} {w : World} {K : PySem.W.Frag} {mg : Str → Option Value} {base : Heap} {A : Around} {outer : List Env} {s : Shared} {H : Hp} (e : Env0 P w K mg base A outer s H) (C : Addr) (us : List Value) (kw : List (Str × Value)) :
    Env0 P w K mg base (A.under (.builtin "type.__call__" ⟨.ref C :: us, kw⟩)) outer s H := ⟨by first | exact e.frames | (simpa [Around.under, Code.envs, Code.isFrame, pushEnvs] using e.frames), e.mod, e.bs, e.bsz, e.funs, e.frf, e.hok, e.bare⟩
theorem Env0.in1 {P : Program} {w : World} {K : PySem.W.Frag} {mg : Str → Option Value} {base : Heap} {A : Around} {outer : List Env} {s : Shared} {H : Hp} (e : Env0 P w K mg base A outer s H) :
    Env0 P w K mg base A.in1 outer s H := ⟨e.frames, e.mod, e.bs, e.bsz, e.funs, e.frf, e.hok, e.bare⟩

section
variable {X : Cx} {pins : List (Addr × Obj)} {σ : St} {H : Hp} {s s' : Shared}
/-- from a body: what a callee wants -/
theorem Inv.env0 (I : Inv X pins σ H s) : Env0 X.prog X.w X.K X.mg X.base X.A X.stack s H :=
  ⟨I.ok.frames, I.ok.mod, I.bs, Nat.le_trans I.ok.bsz I.sz, I.stack, I.stkFree, I.hok, I.bare⟩
/-- behind a call -/
theorem Inv.after {Q : VK} {u : Value} (I : Inv X pins σ H s) (h : CE X.stack X.prog X.w H s Q u s') : EP X pins σ Q u s' := by
  obtain ⟨v, H', os, bare, un, hok, r, q⟩ := h
  obtain ⟨hh, g, d, t, os'⟩ := s'
  obtain rfl : os' = s.os := os
  exact ⟨v, H', I.call (h' := hh) (g' := g) (d' := d) (t' := t) (ch := []) un hok bare (fun b z => absurd z (by simp)), r, q⟩
end

/-! ### calls -/
/-- f(..): the written arguments, then the defaults dvs; E: what is wanted of an exception -/
def tCall (sp : Sp) (dvs : List V) (E : XK) (t : TA) : TE := fun σ H Q => t σ H fun vs H1 => sp (vs ++ dvs) H1 Q E
/-- o.m(..) of an instance of the class at C -/
def tMeth (C : Addr) (m : Str) (sp : Sp) (dvs : List V) (E : XK) (ta : TE) (t : TA) : TE := fun σ H Q => ta σ H fun x H1 => ∃ a dx fs, x = .ref a ∧ H1 a = some (.ins C dx fs) ∧ fs.lookup m = none ∧
  t σ H1 fun vs H2 => sp (x :: (vs ++ dvs)) H2 Q E
/-- C(..): a new instance and its dict, then __init__ -/
def tMake (C : Addr) (sp : Sp) (dvs : List V) (E : XK) (t : TA) : TE := fun σ H Q => t σ H fun vs H1 => ∀ x dx, H1 x = none → H1 dx = none → dx ≠ x →
  sp (.ref x :: (vs ++ dvs)) (upd (upd H1 dx (.own x)) x (.ins C dx [])) (fun v H2 => v = .non ∧ Q (.ref x) H2) E

/-- how the parameters are bound: us the positional arguments, kw the keywords' values by name, ds the defaults that fill up -/
def Binds (K : PySem.W.Frag) (fd : FuncData) (ps : List Str) (ds : List Value) : Prop :=
  ∀ (s : Shared) (us : List Value), K.In s.heap → (us ++ ds).length = ps.length → BindsTo s fd ⟨us, []⟩ (ps.zip (us ++ ds))
/-- every parameter is given -/
theorem Binds.all {K : PySem.W.Frag} {fd : FuncData} {ps : List Str} (h : ∀ us : List Value, us.length = ps.length → bindArgs fd ⟨us, []⟩ = pure (ps.zip us)) : Binds K fd ps [] := fun s us _ hl => by
  rw [List.append_nil] at hl ⊢
  exact .of_eq (h us hl)

/-- an exception of a callee reaches what this body wants of exceptions -/
def Passes (CX : CXT) (X : Cx) (E : XK) : Prop := ∀ (pins : List (Addr × Obj)) (σ : St) (H : Hp) (s : Shared) (e : Value) (s' : Shared), Inv X pins σ H s → CX X.stack H s E e s' → X.xe e s'

section
variable {X : Cx} {CX : CXT} {k : Nat} {f C : Addr} {fd : FuncData} {ps : List Str} {sp : Sp} {dvs : List V} {ds : List Value} {E : XK} {x m : Str} {p pos apos : Pos} {e o : Expr} {es : List Expr} {ta : TE} {t : TA}

/-- the callee runs -/
theorem run_fn {pins : List (Addr × Obj)} {σ : St} {H : Hp} {s : Shared} {Q : VK} {us : List Value} {vs : List V} (F : FnOk X.prog X.w X.K X.mg X.base CX k f fd ps sp) (hr : Room k X.A) (hb : Binds X.K fd ps ds) (hd : Vals dvs ds) (hx : Passes CX X E)
    (I : Inv X pins σ H s) (r : Vals vs us) (h : sp (vs ++ dvs) H Q E) : wpAny (model X.prog X.w) X.A (call (.ref f) us) (EP X pins σ Q) X.xe s := by
  have r2 : Vals (vs ++ dvs) (us ++ ds) := r.append hd
  have hl : (us ++ ds).length = ps.length := by rw [← r2.length]; exact F.len _ _ _ _ h
  refine wpAny_call (codeAny_mono (F.run X.A X.stack s H ⟨us, []⟩ (us ++ ds) (vs ++ dvs) Q E hr I.env0 (hb s us I.kIn hl) r2 h) fun r s' hq => ?_)
  cases r with
  | error e => exact hx pins σ H s e s' I hq
  | ok fl =>
    cases fl with
    | ret u => exact I.after hq
    | next => exact False.elim hq
    | brk => exact False.elim hq
    | cont => exact False.elim hq

theorem pe_call (F : FnOk X.prog X.w X.K X.mg X.base CX k f fd ps sp) (hr : Room k X.A) (hg : Gl X x) (hm : X.mg x = some (.ref f)) (hk : PySem.W.keepIn X.K (.ref f) = true) (hb : Binds X.K fd ps ds) (hd : Vals dvs ds) (hx : Passes CX X E)
    (ha : PA X (e :: es) t) (hdb : (x == ("__debug__" : Str)) = false := by decide) (he : starEach (e :: es) X.env = (false, eval e X.env) :: starEach es X.env := by rfl) (hpl : (backTo pos (starEach es X.env)).any (·.1) = false := by rfl) :
    PE X (.Call (.Name x p) (e :: es) [] pos) (tCall sp dvs E t) := by
  intro pins s σ H Q I h
  refine wpAny_Call_Name_kw (ld_glob I hg hm ?_ hdb)
  refine PySem.W.callWith_K (h₀ := X.base) I.ok.mod.kin hk (thn (ha pos pins s σ H _ I h) fun us s1 ⟨vs, H1, I1, r, q⟩ => ⟨I1.kIn, ?_⟩) he hpl
  exact run_fn F hr hb hd hx I1 r q
/-- o.m(e, ..) -/
theorem pe_meth {pl : Sem Bool} (he : PE X o ta) (c : Cls X.K C) (hm : Meth X.K C m f) (F : FnOk X.prog X.w X.K X.mg X.base CX k f fd ps sp) (hr : Room k X.A) (hb : Binds X.K fd ps ds) (hd : Vals dvs ds) (hx : Passes CX X E) (ha : PA X (e :: es) t)
    (hst : starEach (e :: es) X.env = (false, eval e X.env) :: starEach es X.env := by rfl) (hpl : (backTo pos (starEach es X.env)).any (·.1) = false := by rfl)
    (ht : eval (.Call (.Attribute o m apos) (e :: es) [] pos) X.env = (do
      let ov ← eval o X.env
      standAt apos.atName
      let (f, first) ← holding [ov] (getMethod ov m pl)
      callWith pos f first (backTo pos (starEach (e :: es) X.env)) (backToKw pos (keywordEach [] X.env))) := by rfl) :
    PE X (.Call (.Attribute o m apos) (e :: es) [] pos) (tMeth C m sp dvs E ta t) := by
  intro pins s σ H Q I h
  refine PySem.W.methodCall_KW (pl := pl) (thn (he pins s σ H _ I h) fun u s1 ⟨x, H1, I1, rx, a, dx, fs, ex, ea, l, q⟩ => ?_) ht
  subst ex
  obtain rfl : u = Value.ref a := rx
  refine getmeth_ok I1 ea c hm l ?_
  refine PySem.W.callWith_K (first := [.ref a]) (h₀ := X.base) I.ok.mod.kin hm.kp (thn (ha pos pins s1 σ H1 _ I1 q) fun us s2 ⟨vs, H2, I2, r, q2⟩ => ⟨I2.kIn, ?_⟩) hst hpl
  exact run_fn (us := .ref a :: us) (vs := .ref a :: vs) F hr hb hd hx I2 (.cons rfl r) q2
/-- o.m() -/
theorem pe_meth0 {pl : Sem Bool} (he : PE X o ta) (c : Cls X.K C) (hm : Meth X.K C m f) (F : FnOk X.prog X.w X.K X.mg X.base CX k f fd ps sp) (hr : Room k X.A) (hb : Binds X.K fd ps ds) (hd : Vals dvs ds) (hx : Passes CX X E)
    (ht : eval (.Call (.Attribute o m apos) [] [] pos) X.env = (do
      let ov ← eval o X.env
      standAt apos.atName
      let (f, first) ← holding [ov] (getMethod ov m pl)
      callWith pos f first (backTo pos (starEach [] X.env)) (backToKw pos (keywordEach [] X.env))) := by rfl) :
    PE X (.Call (.Attribute o m apos) [] [] pos) (tMeth C m sp dvs E ta tNil) := by
  intro pins s σ H Q I h
  refine PySem.W.methodCall_KW (pl := pl) (thn (he pins s σ H _ I h) fun u s1 ⟨x, H1, I1, rx, a, dx, fs, ex, ea, l, q⟩ => ?_) ht
  subst ex
  obtain rfl : u = Value.ref a := rx
  refine getmeth_ok I1 ea c hm l ?_
  exact PySem.W.callWith_K0 (first := [.ref a]) I1.kIn hm.kp (run_fn (us := [.ref a]) (vs := [.ref a]) F hr hb hd hx I1 (.cons rfl .nil) q)

/-- what a class must have to be made -/
structure Mk (K : PySem.W.Frag) (C f : Addr) : Prop where
  makes : PySem.W.makesIn K C = true
  init : PySem.W.findIn K (.ref C) "__init__" = some (some (.ref f))
  fn : PySem.W.isFn K (.ref f) = true
  kp : PySem.W.keepIn K (.ref C) = true

theorem run_make {pins : List (Addr × Obj)} {σ : St} {H : Hp} {s : Shared} {Q : VK} {us : List Value} {vs : List V} (M : Mk X.K C f) (F : FnOk X.prog X.w X.K X.mg X.base CX k f fd ps sp) (hr : Room (k + 1) X.A) (hb : Binds X.K fd ps ds) (hd : Vals dvs ds)
    (hx : Passes CX X E) (I : Inv X pins σ H s) (r : Vals vs us)
    (h : ∀ x dx, H x = none → H dx = none → dx ≠ x → sp (.ref x :: (vs ++ dvs)) (upd (upd H dx (.own x)) x (.ins C dx [])) (fun v H2 => v = .non ∧ Q (.ref x) H2) E) :
    wpAny (model X.prog X.w) X.A (call (.ref C) us) (EP X pins σ Q) X.xe s := by
  have hq := h (s.heap.objs.size + 1) s.heap.objs.size (I.hok.fresh (Nat.le_succ _)) (I.hok.fresh (Nat.le_refl _)) (Nat.ne_of_lt (Nat.lt_succ_self _))
  have I2 := Inv.made (C := C) I
  have r2 : Vals (V.ref (s.heap.objs.size + 1) :: (vs ++ dvs)) (Value.ref (s.heap.objs.size + 1) :: (us ++ ds)) := .cons rfl (r.append hd)
  have hl : (Value.ref (s.heap.objs.size + 1) :: us ++ ds).length = ps.length := by
    have e := r2.length
    rw [F.len _ _ _ _ hq] at e
    exact e.symm
  refine wpAny_call (make_map (f := f) I.kIn M.makes M.init (beq_iff_eq.mp M.fn) (codeAny_mono (F.run _ X.stack _ _ ⟨Value.ref (s.heap.objs.size + 1) :: us, []⟩ (Value.ref (s.heap.objs.size + 1) :: (us ++ ds)) _ _ E (hr.make C us [])
    (I2.env0.make C us []) (hb _ (Value.ref (s.heap.objs.size + 1) :: us) I2.kIn hl) r2 hq) fun r s' hq' => ?_))
  cases r with
  | error e => exact hx pins σ _ _ e s' I2 hq'
  | ok fl =>
    cases fl with
    | ret u =>
      obtain ⟨v, H', I3, rv, ev, q3⟩ := I2.after hq'
      subst ev
      exact ⟨rv, ⟨V.ref (s.heap.objs.size + 1), H', I3, rfl, q3⟩⟩
    | next => exact False.elim hq'
    | brk => exact False.elim hq'
    | cont => exact False.elim hq'
theorem pe_make (M : Mk X.K C f) (F : FnOk X.prog X.w X.K X.mg X.base CX k f fd ps sp) (hr : Room (k + 1) X.A) (hg : Gl X x) (hm : X.mg x = some (.ref C)) (hb : Binds X.K fd ps ds) (hd : Vals dvs ds) (hx : Passes CX X E)
    (ha : PA X (e :: es) t) (hdb : (x == ("__debug__" : Str)) = false := by decide) (he : starEach (e :: es) X.env = (false, eval e X.env) :: starEach es X.env := by rfl) (hpl : (backTo pos (starEach es X.env)).any (·.1) = false := by rfl) :
    PE X (.Call (.Name x p) (e :: es) [] pos) (tMake C sp dvs E t) := by
  intro pins s σ H Q I h
  refine wpAny_Call_Name_kw (ld_glob I hg hm ?_ hdb)
  refine PySem.W.callWith_K (h₀ := X.base) I.ok.mod.kin M.kp (thn (ha pos pins s σ H _ I h) fun us s1 ⟨vs, H1, I1, r, q⟩ => ⟨I1.kIn, ?_⟩) he hpl
  exact run_make M F hr hb hd hx I1 r q
end

/-! ### keywords -/
section
variable {X : Cx} {CX : CXT} {k : Nat} {f C : Addr} {fd : FuncData} {ps ks : List Str} {sp : Sp} {E : XK} {x m : Str} {p pos apos kpos : Pos} {e o : Expr} {es : List Expr} {kws : List Keyword} {te ta : TE} {t tk : TA} {nm : Option Str}
variable {g : List Value → List Value → List Value} {gV : List V → List V → List V}
end

/-! ### a def's body keeps its promise -/
/-- names: the parameters first -/
structure FnScope (N P : List Str) (sc : Scope) : Prop where
  kind : sc.kind = .function
  co : sc.isCoroutine = false
  gen : sc.isGenerator = false
  nd : N.Nodup
  pre : N.take P.length = P
  par : ∀ x ∈ P, sc.names.lookup x = some .local ∨ sc.names.lookup x = some .cell
  nofree : ∀ y ∈ sc.names, y.2 ≠ .free

theorem bindL_out {kindOf : Str → Option NameKind} {x : Str} : ∀ {binds : List (Str × Value)} {m : Str → Option Value}, (∀ v, (x, v) ∉ binds) → bindL kindOf binds m x = m x
  | [], _, _ => rfl
  | (n, v) :: r, m, h => by
    unfold bindL
    rw [bindL_out fun w hw => h w (List.mem_cons_of_mem _ hw)]
    split
    · have : x ≠ n := by rintro rfl; exact h v List.mem_cons_self
      simp [this]
    · rfl
theorem bindC_out {kindOf : Str → Option NameKind} {x : Str} : ∀ {binds : List (Str × Value)} {m : Str → Option Value}, (∀ v, (x, v) ∉ binds) → bindC kindOf binds m x = m x
  | [], _, _ => rfl
  | (n, v) :: r, m, h => by
    unfold bindC
    rw [bindC_out fun w hw => h w (List.mem_cons_of_mem _ hw)]
    split
    · rfl
    · have : x ≠ n := by rintro rfl; exact h v List.mem_cons_self
      simp [this]
theorem bindL_get {kindOf : Str → Option NameKind} {x : Str} {v : Value} : ∀ {P : List Str} {vs : List Value} {i : Nat} {m : Str → Option Value}, P.Nodup → P[i]? = some x → vs[i]? = some v → kindOf x = some .local →
    bindL kindOf (P.zip vs) m x = some v
  | [], _, _, _, _, h, _, _ => by simp at h
  | _ :: _, [], _, _, _, _, h, _ => by simp at h
  | p :: P, w :: vs, 0, m, nd, h1, h2, hk => by
    simp at h1 h2; subst h1; subst h2
    show bindL kindOf ((p, w) :: P.zip vs) m p = _
    unfold bindL
    rw [bindL_out fun v hv => (List.nodup_cons.mp nd).1 (List.of_mem_zip hv).1, if_pos hk]
    simp
  | p :: P, w :: vs, i + 1, m, nd, h1, h2, hk => by
    show bindL kindOf ((p, w) :: P.zip vs) m x = _
    unfold bindL
    exact bindL_get (i := i) (List.nodup_cons.mp nd).2 (by simpa using h1) (by simpa using h2) hk
theorem bindC_get {kindOf : Str → Option NameKind} {x : Str} {v : Value} : ∀ {P : List Str} {vs : List Value} {i : Nat} {m : Str → Option Value}, P.Nodup → P[i]? = some x → vs[i]? = some v → kindOf x ≠ some .local →
    bindC kindOf (P.zip vs) m x = some v
  | [], _, _, _, _, h, _, _ => by simp at h
  | _ :: _, [], _, _, _, _, h, _ => by simp at h
  | p :: P, w :: vs, 0, m, nd, h1, h2, hk => by
    simp at h1 h2; subst h1; subst h2
    show bindC kindOf ((p, w) :: P.zip vs) m p = _
    unfold bindC
    rw [bindC_out fun v hv => (List.nodup_cons.mp nd).1 (List.of_mem_zip hv).1, if_neg hk]
    simp
  | p :: P, w :: vs, i + 1, m, nd, h1, h2, hk => by
    show bindC kindOf ((p, w) :: P.zip vs) m x = _
    unfold bindC
    exact bindC_get (i := i) (List.nodup_cons.mp nd).2 (by simpa using h1) (by simpa using h2) hk

/-- the names' values at the entry -/
def start (N : List Str) (vs : List V) : St := vs.map some ++ List.replicate (N.length - vs.length) none

/-- the context of a def's body, at its entry; an exception leaves the frame, then lies as CX says -/
def cxOf (CX : CXT) (P : Program) (w : World) (K : PySem.W.Frag) (mg : Str → Option Value) (base : Heap) (N : List Str) (qual : Str) (scope : Scope) (f : Addr) (cd : Value) (A : Around) (outer : List Env) (s : Shared) (H : Hp) (E : XK) : Cx where
  prog := P
  w := w
  K := K
  mg := mg
  base := base
  A := A.deeper (envOfC qual scope s.heap.objs.size f cd)
  N := N
  s₀ := s
  H₀ := H
  env := envOfC qual scope s.heap.objs.size f cd
  outer := outer
  stack := envOfC qual scope s.heap.objs.size f cd :: outer
  ex := []
  calm := true
  fn := fun _ => true
  pn := []
  xe := fun e s' => wpAny (model P w) (A.deeper (envOfC qual scope s.heap.objs.size f cd)) (leaving (envOfC qual scope s.heap.objs.size f cd) e) (fun _ s'' => CX outer H s E e s'') (fun e' s'' => CX outer H s E e' s'') s'

theorem cell_has {sc : Scope} {n : Nat} {x : Str} (h : sc.names.lookup x = some .cell) : ∃ c, (cellsFrom n sc.names []).lookup x = some c := by
  have q := PySem.W.cellsFrom_some sc.names n [] (.inl h)
  exact Option.isSome_iff_exists.mp q

theorem inv_start {CX : CXT} {P : Program} {w : World} {K : PySem.W.Frag} {mg : Str → Option Value} {base : Heap} {N ps : List Str} {qual : Str} {scope : Scope} {f : Addr} {cd : Value} {A : Around} {outer : List Env} {s s1 : Shared} {H : Hp} {E : XK} {us : List Value} {vs : List V}
    (S : FnScope N ps scope) (hd : A.handled = none) (e0 : Env0 P w K mg base A outer s H) (hl : vs.length = ps.length) (r : Vals vs us)
    (x : InCallC s s.heap.objs.size (bindL (envOfC qual scope s.heap.objs.size f cd).kindOf (ps.zip us) fun _ => none) (cellsFrom (s.heap.objs.size + 1) scope.names []) (bindC (envOfC qual scope s.heap.objs.size f cd).kindOf (ps.zip us) fun _ => none) s1) :
    Inv (cxOf CX P w K mg base N qual scope f cd A outer s H E) [] (start N vs) H s1 := by
  have hpl : ps.length ≤ N.length := by have := congrArg List.length S.pre; rw [List.length_take] at this; omega
  obtain ⟨h1, tk, rfl, hk⟩ := x.done
  have noA : ∀ b : Addr, b ∉ (cxOf CX P w K mg base N qual scope f cd A outer s H E).ex := fun b z => absurd (show b ∈ ([] : List Addr) from z) (by simp)
  refine ⟨⟨e0.mod, S.kind, rfl, rfl, Nat.le_refl _, fun y z c h1 h2 => ?_, fun y hy => ?_, fun y c _ h => ?_, fun _ => hd, Around.frames_deeper e0.frames, .inr ⟨rfl, rfl⟩, fun b z => absurd z (noA b), e0.bs, e0.bsz, fun b _ _ => noA b, fun b z => absurd z (noA b), e0.funs, e0.frf⟩,
    rfl, e0.bare, Un.kept hk, ⟨_, x.toInCall.ns, fun i y v h1 h2 h3 => ?_⟩, fun y c h => ⟨_, x.cell y c h⟩, e0.hok.fresh (Nat.le_refl _), fun y c h => ?_, fun p hp => absurd (show p ∈ ([] : List (Addr × Obj)) from hp) (by simp), e0.hok.kept hk, ?_⟩
  · exact name_of_addr x.apart (PySem.mem_of_lookup h1) (PySem.mem_of_lookup h2)
  · have hy : scope.names.lookup y = some .cell ∨ scope.names.lookup y = some .free := hy
    rcases hy with hy | hy
    · exact cell_has hy
    · exact absurd rfl (S.nofree _ (PySem.mem_of_lookup hy))
  · exact Nat.le_of_lt (x.above y c (PySem.mem_of_lookup h))
  · have hi : i < vs.length := by
      unfold start at h2
      by_cases hi : i < vs.length
      · exact hi
      · rw [List.getElem?_append_right (by simpa using hi)] at h2
        rw [List.getElem?_replicate] at h2
        split at h2 <;> cases h2
    have ha : vs[i]? = some v := by
      unfold start at h2
      rw [List.getElem?_append_left (by simpa using hi), List.getElem?_map] at h2
      cases e : vs[i]? with
      | none => rw [e] at h2; cases h2
      | some a => rw [e] at h2; cases h2; rfl
    obtain ⟨u, hu, rv⟩ := r.get ha
    have hp : ps[i]? = some y := by
      rw [← S.pre, List.getElem?_take_of_lt (by omega)]; exact h1
    have ndP : ps.Nodup := by rw [← S.pre]; exact S.nd.sublist (List.take_sublist _ _)
    refine ⟨u, rv, ?_⟩
    rcases S.par y (List.mem_of_getElem? hp) with k | k
    · exact .inl ⟨k, bindL_get ndP hp hu k⟩
    · obtain ⟨c, e⟩ := cell_has (n := s.heap.objs.size + 1) k
      refine .inr ⟨.inl k, c, e, ?_⟩
      have q := x.cell y c e
      rw [bindC_get ndP hp hu (by show scope.names.lookup y ≠ _; rw [k]; decide)] at q
      exact q
  · exact e0.hok.fresh (Nat.le_of_lt (x.above y c (PySem.mem_of_lookup h)))
  · unfold start
    show _ = N.length
    rw [List.length_append, List.length_map, List.length_replicate]
    omega

/-- THE RULE: a def (or a method) of the text, by its body. The body's reading t is chosen for each entry; it is run at the parameters' values -/
theorem fn_of {CX : CXT} {P : Program} {w : World} {K : PySem.W.Frag} {mg : Str → Option Value} {base : Heap} {k : Nat} {f : Addr} {name qual : Str} {params : Arguments} {body : List Stmt} {scope : Scope} {dV kV doc pm cdv ct oc : Value} {an od : Option Addr}
    {osl : Array (Option Value)} {N ps : List Str} {sp : Sp} (lk : K.lookup f = some ⟨oc, od, .func (PySem.W.fnOf name qual params body scope dV kV doc pm an cdv ct), osl⟩) (hcd : PySem.W.codeIn K cdv qual = true) (S : FnScope N ps scope)
    (len : ∀ vs H Q E, sp vs H Q E → vs.length = ps.length)
    (hbody : ∀ (A : Around) (outer : List Env) (s : Shared) (H : Hp) (vs : List V) (Q : VK) (E : XK), Room k (A.deeper (envOfC qual scope s.heap.objs.size f cdv)) → sp vs H Q E →
      ∃ t, PSs (cxOf CX P w K mg base N qual scope f cdv A outer s H E) body t ∧ t { nx := fun _ H' => Q .non H', rt := Q } (start N vs) H) :
    FnOk P w K mg base CX (k + 1) f (PySem.W.fnOf name qual params body scope dV kV doc pm an cdv ct) ps sp := by
  refine ⟨len, fun A outer s H args us vs Q E hr e0 hb r hsp => ?_⟩
  have hl := len _ _ _ _ hsp
  have KX : K.In s.heap := e0.mod.kin.keeps fun b o e => (e0.bs b o e).1
  have lim : s.heap.NoLimit := e0.mod.nolimit.keeps fun b o e => (e0.bs b o e).1
  have hkind : ∀ y ∈ ps.zip us, scope.names.lookup y.1 = some .local ∨ (scope.names.lookup y.1 = some .cell ∧ ((cellsFrom (s.heap.objs.size + 1) scope.names []).lookup y.1).isSome = true) := fun ⟨n, v⟩ hy => by
    rcases S.par n (List.of_mem_zip hy).1 with q | q
    · exact .inl q
    · exact .inr ⟨q, PySem.W.cellsFrom_some _ _ _ (.inl q)⟩
  refine codeAny_call_function hr.depth (KX _ _ lk) rfl S.co S.gen rfl (PySem.W.codeRec_of KX hcd) (hb _ _ _ _ ?_)
  refine wpAny_newFunctionEnv_cells S.kind hkind fun env he s1 x => ?_
  subst he
  refine ⟨lim.keeps x.toInCall.keep, codeAny_func ?_⟩
  obtain ⟨t, ht, hq⟩ := hbody A outer s H vs Q E (hr.deeper _) hsp
  have I : Inv (cxOf CX P w K mg base N qual scope f cdv A outer s H E) [] (start N vs) H s1 := inv_start S hr.hd e0 hl r x
  refine wpAny_mono (ht [] s1 (start N vs) H _ I hq) (fun fl s' hs => ?_) fun e s' hs => hs
  have fin : ∀ {σ' : St} {H' : Hp} {v : V} {u : Value}, Inv (cxOf CX P w K mg base N qual scope f cdv A outer s H E) [] σ' H' s' → RelV v u → Q v H' → CE outer P w H s Q u s' :=
    fun {σ' H' v u} J rv q => ⟨v, H', J.os, J.bare, J.base, J.hok, rv, q⟩
  cases fl with
  | ret u =>
    obtain ⟨v, σ', H', J, rv, q⟩ := hs
    exact fin J rv q
  | next =>
    obtain ⟨σ', H', J, q⟩ := hs
    exact fin (v := V.non) (u := Value.none) J rfl q
  | brk =>
    obtain ⟨_, _, _, q⟩ := hs
    exact False.elim q
  | cont =>
    obtain ⟨_, _, _, q⟩ := hs
    exact False.elim q
end L2

namespace L2
open PySem PySem.Spec PyProof.Rows
section
variable {X : Cx} {x : Str} {p pos : Pos} {e : Expr} {es : List Expr} {t : TA} {id T : String} {r : List V → Hp → VK → Prop}

def tCB (r : List V → Hp → VK → Prop) (t : TA) : TE := fun σ H Q => t σ H fun vs H1 => r vs H1 Q
/-- f(e, ..), f a built-in function -/
theorem pe_callB (hc : CallR X (.builtin id) r) (hg : Gl X x) (hm : X.mg x = none) (hv : bootBuiltins x = some (.builtin id)) (ha : PA X (e :: es) t) (hn : x ≠ "__name__" := by decide) (hdb : (x == ("__debug__" : Str)) = false := by decide)
    (he : starEach (e :: es) X.env = (false, eval e X.env) :: starEach es X.env := by rfl) (hpl : (backTo pos (starEach es X.env)).any (·.1) = false := by rfl) : PE X (.Call (.Name x p) (e :: es) [] pos) (tCB r t) := by
  intro pins s σ H Q I h
  refine wpAny_Call_Name_kw (ld_blt I hg hm hv ?_ hn hdb)
  exact PyProof.Rows.callWith_builtin1 (thn (ha pos pins s σ H _ I h) fun us s1 ⟨vs, H1, I1, r1, q1⟩ => hc pins s1 σ H1 vs us Q I1 r1 q1) he hpl
/-- T(e, ..), T a built-in type -/
theorem pe_callTy (hc : CallR X (.type T) r) (hg : Gl X x) (hm : X.mg x = none) (hv : bootBuiltins x = some (.type T)) (ha : PA X (e :: es) t) (hn : x ≠ "__name__" := by decide) (hdb : (x == ("__debug__" : Str)) = false := by decide)
    (he : starEach (e :: es) X.env = (false, eval e X.env) :: starEach es X.env := by rfl) (hpl : (backTo pos (starEach es X.env)).any (·.1) = false := by rfl) : PE X (.Call (.Name x p) (e :: es) [] pos) (tCB r t) := by
  intro pins s σ H Q I h
  refine wpAny_Call_Name_kw (ld_blt I hg hm hv ?_ hn hdb)
  exact PyProof.Rows.callWith_type1 (thn (ha pos pins s σ H _ I h) fun us s1 ⟨vs, H1, I1, r1, q1⟩ => hc pins s1 σ H1 vs us Q I1 r1 q1) he hpl
end
end L2

namespace HT
open PySem PyProof.Rows

section
open PySem.SeqAt
open PySem.AutoSeq1 (wpAny_loadPart')
open PySem.MeetsSeq PySem.MeetsSeq2 PySem.MeetsSeq3

end

section
variable {prog : Program} {w : World} {A : Around} {E : Value → Shared → Prop} {s : Shared}

/-! ### t[a:b], not the whole -/
/-- a slice's bound as a place among n (d where it is left out) -/
def sIx (n d : Nat) : Option Int → Nat
  | none => d
  | some v => if v < 0 then (v + (n : Int)).toNat else min v.toNat n
theorem sIx_none (n d : Nat) : sIx n d none = d := rfl
theorem sIx_nat (n d k : Nat) : sIx n d (some (k : Int)) = min k n := by
  show (if (k : Int) < 0 then ((k : Int) + (n : Int)).toNat else min (k : Int).toNat n) = min k n
  rw [if_neg (by omega), Int.toNat_natCast]
end
end HT

namespace L2
open PySem PySem.Spec PyProof.Rows

/-! ### the parts of a slice -/
abbrev TO := St → Hp → (Option Int → Hp → Prop) → Prop
/-- a slice's part (left out, or an int) -/
def PO (X : Cx) (e : Option Expr) (t : TO) : Prop :=
  ∀ (pins : List (Addr × Obj)) (s : Shared) (σ : St) (H : Hp) (Q : Option Int → Hp → Prop), Inv X pins σ H s → t σ H Q →
    wpAny (model X.prog X.w) X.A (evalPart e X.env) (fun u s' => ∃ o H', Inv X pins σ H' s' ∧ IsPart u o ∧ Q o H') X.xe s
def tNoPart : TO := fun _ H Q => Q none H
def tPart (t : TE) : TO := fun σ H Q => t σ H fun x H1 => ∃ i, x = .int i ∧ Q (some i) H1

theorem intsAre_of {ns : List Int} : ∀ {us : List Value}, Vals (ns.map V.int) us → IntsAre us ns := by
  induction ns with
  | nil => intro us r; rw [List.map_nil] at r; cases r; exact .nil
  | cons n ns ih =>
    intro us r
    rw [List.map_cons] at r
    cases r with
    | cons r1 r2 =>
      obtain ⟨t, e⟩ := r1
      subst e
      exact .cons n t (ih r2)

section
variable {X : Cx} {e : Expr} {te : TE} {lo hi : Option Expr} {tl th : TO} {pos p2 : Pos}

theorem po_none : PO X none tNoPart := by
  intro pins s σ H Q I h
  rw [evalPart_none]
  exact wpAny_pure ⟨none, H, I, .none, h⟩
theorem po_some (h : PE X e te) : PO X (some e) (tPart te) := by
  intro pins s σ H Q I hw
  rw [evalPart_some]
  refine thn (h pins s σ H _ I hw) fun u s1 ⟨x, H1, I1, r1, q1⟩ => ?_
  obtain ⟨i, rfl, q⟩ := q1
  obtain ⟨t, rfl⟩ := r1
  exact ⟨some i, H1, I1, .int i t, q⟩

/-- what a slice of a value is, by values: the slice object stands at sl -/
def SlR (X : Cx) (r : V → Option Int → Option Int → Hp → VK → Prop) : Prop :=
  ∀ (pins : List (Addr × Obj)) (s : Shared) (σ : St) (H : Hp) (x : V) (v vl vu : Value) (lo hi : Option Int) (sl : Addr) (Q : VK), Inv X pins σ H s → RelV x v → s.heap.IsSliceOf sl vl vu .none → IsPart vl lo → IsPart vu hi → r x lo hi H Q →
    ∃ T id, typeLookup (.type T) "__getitem__" = pure (some (.builtin id)) ∧ s.TypeIs v T ∧ wpAny (model X.prog X.w) X.A (getItem v (.ref sl)) (EP X pins σ Q) X.xe s
theorem SlR.or {r r' : V → Option Int → Option Int → Hp → VK → Prop} (h : SlR X r) (h' : SlR X r') : SlR X (fun x lo hi H Q => r x lo hi H Q ∨ r' x lo hi H Q) := by
  intro pins s σ H x v vl vu lo hi sl Q I rx hs pl pu q
  rcases q with q | q
  · exact h pins s σ H x v vl vu lo hi sl Q I rx hs pl pu q
  · exact h' pins s σ H x v vl vu lo hi sl Q I rx hs pl pu q
def tSl (r : V → Option Int → Option Int → Hp → VK → Prop) (te : TE) (tl th : TO) : TE := fun σ H Q => te σ H fun x H1 => tl σ H1 fun l H2 => th σ H2 fun u H3 => r x l u H3 Q
/-- a[lo:hi], any a -/
theorem pe_slice {r : V → Option Int → Option Int → Hp → VK → Prop} (hr : SlR X r) (he : PE X e te) (hl : PO X lo tl) (hu : PO X hi th) : PE X (.Subscript e (.Slice lo hi none p2) pos) (tSl r te tl th) := by
  intro pins s σ H Q I h
  refine Subscript_ (thn (he pins s σ H _ I h) fun v s1 ⟨x, H1, I1, r1, q1⟩ => ?_)
  refine wpAny_Slice (thn (hl pins s1 σ H1 _ I1 q1) fun vl s2 ⟨l, H2, I2, pl, q2⟩ => thn (hu pins s2 σ H2 _ I2 q2) fun vu s3 ⟨u, H3, I3, pu, q3⟩ => ?_)
  rw [evalPart_none]
  refine wpAny_pure ?_
  have I4 : Inv X pins σ H3 { s3 with heap := s3.heap.push { cls := .type "slice", data := .fields #[vl, vu, .none] } } := I3.kept (t' := s3.toks) fun b ob q => Heap.get?_push_of_some _ q
  obtain ⟨T, id, hT, ht, hg⟩ := hr pins { s3 with heap := s3.heap.push { cls := .type "slice", data := .fields #[vl, vu, .none] } } σ H3 x v vl vu l u s3.heap.objs.size Q I4 r1 (Heap.IsSliceOf.new ..) pl pu q3
  show wpAny (model X.prog X.w) X.A (subscriptTail e (.Slice lo hi none p2) v (.ref s3.heap.objs.size)) (EP X pins σ Q) X.xe { s3 with heap := s3.heap.push { cls := .type "slice", data := .fields #[vl, vu, .none] } }
  exact tail_any (ops := [.ref s3.heap.objs.size, v]) ht hT hg (by with_unfolding_all rfl)

/-- the items of xs[lo:hi] -/
def cutV (xs : List V) (lo hi : Option Int) : List V := (xs.drop (HT.sIx xs.length 0 lo)).take (HT.sIx xs.length xs.length hi - HT.sIx xs.length 0 lo)
theorem cutV_length (xs : List V) (lo hi : Option Int) : (cutV xs lo hi).length ≤ xs.length := by
  unfold cutV
  rw [List.length_take, List.length_drop]
  omega
/-! ### t < u, t + u -/
end
end L2

namespace L2
open PySem PySem.Spec PyProof.Rows

/-! ### places -/
/-- the place that an index of any sign means -/
def ixN (n : Nat) (i : Int) : Option Nat := if 0 ≤ i then (if i < n then some i.toNat else none) else if -(n : Int) ≤ i then some (i + n).toNat else none
def atI {α : Type} (xs : List α) (i : Int) : Option α := (ixN xs.length i).bind fun j => xs[j]?
theorem ixN_seq {n : Nat} {i : Int} {j : Nat} (h : ixN n i = some j) : seqIndex? i n = some j ∧ j < n ∧ -(n : Int) ≤ i ∧ i < n := by
  unfold ixN at h
  by_cases h0 : 0 ≤ i
  · rw [if_pos h0] at h
    by_cases h1 : i < n
    · rw [if_pos h1] at h
      have e : i.toNat = j := Option.some.inj h
      exact ⟨by rw [seqIndex_of h0 h1, e], by omega, by omega, h1⟩
    · rw [if_neg h1] at h; cases h
  · rw [if_neg h0] at h
    by_cases h1 : -(n : Int) ≤ i
    · rw [if_pos h1] at h
      have e : (i + n).toNat = j := Option.some.inj h
      exact ⟨by rw [seqIndex_neg (by omega) h1, e], by omega, h1, by omega⟩
    · rw [if_neg h1] at h; cases h
theorem atI_get {α : Type} {xs : List α} {i : Int} {v : α} (h : atI xs i = some v) : ∃ j, seqIndex? i xs.length = some j ∧ xs[j]? = some v ∧ j < xs.length ∧ -(xs.length : Int) ≤ i ∧ i < xs.length := by
  unfold atI at h
  cases e : ixN xs.length i with
  | none => rw [e] at h; cases h
  | some j =>
    rw [e] at h
    obtain ⟨h1, h2, h3, h4⟩ := ixN_seq e
    exact ⟨j, h1, h, h2, h3, h4⟩
theorem atI_nat {α : Type} {xs : List α} {j : Nat} {v : α} (h : xs[j]? = some v) : atI xs (j : Int) = some v := by
  have hj : j < xs.length := (List.getElem?_eq_some_iff.mp h).1
  have e : ixN xs.length (j : Int) = some j := by
    unfold ixN
    rw [if_pos (by omega), if_pos (by omega)]; simp
  unfold atI; rw [e]; exact h
theorem atI_last {α : Type} (xs : List α) (v : α) : atI (xs ++ [v]) (-1) = some v := by
  have hl : (xs ++ [v]).length = xs.length + 1 := by simp
  have e : ixN (xs ++ [v]).length (-1) = some xs.length := by
    unfold ixN
    rw [hl, if_neg (by decide), if_pos (by omega)]
    congr 1
    omega
  unfold atI
  rw [e]
  show (xs ++ [v])[xs.length]? = some v
  simp

/-! ### what may be subscripted -/
/-- what stands as an index of a plain subscript -/
def PlainIx (b : Expr) : Prop := ∀ o i, subscripted b false o i = operate [o, i] (getItem o i)
/-- a subscript by values -/
def IxR (X : Cx) (r : R2) : Prop :=
  ∀ (value slice : Expr) (pins : List (Addr × Obj)) (s : Shared) (σ : St) (H : Hp) (x y : V) (v u : Value) (Q : VK), Inv X pins σ H s → RelV x v → RelV y u → r x y H Q →
    subscripted slice false v u = operate [v, u] (getItem v u) → wpAny (model X.prog X.w) X.A (subscriptTail value slice v u) (EP X pins σ Q) X.xe s
/-- a call of a builtin's method by values: the receiver, the arguments -/
def MtR (X : Cx) (id : String) (r : V → List V → Hp → VK → Prop) : Prop :=
  ∀ (pins : List (Addr × Obj)) (s : Shared) (σ : St) (H : Hp) (x : V) (xs : List V) (v : Value) (us : List Value) (Q : VK), Inv X pins σ H s → RelV x v → Vals xs us → r x xs H Q →
    wpAny (model X.prog X.w) X.A (call (.builtin id) (v :: us)) (EP X pins σ Q) X.xe s
section
variable {X : Cx} {a b : Expr} {ta tb : TE} {pos : Pos}
theorem IxR.or {r r' : R2} (h : IxR X r) (h' : IxR X r') : IxR X (fun x y H Q => r x y H Q ∨ r' x y H Q) := by
  intro value slice pins s σ H x y v u Q I rx ry q hs
  rcases q with q | q
  · exact h value slice pins s σ H x y v u Q I rx ry q hs
  · exact h' value slice pins s σ H x y v u Q I rx ry q hs
theorem MtR.or {id : String} {r r' : V → List V → Hp → VK → Prop} (h : MtR X id r) (h' : MtR X id r') : MtR X id (fun x xs H Q => r x xs H Q ∨ r' x xs H Q) := by
  intro pins s σ H x xs v us Q I rx rs q
  rcases q with q | q
  · exact h pins s σ H x xs v us Q I rx rs q
  · exact h' pins s σ H x xs v us Q I rx rs q
/-- a[b] -/
theorem pe_ix {r : R2} (hr : IxR X r) (ha : PE X a ta) (hb : PE X b tb) (hs : PlainIx b) : PE X (.Subscript a b pos) (tOp r ta tb) := by
  intro pins s σ H Q I h
  exact Subscript_ (binT ha hb I h fun v u s2 x y H2 I2 rx ry q => hr a b pins s2 σ H2 x y v u Q I2 rx ry q (hs _ _))

def rIxL (K : PySem.W.Frag) : R2 := fun x y H Q => ∃ p xs i v, x = .ref p ∧ y = .int i ∧ SqL K H p xs ∧ atI xs i = some v ∧ Q v H
def rIxT (K : PySem.W.Frag) : R2 := fun x y H Q => ∃ p xs i v, x = .ref p ∧ y = .int i ∧ SqT K H p xs ∧ atI xs i = some v ∧ Q v H
theorem ix_list : IxR X (rIxL X.K) := by
  intro value slice pins s σ H x y v u Q I rx ry h hs
  obtain ⟨p, xs, i, z, rfl, rfl, hq, he, q⟩ := h
  cases rx
  obtain ⟨t, rfl⟩ := ry
  obtain ⟨its, r, pl, hz⟩ := I.list hq
  obtain ⟨j, h1, h2, h3, h4, h5⟩ := atI_get he
  obtain ⟨w, ew, rw'⟩ := r.get h2
  have hl := r.length
  have hn := line63
  have fin : EP X pins σ Q w s := ⟨z, H, I, rw', q⟩
  by_cases h0 : 0 ≤ i
  · have hj : i.toNat = j := by
      rw [seqIndex_of h0 h5] at h1
      exact Option.some.inj h1
    exact item_listR pl.isList h0 (by omega) (by rw [hj]; simpa using ew) fin hs
  · have hj : (i + (its.toArray.size : Int)).toNat = j := by
      rw [seqIndex_neg (by omega) h4] at h1
      rw [List.size_toArray, ← hl]
      exact Option.some.inj h1
    exact subscriptTail_builtinR (x := w) pl.isList.typeIs slot_list_getitem.lookup
      (wpAny_getItem_list_neg (Q := fun r s' => r = w ∧ EP X pins σ Q r s') pl.isList (by omega) (by rw [List.size_toArray] <;> omega) (by omega) (by rw [hj]; simpa using ew) ⟨rfl, fin⟩) hs
theorem ix_tup : IxR X (rIxT X.K) := by
  intro value slice pins s σ H x y v u Q I rx ry h hs
  obtain ⟨p, xs, i, z, rfl, rfl, hq, he, q⟩ := h
  cases rx
  obtain ⟨t, rfl⟩ := ry
  obtain ⟨its, r, pl, hz⟩ := I.tuple hq
  obtain ⟨j, h1, h2, h3, h4, h5⟩ := atI_get he
  obtain ⟨w, ew, rw'⟩ := r.get h2
  have hl := r.length
  have hn := line63
  have fin : EP X pins σ Q w s := ⟨z, H, I, rw', q⟩
  exact subscriptTail_builtinR (x := w) pl.typeIs slot_tuple_getitem.lookup
    (getItem_tuple (j := j) (Q := fun r s' => r = w ∧ EP X pins σ Q r s') pl (by omega) (by omega) (by rw [List.size_toArray, ← hl]; exact h1) (by simpa using ew) ⟨rfl, fin⟩) hs
/-! ### xs[i] = v, any sign -/
/-- the list's object behind a store -/
theorem mapSeq_set (its : List Value) (n j : Nat) (u : Value) : Obj.mapSeq (·.setIfInBounds j u) { cls := .type "list", data := .seq its.toArray n } = { cls := .type "list", data := .seq (its.set j u).toArray n } := by
  simp [Obj.mapSeq]
theorem Inv.lst {pins : List (Addr × Obj)} {σ : St} {H : Hp} {s : Shared} {p : Addr} {xs : List V} (I : Inv X pins σ H s) (h : H p = some (.lst xs)) :
    ∃ (its : List Value) (n : Nat), Vals xs its ∧ s.heap.get? p = some { cls := .type "list", data := .seq its.toArray n } ∧ xs.length ≤ sizeLine := by
  obtain ⟨z, its, n, r, e⟩ := I.hok p _ h
  exact ⟨its, n, r, e, z⟩
/-- the list at p is written by an update of its object -/
theorem Inv.lstUpd {pins : List (Addr × Obj)} {σ : St} {H : Hp} {s : Shared} {p : Addr} {xs ys : List V} {its its' : List Value} {n n' : Nat} {f : Obj → Obj} (I : Inv X pins σ H s) (h : H p = some (.lst xs))
    (ho : s.heap.get? p = some { cls := .type "list", data := .seq its.toArray n }) (hf : f { cls := .type "list", data := .seq its.toArray n } = { cls := .type "list", data := .seq its'.toArray n' }) (r : Vals ys its') (hz : ys.length ≤ sizeLine) (t : Nat) :
    Inv X pins σ (upd H p (.lst ys)) { s with heap := s.heap.update p f, toks := t } := by
  have e : (s.heap.update p f).get? p = some { cls := .type "list", data := .seq its'.toArray n' } := by
    rw [Heap.get?_update_self f ho (by rw [hf] <;> rfl), hf]
  refine I.write (x := p) (e := p) (by rw [h]; trivial) (.inl rfl) (fun b u hb q => (Heap.get?_update_other _ _ (Ne.symm hb)).trans q) ⟨_, e⟩ ?_
  exact ⟨hz, its', n', r, e⟩
def rSetL : V → V → V → Hp → (Hp → Prop) → Prop := fun o i v H Q => ∃ p xs k j, o = .ref p ∧ i = .int k ∧ H p = some (.lst xs) ∧ ixN xs.length k = some j ∧ Q (upd H p (.lst (xs.set j v)))
theorem set_list : PSet X rSetL := by
  intro pins s σ H o i v ov iv u Q I ro ri rv h
  obtain ⟨p, xs, k, j, rfl, rfl, hp, hj, q⟩ := h
  cases ro
  obtain ⟨t, rfl⟩ := ri
  obtain ⟨its, n, r, ho, hz⟩ := I.lst hp
  obtain ⟨h1, h2, h3, h4⟩ := ixN_seq hj
  have hl := r.length
  have hn := line63
  have I' : Inv X pins σ (upd H p (.lst (xs.set j v))) { s with heap := s.heap.update p (Obj.mapSeq (·.setIfInBounds j u)) } :=
    I.lstUpd hp ho (mapSeq_set its n j u) (r.set rv j) (by rw [List.length_set]; exact hz) s.toks
  by_cases h0 : 0 ≤ k
  · have hk : k.toNat = j := by
      rw [seqIndex_of h0 h4] at h1
      exact Option.some.inj h1
    exact PySem.W.ki_setAt ho h0 (by omega) (by rw [List.size_toArray, ← hl]; exact h4) (by rw [hk]; exact ⟨_, I', q⟩)
  · have hk : (k + (its.toArray.size : Int)).toNat = j := by
      rw [seqIndex_neg (by omega) h3] at h1
      rw [List.size_toArray, ← hl]
      exact Option.some.inj h1
    exact PySem.W.ki_setBack ho (by omega) (by rw [List.size_toArray, ← hl]; exact h3) (by omega) (by rw [hk]; exact ⟨_, I', q⟩)

/-! ### slices -/
theorem slice_bounds (lo hi : Option Int) (n : Nat) : (sliceBounds lo hi none n).1 = ((HT.sIx n 0 lo : Nat) : Int) ∧ (sliceBounds lo hi none n).2.1 = ((HT.sIx n n hi : Nat) : Int) ∧ (sliceBounds lo hi none n).2.2 = 1 := by
  refine ⟨?_, ?_, rfl⟩
  · cases lo with
    | none => simp [sliceBounds, HT.sIx]
    | some i =>
      simp only [sliceBounds, HT.sIx, Option.getD_none, show (1 : Int) > 0 by decide, if_true]
      by_cases h : i < 0
      · simp only [h, if_true] <;> omega
      · simp only [h, if_false] <;> omega
  · cases hi with
    | none => simp [sliceBounds, HT.sIx]
    | some i =>
      simp only [sliceBounds, HT.sIx, Option.getD_none, show (1 : Int) > 0 by decide, if_true]
      by_cases h : i < 0
      · simp only [h, if_true] <;> omega
      · simp only [h, if_false] <;> omega
theorem slicePick_cut (its : List Value) (lo hi : Option Int) : slicePick its.toArray lo hi none = ((its.drop (HT.sIx its.length 0 lo)).take (HT.sIx its.length its.length hi - HT.sIx its.length 0 lo)).toArray := by
  obtain ⟨h1, h2, h3⟩ := slice_bounds lo hi its.toArray.size
  unfold slicePick
  rw [h1, h2, h3]
  simp only [sliceRange_one, pick_run, List.size_toArray] <;> rfl
/-- xs[lo:hi] of a list: a new list -/
def rSlL (K : PySem.W.Frag) : V → Option Int → Option Int → Hp → VK → Prop := fun x lo hi H Q => ∃ a xs, x = .ref a ∧ SqL K H a xs ∧ ∀ p, H p = none → Q (.ref p) (upd H p (.lst (cutV xs lo hi)))
theorem sl_list : SlR X (rSlL X.K) := by
  intro pins s σ H x v vl vu lo hi sl Q I rx hs pl pu h
  obtain ⟨a, xs, rfl, hx, q⟩ := h
  cases rx
  obtain ⟨its, r, ht, hz⟩ := I.list hx
  have hlen := r.length
  refine ⟨"list", _, slot_list_getitem.lookup, ht.isList.typeIs, ?_⟩
  refine wpAny_getItem_list_slice ht.isList hs pl pu .none (by simp) ?_ (by rw [List.size_toArray] <;> omega)
  rw [slicePick_cut, ← hlen]
  refine ⟨.ref s.heap.objs.size, _, I.laid (t' := s.toks) (o := .lst (cutV xs lo hi)) (fun b ob q => Heap.get?_push_of_some _ q) (Nat.le_refl _) ?_, rfl, q _ (I.hok.fresh (Nat.le_refl _))⟩
  exact ⟨Nat.le_trans (cutV_length xs lo hi) hz, _, 0, (r.drop (HT.sIx xs.length 0 lo)).take (HT.sIx xs.length xs.length hi - HT.sIx xs.length 0 lo), Heap.get?_push_size _ rfl⟩

/-! ### in, not in: flat items -/
/-! ### len, list(x), tuple(x) of any list or tuple that is read -/
theorem call_len_seq : CallR X (.builtin "len") (fun xs H Q => ∃ p ys, xs = [.ref p] ∧ (SqL X.K H p ys ∨ SqT X.K H p ys) ∧ Q (.int ys.length) H) := by
  intro pins s σ H xs us Q I r h
  obtain ⟨p, ys, rfl, hq, q⟩ := h
  obtain ⟨u, rfl, rx⟩ := vals1 r
  cases rx
  have hn := line63
  rcases hq with hq | hq
  · obtain ⟨its, r', pl, hz⟩ := I.list hq
    have hlen := r'.length
    exact Calls.call_len_list pl.isList (by simp only [List.size_toArray] <;> omega) ⟨.int ys.length, H, I.tok _, ⟨s.toks + 1, by rw [List.size_toArray, hlen]⟩, q⟩
  · obtain ⟨its, r', pl, hz⟩ := I.tuple hq
    have hlen := r'.length
    exact len_tuple pl (by simp only [List.size_toArray] <;> omega) ⟨.int ys.length, H, I.tok _, ⟨s.toks + 1, by rw [List.size_toArray, hlen]⟩, q⟩
theorem CallR.or {f : Value} {r r' : List V → Hp → VK → Prop} (h : CallR X f r) (h' : CallR X f r') : CallR X f (fun xs H Q => r xs H Q ∨ r' xs H Q) := by
  intro pins s σ H xs us Q I rs q
  rcases q with q | q
  · exact h pins s σ H xs us Q I rs q
  · exact h' pins s σ H xs us Q I rs q
theorem call_list_of : CallR X (.type "list") (fun xs H Q => ∃ p ys, xs = [.ref p] ∧ (SqL X.K H p ys ∨ SqT X.K H p ys) ∧ ∀ l, H l = none → Q (.ref l) (upd H l (.lst ys))) := by
  intro pins s σ H xs us Q I r h
  obtain ⟨p, ys, rfl, hq, q⟩ := h
  obtain ⟨u, rfl, rx⟩ := vals1 r
  cases rx
  have fin : ∀ (its : List Value), Vals ys its → ys.length ≤ sizeLine → ∀ (h' : Heap) (c' : Nat), (∀ b o', s.heap.get? b = some o' → h'.get? b = some o') →
      h'.get? s.heap.objs.size = some { cls := .type "list", dict := none, data := .seq its.toArray c', slots := #[] } → EP X pins σ Q (.ref s.heap.objs.size) { s with heap := h' } := fun its r' hz h' c' kp e =>
    ⟨.ref s.heap.objs.size, _, I.laid (t' := s.toks) kp (Nat.le_refl _) (show ObjOk X.prog X.w _ h' _ (.lst ys) from ⟨hz, its, c', r', e⟩), rfl, q _ (I.hok.fresh (Nat.le_refl _))⟩
  rcases hq with hq | hq
  · obtain ⟨its, r', pl, hz⟩ := I.list hq
    have hlen := r'.length
    obtain ⟨o, ho, hc, n, hd⟩ := pl.isList
    exact call_list_seq p (.inl rfl) ho hc hd (fun h' c' kp e => fin its r' hz h' c' kp e) (by simp only [List.size_toArray] <;> omega)
  · obtain ⟨its, r', pl, hz⟩ := I.tuple hq
    have hlen := r'.length
    obtain ⟨o, ho, hc, n, hd⟩ := pl
    exact call_list_seq p (.inr rfl) ho hc hd (fun h' c' kp e => fin its r' hz h' c' kp e) (by simp only [List.size_toArray] <;> omega)
/-! ### the call of a builtin's method: o.m(..) -/
/-- the value is of that builtin type -/
def tyV (K : PySem.W.Frag) (T : String) (x : V) (H : Hp) : Prop := match x with
  | .str _ => T = "str"
  | .int _ => T = "int"
  | .ref p => (T = "list" ∧ ∃ xs, SqL K H p xs) ∨ (T = "tuple" ∧ ∃ o, K.lookup p = some o ∧ o.cls = .type "tuple" ∧ o.dict = none) ∨
      (T = "dict" ∧ ((∃ kvs, H p = some (.dK kvs)) ∨ ∃ kvs, H p = some (.dT kvs))) ∨ (T = "set" ∧ ∃ S n, H p = some (.set S n))
  | _ => False
theorem tyV_is {pins : List (Addr × Obj)} {σ : St} {H : Hp} {s : Shared} {T : String} {x : V} {v : Value} (I : Inv X pins σ H s) (r : RelV x v) (ty : tyV X.K T x H) :
    s.TypeIs v T ∧ ∀ a, v = .ref a → ∃ ob, s.heap.get? a = some ob ∧ ob.dict = none := by
  cases x with
  | str z =>
    obtain ⟨t, rfl⟩ := r
    cases (show T = "str" from ty)
    exact ⟨typeIs_str s z t, fun _ e => nomatch e⟩
  | int i =>
    obtain ⟨t, rfl⟩ := r
    cases (show T = "int" from ty)
    exact ⟨typeIs_int s i t, fun _ e => nomatch e⟩
  | ref p =>
    cases r
    rcases ty with ⟨rfl, xs, hq⟩ | ⟨rfl, o, hk, hc, hd⟩ | ⟨rfl, hk⟩ | ⟨rfl, S, n, hk⟩
    · obtain ⟨its, _, pl, _⟩ := I.list hq
      refine ⟨pl.isList.typeIs, fun a e => ?_⟩
      cases e
      obtain ⟨o, n, e, c, hd, _⟩ := pl
      exact ⟨o, e, hd⟩
    · refine ⟨⟨o, I.kIn p o hk, hc⟩, fun a e => ?_⟩
      cases e
      exact ⟨o, I.kIn _ o hk, hd⟩
    · have z : ∃ o, s.heap.get? p = some o ∧ o.ExactDict := by
        rcases hk with ⟨kvs, hk⟩ | ⟨kvs, hk⟩
        · obtain ⟨_, _, _, _, o, _, _, e, ex, _⟩ := I.hok p _ hk
          exact ⟨o, e, ex⟩
        · obtain ⟨_, _, _, _, o, _, _, e, ex, _⟩ := I.hok p _ hk
          exact ⟨o, e, ex⟩
      obtain ⟨o, e, ex⟩ := z
      refine ⟨⟨o, e, ex.1⟩, fun a e2 => ?_⟩
      cases e2
      exact ⟨o, e, ex.2.1⟩
    · obtain ⟨o, _, _, _, e, ex, _⟩ := I.hok p _ hk
      refine ⟨⟨o, e, ex.1⟩, fun a e2 => ?_⟩
      cases e2
      exact ⟨o, e, ex.2.1⟩
  | _ => exact False.elim ty
def tBM0 (K : PySem.W.Frag) (T : String) (r : V → List V → Hp → VK → Prop) (to : TE) : TE := fun σ H Q => to σ H fun x H1 => tyV K T x H1 ∧ r x [] H1 Q
def tBM (K : PySem.W.Frag) (T : String) (r : V → List V → Hp → VK → Prop) (to : TE) (t : TA) : TE := fun σ H Q => to σ H fun x H1 => tyV K T x H1 ∧ t σ H1 fun xs H2 => r x xs H2 Q
variable {o e : Expr} {es : List Expr} {to : TE} {t : TA} {name : Str} {apos cpos : Pos} {T id : String} {r : V → List V → Hp → VK → Prop}
theorem pe_bm0 (pa : PlainAttrs T) (slot : Slot T name id) (hty : typeOf (.builtin id) = pure (.type "method_descriptor")) (hm : MtR X id r) (ho : PE X o to)
    (hbase : attributeBase o name X.env (eval o X.env) = eval o X.env := by rfl) (hline : (apos.endLine == cpos.line) = true := by rfl) : PE X (.Call (.Attribute o name apos) [] [] cpos) (tBM0 X.K T r to) := by
  intro pins s σ H Q I h
  refine wpAny_Call_method0_late hbase hline (thn (ho pins s σ H _ I h) fun v s1 ⟨x, H1, I1, r1, ty, q1⟩ => ?_)
  obtain ⟨h1, h2⟩ := tyV_is I1 r1 ty
  exact ⟨T, id, pa, slot, hty, h1, h2, Calls.callWith_builtin rfl (PySem.evalArgs_none (hm pins s1 σ H1 x [] v [] Q I1 r1 .nil q1))⟩
theorem pe_bm (pa : PlainAttrs T) (slot : Slot T name id) (hty : typeOf (.builtin id) = pure (.type "method_descriptor")) (hm : MtR X id r) (ho : PE X o to) (ha : PA X (e :: es) t)
    (hbase : attributeBase o name X.env (eval o X.env) = eval o X.env := by rfl)
    (hfew : ((backTo cpos (starEach (e :: es) X.env)).all (fun x => !x.1) && (backToKw cpos (keywordEach [] X.env)).all (fun x => x.1.isSome)
      && decide ((e :: es).length + ([] : List Keyword).length + (if ([] : List Keyword).isEmpty then 0 else 1) < 30)) = true := by rfl)
    (hline : (apos.endLine == cpos.line) = true := by rfl) (hs : starEach (e :: es) X.env = (false, eval e X.env) :: starEach es X.env := by rfl) (hplain : (backTo cpos (starEach es X.env)).any (·.1) = false := by rfl) :
    PE X (.Call (.Attribute o name apos) (e :: es) [] cpos) (tBM X.K T r to t) := by
  intro pins s σ H Q I h
  refine wpAny_Call_method_late hbase hfew hline rfl (thn (ho pins s σ H _ I h) fun v s1 ⟨x, H1, I1, r1, ty, q1⟩ => ?_)
  obtain ⟨h1, h2⟩ := tyV_is I1 r1 ty
  refine ⟨T, id, pa, slot, hty, h1, h2, ?_⟩
  have hA := ha cpos pins s1 σ H1 _ I1 q1
  rw [hs] at hA ⊢
  refine Calls.callWith_builtin (by show (false || (backTo cpos (starEach es X.env)).any (·.1)) = false; rw [hplain] <;> rfl) (Calls.evalArgs_plain ?_)
  exact thn hA fun us s2 ⟨vs, H2, I2, r2, q2⟩ => hm pins s2 σ H2 x vs v us Q I2 r1 r2 q2
/- xs.append(e), list.index on a module's tuple .. are MtR facts of 06m -/
end
end L2

namespace L2
open PySem PySem.Spec PyProof.Rows

def MtM (X : Cx) (id : String) (r : V → List V → Hp → VK → Prop) : Prop :=
  ∀ (pins : List (Addr × Obj)) (s : Shared) (σ : St) (H : Hp) (x : V) (xs : List V) (v : Value) (us : List Value) (Q : VK), Inv X pins σ H s → RelV x v → Vals xs us → r x xs H Q →
    wpAny (model X.prog X.w) X.A (call (.builtin id) (v :: us)) (EP X pins σ Q) X.xe s

/-! ### lists of values -/
theorem Vals.one : ∀ {x : V} {us : List Value}, Vals [x] us → ∃ u, us = [u] ∧ RelV x u
  | _, _, .cons r .nil => ⟨_, rfl, r⟩
theorem Vals.two : ∀ {x y : V} {us : List Value}, Vals [x, y] us → ∃ u v, us = [u, v] ∧ RelV x u ∧ RelV y v
  | _, _, _, .cons r (.cons q .nil) => ⟨_, _, rfl, r, q⟩
theorem Vals.zero : ∀ {us : List Value}, Vals [] us → us = []
  | _, .nil => rfl
theorem Vals.reverse {xs : List V} {us : List Value} (h : Vals xs us) : Vals xs.reverse us.reverse := by
  induction h with
  | nil => exact .nil
  | cons r t ih => rw [List.reverse_cons, List.reverse_cons]; exact Vals.append ih (.cons r .nil)
theorem Vals.rep {xs : List V} {us : List Value} (h : Vals xs us) : ∀ k : Nat, Vals (List.replicate k xs).flatten (List.replicate k us).flatten
  | 0 => .nil
  | k + 1 => by
    rw [List.replicate_succ, List.replicate_succ, List.flatten_cons, List.flatten_cons]
    exact Vals.append h (Vals.rep h k)
theorem foldl_rep (its : List Value) : ∀ (k : Nat) (acc : List Value),
    List.foldl (fun x1 x2 => x1 ++ x2) acc.toArray (List.replicate k its.toArray) = (acc ++ (List.replicate k its).flatten).toArray
  | 0, acc => by simp
  | k + 1, acc => by
    have e : acc.toArray ++ its.toArray = (acc ++ its).toArray := by simp
    have e2 : (acc ++ its) ++ (List.replicate k its).flatten = acc ++ (List.replicate (k + 1) its).flatten := by
      rw [List.replicate_succ, List.flatten_cons, List.append_assoc]
    rw [← e2, ← foldl_rep its k (acc ++ its), ← e, List.replicate_succ, List.foldl_cons]

section
variable {X : Cx} {pins : List (Addr × Obj)} {σ : St} {H : Hp} {s : Shared} {l b : Addr} {xs ys zs : List V}

/-! ### the two steps: a tracked list is rewritten, a new list is laid -/
theorem Inv.lset {its its' : List Value} {n : Nat} {f : Array Value → Array Value} {t' : Nat} (I : Inv X pins σ H s) (hH : H l = some (.lst xs))
    (e : s.heap.get? l = some { cls := .type "list", data := .seq its.toArray n }) (hf : f its.toArray = its'.toArray) (hv : Vals ys its') (hz : ys.length ≤ sizeLine) :
    Inv X pins σ (upd H l (.lst ys)) { s with heap := s.heap.update l (Obj.mapSeq f), toks := t' } := by
  have q := PySem.IsL.update e f
  rw [hf] at q
  refine I.write (x := l) (e := l) (by rw [hH]; exact trivial) (.inl rfl) (fun b' u hb hu => (Heap.get?_update_other s.heap (Obj.mapSeq f) (Ne.symm hb)).trans hu) ⟨_, q⟩ ?_
  exact ⟨hz, its', _, hv, q⟩
theorem Inv.lnew {its : List Value} {t' : Nat} (I : Inv X pins σ H s) (hv : Vals ys its) (hz : ys.length ≤ sizeLine) :
    Inv X pins σ (upd H s.heap.objs.size (.lst ys)) { s with heap := s.heap.push { cls := .type "list", data := .seq its.toArray }, toks := t' } :=
  I.laid (fun _ _ q => Heap.get?_push_of_some _ q) (Nat.le_refl _) ⟨hz, its, 0, hv, Heap.get?_push_size _ rfl⟩
theorem Inv.fresh (I : Inv X pins σ H s) : H s.heap.objs.size = none := I.hok.fresh (Nat.le_refl _)
theorem Inv.lstM (I : Inv X pins σ H s) (hH : H l = some (.lst xs)) : xs.length ≤ sizeLine ∧ ∃ (its : List Value) (n : Nat), Vals xs its ∧ xs.length = its.length ∧ s.heap.get? l = some { cls := .type "list", data := .seq its.toArray n } := by
  obtain ⟨z, its, n, r, e⟩ := I.hok l _ hH
  exact ⟨z, its, n, r, r.length, e⟩

theorem notLongL {n : Nat} (h : n ≤ sizeLine) : Builtin.List.listTooLong n = false := by
  unfold Builtin.List.listTooLong
  exact decide_eq_false (by omega)
end

section
variable {X : Cx}

/-! ### methods -/
def rAppend : V → List V → Hp → VK → Prop := fun x vs H Q => ∃ l xs y, x = .ref l ∧ vs = [y] ∧ H l = some (.lst xs) ∧ xs.length < sizeLine ∧ Q .non (upd H l (.lst (xs ++ [y])))
theorem mt_append : MtM X "list.append" rAppend := by
  intro pins s σ H x vs v us Q I rx rv h
  obtain ⟨l, xs, y, rfl, rfl, hH, hz, q⟩ := h
  cases rx
  obtain ⟨u, rfl, ru⟩ := rv.one
  obtain ⟨z, its, n, r, hl, e⟩ := I.lstM hH
  refine call_meets F.slot_list_append ⟨_, e, rfl⟩ F.entry_list_append (F.args_list_append_2 _ _) (PySem.list_append l its.toArray n u (by rw [List.size_toArray]; omega)) ⟨e, ?_⟩
  refine ⟨.non, _, I.lset (its' := its ++ [u]) hH e (by simp) (r.append (.cons ru .nil)) ?_, rfl, q⟩
  rw [List.length_append, List.length_singleton]
  omega

def rReverse : V → List V → Hp → VK → Prop := fun x vs H Q => ∃ l xs, x = .ref l ∧ vs = [] ∧ H l = some (.lst xs) ∧ Q .non (upd H l (.lst xs.reverse))
theorem mt_reverse : MtM X "list.reverse" rReverse := by
  intro pins s σ H x vs v us Q I rx rv h
  obtain ⟨l, xs, rfl, rfl, hH, q⟩ := h
  cases rx
  have hus := rv.zero
  subst hus
  obtain ⟨z, its, n, r, hl, e⟩ := I.lstM hH
  refine call_meets F.slot_list_reverse ⟨_, e, rfl⟩ F.entry_list_reverse (F.args_list_reverse_1 _) (AutoSeq1.list_reverse_list_0 l its.toArray n (by rw [List.size_toArray]; omega)) ⟨e, ?_⟩
  refine ⟨.non, _, I.lset (its' := its.reverse) hH e (by simp) r.reverse ?_, rfl, q⟩
  rw [List.length_reverse]
  omega

/-! ### list + list, list += list, list * int -/
/-- a list times an int (a negative one is nothing) -/
def rRep : R2 := fun x y H Q => ∃ l k xs, x = .ref l ∧ y = .int k ∧ H l = some (.lst xs) ∧ -(2 ^ 63) ≤ k ∧ k < 2 ^ 63 ∧ xs.length * k.toNat ≤ sizeLine ∧
  ∀ p, H p = none → Q (.ref p) (upd H p (.lst (List.replicate k.toNat xs).flatten))
theorem len_rep {α : Type} (xs : List α) (k : Nat) : (List.replicate k xs).flatten.length = k * xs.length := by
  induction k with
  | zero => simp
  | succ k ih => rw [List.replicate_succ, List.flatten_cons, List.length_append, ih, Nat.succ_mul, Nat.add_comm]
theorem op_rep : OpR X (binaryOp .Mult) rRep := by
  intro pins s σ H x y v u Q I rx ry h
  obtain ⟨l, k, xs, rfl, rfl, hH, h1, h2, hz, q⟩ := h
  cases rx
  obtain ⟨t, rfl⟩ := ry
  obtain ⟨z, its, n, r, hl, e⟩ := I.lstM hH
  have hlen : its.toArray.size * k.toNat ≤ sizeLine := by rw [List.size_toArray, ← hl]; exact hz
  have hcap : ¬ its.toArray.size * k.toNat > (2 ^ 63 - 1) / 8 := by
    have : (sizeLine : Nat) ≤ (2 ^ 63 - 1) / 8 := by decide
    omega
  have hfit : ¬ (!Builtin.List.listFitsIndex k) = true := by
    rw [fitsIndex_both h1 h2]
    exact Bool.false_ne_true
  have hlong : ¬ Builtin.List.listTooLong (its.toArray.size * k.toNat) = true := by
    rw [notLongL hlen]
    exact Bool.false_ne_true
  have hnew : List.foldl (fun x1 x2 => x1 ++ x2) #[] (List.replicate (if its.toArray.isEmpty = true then 0 else k.toNat) its.toArray) = (List.replicate k.toNat its).flatten.toArray := by
    have f0 : ∀ m : Nat, List.foldl (fun x1 x2 => x1 ++ x2) #[] (List.replicate m its.toArray) = (List.replicate m its).flatten.toArray := fun m => by
      have := foldl_rep its m []
      rw [List.nil_append] at this
      exact this
    rw [f0]
    cases its with
    | nil => simp
    | cons a r' => rw [if_neg (by simp)]
  refine wpAny_binaryOp_repeat_ref (T := "list") (U := "int") (by decide) ⟨_, e, rfl⟩ (fun s' => typeIs_int s' k t) noFill_list_mul F.fills_int_mul F.slot_int_rmul repeat_list F.slot_int_index.lookup
    (call_meets F.slot_int_rmul (typeIs_int s k t) F.entry_int_rmul (F.args_int_rmul_2 _ _) (int___rmul___int_list k t l its.toArray n)
      ⟨e, rfl, ⟨_, e, rfl⟩, call_meets F.slot_list_mul ⟨_, e, rfl⟩ F.entry_list_mul (F.args_list_mul_2 _ _) (AutoListH.list___mul___list_int_3 l its.toArray n k t hfit hcap hlong) ⟨e, ?_⟩⟩)
  rw [hnew]
  exact ⟨.ref _, _, I.lnew (t' := s.toks) (r.rep k.toNat) (by rw [len_rep, Nat.mul_comm]; exact hz), rfl, q _ I.fresh⟩

/-! ### del xs[i] -/
end

/-! ### xs[a:b] = ys -/
section
variable {prog : Program} {w : World} {A : Around} {E : Value → Shared → Prop} {s : Shared}
end

section
variable {X : Cx}
end
end L2

namespace Att
open PySem PySem.W PySem.Calls PyProof.Rows

/-! ### the script -/
theorem ints_of_wellAll {P : Params} {h : Heap} : ∀ (ns : List Int) (vs : List Value), WellAll P h vs (ns.map WData.int) → IntsAre vs ns := by
  intro ns
  induction ns with
  | nil =>
    intro vs w
    rw [List.map_nil] at w
    cases w
    exact .nil
  | cons n ns ih =>
    intro vs w
    rw [List.map_cons] at w
    cases w with
    | cons a b =>
      cases a
      exact .cons _ _ (ih _ b)

theorem script_of {l : OpenLaw} {n : Nat} (hn : l.most = some n) {P : Params} {h : Heap} {args : List WData} {vals : List Value}
    (hpre : l.row.toRowW.claim.pre args = true) (hwl : WellAll P h vals args) :
    ∃ a vs ns, vals = [Value.ref a] ∧ args = [WData.list (ns.map WData.int)] ∧ h.get? a = some { cls := .type "list", data := .seq vs.toArray } ∧ IntsAre vs ns ∧ ns.length ≤ n := by
  have hsh : WShape.hasAll [] args [.list .int] = true := (pre_splitW hpre).1
  have hc : l.pre.holds [] { args := args } = true := (pre_splitW hpre).2
  obtain ⟨d, r, rfl, h1, h2⟩ := hasAllW_cons hsh
  obtain rfl := hasAllW_nil h2
  obtain ⟨xs, rfl, h3⟩ := hasW_list h1
  obtain ⟨ns, rfl⟩ := items_int h3
  have hlen : ns.length ≤ n := by
    unfold OpenLaw.pre at hc
    have h4 : (WTm.not (.lt (.lit (.int (n : Int))) (.len (.arg 0)))).holds [] { args := [.list (ns.map .int)] } = true := by
      have h4 := (holds_andW hc).1
      rw [hn] at h4
      exact h4
    have h5 := condW_of h4 (w_not (w_lt w_lit (w_len_list (w_arg rfl))))
    rw [List.length_map] at h5
    refine Nat.le_of_not_lt fun q => ?_
    have q' : (n : Int) < ((ns.length : Nat) : Int) := by omega
    first
      | (rw [decide_eq_true q'] at h5; exact absurd h5 (by decide))
      | (simp at h5; omega)
  cases hwl with
  | cons w1 w2 =>
    cases w2
    cases w1 with
    | list ho hall => exact ⟨_, _, ns, rfl, rfl, ho, ints_of_wellAll ns _ hall, hlen⟩

theorem post_true (l : OpenLaw) (args : List WData) : l.row.toRowW.claim.post args (.bool true) args = true :=
  postW_of (r := l.row.toRowW) (X := (true == true))
    (show WShape.has [] (.bool true) .bool = true by first | rfl | decide | simp [WShape.has, WShape.arms, WShape.armsAll])
    (show (WTm.eq .res (.lit (.bool true))).value [] { args := args, res := some (.bool true), after := args } = some (.bool (true == true)) from w_eq_bool (w_res rfl) w_lit) rfl

/-! ### the attachment: holds_open's last premise (the goal 'hc' behind k_head) from a wpAny of the law's body -/
/-- the same from a codeAny of the CALL (for a layer whose function contracts speak of calls) -/
theorem attach_call {l : OpenLaw} {n : Nat} {q : Program} {loose : List Str} {XP : (Str → Option Value) → Heap → Prop} {YP : World → Heap → Prop} {d : DefRec}
    (hn : l.most = some n) (hdf : d.params.defaults = [])
    (call : ∀ (w : World) (s₀ s₁ : Shared) (mg mb : Str → Option Value) (fa : Addr) (o : Obj) (pm cd doc : Value) (a : Addr) (vs : List Value) (ns : List Int),
      Ground q loose [] XP w s₀ mg mb s₁.heap → YP w s₁.heap →
      s₁.heap.get? fa = some o → o.data = .func (docDef d.name d.params d.body d.scope pm cd doc) → s₁.heap.CodeRec cd d.name → mg d.name = some (.ref fa) →
      s₁.heap.get? a = some { cls := .type "list", data := .seq vs.toArray } → IntsAre vs ns → ns.length ≤ n → s₁.gens = #[] →
      codeAny (model l.prog w) callerA (.call (.ref fa) ⟨[.ref a], []⟩) (fun r s' => r = .ok (.ret (.bool true)) ∧ OldK s₁.heap s'.heap ∧ s'.os = s₁.os ∧ AllBare s'.gens) s₁) :
    WalkO q loose XP YP l.row.toRowW d [] (fun f vs => PySem.call f vs) := by
  intro w s₀ s₁ mg mb G Y fa o pm cd doc dV kV ho hd hcd hD hmg hg args vals as hpre hlay hrd hwl hlo
  obtain rfl : dV = .none := Dflts.none hD hdf
  obtain rfl : kV = .none := Dflts.noKw hD
  obtain ⟨a, vs, ns, rfl, rfl, hobj, hints, hlen⟩ := script_of hn hpre hwl
  refine enter_call (codeAny_mono (call w s₀ s₁ mg mb fa o pm cd doc a vs ns G Y ho (fd_plain hd) hcd hmg hobj hints hlen hg) fun r s' hq => ?_)
  obtain ⟨rfl, h2, h3, h4⟩ := hq
  exact ⟨.inl ⟨.bool true, .bool true, [], rfl, fun _ => rfl, .bool true, post_true l _, fun _ => ⟨List.Pairwise.nil, fun _ hm => (nomatch hm)⟩⟩, h2, h3, h4⟩

/-! ### rules over ANY heap (no ledger) from facts about the written part K: the library's own take a ledger (News) for what they write -/
section
variable {prog : Program} {w : World} {A : Around} {E : Value → Shared → Prop} {s : Shared} {K : Frag}

/-! the whole heap as the ledger: makes every rule that writes through a ledger a rule over any heap -/
def ledger (h : Heap) (L d : Addr) : List (Addr × Obj) := (List.range h.objs.size).filterMap fun a => if a = L ∨ a = d then none else (h.get? a).map fun o => (a, o)
end
end Att

namespace L2
open PySem PySem.Spec PyProof.Rows

theorem vals_ints : ∀ {vs : List Value} {ns : List Int}, IntsAre vs ns → Vals (ns.map V.int) vs
  | _, _, .nil => .nil
  | _, _, .cons n t h => .cons ⟨t, rfl⟩ (vals_ints h)

/-- nothing is tracked but the script, known to the object (or it is an object of the module) -/
def Only (H : Hp) : Prop := ∀ b, H b = none ∨ ∃ o xs, H b = some (.frz o (.lst xs))

/-- THE HEAD: the law's promise, at the heap behind the top. F, the promise of the law's def, may use that base is part of the heap (so K.In base, base.Ns mainGlobals mg stand in Mod) -/
theorem law_call {P : Program} {w : World} {K : PySem.W.Frag} {mg mb : Str → Option Value} {CX : CXT} {k : Nat} {fa a : Addr} {fd : FuncData} {x : Str} {sp : Sp} {s₁ : Shared} {vs : List Value} {ns : List Int}
    (KX : K.In s₁.heap) (hns : s₁.heap.Ns mainGlobals mg) (hb : s₁.heap.Ns builtinsNs mb) (hbb : ∀ x : Str, x ≠ "__name__" → mb x = bootBuiltins x) (hlim : s₁.heap.NoLimit) (hg : s₁.gens = #[])
    (ha : s₁.heap.get? a = some { cls := .type "list", data := .seq vs.toArray }) (hi : IntsAre vs ns) (hl : ns.length ≤ sizeLine) (hr : Room k callerA)
    (F : ∀ base : Heap, K.In base → base.Ns mainGlobals mg → FnOk P w K mg base CX k fa fd [x] sp) (hbind : ∀ (s : Shared) (u : Value), BindsTo s fd ⟨[u], []⟩ [(x, u)])
    (hsp : ∀ H : Hp, Only H → SqL K H a (ns.map V.int) → sp [.ref a] H (fun v _ => v = .bl true) fun _ _ _ => False)
    (hCX : ∀ H e s', CX [] H s₁ (fun _ _ _ => False) e s' → False) :
    codeAny (model P w) callerA (.call (.ref fa) ⟨[.ref a], []⟩) (fun r s' => r = .ok (.ret (.bool true)) ∧ OldK s₁.heap s'.heap ∧ s'.os = s₁.os ∧ AllBare s'.gens) s₁ := by
  have rv := vals_ints hi
  have lenV := hi.length
  -- from an abstract heap in which nothing but the script may be tracked
  have core : ∀ H : Hp, Only H → SqL K H a (ns.map V.int) → HOk P w H s₁.heap → (∀ b, H b ≠ none → b = a) → (H a ≠ none → K.lookup a = none) →
      codeAny (model P w) callerA (.call (.ref fa) ⟨[.ref a], []⟩) (fun r s' => r = .ok (.ret (.bool true)) ∧ OldK s₁.heap s'.heap ∧ s'.os = s₁.os ∧ AllBare s'.gens) s₁ := by
    intro H hO hS hok hA hK
    have base_of : ∀ {b : Addr} {o : Obj}, s₁.heap.get? b = some o → H b = none → (hidT s₁.heap H).get? b = some o := fun e n => hidT_get e n
    have noA : ∀ {b : Addr} {o : Obj} {es : Array DictEntry} {ep : Nat}, s₁.heap.get? b = some o → o.data = .dict es ep → H b = none := fun {b o es ep} e d => by
      cases q : H b with
      | none => rfl
      | some u =>
        have e' : b = a := hA b (by rw [q]; simp)
        subst e'
        rw [ha] at e; cases e
        have d' : Data.seq vs.toArray _ = Data.dict es ep := d
        cases d'
    have nsK : ∀ {b : Addr} {m : Str → Option Value}, s₁.heap.Ns b m → (hidT s₁.heap H).Ns b m := fun {b m} ⟨o, es, ep, e, d, r⟩ => ⟨o, es, ep, base_of e (noA e d), d, r⟩
    have hKb : K.In (hidT s₁.heap H) := fun b o e => base_of (KX b o e) (by
      cases q : H b with
      | none => rfl
      | some u =>
        have e' : b = a := hA b (by rw [q]; simp)
        subst e'
        rw [hK (by rw [q]; simp)] at e; cases e)
    have hM : Mod K mg (hidT s₁.heap H) := ⟨hKb, nsK hns, ⟨mb, nsK hb, hbb⟩, let ⟨mc, h1, h2⟩ := hlim; ⟨mc, nsK h1, h2⟩⟩
    have e0 : Env0 P w K mg (hidT s₁.heap H) callerA [] s₁ H := ⟨rfl, hM, fun b o e => of_hidT e, Nat.le_of_eq (hidT_size _ _), trivial, fun b hb => absurd (show b ∈ ([] : List Addr) from hb) (by simp), hok, .of_eq hg⟩
    refine codeAny_mono ((F _ hKb (nsK hns)).run callerA [] s₁ H ⟨[.ref a], []⟩ [.ref a] [.ref a] _ _ hr e0 (hbind s₁ (.ref a)) (.cons rfl .nil) (hsp H hO hS)) fun r s' h => ?_
    cases r with
    | error e => exact (hCX H e s' h).elim
    | ok fl =>
      cases fl with
      | next => exact False.elim h
      | brk => exact False.elim h
      | cont => exact False.elim h
      | ret u =>
        obtain ⟨v, H', os, bare, un, hok', r', q⟩ := h
        have q' : v = .bl true := q
        subst q'
        obtain rfl : u = Value.bool true := r'
        refine ⟨rfl, OldK.of_keep fun b o e => ?_, os, bare⟩
        cases q : H b with
        | none => exact un.keep b o e q (by intro z; exact absurd (show b ∈ ([] : List Addr) from z) (by simp)) (by simp)
        | some u =>
          rcases hO b with z | ⟨ob, xs, z⟩
          · rw [q] at z; cases z
          · have z2 := un.frzs b ob _ z
            obtain ⟨e1, _⟩ := hok b _ z
            obtain ⟨e2, _⟩ := hok' b _ z2
            rw [e] at e1; cases e1
            exact e2
  cases hk : K.lookup a with
  | some o =>
    -- the script is one of the module's own objects
    have e := KX a o hk
    rw [ha] at e
    cases e
    refine core (fun _ => none) (fun _ => .inl rfl) (.inr ⟨_, vs.toArray, _, hk, rfl, rfl, rfl, by rw [List.size_toArray, lenV]; exact hl, by simpa using rv⟩) (fun b u z => by have z' : (none : Option HO) = some u := z; cases z') (fun b z => absurd rfl z) fun z => absurd rfl z
  | none =>
    refine core (fun b => if b = a then some (.frz { cls := .type "list", data := .seq vs.toArray } (.lst (ns.map V.int))) else none) (fun b => ?_) (.inl (.inr ⟨{ cls := .type "list", data := .seq vs.toArray }, if_pos rfl⟩)) (fun b u z => ?_) (fun b z => ?_) fun _ => hk
    · by_cases hb : b = a
      · exact .inr ⟨_, _, if_pos hb⟩
      · exact .inl (if_neg hb)
    · by_cases hb : b = a
      · have z' := (if_pos hb).symm.trans z
        cases z'
        subst hb
        exact ⟨ha, by rw [List.length_map]; exact hl, vs, _, rv, ha⟩
      · have z' := (if_neg hb).symm.trans z
        cases z'
    · by_cases hb : b = a
      · exact hb
      · exact absurd (if_neg hb) z
end L2

namespace L2
open PySem PySem.Spec PyProof.Rows

abbrev KOf {K : PySem.W.Frag} {h : Heap} (_ : K.In h) : PySem.W.Frag := K

/-- the goal that k_head leaves (case hc), from the law's promise. F gives the function object fd (K's own) once, then the promise over every base -/
theorem walk_of {l : PySem.W.OpenLaw} {n k : Nat} {q : Program} {loose : List Str} {XP : (Str → Option Value) → Heap → Prop} {YP : World → Heap → Prop} {d : DefRec} {K : Params → PySem.W.Frag} {CX : World → CXT} {sp : World → Sp} {x : Str}
    (hn : l.most = some n) (hn2 : n ≤ sizeLine) (hdf : d.params.defaults = []) (hr : Room k callerA)
    (hY : ∀ (w : World) (h : Heap), YP w h → (K w.params).In h)
    (F : ∀ (w : World) (mg : Str → Option Value) (fa : Addr) (h : Heap), (K w.params).In h → h.Ns mainGlobals mg → mg d.name = some (.ref fa) →
      ∃ fd : FuncData, (∀ (s : Shared) (u : Value), BindsTo s fd ⟨[u], []⟩ [(x, u)]) ∧
        ∀ base : Heap, (K w.params).In base → base.Ns mainGlobals mg → FnOk l.prog w (K w.params) mg base (CX w) k fa fd [x] (sp w))
    (hsp : ∀ (w : World) (H : Hp) (a : Addr) (ns : List Int), ns.length ≤ n → Only H → SqL (K w.params) H a (ns.map V.int) → sp w [.ref a] H (fun v _ => v = .bl true) fun _ _ _ => False)
    (hCX : ∀ (w : World) (H : Hp) (s : Shared) (e : Value) (s' : Shared), CX w [] H s (fun _ _ _ => False) e s' → False) :
    PySem.W.WalkO q loose XP YP l.row.toRowW d [] (fun f vs => PySem.call f vs) := by
  refine Att.attach_call hn hdf fun w s₀ s₁ mg mb fa o pm cd doc a vs ns G Y ho hd hcd hmg hobj hints hlen hg => ?_
  have KX := hY w _ Y
  obtain ⟨fd, hb, hF⟩ := F w mg fa _ KX G.T.g hmg
  exact law_call KX G.T.g G.T.b G.T.builtins G.T.nolimit hg hobj hints (Nat.le_trans hlen hn2) hr hF hb (fun H hO hS => hsp w H a ns hlen hO hS) fun H e s' => hCX w H s₁ e s'
end L2

/- THE LAST THEOREM (shape; LID, My.* are yours):
   My.Adr: a structure of the addresses that your layer names (classes, functions); My.Txt K t: a structure (Prop) of the equations over K;
   My.txt_mk : {K} {implicit addresses ..} (e1 : nsIn K mainGlobals "law" = some (some (.ref f))) (e2 : K.lookup f = some ⟨oc, od, .func (fnOf "law" "law" params body scope dV kV doc pm an cdv ct), sl⟩) (e3 : codeIn K cdv "law" = true) .. : ∃ t, My.Txt K t

set_option maxRecDepth 100000 in
set_option maxHeartbeats 0 in
theorem PySem.Challenge.cw_LID_holds : PySem.Challenge.rw_LID.Holds := by
  w_on; o_law; k_head; (case hw => w_witness2)
  k_fill
  refine L2.walk_of (l := PySem.Challenge.rw_LID) (n := 63) (k := 40) (x := "script") (CX := fun w => ..) (sp := fun _ => My.sp_law) rfl (by decide) rfl ⟨rfl, by decide, by decide⟩ (fun w h Y => PySem.W.kIn_of Y) ?F ?S ?C
  case F =>
    intro w mg fa h KX G hmg
    have T : ∃ t, My.Txt (L2.KOf KX) t := by
      dsimp only [L2.KOf]                          -- K must stand as «<heap const> w.params» for k_is
      refine' My.txt_mk ?e1 ?e2 ?e3 ..
      (case e1 => PySem.W.k_is)                    -- in the order: a name -> its address -> its object -> its parts
      (case e2 => PySem.W.k_is)
      ..
    obtain ⟨t, T⟩ := T
    have e0 := hmg.symm.trans (PySem.W.mg_of KX G T.law)
    cases e0                                       -- fa is the law's own address
    exact ⟨_, fun s u => .of_eq rfl, fun base kb nb => My.law_fn T kb nb⟩     -- if «.of_eq rfl» comes too early: refine' ⟨_, ?b, fun base kb nb => My.law_fn T kb nb⟩; exact fun s u => .of_eq rfl
  case S => exact fun w H a ns hl hO hS => ..
  case C => exact ..
(the tactic k_is has no namespace: write k_is) -/

/-! SHORT WORDS over the layer: a def of the text, its body, what a loop and a test want. -/
namespace L2
open PySem PySem.Spec PyProof.Rows

/-! ### the text by places -/
/-- the j-th statement of a class's body -/
def inClass (s : Stmt) (j : Nat) : Stmt := match s with
  | .ClassDef _ _ _ body _ _ _ _ _ _ _ => body.getD j (.Pass ⟨0, 0, 0, 0⟩)
  | _ => .Pass ⟨0, 0, 0, 0⟩
def defArgs (s : Stmt) : Arguments := match s with
  | .FunctionDef _ a _ _ _ _ _ _ _ _ => a
  | _ => { posonlyargs := [], args := [], vararg := none, kwonlyargs := [], kw_defaults := [], kwarg := none, defaults := [] }
def defBody (s : Stmt) : List Stmt := match s with
  | .FunctionDef _ _ b _ _ _ _ _ _ _ => b
  | _ => []
def defScope (s : Stmt) : Scope := match s with
  | .FunctionDef _ _ _ _ _ _ sc _ _ _ => sc
  | _ => { kind := .function, names := [], isGenerator := false, isCoroutine := false }

/-! ### no exception leaves a def -/
abbrev CX0 : CXT := fun _ _ _ _ _ _ => False
abbrev E0 : XK := fun _ _ _ => False
theorem pass0 {X : Cx} : Passes CX0 X E0 := fun _ _ _ _ _ _ _ h => h.elim

/-! ### a def (or method) of the text as it stands behind the top -/
structure Fun (K : PySem.W.Frag) (x qual : Str) (st : Stmt) (f : Addr) (fd : FuncData) : Prop where
  ex : ∃ (oc : Value) (od : Option Addr) (kV doc pm : Value) (an : Option Addr) (cdv ct : Value) (osl : Array (Option Value)),
    fd = PySem.W.fnOf x qual (defArgs st) (defBody st) (defScope st) .none kV doc pm an cdv ct ∧ K.lookup f = some ⟨oc, od, .func fd, osl⟩ ∧ PySem.W.codeIn K cdv qual = true
  kp : PySem.W.keepIn K (.ref f) = true
section
variable {P : Program} {w : World} {K : PySem.W.Frag} {mg : Str → Option Value} {base : Heap}
/-- THE RULE for a def: its body as a term of rules, and the reading of that term -/
theorem Fun.ok {x qual : Str} {st : Stmt} {f : Addr} {fd : FuncData} {N ps : List Str} {k : Nat} {sp : Sp} (F : Fun K x qual st f fd) (S : FnScope N ps (defScope st)) (len : ∀ vs H Q E, sp vs H Q E → vs.length = ps.length)
    (hbody : ∀ (cdv : Value) (A : Around) (outer : List Env) (s : Shared) (H : Hp) (vs : List V) (Q : VK) (E : XK), Room k (A.deeper (envOfC qual (defScope st) s.heap.objs.size f cdv)) → sp vs H Q E →
      ∃ t, PSs (cxOf CX0 P w K mg base N qual (defScope st) f cdv A outer s H E).nox (defBody st) t ∧ t { nx := fun _ H' => Q .non H', rt := Q } (start N vs) H) : FnOk P w K mg base CX0 (k + 1) f fd ps sp := by
  obtain ⟨oc, od, kV, doc, pm, an, cdv, ct, osl, rfl, lk, hcd⟩ := F.ex
  refine fn_of lk hcd S len fun A outer s H vs Q E hr hsp => ?_
  obtain ⟨t, h, q⟩ := hbody cdv A outer s H vs Q E hr hsp
  exact ⟨t, h.nox, q⟩
/-- how its arguments bind (no defaults): h is «fun _ _ _ _ _ _ us hl => match us, hl with | [_, _], _ => rfl», one _ a parameter -/
theorem Fun.binds {x qual : Str} {st : Stmt} {f : Addr} {fd : FuncData} {ps : List Str} (F : Fun K x qual st f fd)
    (h : ∀ (kV doc pm : Value) (an : Option Addr) (cdv ct : Value) (us : List Value), us.length = ps.length → bindArgs (PySem.W.fnOf x qual (defArgs st) (defBody st) (defScope st) .none kV doc pm an cdv ct) ⟨us, []⟩ = pure (ps.zip us)) : Binds K fd ps [] := by
  obtain ⟨oc, od, kV, doc, pm, an, cdv, ct, osl, rfl, lk, hcd⟩ := F.ex
  exact .all (h kV doc pm an cdv ct)
theorem fun_mk {x qual : Str} {st : Stmt} {f : Addr} {oc : Value} {od an : Option Addr} {osl : Array (Option Value)} {kV doc pm cdv ct : Value} (l : K.lookup f = some ⟨oc, od, .func (PySem.W.fnOf x qual (defArgs st) (defBody st) (defScope st) .none kV doc pm an cdv ct), osl⟩)
    (c : PySem.W.codeIn K cdv qual = true) (k : PySem.W.keepIn K (.ref f) = true) : Fun K x qual st f (PySem.W.fnOf x qual (defArgs st) (defBody st) (defScope st) .none kV doc pm an cdv ct) := ⟨⟨oc, od, kV, doc, pm, an, cdv, ct, osl, rfl, l, c⟩, k⟩
end
/-! ### expressions in short: the name that stands in the i-th slot -/
section
variable {X : Cx}
theorem pv (i : Nat) {x : Str} {pos : Pos} (hN : X.N[i]? = some x := by rfl) (hv : Vis X.env.scope x := by first | exact Or.inl rfl | exact Or.inr (Or.inl rfl) | exact Or.inr (Or.inr rfl)) (hd : (x == ("__debug__" : Str)) = false := by decide)
    (hcd : (x == ("__classdict__" : Str)) = false := by decide) : PE X (.Name x pos) (tVar i) := pe_var hN hv hd hcd
end

/-! ### tests -/
/-! ### heaps -/
/-- all that was tracked is as it was -/
def Same (H H' : Hp) : Prop := ∀ b o, H b = some o → H' b = some o
theorem Same.refl (H : Hp) : Same H H := fun _ _ h => h
theorem Same.trans {H H1 H2 : Hp} (a : Same H H1) (b : Same H1 H2) : Same H H2 := fun c o h => b c o (a c o h)
theorem Same.free {H H' : Hp} (e : Same H H') {l : Addr} (h : H' l = Option.none) : H l = Option.none := by
  cases q : H l with
  | none => rfl
  | some o =>
    rw [e l o q] at h
    cases h
theorem Same.seq {K : PySem.W.Frag} {H H' : Hp} {a : Addr} {xs : List V} (e : Same H H') (h : SqL K H a xs) : SqL K H' a xs := by
  rcases h with (h | ⟨o, h⟩) | h
  · exact .inl (.inl (e _ _ h))
  · exact .inl (.inr ⟨o, e _ _ h⟩)
  · exact .inr h

end L2

set_option maxHeartbeats 4000000
/-! EXT 1: list comprehensions over the hand layer -/
namespace L2
open PySem PySem.Spec PyProof.Rows

/-- the context of a comprehension's block; no exception leaves it -/
def cxIn (X : Cx) (N : List Str) (scope : Scope) (cl : List (Str × Addr)) (C : Addr) (s₀ : Shared) (H₀ : Hp) (ex : List Addr) : Cx where
  prog := X.prog
  w := X.w
  K := X.K
  mg := X.mg
  base := X.base
  A := X.A
  N := N
  s₀ := s₀
  H₀ := H₀
  env := compEnvC scope cl C X.env
  outer := X.stack
  stack := X.stack
  ex := ex
  fn := fun _ => false
  calm := X.calm
  pn := []
  xe := fun _ _ => False

/-- what the block's scope must have; own: its own names, fr: the names it reads from around, js: their slots there -/
structure CompOk (X : Cx) (fr : List Str) (js : List Nat) (scope : Scope) (cl : List (Str × Addr)) : Prop where
  clos : closureFor scope X.env = pure cl
  cell : ∀ y ∈ scope.names, y.2 ≠ .cell
  kind : scope.kind = .function
  names : ∀ y ∈ scope.names, y.2 = .local → scope.names.lookup y.1 = some .local
  clin : ∀ p ∈ cl, X.env.cells.lookup p.1 = some p.2
  has : scope.names.all (fun p => p.2 != .free || (cl.lookup p.1).isSome) = true
  fre : Paired (fun (x : Str) (j : Nat) => X.N[j]? = some x ∧ (X.env.scope.names.lookup x = some .cell ∨ X.env.scope.names.lookup x = some .free) ∧ scope.names.lookup x = some .free) fr js

theorem relabel_inv {env : Env} {x : Str} {k' : NameKind} : ∀ {names : List (Str × NameKind)},
    (names.map fun (n, k) => if (k == NameKind.free && env.scope.kind == .function && env.kindOf n == some .cell) then (n, NameKind.cell) else (n, k)).lookup x = some k' →
    ∃ k, names.lookup x = some k ∧ (k' = k ∨ (k = .free ∧ k' = .cell))
  | [], h => by simp at h
  | (n, k) :: r, h => by
    have ih := @relabel_inv env x k' r
    change List.lookup x ((if (k == NameKind.free && env.scope.kind == .function && env.kindOf n == some .cell) = true then (n, NameKind.cell) else (n, k)) :: _) = _ at h
    by_cases hc : (k == NameKind.free && env.scope.kind == .function && env.kindOf n == some .cell) = true
    · rw [if_pos hc] at h
      cases hx : x == n with
      | true =>
        simp only [List.lookup_cons, hx] at h ⊢
        cases h
        refine ⟨k, rfl, .inr ⟨?_, rfl⟩⟩
        simp only [Bool.and_eq_true, beq_iff_eq] at hc
        exact hc.1.1
      | false =>
        simp only [List.lookup_cons, hx] at h ⊢
        exact ih h
    · rw [if_neg hc] at h
      cases hx : x == n with
      | true =>
        simp only [List.lookup_cons, hx] at h ⊢
        cases h
        exact ⟨_, rfl, .inl rfl⟩
      | false =>
        simp only [List.lookup_cons, hx] at h ⊢
        exact ih h
theorem relabel_free {env : Env} {x : Str} : ∀ {names : List (Str × NameKind)}, names.lookup x = some .free →
    (names.map fun (n, k) => if (k == NameKind.free && env.scope.kind == .function && env.kindOf n == some .cell) then (n, NameKind.cell) else (n, k)).lookup x = some .cell ∨
    (names.map fun (n, k) => if (k == NameKind.free && env.scope.kind == .function && env.kindOf n == some .cell) then (n, NameKind.cell) else (n, k)).lookup x = some .free
  | [], h => by simp at h
  | (n, k) :: r, h => by
    have ih := @relabel_free env x r
    show List.lookup x ((if (k == NameKind.free && env.scope.kind == .function && env.kindOf n == some .cell) = true then (n, NameKind.cell) else (n, k)) :: _) = _ ∨ List.lookup x ((if (k == NameKind.free && env.scope.kind == .function && env.kindOf n == some .cell) = true then (n, NameKind.cell) else (n, k)) :: _) = _
    by_cases hc : (k == NameKind.free && env.scope.kind == .function && env.kindOf n == some .cell) = true
    · rw [if_pos hc]
      cases hx : x == n with
      | true => simp only [List.lookup_cons, hx]; exact .inl trivial
      | false => simp only [List.lookup_cons, hx] at h ⊢; exact ih h
    · rw [if_neg hc]
      cases hx : x == n with
      | true =>
        simp only [List.lookup_cons, hx] at h ⊢
        cases h
        exact .inr rfl
      | false => simp only [List.lookup_cons, hx] at h ⊢; exact ih h

/-- the slots at the block's begin -/
def inSt (n : Nat) (js : List Nat) (σ : St) : St := List.replicate n none ++ js.map fun j => (σ[j]?).join

/-- W: the invariant by the turn, a measure, what is made so far, the block's slots -/
def CompR (n : Nat) (js : List Nat) (g : TG) (te : TE) (σ : St) (Q : VK) (J : It) (H1 : Hp) : Prop := ∃ W : Nat → Nat → List V → St → Hp → Prop, (∃ m, W 0 m [] (inSt n js σ) H1) ∧
  ∀ i m ys σ' H', W i m ys σ' H' →
    (J.stop i H' ∧ ∀ p, H' p = none → Q (.ref p) (upd H' p (.lst ys))) ∨
    (J.go i H' ∧ ys.length < sizeLine ∧ ∃ N : V → St → Hp → Prop, (∀ y σ'' H'', N y σ'' H'' → ∃ m', m' < m ∧ W (i + 1) m' (ys ++ [y]) σ'' H'') ∧ ∀ x H2, J.yld i H' x H2 → g x σ' H2 fun σ3 H3 => te σ3 H3 fun y H4 => N y σ3 H4)
def tComp (n : Nat) (js : List Nat) (wi : TI) (g : TG) (te : TE) : TE := fun σ H Q => wi σ H fun J H1 => CompR n js g te σ Q J H1

def CompFin (X : Cx) (pins : List (Addr × Obj)) (σ : St) (Q : VK) (D C : Addr) (s' : Shared) : Prop :=
  ∃ H2, Inv X pins σ H2 s' ∧ Q (.ref D) H2 ∧ H2 C = none ∧ C ≠ X.env.locals ∧ X.s₀.heap.objs.size ≤ C ∧ (∀ x c, X.env.cells.lookup x = some c → c ≠ C) ∧ (∀ p ∈ X.pn ++ pins, p.1 ≠ C) ∧ ∃ m, s'.heap.Ns C m

section
variable {X : Cx} {own fr : List Str} {js : List Nat} {scope : Scope} {cl : List (Str × Addr)} {elt target iter : Expr} {pos : Pos} {wi : TI} {g : TG} {te : TE}

theorem cells_in (O : CompOk X fr js scope cl) {x : Str} {c : Addr} (e : cl.lookup x = some c) : X.env.cells.lookup x = some c := O.clin (x, c) (PySem.mem_of_lookup e)

/-- the block's context is sound -/
theorem cxIn_ok {pins : List (Addr × Obj)} {σ : St} {H : Hp} {s : Shared} {fp : List Addr} {C : Addr} (O : CompOk X fr js scope cl) (I : Inv X pins σ H s) (hC : s.heap.objs.size ≤ C) (hf : ∀ b ∈ fp, FpOk X pins H b) (ho : ∀ b ∈ fp, b < s.heap.objs.size) :
    (cxIn X (own ++ fr) scope cl C s H fp).Ok := by
  refine ⟨I.ok.mod, O.kind, I.ok.glob, I.ok.blt, hC, fun x y c h1 h2 => I.ok.inj x y c (cells_in O h1) (cells_in O h2), fun x hx => ?_, fun x c h => (by cases h), I.ok.hd, I.ok.frames, .inl rfl, fun b hb => ?_, I.bs, ?_, fun b o e hb => ?_, fun b hb hb' => ?_, I.stack, I.stkFree⟩
  · have key : scope.names.lookup x = some .free := by
      have hx' : (scope.names.map fun (n, k) => if (k == NameKind.free && X.env.scope.kind == .function && X.env.kindOf n == some .cell) then (n, NameKind.cell) else (n, k)).lookup x = some .cell ∨
        (scope.names.map fun (n, k) => if (k == NameKind.free && X.env.scope.kind == .function && X.env.kindOf n == some .cell) then (n, NameKind.cell) else (n, k)).lookup x = some .free := hx
      rcases hx' with h | h
      · obtain ⟨k, e, z⟩ := relabel_inv h
        rcases z with z | ⟨z, _⟩
        · subst z; exact absurd rfl (O.cell _ (PySem.mem_of_lookup e))
        · subst z; exact e
      · obtain ⟨k, e, z⟩ := relabel_inv h
        rcases z with z | ⟨_, z⟩
        · subst z; exact e
        · cases z
    have hm := List.all_eq_true.mp O.has _ (PySem.mem_of_lookup key)
    have hs : (cl.lookup x).isSome = true := by simpa using hm
    exact Option.isSome_iff_exists.mp hs
  · obtain ⟨f0, f1, f2, f3, f4, f5⟩ := hf b hb
    exact ⟨Nat.ne_of_lt (Nat.lt_of_lt_of_le (ho b hb) hC), fun x c e => f4 x c (cells_in O e)⟩
  · exact Nat.le_trans I.ok.bsz I.sz
  · obtain ⟨f0, f1, f2, f3, f4, f5⟩ := hf b hb
    rcases f3 with z | z
    · exact I.ok.noex b o e z
    · exact absurd (Nat.lt_of_lt_of_le (Heap.lt_size e) (Nat.le_trans I.ok.bsz z)) (Nat.lt_irrefl _)
  · obtain ⟨f0, f1, f2, f3, f4, f5⟩ := hf b hb
    rcases List.mem_cons.mp (I.stkSub b hb') with z | z
    · exact f1 z
    · exact f2 z

theorem Paired.idx {α β : Type} {F : α → β → Prop} : ∀ {l₁ : List α} {l₂ : List β}, Paired F l₁ l₂ → ∀ (i : Nat) (a : α) (b : β), l₁[i]? = some a → l₂[i]? = some b → F a b
  | _, _, .nil, _, _, _, h, _ => by simp at h
  | _, _, .cons r _, 0, a, b, h1, h2 => by simp at h1 h2; subst h1; subst h2; exact r
  | _, _, .cons _ t, i + 1, a, b, h1, h2 => Paired.idx t i a b (by simpa using h1) (by simpa using h2)

/-- the block begins -/
theorem cxIn_inv {pins : List (Addr × Obj)} {σ : St} {H : Hp} {s s' : Shared} {fp : List Addr} {C : Addr} {m : Str → Option Value} (O : CompOk X fr js scope cl) (hl : fr.length = js.length) (I : Inv X pins σ H s) (hC : s.heap.objs.size ≤ C) (hf : ∀ b ∈ fp, FpOk X pins H b)
    (ho : ∀ b ∈ fp, b < s.heap.objs.size) (os : s'.os = s.os) (hg : s'.gens = s.gens) (old : ∀ b o, s.heap.get? b = some o → s'.heap.get? b = some o) (hn : s'.heap.Ns C m) :
    Inv (cxIn X (own ++ fr) scope cl C s H fp) [] (inSt own.length js σ) H s' := by
  refine ⟨cxIn_ok O I hC hf ho, os, by rw [hg]; exact I.bare, Un.kept old, ⟨m, hn, fun i x v e1 e2 e3 => ?_⟩, fun x c e => ?_, I.hok.fresh hC, fun x c e => I.freeC x c (cells_in O e), fun p hp => absurd (show p ∈ ([] : List (Addr × Obj)) from hp) (by simp), I.hok.kept old, ?_⟩
  · unfold inSt at e2
    have e1' : (own ++ fr)[i]? = some x := e1
    by_cases hi : i < own.length
    · rw [List.getElem?_append_left (by simpa using hi), List.getElem?_replicate] at e2
      split at e2 <;> cases e2
    · have hi' : own.length ≤ i := Nat.le_of_not_lt hi
      rw [List.getElem?_append_right (by simpa using hi'), List.length_replicate, List.getElem?_map] at e2
      rw [List.getElem?_append_right hi'] at e1'
      cases ej : js[i - own.length]? with
      | none => rw [ej] at e2; cases e2
      | some j =>
        rw [ej] at e2
        have e2' : (σ[j]?).join = some v := Option.some.inj e2
        have eσ : σ[j]? = some (some v) := by
          cases q : σ[j]? with
          | none => rw [q] at e2'; cases e2'
          | some o => rw [q] at e2'; simp at e2'; rw [e2']
        obtain ⟨hN, hk, hs⟩ := Paired.idx O.fre _ x j e1' ej
        obtain ⟨mo, hmo, hlo⟩ := I.loc
        have vis : Vis X.env.scope x := hk.elim (fun z => .inr (.inl z)) fun z => .inr (.inr z)
        obtain ⟨u, r, l⟩ := hlo j x v hN eσ vis
        refine ⟨u, r, .inr ⟨relabel_free hs, ?_⟩⟩
        have hm := List.all_eq_true.mp O.has _ (PySem.mem_of_lookup hs)
        have hs' : (cl.lookup x).isSome = true := by simpa using hm
        obtain ⟨c, ec⟩ := Option.isSome_iff_exists.mp hs'
        refine ⟨c, ec, ?_⟩
        rcases l with ⟨k, _⟩ | ⟨_, c', e', z⟩
        · have k' : X.env.scope.names.lookup x = some .local := k
          rcases hk with q | q <;> (rw [q] at k'; cases k')
        · have := cells_in O ec
          rw [e'] at this
          cases this
          obtain ⟨oc, hoc, hd⟩ := z
          exact ⟨oc, old _ _ hoc, hd⟩
  · obtain ⟨v, oc, hoc, hd⟩ := I.cell x c (cells_in O e)
    exact ⟨v, oc, old _ _ hoc, hd⟩
  · unfold inSt
    show _ = (own ++ fr).length
    rw [List.length_append, List.length_append, List.length_replicate, List.length_map, hl]

theorem Un.adopt {fs ex : List Addr} {H H1 : Hp} {h h1 : Heap} {a : Addr} {o : HO} (u : Un fs ex H H1 h h1) (ha : h.objs.size ≤ a) (hn : H a = none) : Un fs ex H (upd H1 a o) h h1 where
  keep := u.keep
  slot := u.slot
  free := fun b ob q n hx => by rw [upd_ne (Nat.ne_of_lt (Nat.lt_of_lt_of_le (Heap.lt_size q) ha))]; exact u.free b ob q n hx
  there := u.there
  tups := fun b xs q => by rw [upd_ne (ne_of_none q hn)]; exact u.tups b xs q
  frzs := fun b ob xs q => by rw [upd_ne (ne_of_none q hn)]; exact u.frzs b ob xs q
  tbls := fun b ps q => by rw [upd_ne (ne_of_none q hn)]; exact u.tbls b ps q
theorem HOk.adopt {P : Program} {w : World} {H : Hp} {h : Heap} {a : Addr} {o : HO} (x : HOk P w H h) (hn : H a = none) (new : ObjOk P w (upd H a o) h a o) : HOk P w (upd H a o) h := fun b u e => by
  by_cases hb : b = a
  · subst hb; rw [upd_same] at e; cases e; exact new
  · rw [upd_ne hb] at e
    exact (x b u e).stay (fun c v _ q => q) (fun c q => by rw [upd_ne (ne_of_none q hn)]; exact q) fun c xs q => by rw [upd_ne (ne_of_none q hn)]; exact q

theorem comp_core {pins : List (Addr × Obj)} {σ : St} {H : Hp} {s : Shared} {fp : List Addr} {it : Addr} {tn : Nat → Heap → Prop} {J : It} {E : Value → Shared → Prop} {Q : VK} {RR : Value → Addr → Result → Shared → Prop} (O : CompOk X fr js scope cl) (hl : fr.length = js.length) (hcm : X.calm = true)
    (I : Inv X pins σ H s) (T : Turn X.prog X.w X.K target J fp it tn) (st : tn 0 s.heap) (hf : ∀ b ∈ fp, FpOk X pins H b)
    (hg : ∀ C s₀ H₀ ex, PG (cxIn X (own ++ fr) scope cl C s₀ H₀ ex) target g) (he : ∀ C s₀ H₀ ex, PE (cxIn X (own ++ fr) scope cl C s₀ H₀ ex) elt te)
    (W : Nat → Nat → List V → St → Hp → Prop) {m0 : Nat} (w0 : W 0 m0 [] (inSt own.length js σ) H)
    (turn : ∀ i m ys σ' H', W i m ys σ' H' →
      (J.stop i H' ∧ ∀ p, H' p = none → Q (.ref p) (upd H' p (.lst ys))) ∨
      (J.go i H' ∧ ys.length < sizeLine ∧ ∃ N : V → St → Hp → Prop, (∀ y σ'' H'', N y σ'' H'' → ∃ m', m' < m ∧ W (i + 1) m' (ys ++ [y]) σ'' H'') ∧ ∀ x H2, J.yld i H' x H2 → g x σ' H2 fun σ3 H3 => te σ3 H3 fun y H4 => N y σ3 H4))
    (hRR : ∀ D C s', CompFin X pins σ Q D C s' → RR (.ref D) C (.ok .next) s') :
    wpAny (model X.prog X.w) X.A (newList []) (fun acc s₃ => wpAny (model X.prog X.w) X.A (newFunctionEnv scope X.env.globals cl [] X.env.qual none .none (some X.env)) (fun cenv s₄ =>
      codeAny (model X.prog X.w) X.A (.compStart (.ListComp elt [⟨target, iter, [], 0⟩] scope pos) 0 (.ref it) acc { cenv with scope := relabel scope X.env }) (RR acc cenv.locals) s₄) E s₃) E s := by
  refine wpAny_newObj_type (wpAny_newFunctionEnv O.cell (by intro y hy; simp at hy) (fun h₁ hns₁ hsb₁ => ?_) O.kind)
  dsimp only at hns₁ hsb₁ ⊢
  generalize hH2 : s.heap.push { cls := .type "list", dict := none, data := .seq ([] : List Value).toArray } = H2 at hns₁ hsb₁ ⊢
  have hCs : H2.objs.size = s.heap.objs.size + 1 := by rw [← hH2, Heap.size_push]
  have hDC : s.heap.objs.size ≠ H2.objs.size := by rw [hCs]; exact Nat.ne_of_lt (Nat.lt_succ_self _)
  have hCge : s.heap.objs.size ≤ H2.objs.size := by rw [hCs]; exact Nat.le_succ _
  have below : ∀ b, b < s.heap.objs.size → b ≠ H2.objs.size ∧ b ≠ s.heap.objs.size := fun b hb => ⟨by rw [hCs]; exact Nat.ne_of_lt (Nat.lt_succ_of_lt hb), Nat.ne_of_lt hb⟩
  have old : ∀ b o, s.heap.get? b = some o → h₁.get? b = some o := fun b o e => hsb₁.extBut b o (below b (Heap.lt_size e)).1 (Heap.get?_push_of_some _ (hH2 ▸ Heap.get?_push_of_some _ e))
  have hacc : h₁.get? s.heap.objs.size = some { cls := .type "list", data := .seq ([] : List Value).toArray 0 } := hsb₁.extBut _ _ hDC (Heap.get?_push_of_some _ (hH2 ▸ Heap.get?_push_size _ rfl))
  have ho : ∀ b ∈ fp, b < s.heap.objs.size := fun b hb => by obtain ⟨o, e, _⟩ := T.obj 0 _ st b hb; exact Heap.lt_size e
  generalize hDe : s.heap.objs.size = D at *
  generalize hCe : H2.objs.size = C at *
  let X' : Cx := cxIn X (own ++ fr) scope cl C s H fp
  have ok' : X'.Ok := cxIn_ok O I (by rw [hDe]; exact hCge) hf (by rw [hDe]; exact ho)
  have hDfs : D ∉ X'.fs := by
    intro z
    rcases List.mem_cons.mp (I.stkSub D z) with q | q
    · exact absurd I.lt (by rw [← q, hDe]; exact Nat.lt_irrefl _)
    · exact I.nofs (Nat.le_of_eq hDe) q
  have hDfp : ∀ b ∈ fp, D ≠ b := fun b hb z => absurd (ho b hb) (by rw [z]; exact Nat.lt_irrefl _)
  have hDcell : ∀ x c, cl.lookup x = some c → c ≠ D := fun x c e z => by
    obtain ⟨v, q⟩ := I.cell x c (cells_in O e)
    exact absurd q.lt (by rw [z, hDe]; exact Nat.lt_irrefl _)
  have fpok : ∀ {H' : Hp} {pins' : List (Addr × Obj)}, (∀ p ∈ pins', p.1 = D) → (∀ b ∈ fp, H' b = none) → ∀ b ∈ fp, FpOk X' pins' H' b := fun {H' pins'} hp hn b hb => by
    obtain ⟨f0, f1, f2, f3, f4, f5⟩ := hf b hb
    refine ⟨hn b hb, (below b (ho b hb)).1, fun z => ?_, .inl hb, fun x c e => f4 x c (cells_in O e), fun p hp' => ?_⟩
    · rcases List.mem_cons.mp (I.stkSub b z) with q | q
      · exact f1 q
      · exact f2 q
    · have hp'' : p ∈ pins' := by simpa [X', cxIn] using hp'
      rw [hp p hp'']; exact hDfp b hb
  have loop : ∀ s₃ : Shared, s₃ = { s with heap := h₁, toks := s.toks + ([] : List (Str × Value)).length } →
      codeAny (model X.prog X.w) X.A (.compLoop (.ListComp elt [⟨target, iter, [], 0⟩] scope pos) 0 (.ref it) (.ref D) (compEnvC scope cl C X.env)) (RR (.ref D) C) s₃ := by
    rintro s₃ rfl
    refine PySem.W.kcp_loop (fun k s' => ∃ i σ' H' ys its nn, Inv X' [] σ' H' s' ∧ tn i s'.heap ∧ (∀ b ∈ fp, H' b = none) ∧ H' D = none ∧ s'.heap.get? D = some { cls := .type "list", data := .seq (its : List Value).toArray nn } ∧ Vals ys its ∧ ys.length ≤ sizeLine ∧ W i k ys σ' H') ?_ m0
      ⟨0, _, H, [], [], 0, cxIn_inv O hl I (by rw [hDe]; exact hCge) hf (by rw [hDe]; exact ho) rfl rfl (by intro b o e; exact old b o e) hns₁, T.keep _ _ _ st fun b _ o e => old b o e, fun b hb => (hf b hb).1, I.hok.fresh (Nat.le_of_eq hDe), hacc, .nil, Nat.zero_le _, w0⟩
    rintro k s' ⟨i, σ', H', ys, its, nn, I', st', hfn, hDn, hDo, rv, hz, w⟩
    have hlen := rv.length
    have hpD : ∀ p ∈ [(D, ({ cls := .type "list", data := .seq its.toArray nn } : Obj))], p.1 = D := fun p hp => by rw [List.mem_singleton.mp hp]
    have Ip : Inv X' [(D, ({ cls := .type "list", data := .seq its.toArray nn } : Obj))] σ' H' s' := I'.pins_of fun p hp => by
      rw [List.mem_singleton.mp hp]
      exact ⟨hDo, hDn, hDC, hDfs, fun v z => by cases z⟩
    rcases turn i k ys σ' H' w with ⟨stop, fin⟩ | ⟨go, hlt, N, hN, step⟩
    · refine wpAny_mono (T.done X' rfl rfl rfl hcm i _ s' σ' H' (fun _ _ => False) Ip (fpok hpD hfn) st' stop) (fun r s4 ⟨hr, I4⟩ => ?_) fun _ _ z => False.elim z
      subst hr
      refine hRR D C s4 ?_
      have hD4 : s4.heap.get? D = some { cls := .type "list", data := .seq its.toArray nn } := (I4.pin _ (List.mem_append_right _ (List.mem_singleton.mpr rfl))).1
      have un : Un (frs X.stack) fp H (upd H' D (.lst ys)) s.heap s4.heap := Un.adopt I4.base (Nat.le_of_eq hDe) (I.hok.fresh (Nat.le_of_eq hDe))
      have hok : HOk X.prog X.w (upd H' D (.lst ys)) s4.heap := HOk.adopt I4.hok hDn ⟨hz, its, nn, rv, hD4⟩
      refine ⟨upd H' D (.lst ys), I.call' I4.os un hok I4.bare fun b hb => ?_, fin D hDn, ?_, ?_, ?_, fun x c e z => ?_, fun p hp z => ?_, ?_⟩
      · obtain ⟨f0, f1, f2, f3, f4, f5⟩ := hf b hb
        exact ⟨f3, f1, f4, f5⟩
      · rw [upd_ne (Ne.symm hDC)]
        exact I4.free
      · exact Nat.ne_of_gt (Nat.lt_of_lt_of_le I.lt (by rw [hDe]; exact hCge))
      · exact Nat.le_trans I.sz (by rw [hDe]; exact hCge)
      · obtain ⟨v, q⟩ := I.cell x c e
        exact absurd (Nat.lt_of_lt_of_le q.lt (by rw [hDe, z]; exact hCge)) (Nat.lt_irrefl _)
      · exact absurd (Nat.lt_of_lt_of_le (Heap.lt_size (I.pin p hp).1) (by rw [hDe, z]; exact hCge)) (Nat.lt_irrefl _)
      · obtain ⟨m', hn', _⟩ := I4.loc
        exact ⟨m', hn'⟩
    · refine wpAny_mono (T.item X' rfl rfl rfl hcm i _ s' σ' H' (fun _ _ => False) Ip (fpok hpD hfn) st' go) (fun r s4 ⟨u, hr, h4⟩ => ?_) fun _ _ z => False.elim z
      subst hr
      refine wpAny_mono h4 (fun _ s5 ⟨x, H5, I5, r5, y5, st5, fr5⟩ => ?_) fun _ _ z => False.elim z
      have I5' := I5.pinned (fpok hpD fr5) (T.obj _ _ st5)
      refine wpAny_mono (hg C s H fp _ s5 σ' H5 x u _ I5' r5 (step x H5 y5)) (fun _ s6 ⟨σ6, H6, I6, q6⟩ => ?_) fun _ _ z => False.elim z
      refine wpAny_mono (he C s H fp _ s6 σ6 H6 _ I6 q6) (fun v s7 ⟨y, H7, I7, r7, n7⟩ => ?_) fun _ _ z => False.elim z
      obtain ⟨m', hm', w7⟩ := hN y σ6 H7 n7
      have hD7 := I7.pin (D, { cls := .type "list", data := .seq its.toArray nn }) (List.mem_append_right _ (List.mem_append_left _ (List.mem_singleton.mpr rfl)))
      refine append_at hD7.1 (fun h8 sb hD8 => ?_) (by rw [List.size_toArray, ← hlen]; exact hz)
      have I7' : Inv X' [] σ6 H7 s7 := I7.pins_of fun p hp => absurd hp (by simp)
      have I8 : Inv X' [] σ6 H7 { s7 with heap := h8 } := I7'.turned (t' := s7.toks) (it := D) (fun b o hb e => (sb.2 b hb).trans e) hD7.2.1 hDC (.inr (Nat.le_of_eq hDe)) hDcell (fun p hp => absurd (show p ∈ ([] : List (Addr × Obj)) from hp) (by simp))
      refine ⟨m', hm', i + 1, σ6, H7, ys ++ [y], its ++ [v], nn + 1, I8, T.keep _ _ _ st5 fun b hb o e => ?_, fun b hb => ?_, hD7.2.1, ?_, rv.append (.cons r7 .nil), ?_, w7⟩
      · exact (sb.2 b (fun z => hDfp b hb z.symm)).trans (I7.pin (b, o) (List.mem_append_right _ (List.mem_append_right _ (mem_pinsAt hb e)))).1
      · obtain ⟨o, e, d⟩ := T.obj _ _ st5 b hb
        exact (I7.pin (b, o) (List.mem_append_right _ (List.mem_append_right _ (mem_pinsAt hb e)))).2.1
      · rw [hD8, List.push_toArray]
      · rw [List.length_append, List.length_singleton]; exact hlt
  exact codeAny_compStart_list (loop _ rfl) (T.self _ 0 _ _ _ (T.keep _ _ _ st fun b _ o e => old b o e) (loop _ rfl))

/-- [elt for target in iter] -/
theorem pe_comp (O : CompOk X fr js scope cl) (hcm : X.calm = true) (hi : PI X target iter wi) (hg : ∀ C s₀ H₀ ex, PG (cxIn X (own ++ fr) scope cl C s₀ H₀ ex) target g) (he : ∀ C s₀ H₀ ex, PE (cxIn X (own ++ fr) scope cl C s₀ H₀ ex) elt te)
    (hs : ∀ x, foldedSetIterable iter X.env x = pure x := by intro _; rfl) : PE X (.ListComp elt [⟨target, iter, [], 0⟩] scope pos) (tComp own.length js wi g te) := by
  intro pins s σ H Q I h
  rw [eval_ListComp]
  refine wpAny_comprehension_free (use := none) rfl hs O.clos O.kind O.names (thn (hi pins s σ H _ I h) fun x s1 h1 => thn h1 fun itv s2 h2 => ?_)
  obtain ⟨it, fp, tn, J, H2, rfl, I2, T, st, hf, W, ⟨m0, w0⟩, turn⟩ := h2
  refine comp_core (RR := fun acc C => compPost (model X.prog X.w) X.A X.xe none (EP X pins σ Q) acc C) O (Paired.length O.fre) hcm I2 T st hf hg he W w0 turn ?_
  rintro D C s' ⟨H3, I3, q, c1, c2, c3, c4, c5, m, hn⟩
  exact ⟨m, hn, fun h' sb => ⟨.ref D, H3, I3.turned (t' := s'.toks) (it := C) (fun b o hb e => (sb.2 b hb).trans e) c1 c2 (.inr c3) c4 c5, rfl, q⟩⟩

end
/-- over a list that the element leaves as it is -/
theorem comp_list {n : Nat} {js : List Nat} {K : PySem.W.Frag} {a : Addr} {xs : List V} {g : TG} {te : TE} {σ0 : St} {H : Hp} {Q : VK} (Pv : Nat → List V → St → Hp → Prop) (hz : xs.length ≤ sizeLine) (h0 : Pv 0 [] (inSt n js σ0) H) (hl : ∀ i ys σ H, i ≤ xs.length → Pv i ys σ H → SqL K H a xs ∧ ys.length ≤ i)
    (hs : ∀ i x ys σ H, xs[i]? = some x → Pv i ys σ H → g x σ H fun σ2 H2 => te σ2 H2 fun y H3 => Pv (i + 1) (ys ++ [y]) σ2 H3) (hd : ∀ ys σ H p, Pv xs.length ys σ H → H p = none → Q (.ref p) (upd H p (.lst ys))) :
    CompR n js g te σ0 Q (Itl K a) H := by
  refine ⟨fun i m ys σ H => m = xs.length - i ∧ i ≤ xs.length ∧ Pv i ys σ H, ⟨xs.length, by simp, Nat.zero_le _, h0⟩, ?_⟩
  rintro i m ys σ H ⟨rfl, hi, p⟩
  obtain ⟨q, hy⟩ := hl i ys σ H hi p
  by_cases hlt : i < xs.length
  · refine .inr ⟨⟨xs, xs[i], q, by simp [hlt]⟩, by omega, fun y σ'' H'' => Pv (i + 1) (ys ++ [y]) σ'' H'', fun y σ' H' p' => ⟨xs.length - (i + 1), by omega, rfl, hlt, p'⟩, fun x H' y => ?_⟩
    obtain ⟨e, y⟩ := y
    subst e
    exact hs i x ys σ _ (y xs q) p
  · have e : i = xs.length := by omega
    subst e
    exact .inl ⟨⟨xs, q, Nat.le_refl _⟩, fun r hr => hd ys σ H r p hr⟩
/-- over a range -/
theorem comp_range {k : Nat} {js : List Nat} {lo : Int} {n : Nat} {g : TG} {te : TE} {σ0 : St} {H : Hp} {Q : VK} (Pv : Nat → List V → St → Hp → Prop) (hz : n ≤ sizeLine) (h0 : Pv 0 [] (inSt k js σ0) H) (hl : ∀ i ys σ H, i ≤ n → Pv i ys σ H → ys.length ≤ i)
    (hs : ∀ i ys σ H, i < n → Pv i ys σ H → g (.int (lo + i)) σ H fun σ2 H2 => te σ2 H2 fun y H3 => Pv (i + 1) (ys ++ [y]) σ2 H3) (hd : ∀ ys σ H p, Pv n ys σ H → H p = none → Q (.ref p) (upd H p (.lst ys))) :
    CompR k js g te σ0 Q (Itr lo n) H := by
  refine ⟨fun i m ys σ H => m = n - i ∧ i ≤ n ∧ Pv i ys σ H, ⟨n, by simp, Nat.zero_le _, h0⟩, ?_⟩
  rintro i m ys σ H ⟨rfl, hi, p⟩
  have hy := hl i ys σ H hi p
  by_cases hlt : i < n
  · refine .inr ⟨hlt, by omega, fun y σ'' H'' => Pv (i + 1) (ys ++ [y]) σ'' H'', fun y σ' H' p' => ⟨n - (i + 1), by omega, rfl, hlt, p'⟩, fun x H' y => ?_⟩
    obtain ⟨e, y⟩ := y
    subst e y
    exact hs i ys σ _ hlt p
  · have e : i = n := by omega
    subst e
    exact .inl ⟨Nat.le_refl _, fun r hr => hd ys σ H r p hr⟩
end L2

/-! EXT 2: more rules of operations, and the readings by their heads -/
namespace L2
open PySem PySem.Spec PyProof.Rows

/-! ### numbers of many bits -/
def Bits (k : Nat) (i : Int) : Prop := i.natAbs < 2 ^ k
theorem Bits.mono {j k : Nat} {i : Int} (h : Bits j i) (hk : j ≤ k) : Bits k i := Nat.lt_of_lt_of_le h (Nat.pow_le_pow_right (by decide) hk)
theorem Bits.mul {j k : Nat} {a b : Int} (ha : Bits j a) (hb : Bits k b) : Bits (j + k) (a * b) := by
  unfold Bits at *
  rw [Int.natAbs_mul, Nat.pow_add]
  exact Nat.mul_lt_mul_of_lt_of_lt ha hb
theorem Bits.add {k : Nat} {a b : Int} (ha : Bits k a) (hb : Bits k b) : Bits (k + 1) (a + b) := by
  unfold Bits at *
  have := Int.natAbs_add_le a b
  rw [Nat.pow_succ]; omega
theorem Bits.neg {k : Nat} {a : Int} (ha : Bits k a) : Bits k (-a) := by unfold Bits at *; rwa [Int.natAbs_neg]
theorem Bits.sub {k : Nat} {a b : Int} (ha : Bits k a) (hb : Bits k b) : Bits (k + 1) (a - b) := by rw [Int.sub_eq_add_neg]; exact ha.add hb.neg
theorem Bits.of_le {k : Nat} {a b : Int} (hb : Bits k b) (h : a.natAbs ≤ b.natAbs) : Bits k a := Nat.lt_of_le_of_lt h hb
theorem Bits.zero {k : Nat} : Bits k 0 := Nat.pow_pos (by decide)
theorem Bits.log {k : Nat} {i : Int} (h : Bits k i) (hk : 0 < k) : i.natAbs.log2 < k := by
  by_cases h0 : i.natAbs = 0
  · rw [h0]; simpa using hk
  · exact (Nat.log2_lt h0).mpr h
theorem Bits.int {k : Nat} {i : Int} (h : Bits k i) (hk : k ≤ 1000000) : Builtin.Int.intBits i ≤ 2 ^ 20 := by
  have e : (2 : Nat) ^ 20 = 1048576 := by decide
  unfold Builtin.Int.intBits
  split
  · exact Nat.zero_le _
  · rename_i hn
    have h0 : i.natAbs ≠ 0 := by
      intro z
      have : i = 0 := Int.natAbs_eq_zero.mp z
      exact hn (by simp [this])
    have := (Nat.log2_lt h0).mpr h
    omega

section
variable {X : Cx} {a b : Expr} {ta tb : TE} {pos : Pos}
def CMulB (i j : Int) : Prop := Bits 1000000 i ∧ Bits 1000000 j
theorem op_mulB : OpR X (binaryOp .Mult) (rI CMulB fun i j => .int (i * j)) := opI fun _ _ _ _ _ _ _ hc q => mul_int q (.of_bits (hc.1.int (Nat.le_refl _)) (hc.2.int (Nat.le_refl _)))
/-- % by a number above 0 -/
theorem op_modP : OpR X (binaryOp .Mod) (rI (fun _ j => 0 < j) fun i j => .int (i % j)) := op_mod
/-- // by a number above 0 of at most 9000 bits -/
def CDivP (_ j : Int) : Prop := 0 < j ∧ Bits 9000 j
theorem op_fdivP : OpR X (binaryOp .FloorDiv) (rI CDivP fun i j => .int (i / j)) := opI fun i j _ _ _ _ _ hc q => by
  refine floordiv_int (Int.ne_of_gt hc.1) ?_ (.inl (PyProof.noPylong_of_log2 (hc.2.log (by decide))))
  rw [Int.fdiv_eq_ediv_of_nonneg _ (Int.le_of_lt hc.1)]
  exact q
/-- // by any number but 0 of at most 9000 bits -/
def CDivB (_ j : Int) : Prop := j ≠ 0 ∧ Bits 9000 j
theorem op_fdivB : OpR X (binaryOp .FloorDiv) (rI CDivB fun i j => .int (i.fdiv j)) := opI fun _ _ _ _ _ _ _ hc q => floordiv_int hc.1 q (.inl (PyProof.noPylong_of_log2 (hc.2.log (by decide))))
theorem op_eqI : OpR X (compareOp .Eq) (rI0 fun i j => .bl (decide (i = j))) := opB0 fun _ _ _ _ _ _ _ q => eq_int (by rw [Bool.beq_eq_decide_eq]; exact q)
theorem op_neI : OpR X (compareOp .NotEq) (rI0 fun i j => .bl (!decide (i = j))) := opB0 fun _ _ _ _ _ _ _ q => ne_int (by rw [bne, Bool.beq_eq_decide_eq]; exact q)

/-! ### two lists of ints -/
def rEqL (K : PySem.W.Frag) : R2 := fun x y H Q => ∃ (a b : Addr) (ns ms : List Int), x = .ref a ∧ y = .ref b ∧ SqL K H a (ns.map V.int) ∧ SqL K H b (ms.map V.int) ∧ Q (.bl (decide (ns = ms))) H
def rNeL (K : PySem.W.Frag) : R2 := fun x y H Q => ∃ (a b : Addr) (ns ms : List Int), x = .ref a ∧ y = .ref b ∧ SqL K H a (ns.map V.int) ∧ SqL K H b (ms.map V.int) ∧ Q (.bl (!decide (ns = ms))) H
theorem op_eqL (hu : X.A.units + 64 < cLine) : OpR X (compareOp .Eq) (rEqL X.K) := by
  intro pins s σ H x y v u Q I rx ry h
  obtain ⟨a, b, ns, ms, rfl, rfl, ha, hb, q⟩ := h
  cases rx; cases ry
  obtain ⟨i1, r1, p1, _⟩ := I.list ha
  obtain ⟨i2, r2, p2, _⟩ := I.list hb
  exact PySem.W.eq_intsK p1.isList (intsAre_of r1) p2.isList (intsAre_of r2) hu ⟨.bl _, H, I, rfl, q⟩
theorem op_neL (hu : X.A.units + 64 < cLine) : OpR X (compareOp .NotEq) (rNeL X.K) := by
  intro pins s σ H x y v u Q I rx ry h
  obtain ⟨a, b, ns, ms, rfl, rfl, ha, hb, q⟩ := h
  cases rx; cases ry
  obtain ⟨i1, r1, p1, _⟩ := I.list ha
  obtain ⟨i2, r2, p2, _⟩ := I.list hb
  exact PySem.W.ne_intsK p1.isList (intsAre_of r1) p2.isList (intsAre_of r2) hu ⟨.bl _, H, I, rfl, q⟩

/-! ### insert -/
/-! ### isinstance -/
def rIsI (K : PySem.W.Frag) : List V → Hp → VK → Prop := fun xs H Q => ∃ (x : V) (t c : Value) (n : V) (k : Bool), xs = [x, n] ∧ RelV n c ∧ (∀ u, RelV n u → u = c) ∧ TyOf K H x t ∧ PySem.W.kitOne K t c = some k ∧ Q (.bl k) H
theorem call_isinst : CallR X (.builtin "isinstance") (rIsI X.K) := by
  intro pins s σ H xs us Q I r h
  obtain ⟨x, t, c, n, k, rfl, rn, hn, ty, e, q⟩ := h
  obtain ⟨u1, u2, rfl, r1, r2⟩ := r.two
  obtain rfl := hn u2 r2
  exact isinst_ok I r1 ty e fun tk => ⟨.bl k, H, I.tok tk, rfl, q⟩
theorem isI_ty {K : PySem.W.Frag} {H : Hp} {Q : VK} {x : V} {n : String} {t : Value} {k : Bool} (ty : TyOf K H x t) (e : PySem.W.kitOne K t (.type n) = some k) (q : Q (.bl k) H) : rIsI K [x, .ty n] H Q :=
  ⟨x, t, .type n, .ty n, k, rfl, rfl, fun _ h => h, ty, e, q⟩
theorem isI_ref {K : PySem.W.Frag} {H : Hp} {Q : VK} {x : V} {C : Addr} {t : Value} {k : Bool} (ty : TyOf K H x t) (e : PySem.W.kitOne K t (.ref C) = some k) (q : Q (.bl k) H) : rIsI K [x, .ref C] H Q :=
  ⟨x, t, .ref C, .ref C, k, rfl, rfl, fun _ h => h, ty, e, q⟩
end

/-! ### the readings, by their heads -/
section
variable {D : Ends} {σ : St} {H : Hp} {Q : VK} {t u : TS} {te ta tb : TE} {c : TT} {i : Nat} {v : V} {r : R2}
/-- the rest first -/
theorem rd_cut (P : St → Hp → Prop) (h1 : ∀ σ' H', P σ' H' → u D σ' H') (h2 : (∀ σ' H', P σ' H' → u D σ' H') → t { D with nx := u D } σ H) : tSeq t u D σ H := h2 h1
/-- state and heap anew, by what is known of them -/
theorem rd_gen (P : St → Hp → Prop) (h : P σ H) (h1 : ∀ σ' H', P σ' H' → u D σ' H') : u D σ H := h1 σ H h
theorem rd_sa (h : te σ H fun x H1 => u D (σ.set i (some x)) H1) : tSeq (tAsg te (gName i)) u D σ H := h
theorem rd_sd (h : te σ H fun _ H1 => u D σ H1) : tSeq (tDrop te) u D σ H := h
/-- an if that only returns -/
theorem rd_sr {t1 : TS} (h : c σ H fun b H1 => if b = true then t1 { D with nx := u D } σ H1 else u D σ H1) : tSeq (tIfS c t1 tNext) u D σ H := h
theorem rd_isI {K : PySem.W.Frag} {n : V} (h : ta σ H fun x H1 => rIsI K [x, n] H1 Q) : tCB (rIsI K) (tCons ta (tCons (tC n) tNil)) σ H Q := h
/-- the rest behind an if first -/
theorem rd_cutIf {t1 t2 : TS} (P : St → Hp → Prop) (h1 : ∀ σ' H', P σ' H' → u D σ' H') (h2 : (∀ σ' H', P σ' H' → u D σ' H') → c σ H fun b H1 => if b = true then t1 { D with nx := u D } σ H1 else t2 { D with nx := u D } σ H1) : tSeq (tIfS c t1 t2) u D σ H := h2 h1
theorem rd_asg (h : te σ H fun x H1 => D.nx (σ.set i (some x)) H1) : tAsg te (gName i) D σ H := h
theorem rd_ret (h : te σ H D.rt) : tRet te D σ H := h
theorem rd_if (h : c σ H fun b H1 => if b = true then t D σ H1 else u D σ H1) : tIfS c t u D σ H := h
theorem rd_B {K : Bool → Hp → Prop} (h : te σ H fun x H' => ∃ k, x = .bl k ∧ K k H') : tB te σ H K := h
theorem rd_not {K : Bool → Hp → Prop} {tt : TT} (h : tt σ H fun k H1 => K (!k) H1) : tNot tt σ H K := h
theorem rd_and {K : Bool → Hp → Prop} {t1 t2 : TT} (h : t1 σ H fun k H1 => if k = true then t2 σ H1 K else K false H1) : tAnd t1 t2 σ H K := h
theorem rd_or {K : Bool → Hp → Prop} {t1 t2 : TT} (h : t1 σ H fun k H1 => if k = true then K true H1 else t2 σ H1 K) : tOr t1 t2 σ H K := h
theorem rd_andV (h : ta σ H fun x H1 => ∃ k, x = .bl k ∧ if k = true then tb σ H1 Q else Q (.bl false) H1) : tAndV ta tb σ H Q := h
theorem rd_orV (h : ta σ H fun x H1 => ∃ k, x = .bl k ∧ if k = true then Q (.bl true) H1 else tb σ H1 Q) : tOrV ta tb σ H Q := h
theorem rd_notV (h : ta σ H fun x H1 => ∃ k, x = .bl k ∧ Q (.bl (!k)) H1) : tNotV ta σ H Q := h
theorem rd_ifE {tt : TT} (h : tt σ H fun k H1 => if k = true then ta σ H1 Q else tb σ H1 Q) : tIf tt ta tb σ H Q := h
theorem rd_true {A B : Prop} (h : A) : if true = true then A else B := by rw [if_pos rfl]; exact h
theorem rd_false {A B : Prop} (h : B) : if false = true then A else B := by rw [if_neg Bool.false_ne_true]; exact h
theorem rd_dec {p A B : Prop} [Decidable p] (h1 : p → A) (h2 : ¬ p → B) : if decide p = true then A else B := by
  by_cases hp : p
  · rw [if_pos (decide_eq_true hp)]; exact h1 hp
  · rw [if_neg (by rw [decide_eq_false hp]; exact Bool.false_ne_true)]; exact h2 hp
theorem rd_ndec {p A B : Prop} [Decidable p] (h1 : ¬ p → A) (h2 : p → B) : if (!decide p) = true then A else B := by
  by_cases hp : p
  · rw [if_neg (by rw [decide_eq_true hp]; exact Bool.false_ne_true)]; exact h2 hp
  · rw [if_pos (by rw [decide_eq_false hp]; rfl)]; exact h1 hp
end

/-- what a def of the text is, for its callers -/
structure Cal (P : Program) (w : World) (K : PySem.W.Frag) (mg : Str → Option Value) (base : Heap) (k : Nat) (x : Str) (ps : List Str) (sp : Sp) (f : Addr) (fd : FuncData) : Prop where
  ok : FnOk P w K mg base CX0 k f fd ps sp
  mg : mg x = some (.ref f)
  kp : PySem.W.keepIn K (.ref f) = true
  bd : Binds K fd ps []

/-- a new object leaves what is there -/
theorem Same.upd_new {H : Hp} {p : Addr} {o : HO} (h : H p = none) : Same H (upd H p o) := fun b u e => by rw [upd_ne (ne_of_none e h)]; exact e
theorem Same.then_new {H H1 : Hp} {p : Addr} {o : HO} (s : Same H H1) (h : H1 p = none) : Same H (upd H1 p o) := s.trans (Same.upd_new h)
theorem Same.ne {H H1 : Hp} {a p : Addr} {o : HO} (s : Same H H1) (e : H a = some o) (h : H1 p = none) : a ≠ p := ne_of_none (s a o e) h
end L2
/-! ### the same rules with the fragment as a letter (for a comprehension's block) -/
namespace L2
open PySem PySem.Spec PyProof.Rows
section
variable {X : Cx} {K : PySem.W.Frag}
theorem ix_listK (h : X.K = K) : IxR X (rIxL K) := by subst h; exact ix_list
theorem ix_tupK (h : X.K = K) : IxR X (rIxT K) := by subst h; exact ix_tup
theorem sl_listK (h : X.K = K) : SlR X (rSlL K) := by subst h; exact sl_list
def rLenL (K : PySem.W.Frag) : List V → Hp → VK → Prop := fun xs H Q => ∃ p ys, xs = [.ref p] ∧ (SqL K H p ys ∨ SqT K H p ys) ∧ Q (.int ys.length) H
theorem call_lenK (h : X.K = K) : CallR X (.builtin "len") (rLenL K) := by subst h; exact call_len_seq
def rListOf (K : PySem.W.Frag) : List V → Hp → VK → Prop := fun xs H Q => ∃ p ys, xs = [.ref p] ∧ (SqL K H p ys ∨ SqT K H p ys) ∧ ∀ l, H l = none → Q (.ref l) (upd H l (.lst ys))
theorem call_listK (h : X.K = K) : CallR X (.type "list") (rListOf K) := by subst h; exact call_list_of
theorem op_eqLK (h : X.K = K) (hu : X.A.units + 64 < cLine) : OpR X (compareOp .Eq) (rEqL K) := by subst h; exact op_eqL hu
theorem op_neLK (h : X.K = K) (hu : X.A.units + 64 < cLine) : OpR X (compareOp .NotEq) (rNeL K) := by subst h; exact op_neL hu
theorem call_isinstK (h : X.K = K) : CallR X (.builtin "isinstance") (rIsI K) := by subst h; exact call_isinst
theorem pi_listK {tg l : Expr} {tl : TE} (h : X.K = K) (hl : PE X l tl) : PI X tg l (iList K tl) := by subst h; exact pi_list hl
theorem pe_fldK {e : Expr} {ta : TE} {f : Str} {pos : Pos} (h : X.K = K) (he : PE X e ta) (hb : attributeBase e f X.env (eval e X.env) = eval e X.env) : PE X (.Attribute e f pos) (tFld K ta f) := by subst h; exact pe_fld he hb
end
end L2

/-! EXT 3: enumerate(list), reversed(list), range with a step -/
namespace L2
open PySem PySem.Spec PyProof.Rows

/-- i, the i-th item, as a new pair, of the list at a -/
def Ite (K : PySem.W.Frag) (a : Addr) : It :=
  ⟨fun i H => ∃ xs x, SqL K H a xs ∧ xs[i]? = some x, fun i H x H' => ∃ v p, x = .ref p ∧ H p = none ∧ H' = upd H p (.tup [.int i, v]) ∧ ∀ xs, SqL K H a xs → xs[i]? = some v, fun i H => ∃ xs, SqL K H a xs ∧ xs.length ≤ i⟩
theorem turn_enum {P : Program} {w : World} {K : PySem.W.Frag} {es : List Expr} {x1 : Nat} {tp : Pos} (a e it : Addr) (hne : e ≠ it) : Turn P w K (.Tuple es x1 tp) (Ite K a) [e, it] e (fun i h => (∃ old, IsEnum h e it (i : Int) old) ∧ h.IsListIter it a i) where
  mem := by simp
  obj := fun i h st b hb => by
    obtain ⟨⟨old, he⟩, hi⟩ := st
    rcases List.mem_cons.mp hb with rfl | hb
    · exact ⟨_, he, fun v z => by cases z⟩
    · have q : b = it := by simpa using hb
      subst q
      obtain ⟨o, e, c, d⟩ := hi
      exact ⟨o, e, fun v z => by rw [d] at z; cases z⟩
  keep := fun i h h' st k => by
    obtain ⟨⟨old, he⟩, hi⟩ := st
    exact ⟨⟨old, k e (by simp) _ he⟩, hi.at fun o q => k it (by simp) o q⟩
  item := by
    intro X hP hw hK hc i pins s σ H E I hf st hg
    subst hP hw hK
    obtain ⟨⟨old, he⟩, hi⟩ := st
    obtain ⟨xs, x, hq, hx⟩ := hg
    obtain ⟨its, rv, p, hz⟩ := I.list hq
    obtain ⟨u, hu, ru⟩ := rv.get hx
    refine wpAny_pyNext_enum_item he hi p.isList (x := u) (by simpa using hu) hne fun h' out hit' htup hsz kk => ?_
    have hfp : H s.heap.objs.size = none := I.hok.fresh (Nat.le_refl _)
    have nfp : ∀ b o, H b = some o → b ≠ e ∧ b ≠ it := fun b o q => ⟨fun z => (by rw [z, (hf e (by simp)).1] at q; cases q), fun z => (by rw [z, (hf it (by simp)).1] at q; cases q)⟩
    have I1 : Inv X pins σ (upd H s.heap.objs.size (.tup [.int i, x])) { s with heap := h', toks := s.toks + 1 } := by
      refine I.step (g' := s.gens) (d' := s.drawn) (ch := [e, it]) (fun b hb => ?_) (fun b o _ _ hc q _ => kk b o (fun z => hc (by simp [z])) (fun z => hc (by simp [z])) q)
        (fun b o _ _ hc q _ => ⟨o.slots, kk b o (fun z => hc (by simp [z])) (fun z => hc (by simp [z])) q⟩) (fun b o _ q n => by rw [upd_ne (Nat.ne_of_lt (Heap.lt_size q))]; exact n)
        (fun b o hc q => ⟨o, kk b o (fun z => hc (by simp [z])) (fun z => hc (by simp [z])) q⟩) (fun b ys q => by rw [upd_ne (ne_of_none q hfp)]; exact q) (fun b o ys q => by rw [upd_ne (ne_of_none q hfp)]; exact q)
        (fun b ps q => ⟨#[], by rw [upd_ne (ne_of_none q hfp), q]; simp⟩) (fun m hm => ?_) (fun b o q => ?_) I.bare
      · obtain ⟨f0, f1, f2, f3, f4, f5⟩ := hf b hb
        exact ⟨f3, f1, f4, f5⟩
      · obtain ⟨o, es', ep', ho, r⟩ := hm
        exact ⟨o, es', ep', kk _ o (Ne.symm (hf e (by simp)).2.1) (Ne.symm (hf it (by simp)).2.1) ho, r⟩
      · by_cases hb : b = s.heap.objs.size
        · subst hb
          rw [upd_same] at q
          cases q
          exact ⟨by show 2 ≤ sizeLine; decide, [.int i s.toks, u], .cons ⟨_, rfl⟩ (.cons ru .nil), ⟨_, htup, rfl, _, rfl⟩⟩
        · rw [upd_ne hb] at q
          refine (I.hok b o q).stay (fun c v hc z => ?_) (fun c z => by rw [upd_ne (ne_of_none z hfp)]; exact z) fun c ys z => by rw [upd_ne (ne_of_none z hfp)]; exact z
          rcases hc with rfl | hc
          · exact kk c v (nfp c o q).1 (nfp c o q).2 z
          · exact kk c v (nfp c _ hc).1 (nfp c _ hc).2 z
    refine ⟨_, rfl, wpAny_letOwnedTupleGo_enum out fun h'' he'' sb => ?_⟩
    obtain ⟨f0, f1, f2, f3, f4, f5⟩ := hf e (by simp)
    have hen : upd H s.heap.objs.size (.tup [.int i, x]) e = none := by
      rw [upd_ne (Nat.ne_of_lt (Heap.lt_size he))]; exact f0
    have I2 := I1.turned (h' := h'') (t' := s.toks + 1) (it := e) (fun b o hb q => (sb.2 b hb).trans q) hen f1 f3 f4 f5
    refine ⟨.ref s.heap.objs.size, _, I2, rfl, ⟨x, _, rfl, hfp, rfl, fun ys hy => by rw [I.list_inj hy hq]; exact hx⟩, ⟨⟨u, ?_⟩, hit'.at fun o q => (sb.2 it (Ne.symm hne)).trans q⟩, fun b hb => ?_⟩
    · have : ((i + 1 : Nat) : Int) = (i : Int) + 1 := by omega
      rw [this]; exact he''
    · have hlt : b < s.heap.objs.size := by
        rcases List.mem_cons.mp hb with rfl | hb
        · exact Heap.lt_size he
        · have q : b = it := by simpa using hb
          subst q
          obtain ⟨o, e1, _⟩ := hi
          exact Heap.lt_size e1
      rw [upd_ne (Nat.ne_of_lt hlt)]
      exact (hf b hb).1
  done := by
    intro X hP hw hK hc i pins s σ H E I hf st hg
    subst hP hw hK
    obtain ⟨⟨old, he⟩, hi⟩ := st
    obtain ⟨xs, hq, hx⟩ := hg
    obtain ⟨its, rv, p, hz⟩ := I.list hq
    obtain ⟨f0, f1, f2, f3, f4, f5⟩ := hf it (by simp)
    have hl := rv.length
    exact wpAny_pyNext_enum_end (I.ok.hd hc) he hi p.isList (by simp; omega) fun h' eb => ⟨rfl, I.turned (t' := s.toks) (fun b o hb e => eb b o hb e) f0 f1 f3 f4 f5⟩
  self := fun _ _ _ _ _ st h => by
    obtain ⟨⟨old, he⟩, hi⟩ := st
    exact wpAny_pyIter_enum he h
section
variable {X : Cx}
def iEnum (K : PySem.W.Frag) (ta : TA) : TI := fun σ H R => ta σ H fun vs H1 => ∃ a, vs = [.ref a] ∧ (∃ xs, SqL K H1 a xs) ∧ R (Ite K a) H1
theorem pi_enum {es : List Expr} {x1 : Nat} {tp : Pos} {a : Expr} {ta : TA} {p pos : Pos} (hg : Gl X "enumerate") (hm : X.mg "enumerate" = none) (ha : PA X [a] ta) (hs : starEach [a] X.env = [(false, eval a X.env)] := by rfl) : PI X (.Tuple es x1 tp) (.Call (.Name "enumerate" p) [a] [] pos) (iEnum X.K ta) := by
  intro pins s σ H R I h
  refine Call_ (ld_blt I hg hm boot_enumerate (PyProof.Rows.callWith_type1 (thn (ha pos pins s σ H _ I h) fun us s1 ⟨vs, H1, I1, r1, q1⟩ => ?_) hs rfl))
  obtain ⟨a', e, ⟨xs, hq⟩, q⟩ := q1
  subst e
  obtain ⟨u, rfl, ru⟩ := r1.one
  cases ru
  obtain ⟨its, rv, pl, hz⟩ := I1.list hq
  refine call_enumerate_list pl.isList fun h' he hit hsz hk => ?_
  have I2 : Inv X pins σ H1 { s1 with heap := h' } := I1.kept (t' := s1.toks) hk
  refine wpAny_pyIter_enum he ?_
  refine ⟨s1.heap.objs.size + 1, [s1.heap.objs.size + 1, s1.heap.objs.size], _, _, H1, rfl, I2, turn_enum a' _ _ (Nat.succ_ne_self _), ⟨⟨_, he⟩, hit⟩, fun b hb => ?_, q⟩
  have hb' : s1.heap.objs.size ≤ b := by
    rcases List.mem_cons.mp hb with rfl | hb
    · exact Nat.le_succ _
    · have q : b = s1.heap.objs.size := by simpa using hb
      subst q; exact Nat.le_refl _
  exact I1.fpOk hb' (I1.hok.fresh hb')
end
/-- over enumerate of a list that the body leaves as it is; the pairs lie about -/
theorem for_enum {K : PySem.W.Frag} {a : Addr} {xs : List V} {g : TG} {tb : TS} {D : Ends} {σ : St} {H : Hp} (Pv : Nat → St → Hp → Prop) (h0 : Pv 0 σ H) (hl : ∀ i σ H, i ≤ xs.length → Pv i σ H → SqL K H a xs)
    (hs : ∀ i x σ H p, xs[i]? = some x → Pv i σ H → H p = none → g (.ref p) σ (upd H p (.tup [.int i, x])) fun σ2 H2 => tb { D with nx := Pv (i + 1), ct := Pv (i + 1), bk := D.nx } σ2 H2) (hd : ∀ σ H, Pv xs.length σ H → D.nx σ H) :
    ∃ W : Nat → Nat → St → Hp → Prop, (∃ m, W 0 m σ H) ∧ ∀ i m σ H, W i m σ H →
      ((Ite K a).stop i H ∧ D.nx σ H) ∨ ((Ite K a).go i H ∧ ∃ N : St → Hp → Prop, (∀ σ' H', N σ' H' → ∃ m', m' < m ∧ W (i + 1) m' σ' H') ∧ ∀ x H', (Ite K a).yld i H x H' → g x σ H' fun σ2 H2 => tb { D with nx := N, ct := N, bk := D.nx } σ2 H2) := by
  refine ⟨fun i m σ H => m = xs.length - i ∧ i ≤ xs.length ∧ Pv i σ H, ⟨xs.length, by simp, Nat.zero_le _, h0⟩, ?_⟩
  rintro i m σ H ⟨rfl, hi, p⟩
  have q := hl i σ H hi p
  by_cases hlt : i < xs.length
  · refine .inr ⟨⟨xs, xs[i], q, by simp [hlt]⟩, Pv (i + 1), fun σ' H' p' => ⟨xs.length - (i + 1), by omega, rfl, hlt, p'⟩, fun x H' y => ?_⟩
    obtain ⟨v, r, rfl, hr, rfl, y⟩ := y
    exact hs i v σ _ r (y xs q) p hr
  · have e : i = xs.length := by omega
    subst e
    exact .inl ⟨⟨xs, q, Nat.le_refl _⟩, hd σ H p⟩
/-- the list at a from its end, as it stood (n items) -/
def Itv (K : PySem.W.Frag) (a : Addr) (xs : List V) : It :=
  ⟨fun i H => SqL K H a xs ∧ i < xs.length, fun i H x H' => H' = H ∧ xs[xs.length - 1 - i]? = some x, fun i H => xs.length ≤ i⟩
theorem turn_rev {P : Program} {w : World} {K : PySem.W.Frag} {tg : Expr} (a it : Addr) (xs : List V) : Turn P w K tg (Itv K a xs) [it] it (fun i h => i ≤ xs.length ∧ h.IsRevIter it a ((xs.length : Int) - 1 - i)) where
  mem := by simp
  obj := fun i h st b hb => by
    have e : b = it := by simpa using hb
    subst e
    obtain ⟨_, o, e, c, d⟩ := st
    exact ⟨o, e, fun v z => by rw [d] at z; cases z⟩
  keep := fun i h h' st k => ⟨st.1, st.2.at fun o e => k it (by simp) o e⟩
  item := by
    intro X hP hw hK hc i pins s σ H E I hf st hg
    subst hP hw hK
    obtain ⟨hq, hlt⟩ := hg
    obtain ⟨its, rv, p, hz⟩ := I.list hq
    have hl := rv.length
    obtain ⟨x, hx⟩ : ∃ x, xs[xs.length - 1 - i]? = some x := ⟨_, List.getElem?_eq_getElem (by omega)⟩
    obtain ⟨u, hu, ru⟩ := rv.get hx
    obtain ⟨f0, f1, f2, f3, f4, f5⟩ := hf it (by simp)
    have e1 : (xs.length : Int) - 1 - i = ((xs.length - 1 - i : Nat) : Int) := by omega
    have hit := st.2
    rw [e1] at hit
    refine wpAny_pyNext_rev_item hit p.isList (x := u) (by simpa using hu) fun h' st' sb => ?_
    have I1 : Inv X pins σ H { s with heap := h' } := I.turned (t' := s.toks) (fun b o hb e => (sb.2 b hb).trans e) f0 f1 f3 f4 f5
    obtain ⟨o, e, c, d⟩ := id st'
    refine ⟨u, rfl, go_of (s := { s with heap := h' }) e c d (by decide) ⟨x, H, I1, ru, ⟨rfl, hx⟩, ⟨hlt, ?_⟩, fun b hb => (hf b hb).1⟩⟩
    have e2 : (xs.length : Int) - 1 - ((i + 1 : Nat) : Int) = ((xs.length - 1 - i : Nat) : Int) - 1 := by omega
    rw [e2]; exact st'
  done := by
    intro X hP hw hK hc i pins s σ H E I hf st hg
    subst hP hw hK
    obtain ⟨f0, f1, f2, f3, f4, f5⟩ := hf it (by simp)
    have hle : xs.length ≤ i := hg
    have e1 : (xs.length : Int) - 1 - i = -1 := by have := st.1; omega
    have hit := st.2
    rw [e1] at hit
    exact wpAny_pyNext_rev_end (I.ok.hd hc) hit fun h' eb => ⟨rfl, I.turned (t' := s.toks) (fun b o hb e => eb b o hb e) f0 f1 f3 f4 f5⟩
  self := fun _ _ _ _ _ st h => wpAny_pyIter_revIter st.2 h
section
variable {X : Cx} {tg : Expr}
def iRev (K : PySem.W.Frag) (ta : TA) : TI := fun σ H R => ta σ H fun vs H1 => ∃ a xs, vs = [.ref a] ∧ SqL K H1 a xs ∧ R (Itv K a xs) H1
theorem pi_rev {a : Expr} {ta : TA} {p pos : Pos} (hg : Gl X "reversed") (hm : X.mg "reversed" = none) (ha : PA X [a] ta) (hs : starEach [a] X.env = [(false, eval a X.env)] := by rfl) : PI X tg (.Call (.Name "reversed" p) [a] [] pos) (iRev X.K ta) := by
  intro pins s σ H R I h
  refine Call_ (ld_blt I hg hm boot_reversed (PyProof.Rows.callWith_type1 (thn (ha pos pins s σ H _ I h) fun us s1 ⟨vs, H1, I1, r1, q1⟩ => ?_) hs rfl))
  obtain ⟨a', xs, e, hq, q⟩ := q1
  subst e
  obtain ⟨u, rfl, ru⟩ := r1.one
  cases ru
  obtain ⟨its, rv, pl, hz⟩ := I1.list hq
  have hl := rv.length
  refine call_reversed_list pl.isList ?_
  have hit : (s1.heap.push (revObj a' ((its.toArray.size : Int) - 1))).IsRevIter s1.heap.objs.size a' ((xs.length : Int) - 1 - ((0 : Nat) : Int)) := by
    have e1 : (xs.length : Int) - 1 - ((0 : Nat) : Int) = (its.toArray.size : Int) - 1 := by rw [List.size_toArray]; omega
    rw [e1]
    exact ⟨_, Heap.get?_push_size _ rfl, rfl, rfl⟩
  have I2 : Inv X pins σ H1 { s1 with heap := s1.heap.push (revObj a' ((its.toArray.size : Int) - 1)) } := I1.kept (t' := s1.toks) fun b o e => Heap.get?_push_of_some _ e
  refine wpAny_pyIter_revIter (s := { s1 with heap := s1.heap.push (revObj a' ((its.toArray.size : Int) - 1)) }) hit ?_
  refine ⟨s1.heap.objs.size, [s1.heap.objs.size], _, _, H1, rfl, I2, turn_rev a' _ xs, ⟨Nat.zero_le _, hit⟩, fun b hb => ?_, q⟩
  have e : b = s1.heap.objs.size := by simpa using hb
  subst e
  exact I1.fpOk (Nat.le_refl _) (I1.hok.fresh (Nat.le_refl _))
end
theorem for_rev {K : PySem.W.Frag} {a : Addr} {xs : List V} {g : TG} {tb : TS} {D : Ends} {σ : St} {H : Hp} (Pv : Nat → St → Hp → Prop) (h0 : Pv 0 σ H) (hl : ∀ i σ H, i ≤ xs.length → Pv i σ H → SqL K H a xs)
    (hs : ∀ i x σ H, i < xs.length → xs[xs.length - 1 - i]? = some x → Pv i σ H → g x σ H fun σ2 H2 => tb { D with nx := Pv (i + 1), ct := Pv (i + 1), bk := D.nx } σ2 H2) (hd : ∀ σ H, Pv xs.length σ H → D.nx σ H) :
    ∃ W : Nat → Nat → St → Hp → Prop, (∃ m, W 0 m σ H) ∧ ∀ i m σ H, W i m σ H →
      ((Itv K a xs).stop i H ∧ D.nx σ H) ∨ ((Itv K a xs).go i H ∧ ∃ N : St → Hp → Prop, (∀ σ' H', N σ' H' → ∃ m', m' < m ∧ W (i + 1) m' σ' H') ∧ ∀ x H', (Itv K a xs).yld i H x H' → g x σ H' fun σ2 H2 => tb { D with nx := N, ct := N, bk := D.nx } σ2 H2) := by
  refine ⟨fun i m σ H => m = xs.length - i ∧ i ≤ xs.length ∧ Pv i σ H, ⟨xs.length, by simp, Nat.zero_le _, h0⟩, ?_⟩
  rintro i m σ H ⟨rfl, hi, p⟩
  by_cases hlt : i < xs.length
  · refine .inr ⟨⟨hl i σ H hi p, hlt⟩, Pv (i + 1), fun σ' H' p' => ⟨xs.length - (i + 1), by omega, rfl, hlt, p'⟩, fun x H' y => ?_⟩
    obtain ⟨e, y⟩ := y
    subst e
    exact hs i x σ _ hlt y p
  · have e : i = xs.length := by omega
    subst e
    exact .inl ⟨Nat.le_refl _, hd σ H p⟩
end L2

/-! EXT 4: defs with defaults, methods and classes for their callers -/
namespace L2
open PySem PySem.Spec PyProof.Rows
/-- a def whose defaults lie at dV -/
structure FunD (K : PySem.W.Frag) (x qual : Str) (st : Stmt) (dV : Value) (f : Addr) (fd : FuncData) : Prop where
  ex : ∃ (oc : Value) (od : Option Addr) (kV doc pm : Value) (an : Option Addr) (cdv ct : Value) (osl : Array (Option Value)),
    fd = PySem.W.fnOf x qual (defArgs st) (defBody st) (defScope st) dV kV doc pm an cdv ct ∧ K.lookup f = some ⟨oc, od, .func fd, osl⟩ ∧ PySem.W.codeIn K cdv qual = true
  kp : PySem.W.keepIn K (.ref f) = true
section
variable {P : Program} {w : World} {K : PySem.W.Frag} {mg : Str → Option Value} {base : Heap}
theorem FunD.ok {x qual : Str} {st : Stmt} {dV : Value} {f : Addr} {fd : FuncData} {N ps : List Str} {k : Nat} {sp : Sp} (F : FunD K x qual st dV f fd) (S : FnScope N ps (defScope st)) (len : ∀ vs H Q E, sp vs H Q E → vs.length = ps.length)
    (hbody : ∀ (cdv : Value) (A : Around) (outer : List Env) (s : Shared) (H : Hp) (vs : List V) (Q : VK) (E : XK), Room k (A.deeper (envOfC qual (defScope st) s.heap.objs.size f cdv)) → sp vs H Q E →
      ∃ t, PSs (cxOf CX0 P w K mg base N qual (defScope st) f cdv A outer s H E).nox (defBody st) t ∧ t { nx := fun _ H' => Q .non H', rt := Q } (start N vs) H) : FnOk P w K mg base CX0 (k + 1) f fd ps sp := by
  obtain ⟨oc, od, kV, doc, pm, an, cdv, ct, osl, rfl, lk, hcd⟩ := F.ex
  refine fn_of lk hcd S len fun A outer s H vs Q E hr hsp => ?_
  obtain ⟨t, h, q⟩ := hbody cdv A outer s H vs Q E hr hsp
  exact ⟨t, h.nox, q⟩
theorem FunD.binds {x qual : Str} {st : Stmt} {dV : Value} {f : Addr} {fd : FuncData} {ps : List Str} (F : FunD K x qual st dV f fd)
    (h : ∀ (kV doc pm : Value) (an : Option Addr) (cdv ct : Value) (us : List Value), us.length = ps.length → bindArgs (PySem.W.fnOf x qual (defArgs st) (defBody st) (defScope st) dV kV doc pm an cdv ct) ⟨us, []⟩ = pure (ps.zip us)) : Binds K fd ps [] := by
  obtain ⟨oc, od, kV, doc, pm, an, cdv, ct, osl, rfl, lk, hcd⟩ := F.ex
  exact .all (h kV doc pm an cdv ct)
/-- the last parameters are filled by the tuple of defaults at T -/
theorem FunD.bindsD {x qual : Str} {st : Stmt} {T : Addr} {f : Addr} {fd : FuncData} {ps : List Str} {ds tup : List Value} {o : Obj} {n : Nat} (m : Nat) (F : FunD K x qual st (.ref T) f fd) (lo : K.lookup T = some o) (hs : o.data = .seq tup.toArray n) (hm : m + ds.length = ps.length)
    (h : ∀ (kV doc pm : Value) (an : Option Addr) (cdv ct : Value) (us : List Value), us.length = m → ∃ k : Option (Array Value) → Sem (List (Str × Value)),
      bindArgs (PySem.W.fnOf x qual (defArgs st) (defBody st) (defScope st) (.ref T) kV doc pm an cdv ct) ⟨us, []⟩ = seqItems? (.ref T) >>= k ∧ k (some tup.toArray) = pure (ps.zip (us ++ ds))) : Binds K fd ps ds := by
  obtain ⟨oc, od, kV, doc, pm, an, cdv, ct, osl, rfl, lk, hcd⟩ := F.ex
  intro s us KX hl
  rw [List.length_append] at hl
  obtain ⟨k, h1, h2⟩ := h kV doc pm an cdv ct us (by omega)
  exact PySem.W.binds_K (k := k) KX rfl lo hs h1 h2
theorem funD_mk {x qual : Str} {st : Stmt} {f : Addr} {oc : Value} {od an : Option Addr} {osl : Array (Option Value)} {dV kV doc pm cdv ct : Value} (l : K.lookup f = some ⟨oc, od, .func (PySem.W.fnOf x qual (defArgs st) (defBody st) (defScope st) dV kV doc pm an cdv ct), osl⟩)
    (c : PySem.W.codeIn K cdv qual = true) (k : PySem.W.keepIn K (.ref f) = true) : FunD K x qual st dV f (PySem.W.fnOf x qual (defArgs st) (defBody st) (defScope st) dV kV doc pm an cdv ct) := ⟨⟨oc, od, kV, doc, pm, an, cdv, ct, osl, rfl, l, c⟩, k⟩
end
/-- a method, for its callers -/
structure MCal (P : Program) (w : World) (K : PySem.W.Frag) (mg : Str → Option Value) (base : Heap) (k : Nat) (C : Addr) (m : Str) (ps : List Str) (sp : Sp) (f : Addr) (fd : FuncData) : Prop where
  ok : FnOk P w K mg base CX0 k f fd ps sp
  mt : Meth K C m f
  bd : Binds K fd ps []
/-- a class, for those who make its instances; ds: the defaults of __init__ -/
structure KCal (P : Program) (w : World) (K : PySem.W.Frag) (mg : Str → Option Value) (base : Heap) (k : Nat) (C : Addr) (x : Str) (ps : List Str) (sp : Sp) (f : Addr) (fd : FuncData) (ds : List Value) (dvs : List V) : Prop where
  ok : FnOk P w K mg base CX0 k f fd ps sp
  mkr : Mk K C f
  mg : mg x = some (.ref C)
  bd : Binds K fd ps []
  bdD : Binds K fd ps ds
  vd : Vals dvs ds
end L2

/-! EXT 5: list(reversed(xs)) -/
namespace L2
open PySem PySem.Spec PyProof.Rows
section
variable {prog : Program} {w : World} {A : Around} {E : Value → Shared → Prop} {s : Shared}
end
section
variable {X : Cx} {K : PySem.W.Frag}
end
end L2

/-! EXT 7: an exception of an own class is raised, and flies through defs (behind Ext4) -/
namespace L2
open PySem PySem.Spec PyProof.Rows
theorem Un.back {fs : List Addr} {H H1 : Hp} {h h1 h2 : Heap} (u : Un fs [] H H1 h h1) (k : ∀ b o, h.get? b = some o → b ∉ fs → ∃ o', h1.get? b = some o' ∧ h2.get? b = some o')
    (hf : ∀ b ∈ fs, H b = none) (hd : ∀ b ∈ fs, ∀ o, h1.get? b = some o → ∀ vs, o.data ≠ .fields vs) (sl : h1.UpToSlots h2) : Un fs [] H H1 h h2 where
  keep := fun b o e n hb hx => by
    obtain ⟨o', e1, e2⟩ := k b o e hb
    rw [u.keep b o e n hb hx] at e1
    cases e1
    exact e2
  slot := fun b o e n hb hx => by
    obtain ⟨s1, e1⟩ := u.slot b o e n hb hx
    obtain ⟨s2, e2⟩ := sl b _ e1 (hd b hb _ e1)
    exact ⟨s2, e2⟩
  free := u.free
  there := fun b o e hx => by
    by_cases hb : b ∈ fs
    · obtain ⟨s1, e1⟩ := u.slot b o e (hf b hb) hb hx
      obtain ⟨s2, e2⟩ := sl b _ e1 (hd b hb _ e1)
      exact ⟨_, e2⟩
    · obtain ⟨o', _, e2⟩ := k b o e hb
      exact ⟨o', e2⟩
  tups := u.tups
  frzs := u.frzs
  tbls := u.tbls
theorem HOk.back {P : Program} {w : World} {H : Hp} {h h' B : Heap} (x : HOk P w H h) (k : ∀ b y, H b = some y → ∃ o', h.get? b = some o' ∧ B.get? b = some o') (st : B.StaysIn h') : HOk P w H h' := fun a o e => by
  refine (x a o e).stay (fun b u hb q => ?_) (fun _ z => z) fun _ _ z => z
  have hn : ∃ y, H b = some y := by
    rcases hb with rfl | hb
    · exact ⟨_, e⟩
    · exact ⟨_, hb⟩
  obtain ⟨y, hy⟩ := hn
  obtain ⟨o', e1, e2⟩ := k b y hy
  rw [q] at e1
  cases e1
  exact st _ _ e2
section
variable {P : Program} {w : World} {K : PySem.W.Frag} {mg : Str → Option Value} {base : Heap} {N : List Str} {qual : Str} {scope : Scope} {f : Addr} {cd : Value} {A : Around} {outer : List Env} {s : Shared} {H : Hp} {E : XK} {pins : List (Addr × Obj)} {σ : St} {H1 : Hp} {s1 : Shared}
end
end L2

/-! EXT 11: range(lo, hi, -1) -/
namespace L2
open PySem PySem.Spec PyProof.Rows
def ItrD (lo : Int) (n : Nat) : It := ⟨fun i _ => i < n, fun i H x H' => H' = H ∧ x = .int (lo + i * -1), fun i _ => n ≤ i⟩
theorem turn_rangeD {P : Program} {w : World} {K : PySem.W.Frag} {tg : Expr} (it : Addr) (lo : Int) (n : Nat) : Turn P w K tg (ItrD lo n) [it] it (fun i h => IsRangeIter h it (lo + (i : Nat) * -1) ((n : Int) - (i : Nat)) (-1)) where
  mem := by simp
  obj := fun i h st b hb => by
    have e : b = it := by simpa using hb
    subst e
    exact ⟨_, st, fun v z => by
      have z' : Data.fields _ = Data.cell v := z
      cases z'⟩
  keep := fun i h h' st k => k it (by simp) _ st
  item := by
    intro X hP hw hK hc i pins s σ H E I hf st hg
    subst hP hw hK
    obtain ⟨f0, f1, f2, f3, f4, f5⟩ := hf it (by simp)
    have W := Walks.range (prog := X.prog) (w := X.w) (I.ok.hd hc) it lo (-1) n
    refine W.item i s _ _ hg st fun v h' tk hv st' kk => ?_
    obtain ⟨t, rfl⟩ := hv
    have I1 : Inv X pins σ H { s with heap := h', toks := tk } := I.turned (fun b o hb e => kk b o (by simpa using hb) e) f0 f1 f3 f4 f5
    exact ⟨_, rfl, go_of (s := { s with heap := h', toks := tk }) (n := "range_iterator") st' rfl rfl (by decide) ⟨.int (lo + i * -1), H, I1, ⟨t, rfl⟩, ⟨rfl, rfl⟩, st', fun b hb => (hf b hb).1⟩⟩
  done := by
    intro X hP hw hK hc i pins s σ H E I hf st hg
    subst hP hw hK
    obtain ⟨f0, f1, f2, f3, f4, f5⟩ := hf it (by simp)
    exact wpAny_pyNext_range_end (I.ok.hd hc) st (by have : n ≤ i := hg; omega) fun h' eb => ⟨rfl, I.turned (t' := s.toks) (fun b o hb e => eb b o hb e) f0 f1 f3 f4 f5⟩
  self := fun _ _ _ _ _ st h => wpAny_pyIter_rangeiter st h
theorem rangeSize_down (a b : Int) : Builtin.Range.rangeSize a b (-1) = if b < a then a - b else 0 := by
  unfold Builtin.Range.rangeSize
  rw [if_neg (by decide)]
  show (if a > b then (a - b - 1) / 1 + 1 else 0) = _
  rw [Int.ediv_one]
  split <;> omega
theorem small_down {a b : Int} (ha : -(2 ^ 61) ≤ a) (ha' : a < 2 ^ 61) (hb : -(2 ^ 61) ≤ b) (hb' : b < 2 ^ 61) : Builtin.Range.small a b (-1) = true := by
  unfold Builtin.Range.small
  rw [rangeSize_down]
  simp only [Builtin.Range.rangeFitsLong, Bool.and_eq_true, Bool.or_eq_true, decide_eq_true_eq, beq_iff_eq, show ¬ ((-1 : Int) > 0) by decide, if_false]
  split <;> omega
section
variable {X : Cx} {tg : Expr}
theorem range_itD {pins : List (Addr × Obj)} {σ : St} {H : Hp} {s : Shared} {R : It → Hp → Prop} {E : Value → Shared → Prop} {lo hi : Int} {t u v : Tok} {tk : Nat} (I : Inv X pins σ H s) (h1 : -(2 ^ 61) ≤ lo) (h2 : lo < 2 ^ 61) (h3 : -(2 ^ 61) ≤ hi) (h4 : hi < 2 ^ 61)
    (q : R (ItrD lo (lo - hi).toNat) H) : wpAny (model X.prog X.w) X.A (pyIter (.ref s.heap.objs.size)) (PIE X pins σ tg R) E { s with heap := s.heap.push { cls := .type "range", data := .fields #[.int lo t, .int hi u, .int (-1) v] }, toks := tk } := by
  refine wpAny_pyIter_range (IsRange.new ..) (small_down h1 h2 h3 h4) ?_
  have I1 : Inv X pins σ H { s with heap := s.heap.push { cls := .type "range", data := .fields #[.int lo t, .int hi u, .int (-1) v] }, toks := tk } := I.kept fun b o e => Heap.get?_push_of_some _ e
  refine ⟨(s.heap.push { cls := .type "range", data := .fields #[.int lo t, .int hi u, .int (-1) v] }).objs.size, [(s.heap.push { cls := .type "range", data := .fields #[.int lo t, .int hi u, .int (-1) v] }).objs.size], _, _, H, rfl,
    I1.kept (t' := tk) fun b o e => Heap.get?_push_of_some _ e, turn_rangeD _ lo (lo - hi).toNat, ?_, fun b hb => ?_, q⟩
  · have e1 : lo + ((0 : Nat) : Int) * -1 = lo := by simp
    have e2 : (((lo - hi).toNat : Nat) : Int) - ((0 : Nat) : Int) = Builtin.Range.rangeSize lo hi (-1) := by rw [rangeSize_down]; split <;> omega
    show IsRangeIter _ _ (lo + ((0 : Nat) : Int) * -1) ((((lo - hi).toNat : Nat) : Int) - ((0 : Nat) : Int)) (-1)
    rw [e1, e2]
    exact Heap.get?_push_size _ rfl
  · have e : b = (s.heap.push { cls := .type "range", data := .fields #[.int lo t, .int hi u, .int (-1) v] }).objs.size := by simpa using hb
    subst e
    exact I1.fpOk (Nat.le_refl _) (I1.hok.fresh (Nat.le_refl _))
def iRngD (ta : TA) : TI := fun σ H R => ta σ H fun vs H1 => ∃ i j : Int, vs = [.int i, .int j, .int (-1)] ∧ (-(2 ^ 61) ≤ i ∧ i < 2 ^ 61 ∧ -(2 ^ 61) ≤ j ∧ j < 2 ^ 61) ∧ R (ItrD i (i - j).toNat) H1
theorem pi_rangeD {a b c : Expr} {ta : TA} {p pos : Pos} (hg : Gl X "range") (hm : X.mg "range" = none) (ha : PA X [a, b, c] ta) (hs : starEach [a, b, c] X.env = [(false, eval a X.env), (false, eval b X.env), (false, eval c X.env)] := by rfl) (hs2 : starEach [b, c] X.env = [(false, eval b X.env), (false, eval c X.env)] := by rfl) :
    PI X tg (.Call (.Name "range" p) [a, b, c] [] pos) (iRngD ta) := by
  intro pins s σ H R I h
  refine Call_ (ld_blt I hg hm boot_range (PyProof.Rows.callWith_type1 (thn (ha pos pins s σ H _ I h) fun us s1 ⟨vs, H1, I1, r1, q1⟩ => ?_) (by rw [hs, hs2]) (by rw [hs2]; rfl)))
  obtain ⟨i, j, e, ⟨q1, q2, q3, q4⟩, q⟩ := q1
  subst e
  cases r1 with
  | cons r rr =>
    cases rr with
    | cons r' rr =>
      cases rr with
      | cons r'' rr =>
        cases rr
        obtain ⟨t, rfl⟩ := r
        obtain ⟨t', rfl⟩ := r'
        obtain ⟨t'', rfl⟩ := r''
        exact call_range_3 (by decide) (range_itD I1 q1 q2 q3 q4 q) (Or.inl (PyProof.noPylong_small (by decide)))
end
theorem for_rangeD {lo : Int} {n : Nat} {g : TG} {tb : TS} {D : Ends} {σ : St} {H : Hp} (Pv : Nat → St → Hp → Prop) (h0 : Pv 0 σ H)
    (hs : ∀ i σ H, i < n → Pv i σ H → g (.int (lo + i * -1)) σ H fun σ2 H2 => tb { D with nx := Pv (i + 1), ct := Pv (i + 1), bk := D.nx } σ2 H2) (hd : ∀ σ H, Pv n σ H → D.nx σ H) :
    ∃ W : Nat → Nat → St → Hp → Prop, (∃ m, W 0 m σ H) ∧ ∀ i m σ H, W i m σ H →
      ((ItrD lo n).stop i H ∧ D.nx σ H) ∨ ((ItrD lo n).go i H ∧ ∃ N : St → Hp → Prop, (∀ σ' H', N σ' H' → ∃ m', m' < m ∧ W (i + 1) m' σ' H') ∧ ∀ x H', (ItrD lo n).yld i H x H' → g x σ H' fun σ2 H2 => tb { D with nx := N, ct := N, bk := D.nx } σ2 H2) := by
  refine ⟨fun i m σ H => m = n - i ∧ i ≤ n ∧ Pv i σ H, ⟨n, by simp, Nat.zero_le _, h0⟩, ?_⟩
  rintro i m σ H ⟨rfl, hi, p⟩
  by_cases hlt : i < n
  · refine .inr ⟨hlt, Pv (i + 1), fun σ' H' p' => ⟨n - (i + 1), by omega, rfl, hlt, p'⟩, fun x H' y => ?_⟩
    obtain ⟨e, y⟩ := y
    subst e y
    exact hs i σ _ hlt p
  · have e : i = n := by omega
    subst e
    exact .inl ⟨Nat.le_refl _, hd σ H p⟩
end L2

/-! EXT 14: lists of lists of ints (behind Ext2) -/
namespace L2
open PySem PySem.Spec PyProof.Rows
section
variable {X : Cx} {K : PySem.W.Frag}
end
end L2

namespace L2
open PySem PySem.Spec PyProof.Rows
theorem law_callS {P : Program} {w : World} {K : PySem.W.Frag} {mg mb : Str → Option Value} {CX : CXT} {k : Nat} {fa a : Addr} {fd : FuncData} {x : Str} {sp : Sp} {s₁ : Shared} {vs : List Value} {ns : List Int}
    (KX : K.In s₁.heap) (hns : s₁.heap.Ns mainGlobals mg) (hb : s₁.heap.Ns builtinsNs mb) (hbb : ∀ x : Str, x ≠ "__name__" → mb x = bootBuiltins x) (hlim : s₁.heap.NoLimit) (hse : s₁.heap.NoSeer) (hg : s₁.gens = #[])
    (ha : s₁.heap.get? a = some { cls := .type "list", data := .seq vs.toArray }) (hi : IntsAre vs ns) (hl : ns.length ≤ sizeLine) (hr : Room k callerA)
    (F : ∀ base : Heap, K.In base → base.Ns mainGlobals mg → base.NoSeer → FnOk P w K mg base CX k fa fd [x] sp) (hbind : ∀ (s : Shared) (u : Value), BindsTo s fd ⟨[u], []⟩ [(x, u)])
    (hsp : ∀ H : Hp, Only H → SqL K H a (ns.map V.int) → sp [.ref a] H (fun v _ => v = .bl true) fun _ _ _ => False)
    (hCX : ∀ H e s', CX [] H s₁ (fun _ _ _ => False) e s' → False) :
    codeAny (model P w) callerA (.call (.ref fa) ⟨[.ref a], []⟩) (fun r s' => r = .ok (.ret (.bool true)) ∧ OldK s₁.heap s'.heap ∧ s'.os = s₁.os ∧ AllBare s'.gens) s₁ := by
  have rv := vals_ints hi
  have lenV := hi.length
  -- from an abstract heap in which nothing but the script may be tracked
  have core : ∀ H : Hp, Only H → SqL K H a (ns.map V.int) → HOk P w H s₁.heap → (∀ b, H b ≠ none → b = a) → (H a ≠ none → K.lookup a = none) →
      codeAny (model P w) callerA (.call (.ref fa) ⟨[.ref a], []⟩) (fun r s' => r = .ok (.ret (.bool true)) ∧ OldK s₁.heap s'.heap ∧ s'.os = s₁.os ∧ AllBare s'.gens) s₁ := by
    intro H hO hS hok hA hK
    have base_of : ∀ {b : Addr} {o : Obj}, s₁.heap.get? b = some o → H b = none → (hidT s₁.heap H).get? b = some o := fun e n => hidT_get e n
    have noA : ∀ {b : Addr} {o : Obj} {es : Array DictEntry} {ep : Nat}, s₁.heap.get? b = some o → o.data = .dict es ep → H b = none := fun {b o es ep} e d => by
      cases q : H b with
      | none => rfl
      | some u =>
        have e' : b = a := hA b (by rw [q]; simp)
        subst e'
        rw [ha] at e; cases e
        have d' : Data.seq vs.toArray _ = Data.dict es ep := d
        cases d'
    have nsK : ∀ {b : Addr} {m : Str → Option Value}, s₁.heap.Ns b m → (hidT s₁.heap H).Ns b m := fun {b m} ⟨o, es, ep, e, d, r⟩ => ⟨o, es, ep, base_of e (noA e d), d, r⟩
    have hKb : K.In (hidT s₁.heap H) := fun b o e => base_of (KX b o e) (by
      cases q : H b with
      | none => rfl
      | some u =>
        have e' : b = a := hA b (by rw [q]; simp)
        subst e'
        rw [hK (by rw [q]; simp)] at e; cases e)
    have hM : Mod K mg (hidT s₁.heap H) := ⟨hKb, nsK hns, ⟨mb, nsK hb, hbb⟩, let ⟨mc, h1, h2⟩ := hlim; ⟨mc, nsK h1, h2⟩⟩
    have hSb : (hidT s₁.heap H).NoSeer := by
      obtain ⟨⟨mc, c1, c2, c3⟩, ⟨mm, m1, m2⟩, ⟨mb', b1, b2⟩, ⟨mg', bm, ob, g1, g2, g3, g4, g5⟩⟩ := hse
      refine ⟨⟨mc, nsK c1, c2, c3⟩, ⟨mm, nsK m1, m2⟩, ⟨mb', nsK b1, b2⟩, ⟨mg', bm, ob, nsK g1, g2, base_of g3 ?_, g4, g5⟩⟩
      cases q : H bm with
      | none => rfl
      | some u =>
        have e' : bm = a := hA bm (by rw [q]; simp)
        rw [e', ha] at g3
        cases g3
        exact absurd (Value.type.inj g4) (by decide)
    have e0 : Env0 P w K mg (hidT s₁.heap H) callerA [] s₁ H := ⟨rfl, hM, fun b o e => of_hidT e, Nat.le_of_eq (hidT_size _ _), trivial, fun b hb => absurd (show b ∈ ([] : List Addr) from hb) (by simp), hok, .of_eq hg⟩
    refine codeAny_mono ((F _ hKb (nsK hns) hSb).run callerA [] s₁ H ⟨[.ref a], []⟩ [.ref a] [.ref a] _ _ hr e0 (hbind s₁ (.ref a)) (.cons rfl .nil) (hsp H hO hS)) fun r s' h => ?_
    cases r with
    | error e => exact (hCX H e s' h).elim
    | ok fl =>
      cases fl with
      | next => exact False.elim h
      | brk => exact False.elim h
      | cont => exact False.elim h
      | ret u =>
        obtain ⟨v, H', os, bare, un, hok', r', q⟩ := h
        have q' : v = .bl true := q
        subst q'
        obtain rfl : u = Value.bool true := r'
        refine ⟨rfl, OldK.of_keep fun b o e => ?_, os, bare⟩
        cases q : H b with
        | none => exact un.keep b o e q (by intro z; exact absurd (show b ∈ ([] : List Addr) from z) (by simp)) (by simp)
        | some u =>
          rcases hO b with z | ⟨ob, xs, z⟩
          · rw [q] at z; cases z
          · have z2 := un.frzs b ob _ z
            obtain ⟨e1, _⟩ := hok b _ z
            obtain ⟨e2, _⟩ := hok' b _ z2
            rw [e] at e1; cases e1
            exact e2
  cases hk : K.lookup a with
  | some o =>
    -- the script is one of the module's own objects
    have e := KX a o hk
    rw [ha] at e
    cases e
    refine core (fun _ => none) (fun _ => .inl rfl) (.inr ⟨_, vs.toArray, _, hk, rfl, rfl, rfl, by rw [List.size_toArray, lenV]; exact hl, by simpa using rv⟩) (fun b u z => by have z' : (none : Option HO) = some u := z; cases z') (fun b z => absurd rfl z) fun z => absurd rfl z
  | none =>
    refine core (fun b => if b = a then some (.frz { cls := .type "list", data := .seq vs.toArray } (.lst (ns.map V.int))) else none) (fun b => ?_) (.inl (.inr ⟨{ cls := .type "list", data := .seq vs.toArray }, if_pos rfl⟩)) (fun b u z => ?_) (fun b z => ?_) fun _ => hk
    · by_cases hb : b = a
      · exact .inr ⟨_, _, if_pos hb⟩
      · exact .inl (if_neg hb)
    · by_cases hb : b = a
      · have z' := (if_pos hb).symm.trans z
        cases z'
        subst hb
        exact ⟨ha, by rw [List.length_map]; exact hl, vs, _, rv, ha⟩
      · have z' := (if_neg hb).symm.trans z
        cases z'
    · by_cases hb : b = a
      · exact hb
      · exact absurd (if_neg hb) z
theorem walk_ofS {l : PySem.W.OpenLaw} {n k : Nat} {q : Program} {loose : List Str} {XP : (Str → Option Value) → Heap → Prop} {YP : World → Heap → Prop} {d : DefRec} {K : Params → PySem.W.Frag} {CX : World → CXT} {sp : World → Sp} {x : Str}
    (hi : PyProof.Rows.importsNone q = true) (hn : l.most = some n) (hn2 : n ≤ sizeLine) (hdf : d.params.defaults = []) (hr : Room k callerA)
    (hY : ∀ (w : World) (h : Heap), YP w h → (K w.params).In h)
    (F : ∀ (w : World) (mg : Str → Option Value) (fa : Addr) (h : Heap), (K w.params).In h → h.Ns mainGlobals mg → mg d.name = some (.ref fa) →
      ∃ fd : FuncData, (∀ (s : Shared) (u : Value), BindsTo s fd ⟨[u], []⟩ [(x, u)]) ∧
        ∀ base : Heap, (K w.params).In base → base.Ns mainGlobals mg → base.NoSeer → FnOk l.prog w (K w.params) mg base (CX w) k fa fd [x] (sp w))
    (hsp : ∀ (w : World) (H : Hp) (a : Addr) (ns : List Int), ns.length ≤ n → Only H → SqL (K w.params) H a (ns.map V.int) → sp w [.ref a] H (fun v _ => v = .bl true) fun _ _ _ => False)
    (hCX : ∀ (w : World) (H : Hp) (s : Shared) (e : Value) (s' : Shared), CX w [] H s (fun _ _ _ => False) e s' → False) :
    PySem.W.WalkO q loose XP YP l.row.toRowW d [] (fun f vs => PySem.call f vs) := by
  refine Att.attach_call hn hdf fun w s₀ s₁ mg mb fa o pm cd doc a vs ns G Y ho hd hcd hmg hobj hints hlen hg => ?_
  have KX := hY w _ Y
  obtain ⟨fd, hb, hF⟩ := F w mg fa _ KX G.T.g hmg
  exact law_callS KX G.T.g G.T.b G.T.builtins G.T.nolimit (G.T.seer hi) hg hobj hints (Nat.le_trans hlen hn2) hr hF hb (fun H hO hS => hsp w H a ns hlen hO hS) fun H e s' => hCX w H s₁ e s'
end L2
/-! EXT 16: // by numbers of any size: what the big division asks of the heap stands from the start (ext16.py makes the rest) -/
namespace L2
open PySem PySem.Spec PyProof.Rows
section
variable {X : Cx} {e : Env} {l : List Env}
theorem room_big {pins : List (Addr × Obj)} {σ : St} {H : Hp} {s : Shared} (hs : X.base.NoSeer) (ht : X.prog.given.tree = none) (hd : X.A.depth + 100 < recursionLimit) (hst : X.stack = e :: l) (h1 : e.scope.isGenerator = false) (h2 : e.scope.isCoroutine = false) (h3 : e.builtins = builtinsNs) (h4 : e.globals = mainGlobals) (I : Inv X pins σ H s) : PylongRoom (model X.prog X.w) X.A s :=
  PylongRoom.of (I.ok.mod.nolimit.keeps I.bk) hd (SeerAt.of (hs.keeps I.bk) ht (by rw [I.ok.frames, hst]) h1 h2 h3 h4)
/-- // by a number above 0 of any size -/
theorem op_fdivS (hs : X.base.NoSeer) (ht : X.prog.given.tree = none) (hd : X.A.depth + 100 < recursionLimit) (hst : X.stack = e :: l) (h1 : e.scope.isGenerator = false) (h2 : e.scope.isCoroutine = false) (h3 : e.builtins = builtinsNs) (h4 : e.globals = mainGlobals) : OpR X (binaryOp .FloorDiv) (rI (fun _ j => 0 < j) fun i j => .int (i / j)) := by
  intro pins s σ H x y v u Q I rx ry h
  obtain ⟨i, j, rfl, rfl, hj, q⟩ := h
  obtain ⟨t, rfl⟩ := rx
  obtain ⟨t', rfl⟩ := ry
  have hj' : (0 : Int) < j := hj
  refine floordiv_int (Int.ne_of_gt hj') ?_ (.inr (room_big hs ht hd hst h1 h2 h3 h4 I))
  rw [Int.fdiv_eq_ediv_of_nonneg _ (Int.le_of_lt hj')]
  exact ⟨.int (i / j), H, I.tok _, ⟨_, rfl⟩, q⟩
end
end L2

/-! EXT 17: max(list, default=e), any(list) (behind Ext2) -/
namespace L2
open PySem PySem.Spec PyProof.Rows
theorem args_maxD (a v : Value) : argsOk "max" ⟨[a], [(Str.ofString "default", v)]⟩ := by unfold argsOk; kernel_rfl
/-- M is the greatest of the first n -/
def Top (val : Nat → Int) (n : Nat) (M : Int) : Prop := (∃ i, i < n ∧ val i = M) ∧ ∀ i, i < n → val i ≤ M
theorem Top.more {val : Nat → Int} {n : Nat} {M : Int} (h : Top val n M) (hn : val n > M) : Top val (n + 1) (val n) :=
  ⟨⟨n, by omega, rfl⟩, fun i hi => by
    by_cases e : i = n
    · subst e; exact Int.le_refl _
    · have := h.2 i (by omega); omega⟩
theorem Top.less {val : Nat → Int} {n : Nat} {M : Int} (h : Top val n M) (hn : ¬ val n > M) : Top val (n + 1) M :=
  ⟨let ⟨i, hi, e⟩ := h.1; ⟨i, by omega, e⟩, fun i hi => by
    by_cases e : i = n
    · subst e; omega
    · exact h.2 i (by omega)⟩
section
variable {prog : Program} {w : World} {A : Around} {R : Result → Shared → Prop} {I S : Addr} {fp wr : List Addr} {n : Nat} {P : Nat → Value → Prop} {St : Nat → Heap → Prop} {val : Nat → Int} {d : Value}
theorem maxD_name : (toString "max" ++ toString ".loop" : String) = "max.loop" := by decide
theorem maxD_loop (W : Walks prog w A.in1 I fp wr n P St) (hval : ∀ i v, P i v → ∃ t, v = .int (val i) t) (hSf : S ∉ fp) :
    ∀ (k j : Nat) (s : Shared) (m : Int) (t : Tok) (c : Nat), n - j = k → j ≤ n → St j s.heap → Top val j m →
    s.heap.get? S = some { cls := .type "list", dict := none, data := .seq #[.int m t, .int m t] c, slots := #[] } →
    (∀ M t h' tk, Top val n M → (∀ b o, b ∉ wr → b ≠ S → s.heap.get? b = some o → h'.get? b = some o) → R (.ok (.ret (.int M t))) { s with heap := h', toks := tk }) →
    codeAny (model prog w) A (.builtin "max.loop" ⟨[.ref I, .none, .ref S], [("default", d)]⟩) R s := by
  have hSw : S ∉ wr := fun h => hSf (W.sub _ h)
  have cm := CmpOf.ints_gt (prog := prog) (w := w) (A := A.in1) (P := fun i v => ∃ t, v = .int (val i) t) val (fun _ _ h => h)
  intro k
  induction k with
  | zero =>
    intro j s m t c hk hj hst hT hS hR
    have hin : j = n := by omega
    subst hin
    refine codeAny_builtin F.entry_max_loop ?_
    rw [Around.under_plainId F.plain_max_loop _]
    refine wpAny_bind (wpAny_seqItems hS rfl ?_)
    show wpAny _ A.in1 (tryCatch (pyNext (.ref I)) _ >>= _) _ _ s
    refine wpAny_bind (wpAny_tryCatch (W.done s _ _ hst fun h' tk hk' => ?_))
    show wpAny _ A.in1 (updateSeq S (fun _ => #[]) >>= _) _ _ _
    refine wpAny_bind (wpAny_updateSeq (hk' S _ hSw hS) rfl (wpAny_bind (wpAny_letGo (wpAny_pure ?_))))
    exact hR m t _ tk hT fun b o hb hbS e => (Heap.get?_update_other _ _ (Ne.symm hbS)).trans (hk' b o hb e)
  | succ k ih =>
    intro j s m t c hk hj hst hT hS hR
    have hlt : j < n := by omega
    refine codeAny_builtin F.entry_max_loop ?_
    rw [Around.under_plainId F.plain_max_loop _]
    refine wpAny_bind (wpAny_seqItems hS rfl ?_)
    show wpAny _ A.in1 (tryCatch (pyNext (.ref I)) _ >>= _) _ _ s
    refine wpAny_bind (wpAny_tryCatch (W.item j s _ _ hlt hst fun v h' tk hP hst' hk' => ?_))
    have hS' := hk' S _ hSw hS
    obtain ⟨u, rfl⟩ := hval j v hP
    obtain ⟨i0, _, e0⟩ := hT.1
    show wpAny _ A.in1 (tryCatch (holding [_, _] (richCompare .Gt (.int (val j) u) (.int m t) >>= _)) _ >>= _) _ _ _
    refine wpAny_bind (wpAny_tryCatch (wpAny_holding (wpAny_bind (cm j i0 _ _ _ _ _ ⟨u, rfl⟩ ⟨t, by rw [e0]⟩ ?_))))
    refine wpAny_bind (wpAny_holding (wpAny_truthy_bool ?_))
    refine wpAny_bind (wpAny_letGo (wpAny_pure ?_))
    show wpAny _ A.in1 (if decide (val j > val i0) = true then _ else _) _ _ _
    rw [e0]
    by_cases hb : val j > m
    · rw [decide_eq_true hb]
      simp only [if_true]
      refine wpAny_bind ?_
      refine wpAny_updateSeq hS' rfl (wpAny_bind (wpAny_letGo ?_))
      rw [maxD_name]
      refine wpAny_pure ⟨plainId_quiet F.plain_max_loop _, ih (j + 1) _ (val j) u _ (by omega) hlt (W.frame _ _ _ hst' fun b hbf o e => ?_) (hT.more hb) (Heap.get?_update_self _ hS' rfl) fun M t' h'' tk'' hM hk'' => ?_⟩
      · exact (Heap.get?_update_other _ _ (fun h : S = b => hSf (h ▸ hbf))).trans e
      · exact hR M t' h'' tk'' hM fun b o hbw hbS e => hk'' b o hbw hbS ((Heap.get?_update_other _ _ (Ne.symm hbS)).trans (hk' b o hbw e))
    · rw [decide_eq_false hb]
      simp only [Bool.false_eq_true, if_false]
      refine wpAny_bind (wpAny_letGo ?_)
      rw [maxD_name]
      refine wpAny_pure ⟨plainId_quiet F.plain_max_loop _, ih (j + 1) _ m t c (by omega) hlt hst' (hT.less hb) hS' fun M t' h'' tk'' hM hk'' => ?_⟩
      exact hR M t' h'' tk'' hM fun b o hbw hbS e => hk'' b o hbw hbS (hk' b o hbw e)
theorem maxD_first (W : Walks prog w A.in1 I fp wr n P St) (hval : ∀ i v, P i v → ∃ t, v = .int (val i) t) (hSf : S ∉ fp) {s : Shared} {c : Nat} (hst : St 0 s.heap)
    (hS : s.heap.get? S = some { cls := .type "list", dict := none, data := .seq #[] c, slots := #[] })
    (h0 : n = 0 → ∀ h' tk, (∀ b o, b ∉ wr → b ≠ S → s.heap.get? b = some o → h'.get? b = some o) → R (.ok (.ret d)) { s with heap := h', toks := tk })
    (hR : ∀ M t h' tk, Top val n M → (∀ b o, b ∉ wr → b ≠ S → s.heap.get? b = some o → h'.get? b = some o) → R (.ok (.ret (.int M t))) { s with heap := h', toks := tk }) :
    codeAny (model prog w) A (.builtin "max.loop" ⟨[.ref I, .none, .ref S], [("default", d)]⟩) R s := by
  have hSw : S ∉ wr := fun h => hSf (W.sub _ h)
  refine codeAny_builtin F.entry_max_loop ?_
  rw [Around.under_plainId F.plain_max_loop _]
  refine wpAny_bind (wpAny_seqItems hS rfl ?_)
  show wpAny _ A.in1 (tryCatch (pyNext (.ref I)) _ >>= _) _ _ s
  by_cases hn : n = 0
  · subst hn
    refine wpAny_bind (wpAny_tryCatch (W.done s _ _ hst fun h' tk hk' => ?_))
    refine wpAny_bind (wpAny_rule (wpAny_pure ?_))
    exact h0 rfl h' tk fun b o hb _ e => hk' b o hb e
  · refine wpAny_bind (wpAny_tryCatch (W.item 0 s _ _ (by omega) hst fun v h' tk hP hst' hk' => ?_))
    have hS' := hk' S _ hSw hS
    obtain ⟨u, rfl⟩ := hval 0 v hP
    show wpAny _ A.in1 (updateSeq S (fun _ => #[.int (val 0) u, .int (val 0) u]) >>= _) _ _ _
    refine wpAny_bind (wpAny_updateSeq hS' rfl ?_)
    rw [maxD_name]
    refine wpAny_pure ⟨plainId_quiet F.plain_max_loop _, maxD_loop W hval hSf _ 1 _ (val 0) u _ rfl (by omega) (W.frame _ _ _ hst' fun b hbf o e => ?_) ⟨⟨0, by omega, rfl⟩, fun i hi => ?_⟩ (Heap.get?_update_self _ hS' rfl) fun M t h'' tk'' hM hk'' => ?_⟩
    · exact (Heap.get?_update_other _ _ (fun h : S = b => hSf (h ▸ hbf))).trans e
    · have : i = 0 := by omega
      subst this; exact Int.le_refl _
    · exact hR M t h'' tk'' hM fun b o hbw hbS e => hk'' b o hbw hbS ((Heap.get?_update_other _ _ (Ne.symm hbS)).trans (hk' b o hbw e))
end
section
variable {prog : Program} {w : World} {A : Around} {E : Value → Shared → Prop} {s : Shared} {l : Addr} {xs : Array (Int × Tok)} {d : Value}
theorem call_maxD {Q : Value → Shared → Prop} (hh : A.handled = none) (hl : s.heap.IsList l (intItems xs))
    (h0 : xs.size = 0 → ∀ h' tk, (∀ b o, s.heap.get? b = some o → h'.get? b = some o) → Q d { s with heap := h', toks := tk })
    (h : ∀ M t h' tk, Top (numAt xs) xs.size M → (∀ b o, s.heap.get? b = some o → h'.get? b = some o) → Q (.int M t) { s with heap := h', toks := tk }) :
    wpAny (model prog w) A (call (.builtin "max") [.ref l] [("default", d)]) Q E s := by
  refine wpAny_call (codeAny_call_builtin F.plain_max F.entry_max ?_)
  simp only [checkBuiltinCall, F.kind_max]
  have key : wpAny (model prog w) A.in1 (Builtin.«max» ⟨[.ref l], [("default", d)]⟩) (fun fin s' => match fin with
      | .done f => (match (Except.ok f : Result) with | .ok (.ret v) => Q v s' | .ok _ => False | .error e => E e s')
      | .again c' => c'.quiet = true ∧ codeAny (model prog w) A c' (fun r s' => match r with | .ok (.ret v) => Q v s' | .ok _ => False | .error e => E e s') s') E s := by
    show wpAny _ A.in1 (Builtin.Builtins.bindParams "max" ["key", "default"] 0 ⟨[], [("default", d)]⟩ >>= _) _ _ s
    refine wpAny_bind (wpAny_of_eq (show Builtin.Builtins.bindParams "max" ["key", "default"] 0 ⟨[], [("default", d)]⟩ = pure [none, some d] from rfl) ?_)
    refine wpAny_bind (wpAny_pure ?_)
    refine wpAny_bind (iter_intList hl fun s₂ e st hfp hlI => ?_)
    subst e
    refine wpAny_bind (wpAny_newObj_type ?_)
    rw [maxD_name]
    have W := Walks.list (prog := prog) (w := w) (A := A.in1) hh _ l hlI (intItems xs)
    have sz : (intItems xs).size = xs.size := by simp [intItems]
    refine wpAny_pure ⟨plainId_quiet F.plain_max_loop _, maxD_first W (val := numAt xs) (fun i v => intItems_at) (fun hm => Nat.lt_irrefl _ (hfp _ hm)) (W.frame _ _ _ st fun b _ o e => Heap.get?_push_of_some _ e) (Heap.get?_push_size _ rfl) (fun hn h' tk hk => ?_) fun M t h' tk hM hk => ?_⟩
    · exact h0 (sz ▸ hn) h' tk (old_kept fun b o hb e => hk b o hb (Nat.ne_of_lt (Heap.lt_size e)) (Heap.get?_push_of_some _ e))
    · exact h M t h' tk (sz ▸ hM) (old_kept fun b o hb e => hk b o hb (Nat.ne_of_lt (Heap.lt_size e)) (Heap.get?_push_of_some _ e))
  cases hsig : Manifest.signature? "max" with
  | none => exact wpAny_pure key
  | some sig =>
    have ha' : Bind.checkArgs "max" sig ⟨[.ref l], [("default", d)]⟩ = pure () := by simpa only [argsOk, hsig] using args_maxD (.ref l) d
    simp only [ha']
    exact wpAny_pure key
end
/-- max(x, default=y), x a list of ints -/
def rMaxD (K : PySem.W.Frag) : R2 := fun x y H Q => ∃ (p : Addr) (ns : List Int), x = .ref p ∧ SqL K H p (ns.map V.int) ∧ (ns = [] → Q y H) ∧ ∀ M, M ∈ ns → (∀ a ∈ ns, a ≤ M) → Q (.int M) H
theorem ints_items : ∀ {ns : List Int} {us : List Value}, Vals (ns.map V.int) us → ∃ ts : List (Int × Tok), us.toArray = intItems ts.toArray ∧ ts.map (·.1) = ns
  | [], _, h => by cases h; exact ⟨[], by simp [intItems], rfl⟩
  | n :: ns, _, h => by
    cases h with
    | cons r rr =>
      obtain ⟨t, rfl⟩ := r
      obtain ⟨ts, e1, e2⟩ := ints_items rr
      refine ⟨(n, t) :: ts, ?_, by rw [List.map_cons, e2]⟩
      have e3 := congrArg Array.toList e1
      simp only [intItems, List.map_toArray] at e3 ⊢
      simpa using e3
theorem top_list {ts : List (Int × Tok)} {M : Int} (h : Top (numAt ts.toArray) ts.toArray.size M) : M ∈ ts.map (·.1) ∧ ∀ a ∈ ts.map (·.1), a ≤ M := by
  have g : ∀ (i : Nat) (hi : i < ts.length), numAt ts.toArray i = (ts[i]).1 := fun i hi => by simp [numAt, hi]
  obtain ⟨⟨i, hi, e⟩, h2⟩ := h
  have hi' : i < ts.length := by simpa using hi
  constructor
  · rw [← e, g i hi']; exact List.mem_map.mpr ⟨_, List.getElem_mem hi', rfl⟩
  · intro a ha
    obtain ⟨p, hp, rfl⟩ := List.mem_map.mp ha
    obtain ⟨j, hj, rfl⟩ := List.getElem_of_mem hp
    rw [← g j hj]; exact h2 j (by simpa using hj)
section
variable {X : Cx} {K : PySem.W.Frag} {e ed : Expr} {ta td : TE} {p pos kp : Pos}
theorem pe_maxD (hK : X.K = K) (hc : X.calm = true) (hg : Gl X "max") (hm : X.mg "max" = none) (ha : PE X e ta) (hd : PE X ed td)
    (he : starEach [e] X.env = (false, eval e X.env) :: starEach [] X.env := by rfl) : PE X (.Call (.Name "max" p) [e] [⟨some "default", ed, kp⟩] pos) (tOp (rMaxD K) ta td) := by
  subst hK
  intro pins s σ H Q I h
  refine wpAny_Call_Name_kw (ld_blt I hg hm boot_max ?_ (by decide) (by decide))
  refine callWith_kw (thn (pa_cons ha pa_nil he pos pins s σ H (fun vs H1 => match vs with | [x] => td σ H1 fun y H2 => rMaxD X.K x y H2 Q | _ => False) I h) fun us s1 ⟨vs, H1, I1, r1, q1⟩ => ?_) (by rw [he]; rfl) (by rw [he]; rfl) rfl rfl
  obtain ⟨x, rfl⟩ : ∃ x, vs = [x] := by
    match vs, q1 with
    | [x], _ => exact ⟨x, rfl⟩
  obtain ⟨u, rfl, ru⟩ := vals1 r1
  refine kws_cons (thn (hd pins s1 σ H1 _ I1 q1) fun v s2 ⟨y, H2, I2, ry, q2⟩ => kws_nil ?_)
  obtain ⟨a, ns, rfl, hq, k0, k1⟩ := q2
  cases ru
  obtain ⟨its, r', pl, hz⟩ := I2.list hq
  obtain ⟨ts, e1, e2⟩ := ints_items r'
  have il := pl.isList
  rw [e1] at il
  refine call_maxD (I2.ok.hd hc) il (fun h0 h' tk k => ⟨y, H2, I2.kept k, ry, k0 ?_⟩) fun M t h' tk hM k => ⟨.int M, H2, I2.kept k, ⟨t, rfl⟩, ?_⟩
  · have : ts = [] := by simpa using h0
    rw [← e2, this]; rfl
  · obtain ⟨m1, m2⟩ := top_list hM
    rw [e2] at m1 m2
    exact k1 M m1 m2
end
/-- any(x), x a list of bools -/
theorem bls_of : ∀ {bs : List Bool} {us : List Value}, Vals (bs.map V.bl) us → us = bs.map Value.bool
  | [], _, h => by cases h; rfl
  | b :: bs, _, h => by
    cases h with
    | cons r rr =>
      cases r
      rw [bls_of rr]; rfl
theorem any_range (bs : List Bool) : (List.range bs.length).any (fun i => bs.getD i false) = bs.any id := by
  rw [Bool.eq_iff_iff, List.any_eq_true, List.any_eq_true]
  constructor
  · rintro ⟨i, hi, e⟩
    have hi' := List.mem_range.mp hi
    refine ⟨bs[i], List.getElem_mem hi', ?_⟩
    simpa [List.getD, List.getElem?_eq_getElem hi'] using e
  · rintro ⟨b, hb, e⟩
    obtain ⟨i, hi, rfl⟩ := List.getElem_of_mem hb
    refine ⟨i, List.mem_range.mpr hi, ?_⟩
    simpa [List.getD, List.getElem?_eq_getElem hi] using e
theorem call_anyK {X : Cx} {K : PySem.W.Frag} (hK : X.K = K) (hc : X.calm = true) : CallR X (.builtin "any") (fun xs H Q => ∃ (p : Addr) (bs : List Bool), xs = [.ref p] ∧ SqL K H p (bs.map V.bl) ∧ Q (.bl (bs.any id)) H) := by
  subst hK
  intro pins s σ H xs us Q I r h
  obtain ⟨p, bs, rfl, hq, q⟩ := h
  obtain ⟨u, rfl, rx⟩ := vals1 r
  cases rx
  obtain ⟨its, r', pl, hz⟩ := I.list hq
  have e := bls_of r'
  subst e
  have hl := pl.isList
  have hlt : p < s.heap.objs.size := by obtain ⟨_, e, _⟩ := hl; exact Heap.lt_size e
  refine call_any_walk (wpAny_pyIter_list hl ?_)
  refine ⟨_, _, _, _, _, _, fun i => bs.getD i false, rfl, Walks.list (A := X.A.in1) (I.ok.hd hc) _ p (Nat.ne_of_lt hlt) _, ⟨⟨_, Heap.get?_push_size _ rfl, rfl, rfl⟩, hl.push _⟩, fun i v s' Q' E' hP hQ => ?_, fun h' tk hk => ?_⟩
  · have e : v = .bool (bs.getD i false) := by
      have hP' : ((bs.map Value.bool).toArray)[i]? = some v := hP
      simp only [List.getElem?_toArray, List.getElem?_map, Option.map_eq_some_iff] at hP'
      obtain ⟨b, hb, rfl⟩ := hP'
      simp [List.getD, hb]
    subst e
    exact wpAny_truthy_bool hQ
  · refine ⟨.bl (bs.any id), H, I.kept (old_kept hk), ?_, q⟩
    show Value.bool _ = Value.bool _
    rw [← any_range bs]
    simp
end L2

/-! EXT 20: a def with defaults, for its callers (behind Ext2) -/
namespace L2
open PySem PySem.Spec PyProof.Rows
/-- what is never asked -/
def spNo : Sp := fun _ _ _ _ => False
end L2

/-! EXT 21: a slice of a text, sum of a list of whole numbers, a def with defaults asked both ways (behind Ext2) -/
namespace L2
open PySem PySem.Spec PyProof.Rows
section
variable {X : Cx}
end
theorem ints_of : ∀ {ns : List Int} {us : List Value}, Vals (ns.map V.int) us → ∃ l : List (Int × Tok), us = l.map (fun p => Value.int p.1 p.2) ∧ l.map (·.1) = ns
  | [], _, h => by cases h; exact ⟨[], rfl, rfl⟩
  | n :: ns, _, h => by
    cases h with
    | cons r rr =>
      obtain ⟨t, rfl⟩ := r
      obtain ⟨l, rfl, e⟩ := ints_of rr
      exact ⟨(n, t) :: l, rfl, by rw [List.map_cons, e]⟩
theorem preSum_list : ∀ (l : List (Int × Tok)) (n : Nat), n ≤ l.length → preSum (numAt l.toArray) n = ((l.take n).map (·.1)).sum
  | l, 0, _ => rfl
  | l, n + 1, h => by
    rw [preSum, preSum_list l n (by omega), List.take_add_one, List.getElem?_eq_getElem (by omega)]
    unfold numAt
    rw [List.getElem?_toArray, List.getElem?_eq_getElem (by omega), Option.toList_some, List.map_append, List.sum_append]
    show _ = _ + (l[n].1 + 0)
    rw [Int.add_zero]; rfl
theorem call_sumK {X : Cx} {K : PySem.W.Frag} (hK : X.K = K) (hc : X.calm = true) : CallR X (.builtin "sum") (fun xs H Q => ∃ (p : Addr) (ns : List Int), xs = [.ref p] ∧ SqL K H p (ns.map V.int) ∧ Q (.int ns.sum) H) := by
  subst hK
  intro pins s σ H xs us Q I r h
  obtain ⟨p, ns, rfl, hq, q⟩ := h
  obtain ⟨u, rfl, rx⟩ := vals1 r
  cases rx
  obtain ⟨its, r', pl, hz⟩ := I.list hq
  obtain ⟨l, rfl, e⟩ := ints_of r'
  have hl : s.heap.IsList p (intItems l.toArray) := by
    have h1 := pl.isList
    have e2 : (l.map (fun p => Value.int p.1 p.2)).toArray = intItems l.toArray := by unfold intItems; simp
    rw [← e2]; exact h1
  refine sum_intListG (I.ok.hd hc) hl fun h' tk t' hk => ⟨.int ns.sum, H, I.kept hk, ⟨t', ?_⟩, q⟩
  have e3 : preSum (numAt l.toArray) l.toArray.size = ns.sum := by
    rw [List.size_toArray, preSum_list l l.length (Nat.le_refl _), List.take_length, e]
  rw [e3]
structure CalE (P : Program) (w : World) (K : PySem.W.Frag) (mg : Str → Option Value) (base : Heap) (k : Nat) (x : Str) (ps : List Str) (sp : Sp) (f : Addr) (fd : FuncData) (ds : List Value) (dvs : List V) : Prop where
  ok : FnOk P w K mg base CX0 k f fd ps sp
  mg : mg x = some (.ref f)
  kp : PySem.W.keepIn K (.ref f) = true
  bn : Binds K fd ps []
  bd : Binds K fd ps ds
  vd : Vals dvs ds
end L2

/-! EXT 18: a list of ints in a list of such lists (behind Ext14) -/
namespace L2
open PySem PySem.Spec PyProof.Rows
section
variable {X : Cx} {K : PySem.W.Frag}
end
end L2

/-! EXT 22: products of great numbers; two tuples of a list and an int; where a list of ints stands (behind Ext2, Ext14, Ext18) -/
namespace L2
open PySem PySem.Spec PyProof.Rows
def bg : Nat := 67000000
section
variable {X : Cx} {K : PySem.W.Frag}
end
end L2

/-! EXT 24: tuples of four whole numbers that are alike (behind Ext22) -/
namespace L2
open PySem PySem.Spec PyProof.Rows
section
variable {X : Cx} {K : PySem.W.Frag}
theorem four_of {x y z w : V} {us : List Value} (h : Vals [x, y, z, w] us) : ∃ a b c d, us = [a, b, c, d] ∧ RelV x a ∧ RelV y b ∧ RelV z c ∧ RelV w d := by
  cases h with
  | cons r t =>
    cases t with
    | cons r2 t2 =>
      cases t2 with
      | cons r3 t3 =>
        cases t3 with
        | cons r4 t4 =>
          cases t4
          exact ⟨_, _, _, _, rfl, r, r2, r3, r4⟩
def rNeT4 (K : PySem.W.Frag) : R2 := fun x y H Q => ∃ (a b : Addr) (i j k l : Int), x = .ref a ∧ y = .ref b ∧ SqT K H a [.int i, .int j, .int k, .int l] ∧ SqT K H b [.int i, .int j, .int k, .int l] ∧ Q (.bl false) H
theorem op_neT4 (hu : X.A.units + 66 < cLine) : OpR X (compareOp .NotEq) (rNeT4 X.K) := by
  intro pins s σ H x y v u Q I rx ry h
  obtain ⟨a, b, i, j, k, l, rfl, rfl, ha, hb, q⟩ := h
  cases rx; cases ry
  obtain ⟨i1, r1, p1, _⟩ := I.tuple ha
  obtain ⟨i2, r2, p2, _⟩ := I.tuple hb
  obtain ⟨u1, u2, u3, u4, rfl, ⟨t1, rfl⟩, ⟨t2, rfl⟩, ⟨t3, rfl⟩, ⟨t4, rfl⟩⟩ := four_of r1
  obtain ⟨v1, v2, v3, v4, rfl, ⟨s1, rfl⟩, ⟨s2, rfl⟩, ⟨s3, rfl⟩, ⟨s4, rfl⟩⟩ := four_of r2
  refine SeqAt.RcNeAt.tuples (e := fun m => if m = 0 then (i == i) else if m = 1 then (j == j) else if m = 2 then (k == k) else (l == l)) p1 p2 (by omega) (fun m h1 h2 => ?_) _ _ _ _ ⟨.bl _, H, I, ?_, q⟩
  · have hm : m < 4 := h1
    have : m = 0 ∨ m = 1 ∨ m = 2 ∨ m = 3 := by omega
    rcases this with rfl | rfl | rfl | rfl
    · exact (MeetsSeq.EqGives.int i i t1 s1).at _ _
    · exact (MeetsSeq.EqGives.int j j t2 s2).at _ _
    · exact (MeetsSeq.EqGives.int k k t3 s3).at _ _
    · exact (MeetsSeq.EqGives.int l l t4 s4).at _ _
  · show Value.bool _ = Value.bool _
    congr 1
    simp [List.range_succ]
theorem op_neT4K (h : X.K = K) (hu : X.A.units + 66 < cLine) : OpR X (compareOp .NotEq) (rNeT4 K) := by subst h; exact op_neT4 hu
end
end L2

/-! Lists of coefficients: plain mathematics -/
namespace RM

/-- the coefficient at place k -/
def cf (l : List Int) (k : Nat) : Int := l.getD k 0
theorem cf_nil (k : Nat) : cf [] k = 0 := by simp [cf]
theorem cf_zero (x : Int) (l : List Int) : cf (x :: l) 0 = x := rfl
theorem cf_succ (x : Int) (l : List Int) (k : Nat) : cf (x :: l) (k + 1) = cf l k := rfl
theorem cf_ge {l : List Int} {k : Nat} (h : l.length ≤ k) : cf l k = 0 := by
  unfold cf; rw [List.getD, List.getElem?_eq_none_iff.mpr h]; rfl
theorem cf_lt {l : List Int} {k : Nat} (h : k < l.length) : cf l k = l[k] := by
  unfold cf; rw [List.getD, List.getElem?_eq_getElem h]; rfl
theorem cf_some {l : List Int} {k : Nat} {x : Int} (h : l[k]? = some x) : cf l k = x := by
  unfold cf; rw [List.getD, h]; rfl
theorem get_cf {l : List Int} {k : Nat} (h : k < l.length) : l[k]? = some (cf l k) := by
  rw [cf_lt h, List.getElem?_eq_getElem h]
theorem cf_append_left {l r : List Int} {k : Nat} (h : k < l.length) : cf (l ++ r) k = cf l k := by
  unfold cf; rw [List.getD, List.getD, List.getElem?_append_left h]
theorem cf_append_right {l r : List Int} {k : Nat} (h : l.length ≤ k) : cf (l ++ r) k = cf r (k - l.length) := by
  unfold cf; rw [List.getD, List.getD, List.getElem?_append_right h]
theorem cf_set {l : List Int} {j k : Nat} {x : Int} (h : j < l.length) : cf (l.set j x) k = if k = j then x else cf l k := by
  unfold cf; rw [List.getD, List.getD, List.getElem?_set]
  by_cases e : j = k
  · subst e; simp [h]
  · rw [if_neg e, if_neg (fun z => e z.symm)]
theorem cf_replicate (n k : Nat) : cf (List.replicate n 0) k = 0 := by
  unfold cf; rw [List.getD, List.getElem?_replicate]; split <;> rfl
theorem cf_map_range (f : Nat → Int) (n k : Nat) : cf ((List.range n).map f) k = if k < n then f k else 0 := by
  unfold cf; rw [List.getD, List.getElem?_map]
  by_cases h : k < n
  · rw [if_pos h, List.getElem?_range h]; rfl
  · rw [if_neg h, List.getElem?_eq_none_iff.mpr (by simpa using h)]; rfl
theorem ext_cf {a b : List Int} (hl : a.length = b.length) (h : ∀ k, k < a.length → cf a k = cf b k) : a = b := by
  apply List.ext_getElem hl
  intro k h1 h2
  rw [← cf_lt h1, ← cf_lt h2]; exact h k h1

/-- noughts at the end left out -/
def trim (l : List Int) : List Int := (l.reverse.dropWhile (· == 0)).reverse
theorem trim_snoc_zero (l : List Int) : trim (l ++ [0]) = trim l := by
  unfold trim; rw [List.reverse_append]; rfl
theorem trim_snoc_ne (l : List Int) {x : Int} (h : x ≠ 0) : trim (l ++ [x]) = l ++ [x] := by
  unfold trim
  rw [List.reverse_append]
  show ((x :: l.reverse).dropWhile (· == 0)).reverse = _
  rw [List.dropWhile_cons_of_neg (by simpa using h)]
  simp
/-- its last one is not 0 -/
def Tr (l : List Int) : Prop := ∀ n, l.length = n + 1 → cf l n ≠ 0
theorem snoc_cases (l : List Int) : l = [] ∨ ∃ r x, l = r ++ [x] := by
  cases h : l.reverse with
  | nil => left; simpa using h
  | cons x r => right; exact ⟨r.reverse, x, by rw [← List.reverse_reverse l, h]; simp⟩
theorem cf_last (r : List Int) (x : Int) : cf (r ++ [x]) r.length = x := by
  rw [cf_append_right (Nat.le_refl _), Nat.sub_self]; rfl
theorem tr_nil : Tr [] := fun n h => by simp at h
theorem tr_snoc {r : List Int} {x : Int} : Tr (r ++ [x]) ↔ x ≠ 0 := by
  constructor
  · intro h
    have := h r.length (by simp)
    rwa [cf_last] at this
  · intro h n hn
    have e : n = r.length := by simp at hn; omega
    subst e
    rwa [cf_last]
theorem trim_spec : ∀ (n : Nat) (l : List Int), l.length = n → Tr (trim l) ∧ (trim l).length ≤ l.length ∧ ∀ k, cf (trim l) k = cf l k
  | 0, l, h => by
    have : l = [] := List.length_eq_zero_iff.mp h
    subst this
    exact ⟨tr_nil, Nat.le_refl _, fun _ => rfl⟩
  | n + 1, l, h => by
    rcases snoc_cases l with rfl | ⟨r, x, rfl⟩
    · simp at h
    · by_cases hx : x = 0
      · subst hx
        obtain ⟨h1, h2, h3⟩ := trim_spec n r (by simpa using h)
        rw [trim_snoc_zero]
        refine ⟨h1, by rw [List.length_append]; exact Nat.le_trans h2 (Nat.le_add_right _ _), fun k => ?_⟩
        rw [h3]
        by_cases hk : k < r.length
        · rw [cf_append_left hk]
        · rw [cf_append_right (Nat.le_of_not_lt hk), cf_ge (Nat.le_of_not_lt hk)]
          cases e : k - r.length with
          | zero => rfl
          | succ j => rw [cf_succ, cf_nil]
      · rw [trim_snoc_ne r hx]
        exact ⟨tr_snoc.mpr hx, Nat.le_refl _, fun _ => rfl⟩
theorem tr_trim (l : List Int) : Tr (trim l) := (trim_spec _ l rfl).1
theorem length_trim (l : List Int) : (trim l).length ≤ l.length := (trim_spec _ l rfl).2.1
theorem cf_trim (l : List Int) (k : Nat) : cf (trim l) k = cf l k := (trim_spec _ l rfl).2.2 k
theorem trim_of_tr {l : List Int} (h : Tr l) : trim l = l := by
  rcases snoc_cases l with rfl | ⟨r, x, rfl⟩
  · rfl
  · exact trim_snoc_ne r (tr_snoc.mp h)
/-- polynomials are alike where their coefficients are -/
theorem eq_of_cf {a b : List Int} (ha : Tr a) (hb : Tr b) (h : ∀ k, cf a k = cf b k) : a = b := by
  have le : ∀ {a b : List Int}, Tr a → (∀ k, cf a k = cf b k) → a.length ≤ b.length := fun {a b} ha h => by
    cases e : a.length with
    | zero => exact Nat.zero_le _
    | succ n =>
      apply Classical.byContradiction
      intro hn
      exact ha n e (by rw [h n, cf_ge (by omega)])
  have hl : a.length = b.length := Nat.le_antisymm (le ha h) (le hb fun k => (h k).symm)
  exact ext_cf hl fun k _ => h k
theorem trim_take_zero {l : List Int} {n : Nat} (hn : n < l.length) (h : cf l n = 0) : trim (l.take (n + 1)) = trim (l.take n) := by
  rw [List.take_add_one, get_cf hn, h]
  exact trim_snoc_zero _
theorem trim_take_ne {l : List Int} {n : Nat} (hn : n < l.length) (h : cf l n ≠ 0) : trim (l.take (n + 1)) = l.take (n + 1) := by
  rw [List.take_add_one, get_cf hn]
  exact trim_snoc_ne _ h
end RM

namespace RM
/-- the sum of two rows, place by place, the second times a factor -/
def linL (f : Int) (a b : List Int) : List Int := (List.range (max a.length b.length)).map fun k => cf a k + f * cf b k
theorem cf_linL (f : Int) (a b : List Int) (k : Nat) : cf (linL f a b) k = cf a k + f * cf b k := by
  unfold linL
  rw [cf_map_range]
  by_cases h : k < max a.length b.length
  · rw [if_pos h]
  · have h1 : a.length ≤ k := by omega
    have h2 : b.length ≤ k := by omega
    rw [if_neg h, cf_ge h1, cf_ge h2]; simp
def addL (a b : List Int) : List Int := trim (linL 1 a b)
def subL (a b : List Int) : List Int := trim (linL (-1) a b)

/-- the terms of a product's coefficient -/
def tm (a b : List Int) (n i : Nat) : Int := if i ≤ n then cf a i * cf b (n - i) else 0
def sm (a b : List Int) (n : Nat) : Nat → Int
  | 0 => 0
  | j + 1 => sm a b n j + tm a b n j
def mulc (a b : List Int) (n : Nat) : Int := sm a b n a.length
def mulL (a b : List Int) : List Int := if a = [] ∨ b = [] then [] else (List.range (a.length + b.length - 1)).map (mulc a b)
theorem tm_zero_left {a b : List Int} {n i : Nat} (h : a.length ≤ i) : tm a b n i = 0 := by
  unfold tm; split
  · rw [cf_ge h, Int.zero_mul]
  · rfl
theorem tm_zero_right {a b : List Int} {n i : Nat} (h : b.length ≤ n - i) : tm a b n i = 0 := by
  unfold tm; split
  · rw [cf_ge h, Int.mul_zero]
  · rfl
theorem sm_zero {a b : List Int} {n : Nat} : ∀ {j : Nat}, (∀ i, i < j → tm a b n i = 0) → sm a b n j = 0
  | 0, _ => rfl
  | j + 1, h => by
    rw [sm, sm_zero fun i hi => h i (Nat.lt_succ_of_lt hi), h j (Nat.lt_succ_self _)]; rfl
theorem mulc_big {a b : List Int} {n : Nat} (h : a.length + b.length ≤ n + 1) : mulc a b n = 0 := by
  apply sm_zero
  intro i hi
  exact tm_zero_right (by omega)
theorem mulc_top {a b : List Int} {la lb : Nat} (ha : a.length = la + 1) (hb : b.length = lb + 1) : mulc a b (la + lb) = cf a la * cf b lb := by
  unfold mulc
  rw [ha, sm, sm_zero fun i hi => tm_zero_right (by omega)]
  unfold tm
  rw [if_pos (Nat.le_add_right _ _), Nat.add_sub_cancel_left, Int.zero_add]
theorem cf_mulL (a b : List Int) (n : Nat) : cf (mulL a b) n = mulc a b n := by
  unfold mulL
  by_cases h : a = [] ∨ b = []
  · rw [if_pos h, cf_nil]
    symm
    apply sm_zero
    intro i hi
    rcases h with rfl | rfl
    · simp at hi
    · exact tm_zero_right (Nat.zero_le _)
  · rw [if_neg h, cf_map_range]
    by_cases hn : n < a.length + b.length - 1
    · rw [if_pos hn]
    · rw [if_neg hn, mulc_big (by omega)]
theorem tr_mulL {a b : List Int} (ha : Tr a) (hb : Tr b) : Tr (mulL a b) := by
  intro n hn
  rw [cf_mulL]
  by_cases h : a = [] ∨ b = []
  · unfold mulL at hn; rw [if_pos h] at hn; simp at hn
  · have h1 : a ≠ [] := fun z => h (.inl z)
    have h2 : b ≠ [] := fun z => h (.inr z)
    obtain ⟨la, ea⟩ : ∃ la, a.length = la + 1 := ⟨a.length - 1, by have := List.length_pos_iff.mpr h1; omega⟩
    obtain ⟨lb, eb⟩ : ∃ lb, b.length = lb + 1 := ⟨b.length - 1, by have := List.length_pos_iff.mpr h2; omega⟩
    unfold mulL at hn
    rw [if_neg h, List.length_map, List.length_range] at hn
    have e : n = la + lb := by omega
    subst e
    rw [mulc_top ea eb]
    exact Int.mul_ne_zero (ha la ea) (hb lb eb)
/-- one more term laid on -/
theorem mul_step {a b acc : List Int} {j k : Nat} (hj : j < a.length) (hk : k < b.length) (hl : j + k < acc.length)
    (h : ∀ n, n < acc.length → cf acc n = sm a b n j + (if j ≤ n ∧ n - j < k then tm a b n j else 0)) :
    ∀ n, n < (acc.set (j + k) (cf acc (j + k) + cf a j * cf b k)).length → cf (acc.set (j + k) (cf acc (j + k) + cf a j * cf b k)) n = sm a b n j + (if j ≤ n ∧ n - j < k + 1 then tm a b n j else 0) := by
  intro n hn
  rw [List.length_set] at hn
  rw [cf_set hl]
  by_cases e : n = j + k
  · subst e
    rw [if_pos rfl, h _ hl, if_neg (by omega), if_pos ⟨by omega, by omega⟩]
    unfold tm
    rw [if_pos (by omega), Nat.add_sub_cancel_left, Int.add_zero]
  · rw [if_neg e, h n hn]
    congr 1
    by_cases h1 : j ≤ n ∧ n - j < k
    · rw [if_pos h1, if_pos ⟨h1.1, by omega⟩]
    · rw [if_neg h1, if_neg (by omega)]
theorem mul_row {a b acc : List Int} {j : Nat} (h : ∀ n, n < acc.length → cf acc n = sm a b n j + (if j ≤ n ∧ n - j < b.length then tm a b n j else 0)) : ∀ n, n < acc.length → cf acc n = sm a b n (j + 1) := by
  intro n hn
  rw [h n hn, sm]
  congr 1
  by_cases h1 : j ≤ n ∧ n - j < b.length
  · rw [if_pos h1]
  · rw [if_neg h1]
    by_cases h2 : j ≤ n
    · rw [tm_zero_right (by omega)]
    · unfold tm; rw [if_neg h2]
theorem mul_start {a b acc : List Int} {j : Nat} (h : ∀ n, n < acc.length → cf acc n = sm a b n j) : ∀ n, n < acc.length → cf acc n = sm a b n j + (if j ≤ n ∧ n - j < 0 then tm a b n j else 0) := by
  intro n hn
  rw [if_neg (by omega), Int.add_zero]; exact h n hn
theorem mul_end {a b acc : List Int} (hl : a.length + b.length ≤ acc.length + 1) (h : ∀ n, n < acc.length → cf acc n = sm a b n a.length) (n : Nat) : cf acc n = mulc a b n := by
  by_cases hn : n < acc.length
  · exact h n hn
  · rw [cf_ge (Nat.le_of_not_lt hn), mulc_big (by omega)]
end RM
namespace RM
theorem addL_eq (a b : List Int) : trim ((List.range (max a.length b.length)).map fun k => cf a k + cf b k) = addL a b := by
  unfold addL linL
  congr 2; funext k; rw [Int.one_mul]
theorem subL_eq (a b : List Int) : trim ((List.range (max a.length b.length)).map fun k => cf a k - cf b k) = subL a b := by
  unfold subL linL
  congr 2; funext k; omega
end RM

/-! Fractions in lowest terms: plain mathematics -/
namespace RM
/-- the divisor with the bottom's sign -/
def dv (t b : Int) : Int := if b < 0 then -((Nat.gcd t.natAbs b.natAbs : Nat) : Int) else ((Nat.gcd t.natAbs b.natAbs : Nat) : Int)
def rt (t b : Int) : Int := t.fdiv (dv t b)
def rb (t b : Int) : Int := b.fdiv (dv t b)
theorem gcd_pos {t b : Int} (hb : b ≠ 0) : 0 < Nat.gcd t.natAbs b.natAbs := Nat.gcd_pos_of_pos_right _ (Int.natAbs_pos.mpr hb)
theorem dv_ne {t b : Int} (hb : b ≠ 0) : dv t b ≠ 0 := by
  have := @gcd_pos t b hb
  unfold dv; split <;> omega
theorem dv_abs (t b : Int) : (dv t b).natAbs = Nat.gcd t.natAbs b.natAbs := by unfold dv; split <;> omega
theorem dv_dvd_left (t b : Int) : dv t b ∣ t := Int.natAbs_dvd_natAbs.mp (by rw [dv_abs]; exact Nat.gcd_dvd_left _ _)
theorem dv_dvd_right (t b : Int) : dv t b ∣ b := Int.natAbs_dvd_natAbs.mp (by rw [dv_abs]; exact Nat.gcd_dvd_right _ _)
theorem fdiv_of_dvd {a d : Int} (hd : d ≠ 0) (h : d ∣ a) : d * a.fdiv d = a := by
  obtain ⟨c, rfl⟩ := h
  rw [Int.mul_fdiv_cancel_left c hd]
theorem rt_eq {t b : Int} (hb : b ≠ 0) : dv t b * rt t b = t := fdiv_of_dvd (dv_ne hb) (dv_dvd_left t b)
theorem rb_eq {t b : Int} (hb : b ≠ 0) : dv t b * rb t b = b := fdiv_of_dvd (dv_ne hb) (dv_dvd_right t b)
theorem rb_pos {t b : Int} (hb : b ≠ 0) : 0 < rb t b := by
  have h1 := @rb_eq t b hb
  have h2 := @gcd_pos t b hb
  by_cases hn : b < 0
  · have hd : dv t b < 0 := by unfold dv; rw [if_pos hn]; omega
    apply Classical.byContradiction
    intro h
    have : 0 ≤ dv t b * rb t b := Int.mul_nonneg_of_nonpos_of_nonpos (Int.le_of_lt hd) (by omega)
    omega
  · have hd : 0 < dv t b := by unfold dv; rw [if_neg hn]; omega
    apply Classical.byContradiction
    intro h
    have : dv t b * rb t b ≤ 0 := Int.mul_nonpos_of_nonneg_of_nonpos (Int.le_of_lt hd) (by omega)
    omega
theorem r_gcd {t b : Int} (hb : b ≠ 0) : Nat.gcd (rt t b).natAbs (rb t b).natAbs = 1 := by
  have h1 : t.natAbs = Nat.gcd t.natAbs b.natAbs * (rt t b).natAbs := by
    rw [← dv_abs, ← Int.natAbs_mul, rt_eq hb]
  have h2 : b.natAbs = Nat.gcd t.natAbs b.natAbs * (rb t b).natAbs := by
    rw [← dv_abs, ← Int.natAbs_mul, rb_eq hb]
  have hp := @gcd_pos t b hb
  have e : Nat.gcd t.natAbs b.natAbs = Nat.gcd t.natAbs b.natAbs * Nat.gcd (rt t b).natAbs (rb t b).natAbs := by
    rw [← Nat.gcd_mul_left, ← h1, ← h2]
  exact (Nat.eq_of_mul_eq_mul_left hp (by rw [Nat.mul_one]; exact e)).symm
theorem r_cross {t b : Int} (hb : b ≠ 0) : rt t b * b = t * rb t b := by
  have e1 := @rt_eq t b hb
  have e2 := @rb_eq t b hb
  calc rt t b * b = rt t b * (dv t b * rb t b) := by rw [e2]
    _ = (dv t b * rt t b) * rb t b := by rw [← Int.mul_assoc, Int.mul_comm (rt t b)]
    _ = t * rb t b := by rw [e1]
theorem rt_abs {t b : Int} (hb : b ≠ 0) : (rt t b).natAbs ≤ t.natAbs := by
  have h1 : t.natAbs = Nat.gcd t.natAbs b.natAbs * (rt t b).natAbs := by rw [← dv_abs, ← Int.natAbs_mul, rt_eq hb]
  rw [h1]; exact Nat.le_mul_of_pos_left _ (gcd_pos hb)
theorem rb_abs {t b : Int} (hb : b ≠ 0) : (rb t b).natAbs ≤ b.natAbs := by
  have h1 : b.natAbs = Nat.gcd t.natAbs b.natAbs * (rb t b).natAbs := by rw [← dv_abs, ← Int.natAbs_mul, rb_eq hb]
  rw [h1]; exact Nat.le_mul_of_pos_left _ (gcd_pos hb)
/-- the sign -/
def sg (x : Int) : Int := if x < 0 then -1 else if 0 < x then 1 else 0
theorem sg_neg (x : Int) : sg (-x) = -sg x := by unfold sg; split <;> split <;> (try split) <;> (try split) <;> omega
theorem sg_mul_pos {x p : Int} (hp : 0 < p) : sg (x * p) = sg x := by
  unfold sg
  by_cases h1 : x < 0
  · rw [if_pos h1, if_pos (Int.mul_neg_of_neg_of_pos h1 hp)]
  · by_cases h2 : 0 < x
    · have := Int.mul_pos h2 hp
      rw [if_neg h1, if_pos h2, if_neg (by omega), if_pos this]
    · obtain rfl : x = 0 := by omega
      simp
end RM

/-! The value of a row at t/b, cleared of bottoms (behind MathPoly, MathRatio) -/
namespace RM
def hv (t b : Int) : List Int → Int
  | [] => 0
  | v :: l => v * b ^ (l.length + 1) + t * hv t b l
theorem hv_nil (t b : Int) : hv t b [] = 0 := rfl
theorem hv_cons (t b v : Int) (l : List Int) : hv t b (v :: l) = v * b ^ (l.length + 1) + t * hv t b l := rfl
/-- a row times (b x - a), with what is carried in -/
def mb (a b : Int) : Int → List Int → List Int
  | c, [] => [c]
  | c, x :: l => (-a * x + c) :: mb a b (b * x) l
theorem mb_len (a b : Int) : ∀ (c : Int) (l : List Int), (mb a b c l).length = l.length + 1
  | c, [] => rfl
  | c, x :: l => by show (mb a b (b * x) l).length + 1 = _; rw [mb_len]; rfl
theorem cf_mb (a b : Int) : ∀ (c : Int) (l : List Int) (k : Nat), cf (mb a b c l) k = -a * cf l k + (if k = 0 then c else b * cf l (k - 1))
  | c, [], 0 => by show c = _; rw [cf_nil]; simp
  | c, [], k + 1 => by show cf [] k = _; rw [cf_nil, cf_nil]; simp [cf_nil]
  | c, x :: l, 0 => rfl
  | c, x :: l, k + 1 => by
    show cf (mb a b (b * x) l) k = _
    rw [cf_mb a b (b * x) l k, cf_succ, if_neg (Nat.succ_ne_zero k)]
    cases k with
    | zero => rfl
    | succ k => rw [if_neg (Nat.succ_ne_zero k)]; rfl
theorem hv_mb (t u a b : Int) : ∀ (c : Int) (l : List Int), hv t u (mb a b c l) = c * u ^ (l.length + 1) + (b * t - a * u) * hv t u l
  | c, [] => by show c * u ^ 1 + t * 0 = c * u ^ 1 + (b * t - a * u) * 0; simp
  | c, x :: l => by
    show (-a * x + c) * u ^ ((mb a b (b * x) l).length + 1) + t * hv t u (mb a b (b * x) l) = c * u ^ (l.length + 1 + 1) + (b * t - a * u) * (x * u ^ (l.length + 1) + t * hv t u l)
    rw [hv_mb t u a b (b * x) l, mb_len]
    generalize hv t u l = h
    rw [Int.pow_succ u (l.length + 1)]
    generalize u ^ (l.length + 1) = p
    grind
theorem cf_two (x y : Int) (k : Nat) : cf [x, y] k = if k = 0 then x else if k = 1 then y else 0 := by
  rcases k with _ | _ | k
  · rfl
  · rfl
  · rw [if_neg (by omega), if_neg (by omega)]; exact cf_ge (by simp)
theorem sm_two (l : List Int) (x y : Int) (n : Nat) : ∀ j, sm l [x, y] n j = (if n < j then cf l n * x else 0) + (if 1 ≤ n ∧ n - 1 < j then cf l (n - 1) * y else 0)
  | 0 => by rw [if_neg (by omega), if_neg (by omega)]; rfl
  | j + 1 => by
    show sm l [x, y] n j + tm l [x, y] n j = _
    rw [sm_two l x y n j]
    unfold tm
    rw [cf_two]
    grind
theorem mul_two {a b : Int} {l : List Int} (h : l ≠ []) : mulL l [-a, b] = mb a b 0 l := by
  apply ext_cf
  · rw [mb_len]; unfold mulL; rw [if_neg (by simp [h]), List.length_map, List.length_range]; simp
  · intro k _
    rw [cf_mulL, cf_mb]
    unfold mulc
    rw [sm_two]
    have e1 : (if k < l.length then cf l k * -a else 0) = -a * cf l k := by
      by_cases hk : k < l.length
      · rw [if_pos hk, Int.mul_comm]
      · rw [if_neg hk, cf_ge (Nat.le_of_not_lt hk), Int.mul_zero]
    have e2 : (if 1 ≤ k ∧ k - 1 < l.length then cf l (k - 1) * b else 0) = if k = 0 then 0 else b * cf l (k - 1) := by
      by_cases h0 : k = 0
      · rw [if_neg (by omega), if_pos h0]
      · rw [if_neg h0]
        by_cases hk : k - 1 < l.length
        · rw [if_pos (by omega), Int.mul_comm]
        · rw [if_neg (by omega), cf_ge (Nat.le_of_not_lt hk), Int.mul_zero]
    rw [e1, e2]
/-- t and b over one divisor -/
theorem hv_scale (g t b : Int) : ∀ l : List Int, hv (g * t) (g * b) l = g ^ l.length * hv t b l
  | [] => by simp [hv_nil]
  | v :: l => by
    rw [hv_cons, hv_cons, hv_scale g t b l, Int.mul_pow]
    show v * (g ^ (l.length + 1) * b ^ (l.length + 1)) + g * t * (g ^ l.length * hv t b l) = g ^ (l.length + 1) * (v * b ^ (l.length + 1) + t * hv t b l)
    rw [Int.pow_succ g l.length]
    generalize b ^ (l.length + 1) = p
    generalize g ^ l.length = q
    generalize hv t b l = h
    grind
theorem pow_ne {g : Int} (h : g ≠ 0) (n : Nat) : g ^ n ≠ 0 := by
  induction n with
  | zero => simp
  | succ n ih => rw [Int.pow_succ]; exact Int.mul_ne_zero ih h
theorem pow_pos' {g : Int} (h : 0 < g) (n : Nat) : 0 < g ^ n := by
  induction n with
  | zero => simp
  | succ n ih => rw [Int.pow_succ]; exact Int.mul_pos ih h
/-- the word that the row's value at t/b is top/bot -/
def At (l : List Int) (t b top bot : Int) : Prop := hv t b l * bot = top * b ^ l.length
/-- the value as a fraction in least terms -/
theorem At.value {l : List Int} {t b top bot : Int} (hb : 0 < b) (h : At l t b top bot) : rt (hv t b l) (b ^ l.length) * bot = top * rb (hv t b l) (b ^ l.length) := by
  unfold At at h
  have hp : b ^ l.length ≠ 0 := pow_ne (Int.ne_of_gt hb) _
  have c := r_cross (t := hv t b l) hp
  refine Int.eq_of_mul_eq_mul_right hp ?_
  generalize b ^ l.length = p at *
  generalize hv t b l = x at *
  generalize rt x p = r at *
  generalize rb x p = s at *
  grind
theorem At.sign {l : List Int} {t b top bot : Int} (hb : 0 < b) (hbot : 0 < bot) (h : At l t b top bot) : sg (hv t b l) = sg top := by
  unfold At at h
  rw [← sg_mul_pos (x := hv t b l) hbot, h, sg_mul_pos (pow_pos' hb _)]
theorem hv_one (t u c : Int) : hv t u [c] = c * u := by
  show c * u ^ 1 + t * 0 = c * u
  grind
theorem drop_hv (t b : Int) {l : List Int} {n : Nat} (h : n < l.length) : hv t b (l.drop n) = cf l n * b ^ (l.length - n) + t * hv t b (l.drop (n + 1)) := by
  rw [List.drop_eq_getElem_cons h, hv_cons, List.length_drop, cf_lt h]
  have e : l.length - (n + 1) + 1 = l.length - n := by omega
  rw [e]
end RM

/-! Changes of sign (behind MathEval) -/
namespace RM
def chF (z : Int × Int) (s : Int) : Int × Int := (if s * z.2 < 0 then z.1 + 1 else z.1, if s = 0 then z.2 else s)
def chS (l : List Int) : Int × Int := l.foldl chF (0, 0)
theorem chS_snoc (l : List Int) (s : Int) : chS (l ++ [s]) = chF (chS l) s := by unfold chS; rw [List.foldl_append]; rfl
theorem sg_zero (x : Int) : sg x = 0 ↔ x = 0 := by unfold sg; split <;> (try split) <;> omega
theorem sg_cases (x : Int) : (x < 0 ∧ sg x = -1) ∨ (x = 0 ∧ sg x = 0) ∨ (0 < x ∧ sg x = 1) := by unfold sg; split <;> (try split) <;> omega
theorem chS_small' : ∀ (n : Nat) (l : List Int), l.length = n → (∀ s ∈ l, s.natAbs ≤ 1) → (chS l).2.natAbs ≤ 1 ∧ 0 ≤ (chS l).1 ∧ (chS l).1 ≤ l.length
  | n, l, hn, h => by
    rcases snoc_cases l with rfl | ⟨r, s, rfl⟩
    · decide
    · have hr : r.length + 1 = n := by rw [← hn, List.length_append]; rfl
      obtain ⟨i1, i2, i3⟩ := chS_small' (n - 1) r (by omega) (fun x hx => h x (List.mem_append_left _ hx))
      have hs := h s (by simp)
      rw [chS_snoc]
      unfold chF
      refine ⟨?_, ?_, ?_⟩
      · dsimp only; split
        · exact i1
        · exact hs
      · dsimp only; split <;> omega
      · dsimp only; rw [List.length_append]; show _ ≤ ((r.length + 1 : Nat) : Int); split <;> omega
termination_by n => n
theorem chS_small (l : List Int) (h : ∀ s ∈ l, s.natAbs ≤ 1) : (chS l).2.natAbs ≤ 1 ∧ 0 ≤ (chS l).1 ∧ (chS l).1 ≤ l.length := chS_small' _ l rfl h
theorem sg_small (x : Int) : (sg x).natAbs ≤ 1 := by unfold sg; split <;> (try split) <;> decide
end RM

/-! Division of coefficient lists without fractions: plain mathematics (behind MathPoly) -/
namespace RM
/-- the step of the quotient: times c, and l laid down at place p -/
theorem sm_lay {q q' b : List Int} {c l : Int} {p n : Nat} (h : ∀ k, cf q' k = c * cf q k + (if k = p then l else 0)) :
    ∀ j, sm q' b n j = c * sm q b n j + (if p < j ∧ p ≤ n then l * cf b (n - p) else 0)
  | 0 => by rw [sm, sm, if_neg (by omega)]; simp
  | j + 1 => by
    rw [sm, sm, sm_lay h j]
    unfold tm
    by_cases hj : j ≤ n
    · rw [if_pos hj, if_pos hj, h j]
      by_cases e : j = p
      · subst e
        rw [if_pos rfl, if_neg (by omega), if_pos ⟨by omega, hj⟩]; grind
      · rw [if_neg e]
        by_cases h2 : p < j ∧ p ≤ n
        · rw [if_pos h2, if_pos ⟨by omega, h2.2⟩]; grind
        · rw [if_neg h2, if_neg (by omega)]; grind
    · rw [if_neg hj, if_neg hj]
      by_cases h2 : p < j ∧ p ≤ n
      · rw [if_pos h2, if_pos ⟨by omega, h2.2⟩]; grind
      · rw [if_neg h2, if_neg (by omega)]; grind
theorem mulc_lay {q q' b : List Int} {c l : Int} {p n : Nat} (hl : q'.length = q.length) (hp : p < q.length) (h : ∀ k, cf q' k = c * cf q k + (if k = p then l else 0)) :
    mulc q' b n = c * mulc q b n + (if p ≤ n then l * cf b (n - p) else 0) := by
  unfold mulc
  rw [hl, sm_lay h]
  by_cases h2 : p ≤ n
  · rw [if_pos h2, if_pos ⟨hp, h2⟩]
  · rw [if_neg h2, if_neg (by omega)]
def scL (c : Int) (l : List Int) : List Int := l.map fun x => c * x
theorem length_scL (c : Int) (l : List Int) : (scL c l).length = l.length := by unfold scL; rw [List.length_map]
theorem cf_scL (c : Int) (l : List Int) (k : Nat) : cf (scL c l) k = c * cf l k := by
  by_cases h : k < l.length
  · unfold cf scL; simp [h]
  · rw [cf_ge (by rw [length_scL]; omega), cf_ge (by omega)]; simp
/-- what `lowered` tells: without the last, less l times b's coefficients from place p on -/
def lowL (r b : List Int) (p : Nat) (l : Int) : List Int := (List.range (r.length - 1)).map fun k => cf r k - (if p ≤ k then l * cf b (k - p) else 0)
theorem length_lowL (r b : List Int) (p : Nat) (l : Int) : (lowL r b p l).length = r.length - 1 := by unfold lowL; simp
theorem cf_lowL (r b : List Int) (p : Nat) (l : Int) (k : Nat) : cf (lowL r b p l) k = if k < r.length - 1 then cf r k - (if p ≤ k then l * cf b (k - p) else 0) else 0 := by
  unfold lowL; rw [cf_map_range]

theorem sg_self (x : Int) : sg x * x = (x.natAbs : Int) := by unfold sg; split <;> (try split) <;> omega
/-- one step of the division: (quotient, rest), i steps are still to go -/
def divStep (b : List Int) (z : List Int × List Int) (i : Nat) : List Int × List Int :=
  let s : Int := ((cf b (b.length - 1)).natAbs : Int)
  let l := sg (cf b (b.length - 1)) * cf z.2 (z.2.length - 1)
  ((scL s z.1).set i l, lowL (scL s z.2) b i l)
def divAt (a b : List Int) : Nat → List Int × List Int
  | 0 => (List.replicate (a.length + 1 - b.length) 0, a)
  | i + 1 => divStep b (divAt a b i) (a.length + 1 - b.length - 1 - i)
structure DivInv (a b : List Int) (i : Nat) : Prop where
  lq : (divAt a b i).1.length = a.length + 1 - b.length
  lr : (divAt a b i).2.length = a.length - i
  low : ∀ k, k + i < a.length + 1 - b.length → cf (divAt a b i).1 k = 0
  eqn : ∀ n, ((cf b (b.length - 1)).natAbs : Int) ^ i * cf a n = mulc (divAt a b i).1 b n + cf (divAt a b i).2 n
theorem mulc_zero {a b : List Int} {n : Nat} (h : ∀ k, cf a k = 0) : mulc a b n = 0 := by
  apply sm_zero; intro i _; unfold tm; rw [h i]; simp
theorem div_inv {a b : List Int} (hb : b ≠ []) : ∀ i, i ≤ a.length + 1 - b.length → DivInv a b i
  | 0, _ => ⟨by simp [divAt], by simp [divAt], fun k _ => by show cf (List.replicate _ 0) k = 0; rw [cf_replicate], fun n => by
      show _ = mulc (List.replicate _ 0) b n + cf a n
      rw [mulc_zero fun k => cf_replicate _ _]; simp⟩
  | i + 1, hi => by
    obtain ⟨lq, lr, low, eqn⟩ := div_inv (a := a) hb i (by omega)
    have hbl := List.length_pos_iff.mpr hb
    have e : divAt a b (i + 1) = divStep b (divAt a b i) (a.length + 1 - b.length - 1 - i) := rfl
    generalize hz : divAt a b i = z at lq lr low eqn
    have hp : a.length + 1 - b.length - 1 - i < (scL ((cf b (b.length - 1)).natAbs : Int) z.1).length := by rw [length_scL, lq]; omega
    have hq : ∀ k, cf (divStep b z (a.length + 1 - b.length - 1 - i)).1 k = ((cf b (b.length - 1)).natAbs : Int) * cf z.1 k + (if k = a.length + 1 - b.length - 1 - i then sg (cf b (b.length - 1)) * cf z.2 (z.2.length - 1) else 0) := by
      intro k
      unfold divStep
      dsimp only
      rw [cf_set hp, cf_scL]
      by_cases h : k = a.length + 1 - b.length - 1 - i
      · rw [if_pos h, if_pos h, low k (by omega)]; simp
      · rw [if_neg h, if_neg h]; simp
    have hlq : (divStep b z (a.length + 1 - b.length - 1 - i)).1.length = a.length + 1 - b.length := by
      unfold divStep; dsimp only; rw [List.length_set, length_scL, lq]
    refine ⟨?_, ?_, ?_, ?_⟩
    · rw [e, hz, hlq]
    · rw [e, hz]; unfold divStep; dsimp only; rw [length_lowL, length_scL, lr]; omega
    · intro k hk
      rw [e, hz, hq, if_neg (by omega), low k (by omega)]; simp
    · intro n
      rw [e, hz, mulc_lay (by rw [hlq, lq]) (by rw [lq]; omega) hq, Int.pow_succ]
      have en := eqn n
      unfold divStep
      dsimp only
      rw [cf_lowL, length_scL, cf_scL, lr]
      by_cases h1 : n < a.length - i - 1
      · rw [if_pos h1]
        by_cases h2 : a.length + 1 - b.length - 1 - i ≤ n
        · rw [if_pos h2]; grind
        · rw [if_neg h2]; grind
      · rw [if_neg h1]
        by_cases h3 : n = a.length - i - 1
        · have h2 : a.length + 1 - b.length - 1 - i ≤ n := by omega
          have h4 : n - (a.length + 1 - b.length - 1 - i) = b.length - 1 := by omega
          rw [if_pos h2, h4]
          have sg := sg_self (cf b (b.length - 1))
          rw [← h3]
          grind
        · have h2 : a.length + 1 - b.length - 1 - i ≤ n := by omega
          have hc : cf z.2 n = 0 := cf_ge (by rw [lr]; omega)
          rw [if_pos h2, cf_ge (l := b) (k := n - (a.length + 1 - b.length - 1 - i)) (by omega)]
          grind
/-- the quotient's last coefficient, from the first step on -/
theorem div_lead {a b : List Int} (hb : b ≠ []) (ha : Tr a) (hbt : Tr b) : ∀ i, i + 1 ≤ a.length + 1 - b.length → cf (divAt a b (i + 1)).1 (a.length + 1 - b.length - 1) ≠ 0
  | 0, h => by
    obtain ⟨lq, lr, _, _⟩ := div_inv (a := a) hb 0 (by omega)
    have hbl := List.length_pos_iff.mpr hb
    show cf (divStep b (divAt a b 0) _).1 _ ≠ 0
    unfold divStep
    dsimp only
    rw [cf_set (by rw [length_scL, lq]; omega), if_pos (by omega)]
    have hb1 := hbt (b.length - 1) (by omega)
    have ha1 := ha (a.length - 1) (by omega)
    refine Int.mul_ne_zero ?_ ?_
    · unfold sg; split <;> (try split) <;> omega
    · rw [lr]; exact ha1
  | i + 1, h => by
    have ih := div_lead hb ha hbt i (by omega)
    obtain ⟨lq, lr, _, _⟩ := div_inv (a := a) hb (i + 1) (by omega)
    have hbl := List.length_pos_iff.mpr hb
    show cf (divStep b (divAt a b (i + 1)) _).1 _ ≠ 0
    unfold divStep
    dsimp only
    rw [cf_set (by rw [length_scL, lq]; omega), if_neg (by omega), cf_scL]
    have hb1 := hbt (b.length - 1) (by omega)
    refine Int.mul_ne_zero ?_ ih
    omega
def divN (a b : List Int) : Nat := a.length + 1 - b.length
def divF (a b : List Int) : Int := ((cf b (b.length - 1)).natAbs : Int) ^ divN a b
def divQ (a b : List Int) : List Int := (divAt a b (divN a b)).1
def divR (a b : List Int) : List Int := trim (divAt a b (divN a b)).2
theorem div_eqn {a b : List Int} (hb : b ≠ []) (n : Nat) : divF a b * cf a n = mulc (divQ a b) b n + cf (divR a b) n := by
  unfold divR divQ divF; rw [cf_trim]; exact (div_inv hb (divN a b) (Nat.le_refl _)).eqn n
theorem div_lenR {a b : List Int} (hb : b ≠ []) : (divR a b).length < b.length := by
  have h := (div_inv (a := a) hb (divN a b) (Nat.le_refl _)).lr
  have h2 := length_trim (divAt a b (divN a b)).2
  have hbl := List.length_pos_iff.mpr hb
  unfold divR
  unfold divN at *
  omega
theorem div_lenQ {a b : List Int} (hb : b ≠ []) : (divQ a b).length = divN a b := (div_inv (a := a) hb (divN a b) (Nat.le_refl _)).lq
theorem div_trQ {a b : List Int} (hb : b ≠ []) (ha : Tr a) (hbt : Tr b) : Tr (divQ a b) := by
  intro n hn
  rw [div_lenQ hb] at hn
  have h := div_lead hb ha hbt n (by unfold divN at hn; omega)
  unfold divQ
  rw [hn]
  have : a.length + 1 - b.length - 1 = n := by unfold divN at hn; omega
  rwa [this] at h
theorem div_trR (a b : List Int) : Tr (divR a b) := tr_trim _
end RM

/-! What divides what: plain mathematics (behind MathDiv) -/
namespace RM
theorem sm_congr {a a' b b' : List Int} {n : Nat} (h1 : ∀ k, cf a k = cf a' k) (h2 : ∀ k, cf b k = cf b' k) : ∀ j, sm a b n j = sm a' b' n j
  | 0 => rfl
  | j + 1 => by rw [sm, sm, sm_congr h1 h2 j]; unfold tm; rw [h1 j, h2 (n - j)]
theorem sm_ge {a b : List Int} {n : Nat} : ∀ d, sm a b n (a.length + d) = mulc a b n
  | 0 => rfl
  | d + 1 => by rw [← Nat.add_assoc, sm, sm_ge d, tm_zero_left (by omega)]; omega
theorem sm_ge' {a b : List Int} {n N : Nat} (h : a.length ≤ N) : sm a b n N = mulc a b n := by
  obtain ⟨d, rfl⟩ := Nat.exists_eq_add_of_le h
  exact sm_ge d
theorem mulc_congr {a a' b b' : List Int} {n : Nat} (h1 : ∀ k, cf a k = cf a' k) (h2 : ∀ k, cf b k = cf b' k) : mulc a b n = mulc a' b' n := by
  rw [← sm_ge' (Nat.le_max_left a.length a'.length), ← sm_ge' (Nat.le_max_right a.length a'.length)]
  exact sm_congr h1 h2 _
theorem sm_lin {a b c q : List Int} {x y : Int} {n : Nat} (h : ∀ k, cf c k = x * cf a k + y * cf b k) : ∀ j, sm c q n j = x * sm a q n j + y * sm b q n j
  | 0 => by simp [sm]
  | j + 1 => by
    rw [sm, sm, sm, sm_lin h j]; unfold tm; rw [h j]
    by_cases hj : j ≤ n
    · rw [if_pos hj, if_pos hj, if_pos hj]; grind
    · rw [if_neg hj, if_neg hj, if_neg hj]; grind
theorem mulc_lin {a b c q : List Int} {x y : Int} {n : Nat} (h : ∀ k, cf c k = x * cf a k + y * cf b k) : mulc c q n = x * mulc a q n + y * mulc b q n := by
  have h1 : a.length ≤ a.length + b.length + c.length := by omega
  have h2 : b.length ≤ a.length + b.length + c.length := by omega
  have h3 : c.length ≤ a.length + b.length + c.length := by omega
  rw [← sm_ge' h1, ← sm_ge' h2, ← sm_ge' h3]
  exact sm_lin h _
theorem sm_right {a b b' : List Int} {c : Int} {n : Nat} (h : ∀ k, cf b' k = c * cf b k) : ∀ j, sm a b' n j = c * sm a b n j
  | 0 => by simp [sm]
  | j + 1 => by
    rw [sm, sm, sm_right h j]; unfold tm; rw [h (n - j)]
    by_cases hj : j ≤ n
    · rw [if_pos hj, if_pos hj]; grind
    · rw [if_neg hj, if_neg hj]; grind
theorem mulc_right {a b b' : List Int} {c : Int} {n : Nat} (h : ∀ k, cf b' k = c * cf b k) : mulc a b' n = c * mulc a b n := sm_right h _
theorem mulc_one' (c : Int) (l : List Int) (n : Nat) : mulc [c] l n = c * cf l n := by
  unfold mulc
  show sm [c] l n 0 + tm [c] l n 0 = _
  unfold sm tm
  rw [if_pos (Nat.zero_le _), cf_zero, Nat.sub_zero, Int.zero_add]
theorem nil_of_cf {l : List Int} (ht : Tr l) (h : ∀ k, cf l k = 0) : l = [] := by
  refine Classical.byContradiction fun hne => ?_
  have hl := List.length_pos_iff.mpr hne
  exact ht (l.length - 1) (by omega) (h _)
/-- what is times q of a degree less than q's is nought -/
theorem mulc_small {d q : List Int} (hq : q ≠ []) (hqt : Tr q) (h : ∀ n, q.length ≤ n + 1 → mulc d q n = 0) : ∀ k, cf d k = 0 := by
  have e : trim d = [] := by
    refine Classical.byContradiction fun hne => ?_
    have hl := List.length_pos_iff.mpr hne
    have hql := List.length_pos_iff.mpr hq
    have ht := tr_trim d ((trim d).length - 1) (by omega)
    have hb := hqt (q.length - 1) (by omega)
    have h1 := h ((trim d).length - 1 + (q.length - 1)) (by omega)
    rw [← mulc_congr (a := trim d) (b := q) (fun k => cf_trim d k) (fun _ => rfl), mulc_top (la := (trim d).length - 1) (lb := q.length - 1) (by omega) (by omega)] at h1
    exact Int.mul_ne_zero ht hb h1
  intro k
  rw [← cf_trim, e, cf_nil]
end RM

/-! The shared divisor: plain mathematics -/
namespace RM

/-- the mirror of shared -/
def gcdF (d : Nat) (l : List Int) : Nat := l.foldl (fun d v => Nat.gcd d v.natAbs) d
def gcdL (l : List Int) : Nat := gcdF 0 l
theorem gcdF_nil (d : Nat) : gcdF d [] = d := rfl
theorem gcdF_cons (d : Nat) (v : Int) (l : List Int) : gcdF d (v :: l) = gcdF (Nat.gcd d v.natAbs) l := rfl
theorem gcdF_snoc (d : Nat) (l : List Int) (v : Int) : gcdF d (l ++ [v]) = Nat.gcd (gcdF d l) v.natAbs := by
  unfold gcdF; rw [List.foldl_append]; rfl
theorem gcdL_snoc (l : List Int) (v : Int) : gcdL (l ++ [v]) = Nat.gcd (gcdL l) v.natAbs := gcdF_snoc 0 l v
theorem dvd_gcdF {m : Nat} : ∀ {l : List Int} {d : Nat}, m ∣ gcdF d l ↔ m ∣ d ∧ ∀ v ∈ l, m ∣ v.natAbs
  | [], d => by simp [gcdF_nil]
  | v :: l, d => by
    rw [gcdF_cons, dvd_gcdF, Nat.dvd_gcd_iff]
    simp only [List.mem_cons, forall_eq_or_imp]
    exact ⟨fun ⟨⟨a, b⟩, c⟩ => ⟨a, b, c⟩, fun ⟨a, b, c⟩ => ⟨⟨a, b⟩, c⟩⟩
theorem dvd_gcdL {m : Nat} {l : List Int} : m ∣ gcdL l ↔ ∀ v ∈ l, m ∣ v.natAbs := by
  unfold gcdL; rw [dvd_gcdF]; exact ⟨fun h => h.2, fun h => ⟨Nat.dvd_zero m, h⟩⟩
theorem gcdL_dvd {l : List Int} {v : Int} (h : v ∈ l) : gcdL l ∣ v.natAbs := dvd_gcdL.mp (Nat.dvd_refl _) v h
theorem gcdL_one (v : Int) : gcdL [v] = v.natAbs := by
  show Nat.gcd 0 v.natAbs = _; exact Nat.gcd_zero_left _
/-- Euclid's turn -/
theorem gcd_turn {a b : Int} (ha : 0 ≤ a) (hb : 0 < b) : Nat.gcd b.natAbs (a % b).natAbs = Nat.gcd a.natAbs b.natAbs := by
  have e : (a % b).natAbs = a.natAbs % b.natAbs := by
    obtain ⟨x, rfl⟩ := Int.eq_ofNat_of_zero_le ha
    obtain ⟨y, rfl⟩ := Int.eq_ofNat_of_zero_le (Int.le_of_lt hb)
    rfl
  rw [e, Nat.gcd_comm, ← Nat.gcd_rec, Nat.gcd_comm]

end RM

/-! Shrunk and plain: plain mathematics (behind MathGcd, MathPoly) -/
namespace RM
def shrL (l : List Int) : List Int := l.map fun x => x / (gcdL l : Int)
def lastI (l : List Int) : Int := cf l (l.length - 1)
theorem lastI_snoc (r : List Int) (x : Int) : lastI (r ++ [x]) = x := by
  unfold lastI; rw [List.length_append]; exact cf_last r x
def posL (l : List Int) : List Int := if lastI l < 0 then l.map fun x => -x else l
def plainL (l : List Int) : List Int := posL (shrL l)
theorem trim_map {c : Int → Int} (h0 : ∀ x, c x = 0 ↔ x = 0) : ∀ (n : Nat) (l : List Int), l.length = n → trim (l.map c) = (trim l).map c
  | 0, l, h => by rw [List.length_eq_zero_iff.mp h]; rfl
  | n + 1, l, h => by
    rcases snoc_cases l with rfl | ⟨r, x, rfl⟩
    · rfl
    · rw [List.map_append]
      show trim (r.map c ++ [c x]) = _
      by_cases hx : x = 0
      · subst hx
        rw [(h0 0).mpr rfl, trim_snoc_zero, trim_snoc_zero]
        exact trim_map h0 n r (by simpa using h)
      · rw [trim_snoc_ne r hx, trim_snoc_ne _ (fun z => hx ((h0 x).mp z)), List.map_append]; rfl
/-- the shared divisor is 1, or there is nothing -/
def Prim (l : List Int) : Prop := l = [] ∨ gcdL l = 1
theorem shrL_prim {l : List Int} (h : Prim l) : shrL l = l := by
  rcases h with rfl | h
  · rfl
  · unfold shrL; rw [h]
    conv => rhs; rw [← List.map_id l]
    apply List.map_congr_left
    intro x _
    show x / 1 = x
    exact Int.ediv_one x
theorem gcdL_map_unit {l : List Int} {s : Int} (hs : s = 1 ∨ s = -1) : gcdL (l.map fun x => x * s) = gcdL l := by
  have key : ∀ m : Nat, m ∣ gcdL (l.map fun x => x * s) ↔ m ∣ gcdL l := by
    intro m
    rw [dvd_gcdL, dvd_gcdL]
    have e : ∀ x : Int, (x * s).natAbs = x.natAbs := fun x => by
      rcases hs with rfl | rfl
      · rw [Int.mul_one]
      · rw [Int.mul_neg, Int.mul_one, Int.natAbs_neg]
    constructor
    · intro h v hv
      have := h (v * s) (List.mem_map.mpr ⟨v, hv, rfl⟩)
      rwa [e] at this
    · intro h v hv
      obtain ⟨u, hu, rfl⟩ := List.mem_map.mp hv
      rw [e]; exact h u hu
  exact Nat.dvd_antisymm ((key _).mp (Nat.dvd_refl _)) ((key _).mpr (Nat.dvd_refl _))
theorem prim_neg {l : List Int} (h : Prim l) : Prim (l.map fun x => -x) := by
  rcases h with rfl | h
  · exact .inl rfl
  · right
    have e : (l.map fun x => -x) = l.map fun x => x * (-1) := by
      apply List.map_congr_left; intro x _; omega
    rw [e, gcdL_map_unit (.inr rfl), h]
theorem lastI_map_neg (l : List Int) : lastI (l.map fun x => -x) = -lastI l := by
  rcases snoc_cases l with rfl | ⟨r, x, rfl⟩
  · rfl
  · rw [List.map_append]
    show lastI (r.map _ ++ [-x]) = _
    rw [lastI_snoc, lastI_snoc]
theorem prim_posL {l : List Int} (h : Prim l) : Prim (posL l) := by
  unfold posL; split
  · exact prim_neg h
  · exact h
theorem tr_map {c : Int → Int} (h0 : ∀ x, c x = 0 ↔ x = 0) {l : List Int} (h : Tr l) : Tr (l.map c) := by
  rw [← trim_of_tr h, ← trim_map h0 _ l rfl]; exact tr_trim _
theorem tr_posL {l : List Int} (h : Tr l) : Tr (posL l) := by
  unfold posL; split
  · exact tr_map (fun x => by omega) h
  · exact h
end RM

/-! Plain lists that differ by a factor (behind MathShr, MathDiv) -/
namespace RM
theorem gcdF_scL (c : Int) : ∀ (l : List Int) (d : Nat), gcdF (c.natAbs * d) (scL c l) = c.natAbs * gcdF d l
  | [], d => rfl
  | v :: l, d => by
    show gcdF (Nat.gcd (c.natAbs * d) (c * v).natAbs) (scL c l) = c.natAbs * gcdF (Nat.gcd d v.natAbs) l
    rw [Int.natAbs_mul, Nat.gcd_mul_left, gcdF_scL c l]
theorem gcdL_scL (c : Int) (l : List Int) : gcdL (scL c l) = c.natAbs * gcdL l := by
  have h := gcdF_scL c l 0
  rw [Nat.mul_zero] at h
  exact h
theorem int_dvd_gcdL {l : List Int} {x : Int} (h : x ∈ l) : (gcdL l : Int) ∣ x := Int.ofNat_dvd_left.mpr (gcdL_dvd h)
theorem tr_shrL {l : List Int} (h : Tr l) : Tr (shrL l) := by
  intro n hn
  have hl : l.length = n + 1 := by rw [← hn]; unfold shrL; rw [List.length_map]
  have hx := h n hl
  have hm : cf l n ∈ l := by rw [cf_lt (by omega)]; exact List.getElem_mem _
  have e : cf (shrL l) n = cf l n / (gcdL l : Int) := by
    have h1 : n < l.length := by omega
    unfold shrL cf
    simp [List.getD, h1]
  rw [e]
  intro z
  have d := int_dvd_gcdL hm
  have := Int.mul_ediv_cancel' d
  rw [z, Int.mul_zero] at this
  exact hx this.symm
end RM

/-! Slope, turned, flipped, lifted: plain mathematics (behind MathPoly) -/
namespace RM
def slopeL (l : List Int) : List Int := (List.range (l.length - 1)).map fun (k : Nat) => ((k : Int) + 1) * cf l (k + 1)
/-- the places laid so far -/
def lp (l : List Int) (m i n : Nat) : Int := if n % m = 0 ∧ n / m < i then cf l (n / m) else 0
end RM

/-! Rows of rests (behind MathDiv2, MathShr) -/
namespace RM
def rst (one other : List Int) : List Int := if other = [] then [] else divR one other
def nxt (one other : List Int) : List Int := shrL (subL [] (rst one other))
def rowS : Nat → List Int → List Int → List (List Int)
  | 0, _, _ => []
  | n + 1, one, other => if one = [] then [] else one :: rowS n other (nxt one other)
theorem rowS_nil (n : Nat) (o : List Int) : rowS n [] o = [] := by cases n with | zero => rfl | succ n => show (if ([] : List Int) = [] then _ else _) = _; rw [if_pos rfl]
theorem shr_one {c : Int} (hc : c ≠ 0) : shrL [c] = [sg c] := by
  unfold shrL
  rw [gcdL_one]
  show [c / (c.natAbs : Int)] = _
  congr 1
  by_cases h : 0 < c
  · have e : (c.natAbs : Int) = c := by omega
    rw [e, Int.ediv_self hc]
    unfold sg; rw [if_neg (by omega), if_pos h]
  · have e : (c.natAbs : Int) = -c := by omega
    rw [e, Int.ediv_neg, Int.ediv_self hc]
    unfold sg; rw [if_pos (by omega)]
theorem divR_const {a b : List Int} (hb : b ≠ []) (h1 : b.length = 1) : divR a b = [] := by
  have := div_lenR (a := a) hb
  exact List.length_eq_zero_iff.mp (by omega)
theorem nxt_const {one other : List Int} (hb : other ≠ []) (h1 : other.length = 1) : nxt one other = [] := by
  unfold nxt rst
  rw [if_neg hb, divR_const hb h1]; rfl
end RM

/-! The product's laws: by its first factor's items; commutative, associative (behind MathDiv2) -/
namespace RM
/-- the items one place up -/
def up (f : Nat → Int) (n : Nat) : Int := if n = 0 then 0 else f (n - 1)
theorem sm_cons (x : Int) (a b : List Int) (n : Nat) : ∀ j, sm (x :: a) b n (j + 1) = x * cf b n + (if n = 0 then 0 else sm a b (n - 1) j)
  | 0 => by
    show 0 + tm (x :: a) b n 0 = _
    unfold tm
    rw [if_pos (Nat.zero_le _)]
    rw [cf_zero, Nat.sub_zero]
    by_cases h : n = 0
    · rw [if_pos h]; omega
    · rw [if_neg h]; show _ = _ + 0; omega
  | j + 1 => by
    show sm (x :: a) b n (j + 1) + tm (x :: a) b n (j + 1) = _
    rw [sm_cons x a b n j]
    by_cases h : n = 0
    · rw [if_pos h, if_pos h]
      unfold tm
      rw [if_neg (by omega)]; omega
    · rw [if_neg h, if_neg h]
      show _ = _ + (sm a b (n - 1) j + tm a b (n - 1) j)
      have e : tm (x :: a) b n (j + 1) = tm a b (n - 1) j := by
        unfold tm
        rw [cf_succ]
        by_cases h2 : j + 1 ≤ n
        · rw [if_pos h2, if_pos (by omega)]
          congr 2; omega
        · rw [if_neg h2, if_neg (by omega)]
      rw [e]; omega
theorem mulc_cons (x : Int) (a b : List Int) (n : Nat) : mulc (x :: a) b n = x * cf b n + up (mulc a b) n := sm_cons x a b n a.length
theorem mulc_nil (b : List Int) (n : Nat) : mulc [] b n = 0 := rfl
theorem cf_cons_up (x : Int) (a : List Int) (n : Nat) : cf (x :: a) n = (if n = 0 then x else 0) + up (cf a) n := by
  cases n with
  | zero => show x = x + 0; omega
  | succ n => show cf a n = 0 + cf a n; omega
theorem mulc_cons_right (y : Int) (b : List Int) : ∀ (a : List Int) (n : Nat), mulc a (y :: b) n = y * cf a n + up (mulc a b) n
  | [], n => by
    rw [mulc_nil, cf_nil]
    unfold up
    split
    · simp
    · rw [mulc_nil]; simp
  | x :: a, n => by
    rw [mulc_cons, cf_cons_up, cf_cons_up]
    cases n with
    | zero =>
      show x * (y + 0) + 0 = y * (x + 0) + 0
      simp only [Int.add_zero]; exact Int.mul_comm _ _
    | succ n =>
      show x * (0 + cf b n) + mulc a (y :: b) n = y * (0 + cf a n) + mulc (x :: a) b n
      rw [mulc_cons_right y b a n, mulc_cons]
      simp only [Int.zero_add]
      omega
theorem mulc_nil_right : ∀ (a : List Int) (n : Nat), mulc a [] n = 0
  | [], n => rfl
  | x :: a, n => by
    rw [mulc_cons, cf_nil]
    unfold up
    split
    · simp
    · rw [mulc_nil_right a]; simp
theorem mulc_comm : ∀ (a b : List Int) (n : Nat), mulc a b n = mulc b a n
  | [], b, n => by rw [mulc_nil_right]; rfl
  | x :: a, b, n => by
    rw [mulc_cons, mulc_cons_right]
    congr 1
    unfold up
    split
    · rfl
    · exact mulc_comm a b _
theorem cf_shift (a : List Int) (n : Nat) : cf (0 :: a) n = up (cf a) n := by
  rw [cf_cons_up]; split <;> omega
theorem mulc_shift (a b : List Int) (n : Nat) : mulc (0 :: a) b n = up (mulc a b) n := by
  rw [mulc_cons]; omega
theorem mulc_assoc : ∀ (a b c : List Int) (n : Nat), mulc (mulL a b) c n = mulc a (mulL b c) n
  | [], b, c, n => by
    rw [mulc_nil, mulc_zero fun k => by rw [cf_mulL, mulc_nil]]
  | x :: a, b, c, n => by
    rw [mulc_cons, cf_mulL]
    have e : ∀ k, cf (mulL (x :: a) b) k = x * cf b k + 1 * cf (0 :: mulL a b) k := fun k => by
      rw [cf_mulL, mulc_cons, cf_shift, Int.one_mul]
      congr 1
      unfold up
      split
      · rfl
      · rw [cf_mulL]
    rw [mulc_lin e, mulc_shift, Int.one_mul]
    congr 1
    unfold up
    split
    · rfl
    · exact mulc_assoc a b c _
end RM

/-! Divisors, with any factor; what the chain of plain rests ends with (behind MathRing, MathPlain) -/
namespace RM
/-- d divides p, with fractions -/
def Dv (d p : List Int) : Prop := ∃ (c : Int) (q : List Int), c ≠ 0 ∧ ∀ n, c * cf p n = mulc q d n
theorem Dv.refl (d : List Int) : Dv d d := ⟨1, [1], by decide, fun n => by rw [mulc_one']⟩
theorem Dv.nil (d : List Int) : Dv d [] := ⟨1, [], by decide, fun n => by rw [cf_nil, mulc_nil]; rfl⟩
theorem Dv.trans {d e p : List Int} (h1 : Dv d e) (h2 : Dv e p) : Dv d p := by
  obtain ⟨c1, q1, hc1, e1⟩ := h1
  obtain ⟨c2, q2, hc2, e2⟩ := h2
  refine ⟨c1 * c2, mulL q2 q1, Int.mul_ne_zero hc1 hc2, fun n => ?_⟩
  rw [mulc_assoc, Int.mul_assoc, e2, ← mulc_right (b' := mulL q1 d) (fun k => by rw [cf_mulL, e1])]
/-- f a = q b + r: who divides b and r divides a, who divides a and b divides r -/
theorem Dv.up {d a b r q : List Int} {f : Int} (hf : f ≠ 0) (h : ∀ n, f * cf a n = mulc q b n + cf r n) (hb : Dv d b) (hr : Dv d r) : Dv d a := by
  obtain ⟨c1, q1, hc1, e1⟩ := hb
  obtain ⟨c2, q2, hc2, e2⟩ := hr
  refine ⟨c1 * c2 * f, linL c1 (scL c2 (mulL q q1)) q2, Int.mul_ne_zero (Int.mul_ne_zero hc1 hc2) hf, fun n => ?_⟩
  rw [mulc_lin (a := mulL q q1) (b := q2) (x := c2) (y := c1) (fun k => by rw [cf_linL, cf_scL]), mulc_assoc, ← e2, mulc_right (b := b) (b' := mulL q1 d) (c := c1) (fun k => by rw [cf_mulL, e1])]
  have := h n
  grind
theorem Dv.down {d a b r q : List Int} {f : Int} (h : ∀ n, f * cf a n = mulc q b n + cf r n) (ha : Dv d a) (hb : Dv d b) : Dv d r := by
  obtain ⟨c1, q1, hc1, e1⟩ := ha
  obtain ⟨c2, q2, hc2, e2⟩ := hb
  refine ⟨c1 * c2, linL (-c1) (scL (f * c2) q1) (mulL q q2), Int.mul_ne_zero hc1 hc2, fun n => ?_⟩
  rw [mulc_lin (a := q1) (b := mulL q q2) (x := f * c2) (y := -c1) (fun k => by rw [cf_linL, cf_scL]), mulc_assoc, ← e1, mulc_right (b := b) (b' := mulL q2 d) (c := c2) (fun k => by rw [cf_mulL, e2])]
  have := h n
  grind
theorem Dv.prop_right {d p p' : List Int} {x y : Int} (hx : x ≠ 0) (h : ∀ n, x * cf p' n = y * cf p n) (hd : Dv d p) : Dv d p' := by
  obtain ⟨c, q, hc, e⟩ := hd
  refine ⟨c * x, scL y q, Int.mul_ne_zero hc hx, fun n => ?_⟩
  rw [mulc_lin (a := q) (b := []) (x := y) (y := 0) (fun k => by rw [cf_scL]; simp), ← e]
  have := h n
  grind
theorem plain_scale {l : List Int} (h : Tr l) : ∃ g : Int, g ≠ 0 ∧ ∀ n, cf l n = g * cf (plainL l) n := by
  by_cases hl : l = []
  · subst hl
    exact ⟨1, by decide, fun n => by rw [cf_nil]; show 0 = 1 * cf [] n; rw [cf_nil]; rfl⟩
  have hg : (gcdL l : Int) ≠ 0 := by
    obtain ⟨r, x, rfl⟩ := (snoc_cases l).resolve_left hl
    have hx : x ≠ 0 := tr_snoc.mp h
    have h1 : 0 < gcdL (r ++ [x]) := Nat.pos_of_dvd_of_pos (gcdL_dvd (by simp : x ∈ r ++ [x])) (Int.natAbs_pos.mpr hx)
    omega
  have e1 : ∀ n, cf l n = (gcdL l : Int) * cf (shrL l) n := fun n => by
    unfold shrL
    by_cases hn : n < l.length
    · rw [cf_lt hn, cf_lt (by rw [List.length_map]; exact hn), List.getElem_map]
      exact (Int.mul_ediv_cancel' (int_dvd_gcdL (List.getElem_mem hn))).symm
    · rw [cf_ge (by omega), cf_ge (by rw [List.length_map]; omega), Int.mul_zero]
  unfold plainL posL
  split
  · refine ⟨-(gcdL l : Int), by omega, fun n => ?_⟩
    have e2 : cf ((shrL l).map fun x => -x) n = -cf (shrL l) n := by
      by_cases hn : n < (shrL l).length
      · rw [cf_lt hn, cf_lt (by rw [List.length_map]; exact hn), List.getElem_map]
      · rw [cf_ge (l := shrL l) (by omega), cf_ge (l := (shrL l).map fun x => -x) (by rw [List.length_map]; omega)]; rfl
    rw [e1, e2]; grind
  · exact ⟨_, hg, e1⟩
theorem Dv.plain {d p : List Int} (hp : Tr p) : Dv d (plainL p) ↔ Dv d p := by
  obtain ⟨g, hg, e⟩ := plain_scale hp
  exact ⟨fun h => Dv.prop_right (x := 1) (y := g) (by decide) (fun n => by rw [e]; omega) h, fun h => Dv.prop_right (x := g) (y := 1) hg (fun n => by rw [← e]; omega) h⟩
theorem plain_len (l : List Int) : (plainL l).length = l.length := by
  unfold plainL posL shrL
  split <;> simp
theorem tr_plain {l : List Int} (h : Tr l) : Tr (plainL l) := tr_posL (tr_shrL h)
/-- what the chain of plain rests ends with -/
def comN : Nat → List Int → List Int → List Int
  | 0, one, _ => one
  | n + 1, one, other => if other = [] then one else comN n other (plainL (divR one other))
theorem comN_nil (n : Nat) (one : List Int) : comN n one [] = one := by cases n <;> rfl
theorem comN_step {n : Nat} {one other : List Int} (h : other ≠ []) : comN (n + 1) one other = comN n other (plainL (divR one other)) := by
  show (if other = [] then one else comN n other (plainL (divR one other))) = _
  rw [if_neg h]
/-- no number above 1 divides m and all of a -/
def Cop (a : List Int) (m : Nat) : Prop := ∀ k : Nat, k ∣ m → (∀ n, (k : Int) ∣ cf a n) → k = 1
theorem gauss : ∀ (N : Nat) (a b : List Int) (m : Nat), a.length + b.length ≤ N → Cop a m → Cop b m → (∀ n, (m : Int) ∣ mulc a b n) → m = 1
  | _, [], b, m, _, h1, _, _ => h1 m (Nat.dvd_refl _) fun n => by rw [cf_nil]; exact Int.dvd_zero _
  | _, _ :: _, [], m, _, _, h2, _ => h2 m (Nat.dvd_refl _) fun n => by rw [cf_nil]; exact Int.dvd_zero _
  | 0, _ :: _, _ :: _, _, h, _, _, _ => absurd h (by simp)
  | N + 1, x :: a, y :: b, m, h, h1, h2, h3 => by
    have d1 : Nat.gcd m x.natAbs = 1 := by
      refine gauss N a (y :: b) _ (by simp at h ⊢; omega) (fun k hk hn => h1 k (Nat.dvd_trans hk (Nat.gcd_dvd_left _ _)) fun n => ?_) (fun k hk => h2 k (Nat.dvd_trans hk (Nat.gcd_dvd_left _ _))) fun n => ?_
      · cases n with
        | zero => exact Int.ofNat_dvd_left.mpr (Nat.dvd_trans hk (Nat.gcd_dvd_right _ _))
        | succ n => exact hn n
      · have e := mulc_cons x a (y :: b) (n + 1)
        have g1 : ((Nat.gcd m x.natAbs : Nat) : Int) ∣ mulc (x :: a) (y :: b) (n + 1) := Int.dvd_trans (Int.ofNat_dvd.mpr (Nat.gcd_dvd_left _ _)) (h3 _)
        have g2 : ((Nat.gcd m x.natAbs : Nat) : Int) ∣ x * cf (y :: b) (n + 1) := Int.dvd_mul_of_dvd_left (Int.ofNat_dvd_left.mpr (Nat.gcd_dvd_right _ _))
        have e2 : mulc a (y :: b) n = mulc (x :: a) (y :: b) (n + 1) - x * cf (y :: b) (n + 1) := by
          rw [e]; show _ = _ + mulc a (y :: b) n - _; omega
        rw [e2]; exact Int.dvd_sub g1 g2
    have d2 : Nat.gcd m y.natAbs = 1 := by
      refine gauss N (x :: a) b _ (by simp at h ⊢; omega) (fun k hk => h1 k (Nat.dvd_trans hk (Nat.gcd_dvd_left _ _))) (fun k hk hn => h2 k (Nat.dvd_trans hk (Nat.gcd_dvd_left _ _)) fun n => ?_) fun n => ?_
      · cases n with
        | zero => exact Int.ofNat_dvd_left.mpr (Nat.dvd_trans hk (Nat.gcd_dvd_right _ _))
        | succ n => exact hn n
      · have e := mulc_cons_right y b (x :: a) (n + 1)
        have g1 : ((Nat.gcd m y.natAbs : Nat) : Int) ∣ mulc (x :: a) (y :: b) (n + 1) := Int.dvd_trans (Int.ofNat_dvd.mpr (Nat.gcd_dvd_left _ _)) (h3 _)
        have g2 : ((Nat.gcd m y.natAbs : Nat) : Int) ∣ y * cf (x :: a) (n + 1) := Int.dvd_mul_of_dvd_left (Int.ofNat_dvd_left.mpr (Nat.gcd_dvd_right _ _))
        have e2 : mulc (x :: a) b n = mulc (x :: a) (y :: b) (n + 1) - y * cf (x :: a) (n + 1) := by
          rw [e]; show _ = _ + mulc (x :: a) b n - _; omega
        rw [e2]; exact Int.dvd_sub g1 g2
    have h0 := h3 0
    rw [mulc_cons] at h0
    have h0' : m ∣ x.natAbs * y.natAbs := by
      rw [← Int.natAbs_mul]
      refine Int.ofNat_dvd_left.mp ?_
      have e : x * cf (y :: b) 0 + up (mulc a (y :: b)) 0 = x * y := by
        show x * y + 0 = x * y; omega
      rwa [e] at h0
    have h4 : m ∣ y.natAbs := Nat.Coprime.dvd_of_dvd_mul_left d1 h0'
    rw [Nat.gcd_eq_left h4] at d2
    exact d2
theorem mem_cf {l : List Int} {v : Int} (h : v ∈ l) : ∃ n, n < l.length ∧ cf l n = v := by
  obtain ⟨n, hn, e⟩ := List.getElem_of_mem h
  exact ⟨n, hn, by rw [cf_lt hn, e]⟩
theorem cop_of {a : List Int} {m : Nat} (h : gcdL a = 1) : Cop a m := fun k _ hn => by
  have : k ∣ gcdL a := dvd_gcdL.mpr fun v hv => by
    obtain ⟨n, _, rfl⟩ := mem_cf hv
    exact Int.ofNat_dvd_left.mp (hn n)
  rw [h] at this
  exact Nat.dvd_one.mp this
theorem prim_mul {a b : List Int} (ha : gcdL a = 1) (hb : gcdL b = 1) : gcdL (mulL a b) = 1 := by
  refine gauss _ a b _ (Nat.le_refl _) (cop_of ha) (cop_of hb) fun n => ?_
  rw [← cf_mulL]
  by_cases hn : n < (mulL a b).length
  · rw [cf_lt hn]; exact int_dvd_gcdL (List.getElem_mem hn)
  · rw [cf_ge (by omega)]; exact Int.dvd_zero _
/-- a plain polynomial, not nought -/
structure Pln (l : List Int) : Prop where
  tr : Tr l
  ne : l ≠ []
  prim : gcdL l = 1
  pos : 0 < lastI l
theorem lastI_ne {l : List Int} (h : Tr l) (hne : l ≠ []) : lastI l ≠ 0 := by
  have := List.length_pos_iff.mpr hne
  exact h (l.length - 1) (by omega)
theorem Pln.plain {l : List Int} (h : Pln l) : plainL l = l := by
  unfold plainL
  rw [shrL_prim (.inr h.prim)]
  unfold posL
  rw [if_neg (by have := h.pos; omega)]
theorem shr_scale {l : List Int} : scL (gcdL l : Int) (shrL l) = l := by
  unfold scL shrL
  rw [List.map_map]
  refine (List.map_congr_left (g := id) fun x hx => ?_).trans (List.map_id _)
  exact Int.mul_ediv_cancel' (int_dvd_gcdL hx)
theorem pln_plain {l : List Int} (h : Tr l) (hne : l ≠ []) : Pln (plainL l) := by
  have hg : 0 < gcdL l := by
    obtain ⟨r, x, rfl⟩ := (snoc_cases l).resolve_left hne
    have hx : x ≠ 0 := tr_snoc.mp h
    exact Nat.pos_of_dvd_of_pos (gcdL_dvd (by simp : x ∈ r ++ [x])) (Int.natAbs_pos.mpr hx)
  have h1 : gcdL (shrL l) = 1 := by
    have e := gcdL_scL (gcdL l : Int) (shrL l)
    rw [shr_scale, Int.natAbs_natCast] at e
    exact Nat.eq_of_mul_eq_mul_left hg (by rw [← e, Nat.mul_one])
  have hs : shrL l ≠ [] := fun z => hne (by have := congrArg List.length z; unfold shrL at this; simpa using this)
  have hl := lastI_ne (tr_shrL h) hs
  have hp : gcdL (plainL l) = 1 := by
    rcases prim_posL (.inr h1 : Prim (shrL l)) with z | z
    · exact absurd (congrArg List.length z) (by
        have := plain_len l
        unfold plainL at this
        rw [this]
        exact fun q => hne (List.length_eq_zero_iff.mp q))
    · exact z
  refine ⟨tr_plain h, fun z => hne (List.length_eq_zero_iff.mp (by rw [← plain_len, z]; rfl)), hp, ?_⟩
  unfold plainL posL
  split
  · rw [lastI_map_neg]; omega
  · omega
theorem len_mulL {a b : List Int} (ha : a ≠ []) (hb : b ≠ []) : (mulL a b).length = a.length + b.length - 1 := by
  unfold mulL
  rw [if_neg (fun z => z.elim ha hb), List.length_map, List.length_range]
theorem last_mulL {a b : List Int} (ha : a ≠ []) (hb : b ≠ []) : lastI (mulL a b) = lastI a * lastI b := by
  have h1 := List.length_pos_iff.mpr ha
  have h2 := List.length_pos_iff.mpr hb
  unfold lastI
  rw [len_mulL ha hb, cf_mulL]
  have e : a.length + b.length - 1 - 1 = (a.length - 1) + (b.length - 1) := by omega
  rw [e, mulc_top (by omega) (by omega)]
theorem Pln.mul {a b : List Int} (ha : Pln a) (hb : Pln b) : Pln (mulL a b) := by
  refine ⟨tr_mulL ha.tr hb.tr, fun z => ?_, prim_mul ha.prim hb.prim, by rw [last_mulL ha.ne hb.ne]; exact Int.mul_pos ha.pos hb.pos⟩
  have h1 := List.length_pos_iff.mpr ha.ne
  have h2 := List.length_pos_iff.mpr hb.ne
  have := len_mulL ha.ne hb.ne
  rw [z] at this
  simp at this
  omega
theorem Dv.trim {d p : List Int} (h : Dv d p) : ∃ (c : Int) (q : List Int), c ≠ 0 ∧ Tr q ∧ ∀ n, c * cf p n = mulc q d n := by
  obtain ⟨c, q, hc, e⟩ := h
  exact ⟨c, RM.trim q, hc, tr_trim q, fun n => by rw [e]; exact (mulc_congr (fun k => cf_trim q k) fun _ => rfl).symm⟩
theorem Pln.const {l : List Int} (h : Pln l) (h1 : l.length = 1) : l = [1] := by
  obtain ⟨x, rfl⟩ : ∃ x, l = [x] := List.length_eq_one_iff.mp h1
  have h2 := h.prim
  rw [gcdL_one] at h2
  have h3 : 0 < x := h.pos
  have : x = 1 := by omega
  rw [this]
theorem one_mul (l : List Int) (h : Tr l) : mulL [1] l = l := by
  refine eq_of_cf (tr_mulL (tr_snoc (r := []).mpr (by decide)) h) h fun k => ?_
  rw [cf_mulL, mulc_one']; omega
theorem Dv.short {d r : List Int} (hd : d ≠ []) (hdt : Tr d) (hr : Tr r) (hl : r.length < d.length) (h : Dv d r) : r = [] := by
  obtain ⟨c, q, hc, e⟩ := h
  have z := mulc_small hd hdt (d := q) fun n hn => by rw [← e, cf_ge (by omega), Int.mul_zero]
  refine nil_of_cf hr fun k => ?_
  have h1 := e k
  rw [mulc_zero z] at h1
  exact (Int.mul_eq_zero.mp h1).resolve_left hc
theorem Dv.rest {d p : List Int} (hd : d ≠ []) (hdt : Tr d) (h : Dv d p) : divR p d = [] :=
  Dv.short hd hdt (div_trR _ _) (div_lenR hd) (Dv.down (fun n => div_eqn (a := p) hd n) h (Dv.refl d))
end RM

namespace RM
theorem along_eq {l1 l2 r1 r2 pl pc a1 a2 c1 c2 x1 x2 : Int} (ha : 0 < a2) (hc : 0 < c2) (e1 : a1 * pc = pl * a2) (e2 : c1 * (r2 * a2) = r1 * a1 * c2) (e3 : x1 * (l2 * c2) = (l1 * c2 + c1 * l2) * x2) :
    x1 * (l2 * r2 * pc) = (l1 * r2 * pc + r1 * l2 * pl) * x2 := by
  have h0 : c2 * a2 ≠ 0 := Int.ne_of_gt (Int.mul_pos hc ha)
  refine Int.eq_of_mul_eq_mul_right h0 ?_
  calc x1 * (l2 * r2 * pc) * (c2 * a2) = x1 * (l2 * c2) * (r2 * pc * a2) := by grind
    _ = (l1 * c2 + c1 * l2) * x2 * (r2 * pc * a2) := by rw [e3]
    _ = x2 * (l1 * c2 * r2 * pc * a2 + l2 * pc * (c1 * (r2 * a2))) := by grind
    _ = x2 * (l1 * c2 * r2 * pc * a2 + l2 * pc * (r1 * a1 * c2)) := by rw [e2]
    _ = x2 * c2 * (l1 * r2 * pc * a2 + l2 * r1 * (a1 * pc)) := by grind
    _ = x2 * c2 * (l1 * r2 * pc * a2 + l2 * r1 * (pl * a2)) := by rw [e1]
    _ = (l1 * r2 * pc + r1 * l2 * pl) * x2 * (c2 * a2) := by grind
/-- the least multiple of two numbers and what it is of each -/
theorem both_of {l r : Int} (hl : 0 < l) (hr : 0 < r) {g : Nat} (hg : g = Nat.gcd l.natAbs r.natAbs) : ∃ l' r' : Int, 0 < l' ∧ 0 < r' ∧ (0 : Int) < g ∧ l = g * l' ∧ r = g * r' ∧ l * r / g = l * r' ∧ l * r' / l = r' ∧ l * r' / r = l' ∧ 0 < l * r' := by
  have g0 : 0 < g := by rw [hg]; exact Nat.gcd_pos_of_pos_left _ (by omega)
  have gi : (0 : Int) < g := by omega
  obtain ⟨l', hl'⟩ : (g : Int) ∣ l := Int.natAbs_dvd_natAbs.mp (by rw [Int.natAbs_natCast, hg]; exact Nat.gcd_dvd_left _ _)
  obtain ⟨r', hr'⟩ : (g : Int) ∣ r := Int.natAbs_dvd_natAbs.mp (by rw [Int.natAbs_natCast, hg]; exact Nat.gcd_dvd_right _ _)
  have l0 : 0 < l' := Int.lt_of_mul_lt_mul_left (a := (g : Int)) (by rw [Int.mul_zero, ← hl']; exact hl) (Int.le_of_lt gi)
  have r0 : 0 < r' := Int.lt_of_mul_lt_mul_left (a := (g : Int)) (by rw [Int.mul_zero, ← hr']; exact hr) (Int.le_of_lt gi)
  refine ⟨l', r', l0, r0, gi, hl', hr', ?_, ?_, ?_, Int.mul_pos hl r0⟩
  · have e : l * r = (l * r') * g := by
      calc l * r = l * (g * r') := by rw [← hr']
        _ = (l * r') * g := by grind
    rw [e]; exact Int.mul_ediv_cancel _ (Int.ne_of_gt gi)
  · exact Int.mul_ediv_cancel_left _ (Int.ne_of_gt hl)
  · have e : l * r' = l' * r := by
      calc l * r' = (g * l') * r' := by rw [← hl']
        _ = l' * (g * r') := by grind
        _ = l' * r := by rw [← hr']
    rw [e]; exact Int.mul_ediv_cancel _ (Int.ne_of_gt hr)
end RM

/-! narrowing of any row: spread, moved, stretched, by values (behind MathEval) -/
namespace RM
/-- a row spread: its value at p / q is that at p / 2q -/
def sprG : List Int → List Int
  | [] => []
  | v :: l => 2 ^ l.length * v :: sprG l
theorem sprG_len : ∀ l, (sprG l).length = l.length
  | [] => rfl
  | v :: l => by show (sprG l).length + 1 = _; rw [sprG_len l]; rfl
theorem hv_spr (p q : Int) : ∀ l, 2 * hv p q (sprG l) = hv p (2 * q) l
  | [] => by show 2 * 0 = (0 : Int); rfl
  | v :: l => by
    have ih := hv_spr p q l
    show 2 * (2 ^ l.length * v * q ^ ((sprG l).length + 1) + p * hv p q (sprG l)) = v * (2 * q) ^ (l.length + 1) + p * hv p (2 * q) l
    rw [sprG_len, ← ih, Int.mul_pow, Int.pow_succ 2]
    grind
/-- the sums from each place on -/
def suf : List Int → List Int
  | [] => []
  | v :: l => (v + (suf l).headD 0) :: suf l
theorem suf_len : ∀ l, (suf l).length = l.length
  | [] => rfl
  | v :: l => by show (suf l).length + 1 = _; rw [suf_len l]; rfl
theorem suf_hv (p q : Int) : ∀ l, hv (p + q) q l = (suf l).headD 0 * q ^ l.length + p * hv (p + q) q ((suf l).tail)
  | [] => by show (0 : Int) = 0 * q ^ 0 + p * 0; omega
  | v :: l => by
    have ih := suf_hv p q l
    show v * q ^ (l.length + 1) + (p + q) * hv (p + q) q l = (v + (suf l).headD 0) * q ^ (l.length + 1) + p * hv (p + q) q (suf l)
    cases hs : suf l with
    | nil =>
      have hl : l = [] := by
        have := suf_len l
        rw [hs] at this
        exact List.eq_nil_of_length_eq_zero this.symm
      subst hl
      show v * q ^ 1 + (p + q) * 0 = (v + 0) * q ^ 1 + p * 0
      grind
    | cons g r =>
      rw [hs] at ih
      have hl : r.length + 1 = l.length := by have := suf_len l; rw [hs] at this; exact this
      have ih' : hv (p + q) q l = g * q ^ l.length + p * hv (p + q) q r := ih
      show v * q ^ (l.length + 1) + (p + q) * hv (p + q) q l = (v + g) * q ^ (l.length + 1) + p * (g * q ^ (r.length + 1) + (p + q) * hv (p + q) q r)
      rw [ih', hl, Int.pow_succ]
      grind
def pass : Nat → List Int → List Int
  | 0, m => suf m
  | _ + 1, [] => []
  | i + 1, c :: m => c :: pass i m
theorem pass_len : ∀ (i : Nat) (m : List Int), (pass i m).length = m.length
  | 0, m => suf_len m
  | _ + 1, [] => rfl
  | i + 1, c :: m => by show (pass i m).length + 1 = _; rw [pass_len i m]; rfl
def mixV (p q : Int) : Nat → List Int → Int
  | 0, m => hv (p + q) q m
  | _ + 1, [] => 0
  | i + 1, c :: m => c * q ^ (m.length + 1) + p * mixV p q i m
theorem mix_pass (p q : Int) : ∀ (i : Nat) (m : List Int), mixV p q (i + 1) (pass i m) = mixV p q i m
  | 0, m => by
    show mixV p q 1 (suf m) = hv (p + q) q m
    rw [suf_hv]
    cases hs : suf m with
    | nil =>
      show (0 : Int) = 0 * q ^ m.length + p * hv (p + q) q []
      rw [hv_nil]; omega
    | cons g r =>
      have hl : r.length + 1 = m.length := by have := suf_len m; rw [hs] at this; exact this
      show g * q ^ (r.length + 1) + p * hv (p + q) q r = g * q ^ m.length + p * hv (p + q) q r
      rw [hl]
  | i + 1, [] => rfl
  | i + 1, c :: m => by
    show c * q ^ ((pass i m).length + 1) + p * mixV p q (i + 1) (pass i m) = c * q ^ (m.length + 1) + p * mixV p q i m
    rw [mix_pass p q i m, pass_len]
theorem mix_end (p q : Int) : ∀ (i : Nat) (m : List Int), m.length ≤ i + 1 → mixV p q i m = hv p q m
  | 0, [], _ => rfl
  | 0, [c], _ => by
    show c * q ^ 1 + (p + q) * 0 = c * q ^ 1 + p * 0
    omega
  | 0, _ :: _ :: _, h => absurd h (by simp)
  | _ + 1, [], _ => rfl
  | i + 1, c :: m, h => by
    show c * q ^ (m.length + 1) + p * mixV p q i m = c * q ^ (m.length + 1) + p * hv p q m
    rw [mix_end p q i m (by simpa using h)]
def movT : Nat → List Int → List Int
  | 0, l => l
  | i + 1, l => pass i (movT i l)
theorem movT_len : ∀ (i : Nat) (l : List Int), (movT i l).length = l.length
  | 0, _ => rfl
  | i + 1, l => by show (pass i (movT i l)).length = _; rw [pass_len, movT_len i l]
theorem mix_mov (p q : Int) : ∀ (i : Nat) (l : List Int), mixV p q i (movT i l) = hv (p + q) q l
  | 0, _ => rfl
  | i + 1, l => by show mixV p q (i + 1) (pass i (movT i l)) = _; rw [mix_pass, mix_mov p q i l]
/-- a row moved by one -/
def movG (l : List Int) : List Int := movT (l.length - 1) l
theorem movG_len (l : List Int) : (movG l).length = l.length := movT_len _ _
theorem hv_mov (p q : Int) (l : List Int) : hv p q (movG l) = hv (p + q) q l := by
  rw [← mix_mov p q (l.length - 1) l]
  exact (mix_end p q (l.length - 1) _ (by rw [movG_len]; omega)).symm
theorem hv_sum : ∀ l : List Int, hv 1 1 l = l.sum
  | [] => rfl
  | v :: l => by
    show v * 1 ^ (l.length + 1) + 1 * hv 1 1 l = v + l.sum
    rw [hv_sum l, Int.one_pow]; omega
/-- a row stretched: its value at p / q is that at (s0 q + s1 p) / m q -/
def strG (m s0 s1 : Int) : List Int → List Int
  | [] => []
  | v :: l => mb (-s0) s1 (v * m ^ l.length) (strG m s0 s1 l)
theorem strG_len (m s0 s1 : Int) : ∀ l, (strG m s0 s1 l).length = l.length
  | [] => rfl
  | v :: l => by show (mb _ _ _ _).length = _; rw [mb_len, strG_len m s0 s1 l]; rfl
theorem hv_str (m s0 s1 p q : Int) : ∀ l, m * hv p q (strG m s0 s1 l) = hv (s0 * q + s1 * p) (m * q) l
  | [] => by show m * 0 = (0 : Int); omega
  | v :: l => by
    have ih := hv_str m s0 s1 p q l
    show m * hv p q (mb (-s0) s1 (v * m ^ l.length) (strG m s0 s1 l)) = v * (m * q) ^ (l.length + 1) + (s0 * q + s1 * p) * hv (s0 * q + s1 * p) (m * q) l
    rw [hv_mb, strG_len, ← ih, Int.mul_pow, Int.pow_succ m]
    grind
/-- the last of a stretched row -/
theorem strG_last (m s0 s1 : Int) : ∀ l, cf (strG m s0 s1 l) (l.length - 1) = cf l (l.length - 1) * s1 ^ (l.length - 1)
  | [] => by show (0 : Int) = 0 * _; omega
  | [v] => by
    show cf (mb (-s0) s1 (v * m ^ 0) []) 0 = v * s1 ^ 0
    rw [cf_mb, if_pos rfl, cf_nil, Int.pow_zero, Int.pow_zero]
    omega
  | v :: u :: l => by
    have ih := strG_last m s0 s1 (u :: l)
    show cf (mb (-s0) s1 _ (strG m s0 s1 (u :: l))) (l.length + 1) = cf (u :: l) l.length * s1 ^ (l.length + 1)
    rw [cf_mb, if_neg (by omega)]
    have e1 : cf (strG m s0 s1 (u :: l)) (l.length + 1) = 0 := cf_ge (by rw [strG_len]; exact Nat.le_refl _)
    have e2 : cf (strG m s0 s1 (u :: l)) (l.length + 1 - 1) = cf (u :: l) l.length * s1 ^ l.length := ih
    rw [e1, e2, Int.pow_succ]
    grind
theorem sg_pos_mul {x p : Int} (hp : 0 < p) : sg (p * x) = sg x := by rw [Int.mul_comm]; exact sg_mul_pos hp
end RM

/-! the sign of u + v r, r the root of d, told by squares (behind MathNar, MathCom, MathRow, MathChg) -/
namespace RM
def sgq (u v d : Int) : Int :=
  if 0 ≤ u ∧ 0 ≤ v then (if 0 < u ∨ 0 < v then 1 else 0)
  else if u ≤ 0 ∧ v ≤ 0 then -1
  else if 0 < u then (if u * u < d * v * v then -1 else 1)
  else (if u * u > d * v * v then -1 else 1)
def NSq (d : Int) : Prop := 0 < d ∧ ∀ a b : Int, b ≠ 0 → a * a ≠ d * b * b
theorem nsq_nat (n d : Nat) (h1 : n * n < d) (h2 : d < (n + 1) * (n + 1)) : ∀ b a : Nat, 0 < b → a * a ≠ d * (b * b) := by
  intro b
  induction b using Nat.strongRecOn with
  | ind b ih =>
    intro a hb e
    have l1 : n * b < a := by
      refine Classical.byContradiction fun z => ?_
      have z' : a ≤ n * b := by omega
      have h3 := Nat.mul_le_mul z' z'
      have h4 : n * n * (b * b) < d * (b * b) := Nat.mul_lt_mul_of_pos_right h1 (Nat.mul_pos hb hb)
      have e2 : n * b * (n * b) = n * n * (b * b) := by grind
      omega
    have l2 : a < (n + 1) * b := by
      refine Classical.byContradiction fun z => ?_
      have z' : (n + 1) * b ≤ a := by omega
      have h3 := Nat.mul_le_mul z' z'
      have h4 : d * (b * b) < (n + 1) * (n + 1) * (b * b) := Nat.mul_lt_mul_of_pos_right h2 (Nat.mul_pos hb hb)
      have e2 : (n + 1) * b * ((n + 1) * b) = (n + 1) * (n + 1) * (b * b) := by grind
      omega
    have e3 : (n + 1) * b = n * b + b := by grind
    obtain ⟨c, hc⟩ : ∃ c, a = n * b + c := ⟨a - n * b, by omega⟩
    have hc0 : 0 < c := by omega
    have hcb : c < b := by omega
    have l3 : n * a ≤ d * b := by
      have h5 : n * a * a ≤ d * b * a := by
        have h6 : n * (a * a) = n * (d * (b * b)) := by rw [e]
        have h7 : n * b * (d * b) ≤ a * (d * b) := Nat.mul_le_mul_right _ (Nat.le_of_lt l1)
        have e4 : n * a * a = n * (a * a) := by grind
        have e5 : n * (d * (b * b)) = n * b * (d * b) := by grind
        have e6 : d * b * a = a * (d * b) := by grind
        omega
      exact Nat.le_of_mul_le_mul_right h5 (by omega)
    obtain ⟨f, hf⟩ : ∃ f, d * b = n * a + f := ⟨d * b - n * a, by omega⟩
    refine ih c hcb f hc0 ?_
    -- (d b - n a)^2 = d (a - n b)^2
    have e7 : (f : Int) = (d : Int) * b - n * a := by
      have := congrArg (fun z : Nat => (z : Int)) hf
      simp only [Int.natCast_add, Int.natCast_mul] at this
      omega
    have e8 : (c : Int) = (a : Int) - n * b := by
      have := congrArg (fun z : Nat => (z : Int)) hc
      simp only [Int.natCast_add, Int.natCast_mul] at this
      omega
    have e9 : (a : Int) * a = d * (b * b) := by
      have := congrArg (fun z : Nat => (z : Int)) e
      simp only [Int.natCast_mul] at this
      exact this
    have e10 : (f : Int) * f = d * (c * c) := by
      rw [e7, e8]
      have : ((d : Int) * b - n * a) * (d * b - n * a) - d * ((a - n * b) * (a - n * b)) = (d * (b * b) - a * a) * (d - n * n) := by grind
      rw [e9, Int.sub_self, Int.zero_mul] at this
      omega
    have e11 : ((f * f : Nat) : Int) = ((d * (c * c) : Nat) : Int) := by
      simp only [Int.natCast_mul]; exact e10
    exact Int.ofNat.inj e11
theorem nsq_of {n d : Nat} (h1 : n * n < d) (h2 : d < (n + 1) * (n + 1)) : NSq d := by
  refine ⟨by omega, fun a b hb e => ?_⟩
  refine nsq_nat n d h1 h2 b.natAbs a.natAbs (by omega) ?_
  have e1 : ((a.natAbs * a.natAbs : Nat) : Int) = a * a := Int.natAbs_mul_self
  have e2 : ((b.natAbs * b.natAbs : Nat) : Int) = b * b := Int.natAbs_mul_self
  have : ((a.natAbs * a.natAbs : Nat) : Int) = ((d * (b.natAbs * b.natAbs) : Nat) : Int) := by
    rw [Int.natCast_mul (d) _, e1, e2, e, Int.mul_assoc]
  exact Int.ofNat.inj this
theorem sgq_cases (u v d : Int) : sgq u v d = 1 ∨ sgq u v d = 0 ∨ sgq u v d = -1 := by
  unfold sgq
  split
  · split
    · exact .inl rfl
    · exact .inr (.inl rfl)
  · split
    · exact .inr (.inr rfl)
    · split <;> split <;> simp
theorem sgq_pp {u v d : Int} (hu : 0 ≤ u) (hv : 0 ≤ v) (h : 0 < u ∨ 0 < v) : sgq u v d = 1 := by unfold sgq; rw [if_pos ⟨hu, hv⟩, if_pos h]
theorem sgq_nn {u v d : Int} (hu : u ≤ 0) (hv : v ≤ 0) (h : u < 0 ∨ v < 0) : sgq u v d = -1 := by unfold sgq; rw [if_neg (by omega), if_pos ⟨hu, hv⟩]
theorem sgq_pn {u v d : Int} (hu : 0 < u) (hv : v < 0) : sgq u v d = if u * u < d * v * v then -1 else 1 := by unfold sgq; rw [if_neg (by omega), if_neg (by omega), if_pos hu]
theorem sgq_np {u v d : Int} (hu : u < 0) (hv : 0 < v) : sgq u v d = if u * u > d * v * v then -1 else 1 := by unfold sgq; rw [if_neg (by omega), if_neg (by omega), if_neg (by omega)]
theorem sgq_00 (d : Int) : sgq 0 0 d = 0 := rfl
/-- the four kinds -/
theorem kinds (u v : Int) : (u = 0 ∧ v = 0) ∨ (0 ≤ u ∧ 0 ≤ v ∧ (0 < u ∨ 0 < v)) ∨ (u ≤ 0 ∧ v ≤ 0 ∧ (u < 0 ∨ v < 0)) ∨ (0 < u ∧ v < 0) ∨ (u < 0 ∧ 0 < v) := by omega
theorem sgq_scale {g u v d : Int} (hg : 0 < g) : sgq (g * u) (g * v) d = sgq u v d := by
  have hp : ∀ x : Int, 0 < x → 0 < g * x := fun x h => Int.mul_pos hg h
  have hn : ∀ x : Int, x < 0 → g * x < 0 := fun x h => Int.mul_neg_of_pos_of_neg hg h
  have hz : ∀ x : Int, 0 ≤ x → 0 ≤ g * x := fun x h => Int.mul_nonneg (Int.le_of_lt hg) h
  have hy : ∀ x : Int, x ≤ 0 → g * x ≤ 0 := fun x h => Int.mul_nonpos_of_nonneg_of_nonpos (Int.le_of_lt hg) h
  have gg : 0 < g * g := Int.mul_pos hg hg
  have e1 : g * u * (g * u) = u * u * (g * g) := by grind
  have e2 : d * (g * v) * (g * v) = d * v * v * (g * g) := by grind
  rcases kinds u v with ⟨rfl, rfl⟩ | ⟨a, b, c⟩ | ⟨a, b, c⟩ | ⟨a, b⟩ | ⟨a, b⟩
  · rw [Int.mul_zero]
  · rw [sgq_pp a b c, sgq_pp (hz _ a) (hz _ b) (c.elim (fun z => .inl (hp _ z)) (fun z => .inr (hp _ z)))]
  · rw [sgq_nn a b c, sgq_nn (hy _ a) (hy _ b) (c.elim (fun z => .inl (hn _ z)) (fun z => .inr (hn _ z)))]
  · rw [sgq_pn a b, sgq_pn (hp _ a) (hn _ b), e1, e2]
    by_cases z : u * u < d * v * v
    · rw [if_pos z, if_pos (Int.mul_lt_mul_of_pos_right z gg)]
    · rw [if_neg z, if_neg (fun y => z (Int.lt_of_mul_lt_mul_right y (Int.le_of_lt gg)))]
  · rw [sgq_np a b, sgq_np (hn _ a) (hp _ b), e1, e2]
    by_cases z : u * u > d * v * v
    · rw [if_pos z, if_pos (Int.mul_lt_mul_of_pos_right z gg)]
    · rw [if_neg z, if_neg (fun y => z (Int.lt_of_mul_lt_mul_right y (Int.le_of_lt gg)))]
theorem sg_is {x y : Int} (h : (x < 0 ∧ y = -1) ∨ (x = 0 ∧ y = 0) ∨ (0 < x ∧ y = 1)) : sg x = y := by unfold sg; split <;> (try split) <;> omega
/-- a^2 - d v^2 has the sign of (a + v r) (a - v r) -/
theorem sgq_prod {a v d : Int} (hd : NSq d) : sg (a * a - d * v * v) = sgq a v d * sgq a (-v) d := by
  have sq : ∀ x : Int, x ≠ 0 → 0 < x * x := fun x h => by
    rcases Int.lt_or_gt_of_ne h with z | z
    · exact Int.mul_pos_of_neg_of_neg z z
    · exact Int.mul_pos z z
  have ev : d * (-v) * (-v) = d * v * v := by grind
  have hv0 : v ≠ 0 → 0 < d * v * v := fun h => by rw [Int.mul_assoc]; exact Int.mul_pos hd.1 (sq v h)
  have hne : v ≠ 0 → a * a ≠ d * v * v := fun h => hd.2 a v h
  rcases kinds a v with ⟨rfl, rfl⟩ | ⟨ha, hv, c⟩ | ⟨ha, hv, c⟩ | ⟨ha, hv⟩ | ⟨ha, hv⟩
  · refine sg_is (.inr (.inl ⟨by simp, ?_⟩)); rw [sgq_00]; simp
  · rw [sgq_pp ha hv c, Int.one_mul]
    by_cases hz : v = 0
    · subst hz
      have : 0 < a := by omega
      rw [Int.neg_zero, sgq_pp ha (Int.le_refl _) (.inl this)]
      exact sg_is (.inr (.inr ⟨by have := sq a (by omega); simp; exact this, rfl⟩))
    · have vp : 0 < v := by omega
      by_cases az : a = 0
      · subst az
        rw [sgq_nn (Int.le_refl _) (by omega) (.inr (by omega))]
        exact sg_is (.inl ⟨by have := hv0 hz; omega, rfl⟩)
      · rw [sgq_pn (by omega) (by omega), ev]
        have := hne hz
        split
        · exact sg_is (.inl ⟨by omega, rfl⟩)
        · exact sg_is (.inr (.inr ⟨by omega, rfl⟩))
  · rw [sgq_nn ha hv c]
    by_cases hz : v = 0
    · subst hz
      have : a < 0 := by omega
      rw [Int.neg_zero, sgq_nn ha (Int.le_refl _) (.inl this)]
      exact sg_is (.inr (.inr ⟨by have := sq a (by omega); simp; exact this, rfl⟩))
    · have vn : v < 0 := by omega
      by_cases az : a = 0
      · subst az
        rw [sgq_pp (Int.le_refl _) (by omega) (.inr (by omega))]
        exact sg_is (.inl ⟨by have := hv0 hz; omega, rfl⟩)
      · rw [sgq_np (by omega) (by omega), ev]
        have := hne hz
        split
        · exact sg_is (.inr (.inr ⟨by omega, rfl⟩))
        · exact sg_is (.inl ⟨by omega, rfl⟩)
  · rw [sgq_pn ha hv, sgq_pp (by omega) (by omega) (.inl ha), Int.mul_one]
    have := hne (by omega)
    split
    · exact sg_is (.inl ⟨by omega, rfl⟩)
    · exact sg_is (.inr (.inr ⟨by omega, rfl⟩))
  · rw [sgq_np ha hv, sgq_nn (by omega) (by omega) (.inl ha)]
    have := hne (by omega)
    split
    · exact sg_is (.inr (.inr ⟨by omega, rfl⟩))
    · exact sg_is (.inl ⟨by omega, rfl⟩)
theorem sq_lt {x y : Int} (h : x < y) (hx : 0 ≤ x) : x * x < y * y := by
  have h1 : x * x ≤ x * y := Int.mul_le_mul_of_nonneg_left (Int.le_of_lt h) hx
  have h2 : x * y < y * y := Int.mul_lt_mul_of_pos_right h (by omega)
  omega
/-- less is less -/
theorem sgq_less {a b v d : Int} (h : b < a) (hs : sgq a v d ≤ 0) : sgq b v d = -1 := by
  rcases kinds a v with ⟨rfl, rfl⟩ | ⟨ha, hv, c⟩ | ⟨ha, hv, c⟩ | ⟨ha, hv⟩ | ⟨ha, hv⟩
  · exact sgq_nn (by omega) (Int.le_refl _) (.inl h)
  · rw [sgq_pp ha hv c] at hs; exact absurd hs (by decide)
  · exact sgq_nn (by omega) hv (.inl (by omega))
  · rw [sgq_pn ha hv] at hs
    by_cases z : a * a < d * v * v
    · by_cases hb : b ≤ 0
      · exact sgq_nn hb (by omega) (.inr hv)
      · rw [sgq_pn (by omega) hv]
        have h1 : b * b < a * a := sq_lt h (by omega)
        rw [if_pos (by omega)]
    · rw [if_neg z] at hs; exact absurd hs (by decide)
  · rw [sgq_np ha hv] at hs
    by_cases z : a * a > d * v * v
    · rw [sgq_np (by omega) hv]
      have h1 : (-a) * (-a) < (-b) * (-b) := sq_lt (by omega) (by omega)
      have e1 : (-a) * (-a) = a * a := by grind
      have e2 : (-b) * (-b) = b * b := by grind
      rw [if_pos (by omega)]
    · rw [if_neg z] at hs; exact absurd hs (by decide)
end RM

open PySem.W in
local macro_rules | `(tactic| walk_at "comp_ok") => `(tactic| exact ⟨by with_unfolding_all rfl, by decide +kernel, rfl, by decide +kernel, by repeat' (first | exact List.forall_mem_nil _ | refine List.forall_mem_cons.2 ⟨rfl, ?_⟩), by rfl, by repeat' (first | exact .nil | refine .cons ⟨rfl, by first | exact Or.inl rfl | exact Or.inr rfl, rfl⟩ ?_)⟩)

namespace R46
open PySem L2 RM
def top (i : Nat) : Stmt := PySem.Challenge.pw_rootspan_k46_narrow_spans.main.body.getD i (.Pass ⟨0, 0, 0, 0⟩)
abbrev s_shared : Stmt := top 10
abbrev s_shared_by_two : Stmt := top 11
abbrev s_whole_sign : Stmt := top 12
abbrev s_Ratio___init__ : Stmt := inClass (top 13) 0
abbrev s_Ratio_plus : Stmt := inClass (top 13) 1
abbrev s_Ratio_minus : Stmt := inClass (top 13) 2
abbrev s_Ratio_times : Stmt := inClass (top 13) 3
abbrev s_Ratio_against : Stmt := inClass (top 13) 5
abbrev s_Ratio_floor : Stmt := inClass (top 13) 7
abbrev s_poly : Stmt := top 15
abbrev s_degree : Stmt := top 16
abbrev s_added : Stmt := top 17
abbrev s_taken : Stmt := top 18
abbrev s_coefficient : Stmt := top 19
abbrev s_multiplied : Stmt := top 20
abbrev s_slope : Stmt := top 21
abbrev s_shrunk : Stmt := top 22
abbrev s_plain : Stmt := top 23
abbrev s_value_parts : Stmt := top 24
abbrev s_sign_at : Stmt := top 25
abbrev s_divided : Stmt := top 27
abbrev s_scaled : Stmt := top 28
abbrev s_lowered : Stmt := top 29
abbrev s_row_of : Stmt := top 31
abbrev s_row_from : Stmt := top 32
abbrev s_changes : Stmt := top 33
abbrev s_count : Stmt := top 34
abbrev s_bound : Stmt := top 36
abbrev s_cells : Stmt := top 37
abbrev s_narrowed : Stmt := top 39
abbrev s_halvings : Stmt := top 40
abbrev s_stretched : Stmt := top 41
abbrev s_halved : Stmt := top 42
abbrev s_spread : Stmt := top 43
abbrev s_moved : Stmt := top 44
abbrev s_along : Stmt := top 45
abbrev s_divides : Stmt := top 47
abbrev s_common : Stmt := top 48
abbrev s_part : Stmt := top 49
abbrev s_without_squares : Stmt := top 50
abbrev s_least : Stmt := top 54
abbrev s_fine_width : Stmt := top 55
abbrev s_line_of : Stmt := top 56
abbrev s_square_of : Stmt := top 57
abbrev s_times_floor : Stmt := top 58
abbrev s_Number___init__ : Stmt := inClass (top 61) 0
abbrev s_number : Stmt := top 62
abbrev s_refuse_high : Stmt := top 63
abbrev s_refuse_great : Stmt := top 64
abbrev s_many_within : Stmt := top 65
abbrev s_number_in : Stmt := top 66
abbrev s_narrow : Stmt := top 67
abbrev s_span_of : Stmt := top 68
abbrev s__law_cell_at : Stmt := top 70
abbrev s__law_whole : Stmt := top 71
abbrev s__law_divisor : Stmt := top 72
abbrev s__law_ratio : Stmt := top 73
abbrev s__law_poly : Stmt := top 74
abbrev s__law_sign : Stmt := top 75
abbrev s__law_beside : Stmt := top 76
abbrev s__law_plain : Stmt := top 77
abbrev s__law_least : Stmt := top 78
abbrev s__law_is : Stmt := top 79
abbrev s__law_amount : Stmt := top 80
abbrev s__law_worth : Stmt := top 81
abbrev s__law_span : Stmt := top 82
abbrev s__law_under : Stmt := top 83
abbrev s__law_fits : Stmt := top 84
abbrev s_law : Stmt := top 85
theorem sc_shared : FnScope ["row", "divisor", "value"] ["row"] (defScope s_shared) := ⟨rfl, rfl, rfl, by decide +kernel, rfl, by decide +kernel, by decide +kernel⟩
theorem sc_shared_by_two : FnScope ["one", "other", "greater", "less", "rest"] ["one", "other"] (defScope s_shared_by_two) := ⟨rfl, rfl, rfl, by decide +kernel, rfl, by decide +kernel, by decide +kernel⟩
theorem sc_whole_sign : FnScope ["value"] ["value"] (defScope s_whole_sign) := ⟨rfl, rfl, rfl, by decide +kernel, rfl, by decide +kernel, by decide +kernel⟩
theorem sc_Ratio___init__ : FnScope ["self", "top", "bottom", "divisor"] ["self", "top", "bottom"] (defScope s_Ratio___init__) := ⟨rfl, rfl, rfl, by decide +kernel, rfl, by decide +kernel, by decide +kernel⟩
theorem sc_Ratio_plus : FnScope ["self", "other"] ["self", "other"] (defScope s_Ratio_plus) := ⟨rfl, rfl, rfl, by decide +kernel, rfl, by decide +kernel, by decide +kernel⟩
theorem sc_Ratio_minus : FnScope ["self", "other"] ["self", "other"] (defScope s_Ratio_minus) := ⟨rfl, rfl, rfl, by decide +kernel, rfl, by decide +kernel, by decide +kernel⟩
theorem sc_Ratio_times : FnScope ["self", "other"] ["self", "other"] (defScope s_Ratio_times) := ⟨rfl, rfl, rfl, by decide +kernel, rfl, by decide +kernel, by decide +kernel⟩
theorem sc_Ratio_against : FnScope ["self", "other"] ["self", "other"] (defScope s_Ratio_against) := ⟨rfl, rfl, rfl, by decide +kernel, rfl, by decide +kernel, by decide +kernel⟩
theorem sc_Ratio_floor : FnScope ["self"] ["self"] (defScope s_Ratio_floor) := ⟨rfl, rfl, rfl, by decide +kernel, rfl, by decide +kernel, by decide +kernel⟩
theorem sc_poly : FnScope ["row", "length"] ["row"] (defScope s_poly) := ⟨rfl, rfl, rfl, by decide +kernel, rfl, by decide +kernel, by decide +kernel⟩
theorem sc_degree : FnScope ["row"] ["row"] (defScope s_degree) := ⟨rfl, rfl, rfl, by decide +kernel, rfl, by decide +kernel, by decide +kernel⟩
theorem sc_added : FnScope ["first", "second", "length"] ["first", "second"] (defScope s_added) := ⟨rfl, rfl, rfl, by decide +kernel, rfl, by decide +kernel, by decide +kernel⟩
theorem sc_taken : FnScope ["first", "second", "length"] ["first", "second"] (defScope s_taken) := ⟨rfl, rfl, rfl, by decide +kernel, rfl, by decide +kernel, by decide +kernel⟩
theorem sc_coefficient : FnScope ["row", "place"] ["row", "place"] (defScope s_coefficient) := ⟨rfl, rfl, rfl, by decide +kernel, rfl, by decide +kernel, by decide +kernel⟩
theorem sc_multiplied : FnScope ["first", "second", "product", "j", "one", "k", "other"] ["first", "second"] (defScope s_multiplied) := ⟨rfl, rfl, rfl, by decide +kernel, rfl, by decide +kernel, by decide +kernel⟩
theorem sc_slope : FnScope ["row"] ["row"] (defScope s_slope) := ⟨rfl, rfl, rfl, by decide +kernel, rfl, by decide +kernel, by decide +kernel⟩
theorem sc_shrunk : FnScope ["row", "divisor"] ["row"] (defScope s_shrunk) := ⟨rfl, rfl, rfl, by decide +kernel, rfl, by decide +kernel, by decide +kernel⟩
theorem sc_plain : FnScope ["row", "small"] ["row"] (defScope s_plain) := ⟨rfl, rfl, rfl, by decide +kernel, rfl, by decide +kernel, by decide +kernel⟩
theorem sc_value_parts : FnScope ["row", "top", "bottom", "above", "below", "value"] ["row", "top", "bottom"] (defScope s_value_parts) := ⟨rfl, rfl, rfl, by decide +kernel, rfl, by decide +kernel, by decide +kernel⟩
theorem sc_sign_at : FnScope ["row", "ratio"] ["row", "ratio"] (defScope s_sign_at) := ⟨rfl, rfl, rfl, by decide +kernel, rfl, by decide +kernel, by decide +kernel⟩
theorem sc_divided : FnScope ["first", "second", "size", "sign", "steps", "factor", "quotient", "rest", "place", "lead"] ["first", "second"] (defScope s_divided) := ⟨rfl, rfl, rfl, by decide +kernel, rfl, by decide +kernel, by decide +kernel⟩
theorem sc_scaled : FnScope ["row", "factor"] ["row", "factor"] (defScope s_scaled) := ⟨rfl, rfl, rfl, by decide +kernel, rfl, by decide +kernel, by decide +kernel⟩
theorem sc_lowered : FnScope ["row", "second", "place", "lead", "kept", "k", "value"] ["row", "second", "place", "lead"] (defScope s_lowered) := ⟨rfl, rfl, rfl, by decide +kernel, rfl, by decide +kernel, by decide +kernel⟩
theorem sc_row_of : FnScope ["polynomial"] ["polynomial"] (defScope s_row_of) := ⟨rfl, rfl, rfl, by decide +kernel, rfl, by decide +kernel, by decide +kernel⟩
theorem sc_row_from : FnScope ["first", "second", "row", "one", "other", "rest"] ["first", "second"] (defScope s_row_from) := ⟨rfl, rfl, rfl, by decide +kernel, rfl, by decide +kernel, by decide +kernel⟩
theorem sc_changes : FnScope ["row", "ratio", "many", "before", "polynomial", "sign"] ["row", "ratio"] (defScope s_changes) := ⟨rfl, rfl, rfl, by decide +kernel, rfl, by decide +kernel, by decide +kernel⟩
theorem sc_count : FnScope ["row", "low", "high"] ["row", "low", "high"] (defScope s_count) := ⟨rfl, rfl, rfl, by decide +kernel, rfl, by decide +kernel, by decide +kernel⟩
theorem sc_bound : FnScope ["row", "last", "greatest", "size"] ["row"] (defScope s_bound) := ⟨rfl, rfl, rfl, by decide +kernel, rfl, by decide +kernel, by decide +kernel⟩
theorem sc_cells : FnScope ["row", "chain", "high", "low", "waiting", "found", "cell", "many", "cut", "there"] ["row"] (defScope s_cells) := ⟨rfl, rfl, rfl, by decide +kernel, rfl, by decide +kernel, by decide +kernel⟩
theorem sc_narrowed : FnScope ["row", "low", "high", "width", "reach", "steps", "found"] ["row", "low", "high", "width"] (defScope s_narrowed) := ⟨rfl, rfl, rfl, by decide +kernel, rfl, by decide +kernel, by decide +kernel⟩
theorem sc_halvings : FnScope ["reach", "width", "wide", "goal", "steps"] ["reach", "width"] (defScope s_halvings) := ⟨rfl, rfl, rfl, by decide +kernel, rfl, by decide +kernel, by decide +kernel⟩
theorem sc_stretched : FnScope ["row", "low", "reach", "bottom", "start", "step", "found", "power", "value"] ["row", "low", "reach"] (defScope s_stretched) := ⟨rfl, rfl, rfl, by decide +kernel, rfl, by decide +kernel, by decide +kernel⟩
theorem sc_halved : FnScope ["row", "end", "steps", "place", "pieces", "ahead", "left", "k", "there"] ["row", "end", "steps"] (defScope s_halved) := ⟨rfl, rfl, rfl, by decide +kernel, rfl, by decide +kernel, by decide +kernel⟩
theorem sc_spread : FnScope ["row", "found", "factor", "value"] ["row"] (defScope s_spread) := ⟨rfl, rfl, rfl, by decide +kernel, rfl, by decide +kernel, by decide +kernel⟩
theorem sc_moved : FnScope ["row", "found", "start", "k"] ["row"] (defScope s_moved) := ⟨rfl, rfl, rfl, by decide +kernel, rfl, by decide +kernel, by decide +kernel⟩
theorem sc_along : FnScope ["low", "reach", "place", "pieces"] ["low", "reach", "place", "pieces"] (defScope s_along) := ⟨rfl, rfl, rfl, by decide +kernel, rfl, by decide +kernel, by decide +kernel⟩
theorem sc_divides : FnScope ["divisor", "row"] ["divisor", "row"] (defScope s_divides) := ⟨rfl, rfl, rfl, by decide +kernel, rfl, by decide +kernel, by decide +kernel⟩
theorem sc_common : FnScope ["first", "second", "one", "other", "rest"] ["first", "second"] (defScope s_common) := ⟨rfl, rfl, rfl, by decide +kernel, rfl, by decide +kernel, by decide +kernel⟩
theorem sc_part : FnScope ["row", "divisor", "found"] ["row", "divisor"] (defScope s_part) := ⟨rfl, rfl, rfl, by decide +kernel, rfl, by decide +kernel, by decide +kernel⟩
theorem sc_without_squares : FnScope ["row"] ["row"] (defScope s_without_squares) := ⟨rfl, rfl, rfl, by decide +kernel, rfl, by decide +kernel, by decide +kernel⟩
theorem sc_least : FnScope ["row", "low", "high", "whole", "width", "span", "line", "cell", "square"] ["row", "low", "high"] (defScope s_least) := ⟨rfl, rfl, rfl, by decide +kernel, rfl, by decide +kernel, by decide +kernel⟩
theorem sc_fine_width : FnScope ["whole"] ["whole"] (defScope s_fine_width) := ⟨rfl, rfl, rfl, by decide +kernel, rfl, by decide +kernel, by decide +kernel⟩
theorem sc_line_of : FnScope ["whole", "span", "found"] ["whole", "span"] (defScope s_line_of) := ⟨rfl, rfl, rfl, by decide +kernel, rfl, by decide +kernel, by decide +kernel⟩
theorem sc_square_of : FnScope ["whole", "span", "other", "last", "together"] ["whole", "span", "other"] (defScope s_square_of) := ⟨rfl, rfl, rfl, by decide +kernel, rfl, by decide +kernel, by decide +kernel⟩
theorem sc_times_floor : FnScope ["factor", "ratio"] ["factor", "ratio"] (defScope s_times_floor) := ⟨rfl, rfl, rfl, by decide +kernel, rfl, by decide +kernel, by decide +kernel⟩
theorem sc_Number___init__ : FnScope ["self", "row", "low", "high"] ["self", "row", "low", "high"] (defScope s_Number___init__) := ⟨rfl, rfl, rfl, by decide +kernel, rfl, by decide +kernel, by decide +kernel⟩
theorem sc_number : FnScope ["row", "low", "high", "start", "end", "simple", "many"] ["row", "low", "high"] (defScope s_number) := ⟨rfl, rfl, rfl, by decide +kernel, rfl, by decide +kernel, by decide +kernel⟩
theorem sc_refuse_high : FnScope ["height"] ["height"] (defScope s_refuse_high) := ⟨rfl, rfl, rfl, by decide +kernel, rfl, by decide +kernel, by decide +kernel⟩
theorem sc_refuse_great : FnScope ["row", "limit"] ["row"] (defScope s_refuse_great) := ⟨rfl, rfl, rfl, by decide +kernel, rfl, by decide +kernel, by decide +kernel⟩
theorem sc_many_within : FnScope ["simple", "low", "high"] ["simple", "low", "high"] (defScope s_many_within) := ⟨rfl, rfl, rfl, by decide +kernel, rfl, by decide +kernel, by decide +kernel⟩
theorem sc_number_in : FnScope ["simple", "low", "high", "row", "span", "half"] ["simple", "low", "high"] (defScope s_number_in) := ⟨rfl, rfl, rfl, by decide +kernel, rfl, by decide +kernel, by decide +kernel⟩
theorem sc_narrow : FnScope ["one", "width", "span"] ["one", "width"] (defScope s_narrow) := ⟨rfl, rfl, rfl, by decide +kernel, rfl, by decide +kernel, by decide +kernel⟩
theorem sc_span_of : FnScope ["one", "width"] ["one", "width"] (defScope s_span_of) := ⟨rfl, rfl, rfl, by decide +kernel, rfl, by decide +kernel, by decide +kernel⟩
theorem sc__law_cell_at : FnScope ["_law_script", "_law_k"] ["_law_script", "_law_k"] (defScope s__law_cell_at) := ⟨rfl, rfl, rfl, by decide +kernel, rfl, by decide +kernel, by decide +kernel⟩
theorem sc__law_whole : FnScope ["_law_found"] ["_law_found"] (defScope s__law_whole) := ⟨rfl, rfl, rfl, by decide +kernel, rfl, by decide +kernel, by decide +kernel⟩
theorem sc__law_divisor : FnScope ["_law_one", "_law_other", "_law_rest"] ["_law_one", "_law_other"] (defScope s__law_divisor) := ⟨rfl, rfl, rfl, by decide +kernel, rfl, by decide +kernel, by decide +kernel⟩
theorem sc__law_ratio : FnScope ["_law_found"] ["_law_found"] (defScope s__law_ratio) := ⟨rfl, rfl, rfl, by decide +kernel, rfl, by decide +kernel, by decide +kernel⟩
theorem sc__law_poly : FnScope ["_law_found", "_law_one"] ["_law_found"] (defScope s__law_poly) := ⟨rfl, rfl, rfl, by decide +kernel, rfl, by decide +kernel, by decide +kernel⟩
theorem sc__law_sign : FnScope ["_law_u", "_law_v", "_law_d"] ["_law_u", "_law_v", "_law_d"] (defScope s__law_sign) := ⟨rfl, rfl, rfl, by decide +kernel, rfl, by decide +kernel, by decide +kernel⟩
theorem sc__law_beside : FnScope ["_law_worth_here", "_law_r", "_law_u", "_law_v", "_law_w", "_law_d"] ["_law_worth_here", "_law_r"] (defScope s__law_beside) := ⟨rfl, rfl, rfl, by decide +kernel, rfl, by decide +kernel, by decide +kernel⟩
theorem sc__law_plain : FnScope ["_law_row", "_law_by", "_law_one"] ["_law_row"] (defScope s__law_plain) := ⟨rfl, rfl, rfl, by decide +kernel, rfl, by decide +kernel, by decide +kernel⟩
theorem sc__law_least : FnScope ["_law_worth_here", "_law_u", "_law_v", "_law_w", "_law_d"] ["_law_worth_here"] (defScope s__law_least) := ⟨rfl, rfl, rfl, by decide +kernel, rfl, by decide +kernel, by decide +kernel⟩
theorem sc__law_is : FnScope ["_law_found", "_law_worth_here", "_law_due", "_law_u", "_law_v", "_law_w", "_law_d", "_law_other"] ["_law_found", "_law_worth_here", "_law_due"] (defScope s__law_is) := ⟨rfl, rfl, rfl, by decide +kernel, rfl, by decide +kernel, by decide +kernel⟩
theorem sc__law_amount : FnScope ["_law_cell"] ["_law_cell"] (defScope s__law_amount) := ⟨rfl, rfl, rfl, by decide +kernel, rfl, by decide +kernel, by decide +kernel⟩
theorem sc__law_worth : FnScope ["_law_script", "_law_k", "_law_v", "_law_cell"] ["_law_script", "_law_k"] (defScope s__law_worth) := ⟨rfl, rfl, rfl, by decide +kernel, rfl, by decide +kernel, by decide +kernel⟩
theorem sc__law_span : FnScope ["_law_worth_here", "_law_more", "_law_u", "_law_v", "_law_w", "_law_d"] ["_law_worth_here", "_law_more"] (defScope s__law_span) := ⟨rfl, rfl, rfl, by decide +kernel, rfl, by decide +kernel, by decide +kernel⟩
theorem sc__law_under : FnScope ["_law_one", "_law_other"] ["_law_one", "_law_other"] (defScope s__law_under) := ⟨rfl, rfl, rfl, by decide +kernel, rfl, by decide +kernel, by decide +kernel⟩
theorem sc__law_fits : FnScope ["_law_found", "_law_worth_here", "_law_outer", "_law_width", "_law_top"] ["_law_found", "_law_worth_here", "_law_outer", "_law_width"] (defScope s__law_fits) := ⟨rfl, rfl, rfl, by decide +kernel, rfl, by decide +kernel, by decide +kernel⟩
theorem sc_law : FnScope ["_law_script", "_law_worth_here", "_law_span_here", "_law_n", "_law_handed", "_law_outer", "_law_cell", "_law_width", "_law_fine", "_law_first"] ["_law_script"] (defScope s_law) := ⟨rfl, rfl, rfl, by decide +kernel, rfl, by decide +kernel, by decide +kernel⟩
structure Txt (K : PySem.W.Frag) (mg : Str → Option Value) : Prop where
  abs_ : mg "abs" = none
  len_ : mg "len" = none
  max_ : mg "max" = none
  range_ : mg "range" = none
  enumerate_ : mg "enumerate" = none
  reversed_ : mg "reversed" = none
  list_ : mg "list" = none
  sum_ : mg "sum" = none
  any_ : mg "any" = none
  isinstance_ : mg "isinstance" = none
  int_ : mg "int" = none
  bool_ : mg "bool" = none
  HIGHEST_ : ∃ t : Tok, mg "HIGHEST" = some (.int 8 t)
def spLaw (K : PySem.W.Frag) : Sp := fun vs H Q _ => ∃ (a : Addr) (ns : List Int), vs = [.ref a] ∧ SqL K H a (ns.map V.int) ∧ ns.length ≤ 63 ∧ ∀ H', Q (.bl true) H'
section
variable {P : Program} {w : World} {K : PySem.W.Frag} {mg : Str → Option Value} {base : Heap}
theorem rep_zero (n : Nat) : (List.replicate n [V.int 0]).flatten = (List.replicate n (0 : Int)).map V.int := by
  induction n with
  | zero => rfl
  | succ n ih => rw [List.replicate_succ, List.flatten_cons, ih, List.replicate_succ]; rfl
theorem ixN_nat {n j : Nat} {i : Int} (e : i = j) (h : j < n) : ixN n i = some j := by
  subst e; unfold ixN; rw [if_pos (Int.natCast_nonneg _), if_pos (by omega)]; simp
theorem map_set_int (l : List Int) (j : Nat) (x : Int) : (l.map V.int).set j (.int x) = (l.set j x).map V.int := by rw [List.map_set]
theorem at_map {l : List Int} {j : Nat} {i : Int} (e : i = j) (h : j < l.length) : atI (l.map V.int) i = some (.int (cf l j)) := by
  subst e
  exact atI_nat (by rw [List.getElem?_map, get_cf h]; rfl)
/-- all but the thing at p is as it was -/
def SameB (p : Addr) (H H' : Hp) : Prop := ∀ b o, b ≠ p → H b = some o → H' b = some o
theorem SameB.refl (p : Addr) (H : Hp) : SameB p H H := fun _ _ _ h => h
theorem SameB.then_new {p q : Addr} {H H1 : Hp} {o : HO} (s : SameB p H H1) (h : H1 q = none) : SameB p H (upd H1 q o) := fun b u n e => by
  rw [upd_ne (ne_of_none (s b u n e) h)]; exact s b u n e
theorem SameB.then_upd {p : Addr} {H H1 : Hp} {o : HO} (s : SameB p H H1) : SameB p H (upd H1 p o) := fun b u n e => by
  rw [upd_ne n]; exact s b u n e
def AllB (k : Nat) (l : List Int) : Prop := ∀ x ∈ l, Bits k x
theorem AllB.cf {k : Nat} {l : List Int} (h : AllB k l) (n : Nat) : Bits k (cf l n) := by
  by_cases hn : n < l.length
  · rw [cf_lt hn]; exact h _ (List.getElem_mem hn)
  · rw [cf_ge (Nat.le_of_not_lt hn)]; exact Bits.zero
theorem mut_same {H H2 : Hp} {p : Addr} {o : HO} (s : Same H H2) (hp : H p = none) : Same H (upd H2 p o) := fun b u e => by rw [upd_ne (ne_of_none e hp)]; exact s b u e
theorem map_snoc (l : List Int) (x : Int) : l.map V.int ++ [V.int x] = (l ++ [x]).map V.int := by rw [List.map_append]; rfl
def cutL (ms : List Int) (lo hi : Option Int) : List Int := (ms.drop (HT.sIx ms.length 0 lo)).take (HT.sIx ms.length ms.length hi - HT.sIx ms.length 0 lo)
theorem cutV_map (ms : List Int) (lo hi : Option Int) : cutV (ms.map V.int) lo hi = (cutL ms lo hi).map V.int := by
  unfold cutV cutL
  rw [List.length_map, ← List.map_drop, ← List.map_take]
theorem cutL_mem {ms : List Int} {lo hi : Option Int} {x : Int} (h : x ∈ cutL ms lo hi) : x ∈ ms := List.mem_of_mem_drop (List.mem_of_mem_take h)
theorem AllB.cut {k : Nat} {ms : List Int} {lo hi : Option Int} (h : AllB k ms) : AllB k (cutL ms lo hi) := fun x hx => h x (cutL_mem hx)
theorem AllB.app {k : Nat} {l r : List Int} (h1 : AllB k l) (h2 : AllB k r) : AllB k (l ++ r) := fun x hx => (List.mem_append.mp hx).elim (h1 x) (h2 x)
theorem AllB.zeros {k n : Nat} : AllB k (List.replicate n 0) := fun x hx => by rw [List.eq_of_mem_replicate hx]; exact Bits.zero
theorem AllB.mono {j k : Nat} {l : List Int} (h : AllB j l) (hk : j ≤ k) : AllB k l := fun x hx => (h x hx).mono hk
theorem AllB.nil {k : Nat} : AllB k [] := fun _ h => nomatch h
theorem AllB.snoc {k : Nat} {l : List Int} {x : Int} (h : AllB k l) (hx : Bits k x) : AllB k (l ++ [x]) := h.app fun y hy => by rw [List.mem_singleton.mp hy]; exact hx
theorem mem_trim {l : List Int} {x : Int} (h : x ∈ trim l) : x ∈ l := by
  unfold trim at h
  rw [List.mem_reverse] at h
  exact List.mem_reverse.mp ((List.dropWhile_sublist _).subset h)
theorem AllB.trim {k : Nat} {l : List Int} (h : AllB k l) : AllB k (trim l) := fun x hx => h x (mem_trim hx)
theorem get_int {l : List Int} {i : Nat} {x : V} (h : (l.map V.int)[i]? = some x) : ∃ c, l[i]? = some c ∧ x = .int c ∧ c ∈ l ∧ l.take (i + 1) = l.take i ++ [c] := by
  rw [List.getElem?_map] at h
  cases e : l[i]? with
  | none => rw [e] at h; cases h
  | some c => rw [e] at h; exact ⟨c, rfl, (Option.some.inj h).symm, List.mem_of_getElem? e, by rw [List.take_add_one, e]; rfl⟩
/-- a new list of ints is handed back, all else is as it was -/
def mkL (H : Hp) (Q : VK) (r : List Int) : Prop := ∀ (p : Addr) (H' : Hp), Same H H' → H p = none → H' p = some (.lst (r.map V.int)) → Q (.ref p) H'
def spTrim (K : PySem.W.Frag) : Sp := fun vs H Q _ => ∃ (a : Addr) (ns : List Int), vs = [.ref a] ∧ SqL K H a (ns.map V.int) ∧ mkL H Q (trim ns)
def spCell (K : PySem.W.Frag) : Sp := fun vs H Q _ => ∃ (a : Addr) (ns : List Int) (k : Nat), vs = [.ref a, .int k] ∧ SqL K H a (ns.map V.int) ∧ Q (.int (ns.getD k 0)) H
def sp2L (K : PySem.W.Frag) (g : List Int → List Int → List Int) : Sp := fun vs H Q _ => ∃ (a b : Addr) (xs ys : List Int), vs = [.ref a, .ref b] ∧ SqL K H a (xs.map V.int) ∧ SqL K H b (ys.map V.int) ∧ xs.length ≤ 1000000 ∧ ys.length ≤ 1000000 ∧ mkL H Q (g xs ys)
theorem max_eq (i j : Nat) : (if ((j : Nat) : Int) > ((i : Nat) : Int) then ((j : Nat) : Int) else ((i : Nat) : Int)) = ((max i j : Nat) : Int) := by split <;> omega
theorem small62 {n : Nat} (h : n ≤ sizeLine) : -(2 ^ 62) ≤ ((n : Nat) : Int) ∧ ((n : Nat) : Int) < 2 ^ 62 := by have := sizeLine_eq; omega
/-- at ps stand the lists of xss -/
def RwH (H : Hp) (ps : List Addr) (xss : List (List Int)) : Prop := ps.length = xss.length ∧ ∀ (i : Nat) (p : Addr) (xs : List Int), ps[i]? = some p → xss[i]? = some xs → H p = some (.lst (xs.map V.int))
theorem RwH.nil {H : Hp} : RwH H [] [] := ⟨rfl, fun i p xs h => by simp at h⟩
theorem RwH.same {H H' : Hp} {ps : List Addr} {xss : List (List Int)} (h : RwH H ps xss) (s : Same H H') : RwH H' ps xss := ⟨h.1, fun i p xs a b => s _ _ (h.2 i p xs a b)⟩
theorem RwH.snoc {H : Hp} {ps : List Addr} {xss : List (List Int)} {p : Addr} {xs : List Int} (h : RwH H ps xss) (hp : H p = some (.lst (xs.map V.int))) : RwH H (ps ++ [p]) (xss ++ [xs]) := by
  refine ⟨by rw [List.length_append, List.length_append, h.1]; rfl, fun i q ys a b => ?_⟩
  by_cases hi : i < ps.length
  · rw [List.getElem?_append_left hi] at a
    rw [List.getElem?_append_left (by rw [← h.1]; exact hi)] at b
    exact h.2 i q ys a b
  · rw [List.getElem?_append_right (by omega)] at a
    rw [List.getElem?_append_right (by rw [← h.1]; omega), ← h.1] at b
    by_cases h0 : i - ps.length = 0
    · rw [h0] at a b
      obtain rfl : p = q := by simpa using a
      obtain rfl : xs = ys := by simpa using b
      exact hp
    · rw [List.getElem?_eq_none_iff.mpr (by simp; omega)] at a
      cases a
theorem RwH.get {H : Hp} {ps : List Addr} {xss : List (List Int)} {i : Nat} (h : RwH H ps xss) (hi : i < xss.length) : ∃ p, ps[i]? = some p ∧ H p = some (.lst ((xss.getD i []).map V.int)) := by
  have hi' : i < ps.length := by rw [h.1]; exact hi
  refine ⟨ps[i], List.getElem?_eq_getElem hi', h.2 i _ _ (List.getElem?_eq_getElem hi') ?_⟩
  rw [List.getElem?_eq_getElem hi]; simp [List.getD, hi]
theorem RwH.of_get {H : Hp} {ps : List Addr} {xss : List (List Int)} {i : Nat} {x : V} (h : RwH H ps xss) (hx : (ps.map V.ref)[i]? = some x) : ∃ p xs, x = .ref p ∧ ps[i]? = some p ∧ xss[i]? = some xs ∧ H p = some (.lst (xs.map V.int)) ∧ i < xss.length := by
  rw [List.getElem?_map] at hx
  cases e : ps[i]? with
  | none => rw [e] at hx; cases hx
  | some p =>
    rw [e] at hx
    have hi : i < ps.length := (List.getElem?_eq_some_iff.mp e).1
    have hi' : i < xss.length := by rw [← h.1]; exact hi
    exact ⟨p, xss[i], (Option.some.inj hx).symm, rfl, List.getElem?_eq_getElem hi', h.2 i p _ e (List.getElem?_eq_getElem hi'), hi'⟩
theorem map_ref_snoc (ps : List Addr) (p : Addr) : ps.map V.ref ++ [V.ref p] = (ps ++ [p]).map V.ref := by rw [List.map_append]; rfl
def sp2 : Sp := fun vs H Q _ => ∃ a b : Int, vs = [.int a, .int b] ∧ Q (.int (Nat.gcd a.natAbs b.natAbs : Nat)) H
theorem abs_eq (i : Int) : (if i < 0 then -i else i) = (i.natAbs : Int) := by split <;> omega
theorem ok_shared_by_two {f : Addr} {fd : FuncData} (F : Fun K "shared_by_two" "shared_by_two" s_shared_by_two f fd) (T : Txt K mg) : FnOk P w K mg base CX0 1 f fd ["one", "other"] sp2 := by
  refine F.ok sc_shared_by_two (fun vs H Q E h => ?_) (fun cdv A outer s H vs Q E hr h => ?_)
  · obtain ⟨a, b, rfl, _⟩ := h
    rfl
  · obtain ⟨a, b, rfl, k⟩ := h
    refine ⟨_, (pss_cons (ps_set (i := 2) sc_shared_by_two.nd rfl (Or.inl rfl) (pe_callB call_abs (by rfl) T.abs_ PyProof.Rows.boot_abs (pa_cons (pv 0) pa_nil)))
      (pss_cons (ps_set (i := 3) sc_shared_by_two.nd rfl (Or.inl rfl) (pe_callB call_abs (by rfl) T.abs_ PyProof.Rows.boot_abs (pa_cons (pv 1) pa_nil)))
      (pss_cons (ps_while PassesOwn.never (pt_cmpR op_neI (pv 3) pe_int (nomark _))
        (pss_cons (ps_set (i := 4) sc_shared_by_two.nd rfl (Or.inl rfl) (pe_op op_modP (pv 2) (pv 3)))
          (pss_cons (ps_set (i := 2) sc_shared_by_two.nd rfl (Or.inl rfl) (pv 3))
          (pss_one (ps_set (i := 3) sc_shared_by_two.nd rfl (Or.inl rfl) (pv 4))))))
      (pss_one (ps_ret (pv 2)))))), ?_⟩
    refine ⟨_, rfl, _, rfl, ?_⟩
    refine ⟨_, rfl, _, rfl, ?_⟩
    refine ⟨fun m σ' H' => ∃ (x y : Int) (z : Option V), σ' = [some (.int a), some (.int b), some (.int x), some (.int y), z] ∧ H = H' ∧ 0 ≤ x ∧ 0 ≤ y ∧ y.natAbs = m ∧ Nat.gcd x.natAbs y.natAbs = Nat.gcd a.natAbs b.natAbs, ⟨_, _, _, none, rfl, rfl, ?_, ?_, rfl, ?_⟩, ?_⟩
    · rw [abs_eq]; exact Int.natCast_nonneg _
    · rw [abs_eq]; exact Int.natCast_nonneg _
    · rw [abs_eq, abs_eq, Int.natAbs_natCast, Int.natAbs_natCast]
    · rintro m σ' H' ⟨x, y, z, rfl, rfl, hx, hy, rfl, hg⟩
      refine ⟨_, rfl, _, _, rfl, rfl, _, rfl, ?_⟩
      refine rd_ndec (fun hn => ?_) (fun h0 => ?_)
      · have hp : 0 < y := by have : y ≠ 0 := hn; omega
        refine ⟨fun σ'' H'' => ∃ m', m' < y.natAbs ∧ ∃ (x' y' : Int) (z : Option V), σ'' = [some (.int a), some (.int b), some (.int x'), some (.int y'), z] ∧ H = H'' ∧ 0 ≤ x' ∧ 0 ≤ y' ∧ y'.natAbs = m' ∧ Nat.gcd x'.natAbs y'.natAbs = Nat.gcd a.natAbs b.natAbs, fun _ _ h => h, ?_⟩
        refine ⟨_, rfl, _, rfl, _, _, rfl, rfl, hp, ?_⟩
        refine ⟨_, rfl, ?_⟩
        refine ⟨_, rfl, ?_⟩
        have h1 := Int.emod_nonneg x (Int.ne_of_gt hp)
        have h2 := Int.emod_lt_of_pos x hp
        exact ⟨(x % y).natAbs, by omega, y, x % y, _, rfl, rfl, hy, h1, rfl, by rw [gcd_turn hx hp]; exact hg⟩
      · refine ⟨_, rfl, ?_⟩
        have e : (y : Int) = 0 := h0
        subst e
        have e2 : (x : Int) = ((Nat.gcd a.natAbs b.natAbs : Nat) : Int) := by
          rw [← hg]
          show x = ((Nat.gcd x.natAbs 0 : Nat) : Int)
          rw [Nat.gcd_zero_right]; omega
        rw [e2]
        exact k
def spShared (K : PySem.W.Frag) : Sp := fun vs H Q _ => ∃ (a : Addr) (ns : List Int), vs = [.ref a] ∧ SqL K H a (ns.map V.int) ∧ Q (.int (gcdL ns : Nat)) H
theorem ok_shared {f : Addr} {fd : FuncData} (F : Fun K "shared" "shared" s_shared f fd) (T : Txt K mg) {f_shared_by_two : Addr} {fd_shared_by_two : FuncData} (C_shared_by_two : Cal P w K mg base 1 "shared_by_two" ["one", "other"] sp2 f_shared_by_two fd_shared_by_two) : FnOk P w K mg base CX0 2 f fd ["row"] (spShared K) := by
  obtain ⟨G_shared_by_two, m_shared_by_two, k_shared_by_two, b_shared_by_two⟩ := C_shared_by_two
  refine F.ok sc_shared (fun vs H Q E h => ?_) (fun cdv A outer s H vs Q E hr h => ?_)
  · obtain ⟨a, ns, rfl, _⟩ := h
    rfl
  · obtain ⟨a, ns, rfl, hS, k⟩ := h
    refine ⟨_, (pss_cons (ps_set (i := 1) sc_shared.nd rfl (Or.inl rfl) pe_int)
      (pss_cons (ps_for PassesOwn.never rfl (pi_listK (K := K) rfl (pv 0)) (pg_name (i := 2) sc_shared.nd rfl (Or.inl rfl))
        (pss_one (ps_set (i := 1) sc_shared.nd rfl (Or.inl rfl) (pe_call G_shared_by_two (hr.mono (by decide)) rfl m_shared_by_two k_shared_by_two b_shared_by_two .nil pass0 (pa_cons (pv 1) (pa_cons (pv 2) pa_nil))))))
      (pss_one (ps_ret (pv 1))))), ?_⟩
    refine ⟨_, rfl, a, rfl, ⟨_, hS⟩, for_list (K := K) (a := a) (xs := ns.map V.int) (fun i σ' H' => ∃ z : Option V, σ' = [some (.ref a), some (.int (gcdL (ns.take i) : Nat)), z] ∧ H = H') ⟨none, rfl, rfl⟩ (fun i σ' H' _ ⟨z, _, e⟩ => by rw [← e]; exact hS) ?_ ?_⟩
    · rintro i y σ' H' hi ⟨z, rfl, rfl⟩
      rw [List.getElem?_map] at hi
      cases e : ns[i]? with
      | none => rw [e] at hi; cases hi
      | some n =>
        rw [e] at hi
        obtain rfl := Option.some.inj hi
        refine ⟨_, rfl, _, rfl, _, _, rfl, ?_⟩
        have e3 : ns.take (i + 1) = ns.take i ++ [n] := by rw [List.take_add_one, e]; rfl
        refine ⟨some (.int n), ?_, rfl⟩
        rw [e3, gcdL_snoc, Int.natAbs_natCast]
        rfl
    · rintro σ' H' ⟨z, rfl, rfl⟩
      refine ⟨_, rfl, ?_⟩
      rw [List.length_map, List.take_length]
      exact k
/-! a Ratio: its fields, its making -/
def flds (t b : Int) : List (Str × V) := putF "bottom" (.int b) (putF "top" (.int t) [])
theorem tb_ne : ¬ (("top" : Str) = "bottom") := by decide +kernel
theorem flds_bottom (t b : Int) : (flds t b).lookup ("bottom" : Str) = some (.int b) := by
  unfold flds; rw [lookup_putF, if_pos rfl]
theorem flds_top (t b : Int) : (flds t b).lookup ("top" : Str) = some (.int t) := by
  unfold flds; rw [lookup_putF, if_neg tb_ne, lookup_putF, if_pos rfl]
theorem flds_no (t b : Int) {m : Str} (h1 : ¬ m = "bottom") (h2 : ¬ m = "top") : (flds t b).lookup m = none := by
  unfold flds; rw [lookup_putF, if_neg h1, lookup_putF, if_neg h2]; rfl
structure RCI (K : PySem.W.Frag) (mg : Str → Option Value) (C : Addr) : Prop where
  cl : Cls K C
  nT : NoAttr K C "top"
  nB : NoAttr K C "bottom"
  mg : mg "Ratio" = some (.ref C)
  ha : PySem.W.findIn K (.ref C) "__class__" = some (some (.builtin "object.__class__"))
  hn : PySem.W.specialIn K (.builtin "object.__class__") "__get__" = some (some (.builtin "getset_descriptor.__get__"))
  ht : PySem.W.takesIn K (.builtin "object.__class__") = some true
  hm : PySem.W.mroIn K C (.type "object") = some true
/-- a Ratio with top t and bottom b stands at p -/
def RA (C : Addr) (H : Hp) (p : Addr) (t b : Int) : Prop := ∃ dx, H p = some (.ins C dx (flds t b))
theorem RA.same {C : Addr} {H H' : Hp} {p : Addr} {t b : Int} (h : RA C H p t b) (s : Same H H') : RA C H' p t b := let ⟨dx, e⟩ := h; ⟨dx, s _ _ e⟩
/-- a new Ratio of t and b is handed back -/
def mkR (C : Addr) (H : Hp) (Q : VK) (t b : Int) : Prop := ∀ (x : Addr) (H' : Hp), Same H H' → H x = none → RA C H' x (rt t b) (rb t b) → Q (.ref x) H'
def spInit (C : Addr) : Sp := fun vs H Q _ => ∃ (p dx : Addr) (t b : Int), vs = [.ref p, .int t, .int b] ∧ H p = some (.ins C dx []) ∧ b ≠ 0 ∧ Bits 9000 b ∧ Q .non (upd H p (.ins C dx (flds (rt t b) (rb t b))))
theorem make_R {C : Addr} {H1 : Hp} {q : Addr → Hp → Prop} {E : XK} {t b : Int} (hb : b ≠ 0) (bb : Bits 9000 b) (h : ∀ (x : Addr) (H' : Hp), Same H1 H' → H1 x = none → RA C H' x (rt t b) (rb t b) → q x H') : ∀ x dx : Addr, H1 x = none → H1 dx = none → dx ≠ x → spInit C (.ref x :: ([.int t, .int b] ++ [])) (upd (upd H1 dx (.own x)) x (.ins C dx [])) (fun v H2 => v = .non ∧ q x H2) E := fun x dx nx ndx ne => by
  refine ⟨x, dx, t, b, rfl, upd_same, hb, bb, rfl, ?_⟩
  rw [upd_upd]
  have s0 : Same H1 (upd (upd H1 dx (.own x)) x (.ins C dx (flds (rt t b) (rb t b)))) := fun c o e => by
    rw [upd_ne (ne_of_none e nx), upd_ne (ne_of_none e ndx)]; exact e
  exact h x _ s0 nx ⟨dx, upd_same⟩
theorem dv_bits {t b : Int} (hb : b ≠ 0) (bb : Bits 9000 b) : Bits 9000 (dv t b) := bb.of_le (by rw [dv_abs]; exact Nat.le_of_dvd (Int.natAbs_pos.mpr hb) (Nat.gcd_dvd_right _ _))
theorem ok_Ratio___init__ {C f : Addr} {dV : Value} {fd : FuncData} (F : FunD K "__init__" "Ratio.__init__" s_Ratio___init__ dV f fd) (T : Txt K mg) (R : RCI K mg C) {f_shared_by_two : Addr} {fd_shared_by_two : FuncData} (C_shared_by_two : Cal P w K mg base 1 "shared_by_two" ["one", "other"] sp2 f_shared_by_two fd_shared_by_two) : FnOk P w K mg base CX0 2 f fd ["self", "top", "bottom"] (spInit C) := by
  obtain ⟨G_shared_by_two, m_shared_by_two, k_shared_by_two, b_shared_by_two⟩ := C_shared_by_two
  refine F.ok sc_Ratio___init__ (fun vs H Q E h => ?_) (fun cdv A outer s H vs Q E hr h => ?_)
  · obtain ⟨p, dx, t, b, rfl, _⟩ := h
    rfl
  · obtain ⟨p, dx, t, b, rfl, hp, hb, bb, k⟩ := h
    refine ⟨_, (pss_cons (ps_if (pt_cmpR op_eqI (pv 2) pe_int (nomark _))
        (pss_one ps_never)
        pss_nil)
      (pss_cons (ps_set (i := 3) sc_Ratio___init__.nd rfl (Or.inl rfl) (pe_call G_shared_by_two (hr.mono (by decide)) rfl m_shared_by_two k_shared_by_two b_shared_by_two .nil pass0 (pa_cons (pv 1) (pa_cons (pv 2) pa_nil))))
      (pss_cons (ps_if (pt_cmpR op_lt (pv 2) pe_int (nomark _))
        (pss_one (ps_set (i := 3) sc_Ratio___init__.nd rfl (Or.inl rfl) (pe_un un_neg (pv 3))))
        pss_nil)
      (pss_cons (ps_fld (pv 0) (pe_op op_fdivB (pv 1) (pv 3)) rfl)
      (pss_one (ps_fld (pv 0) (pe_op op_fdivB (pv 2) (pv 3)) rfl)))))), ?_⟩
    refine rd_sr ⟨_, rfl, _, _, rfl, rfl, _, rfl, rd_dec (fun h => absurd h hb) (fun _ => ?_)⟩
    refine rd_sa ⟨_, rfl, _, rfl, t, b, rfl, ?_⟩
    refine rd_cutIf (fun σ' H' => H = H' ∧ σ' = [some (.ref p), some (.int t), some (.int b), some (.int (dv t b))]) ?_ ?_
    · rintro σ' H' ⟨rfl, rfl⟩
      refine ⟨_, rfl, _, rfl, _, _, rfl, rfl, ⟨dv_ne hb, dv_bits hb bb⟩, _, rfl, p, C, dx, _, rfl, hp, R.cl, R.nT, by show 0 < 1000; decide, ?_⟩
      refine ⟨_, rfl, _, rfl, _, _, rfl, rfl, ⟨dv_ne hb, dv_bits hb bb⟩, _, rfl, p, C, dx, _, rfl, upd_same, R.cl, R.nB, by show 1 < 1000; decide, ?_⟩
      show Q .non (upd (upd H p _) p _)
      rw [upd_upd]
      exact k
    · intro rest
      refine ⟨_, rfl, _, _, rfl, rfl, _, rfl, ?_⟩
      refine rd_dec (fun h => ?_) (fun h => ?_)
      · refine ⟨_, rfl, _, rfl, rest _ _ ⟨rfl, ?_⟩⟩
        have e : dv t b = -((Nat.gcd t.natAbs b.natAbs : Nat) : Int) := by unfold dv; rw [if_pos h]
        rw [e]; rfl
      · refine rest _ _ ⟨rfl, ?_⟩
        have e : dv t b = ((Nat.gcd t.natAbs b.natAbs : Nat) : Int) := by unfold dv; rw [if_neg h]
        rw [e]; rfl
def spSg : Sp := fun vs H Q _ => ∃ x : Int, vs = [.int x] ∧ Q (.int (sg x)) H
theorem ok_whole_sign {f : Addr} {fd : FuncData} (F : Fun K "whole_sign" "whole_sign" s_whole_sign f fd) (T : Txt K mg) : FnOk P w K mg base CX0 1 f fd ["value"] spSg := by
  refine F.ok sc_whole_sign (fun vs H Q E h => ?_) (fun cdv A outer s H vs Q E hr h => ?_)
  · obtain ⟨x, rfl, _⟩ := h
    rfl
  · obtain ⟨x, rfl, k⟩ := h
    refine ⟨_, (pss_cons (ps_if (pt_cmpR op_lt (pv 0) pe_int (nomark _))
        (pss_one (ps_ret (pe_un un_neg pe_int)))
        pss_nil)
      (pss_cons (ps_if (pt_cmpR op_gt (pv 0) pe_int (nomark _))
        (pss_one (ps_ret pe_int))
        pss_nil)
      (pss_one (ps_ret pe_int)))), ?_⟩
    refine rd_sr ⟨_, rfl, _, _, rfl, rfl, _, rfl, rd_dec (fun h => ?_) (fun h => ?_)⟩
    · have e : sg x = -1 := by unfold sg; rw [if_pos h]
      rw [e] at k
      exact ⟨_, rfl, k⟩
    refine rd_sr ⟨_, rfl, _, _, rfl, rfl, _, rfl, rd_dec (fun h' => ?_) (fun h' => ?_)⟩
    · have e : sg x = 1 := by unfold sg; rw [if_neg h, if_pos h']
      rw [e] at k
      exact k
    · have e : sg x = 0 := by unfold sg; rw [if_neg h, if_neg h']
      rw [e] at k
      exact k
def spAgainst (C : Addr) : Sp := fun vs H Q _ => ∃ (p q : Addr) (t b u d : Int), vs = [.ref p, .ref q] ∧ RA C H p t b ∧ RA C H q u d ∧ Bits 100000 t ∧ Bits 100000 b ∧ Bits 100000 u ∧ Bits 100000 d ∧ Q (.int (sg (t * d - u * b))) H
theorem ok_Ratio_against {C f : Addr} {fd : FuncData} (F : Fun K "against" "Ratio.against" s_Ratio_against f fd) (T : Txt K mg) (R : RCI K mg C) {f_whole_sign : Addr} {fd_whole_sign : FuncData} (C_whole_sign : Cal P w K mg base 1 "whole_sign" ["value"] spSg f_whole_sign fd_whole_sign) : FnOk P w K mg base CX0 2 f fd ["self", "other"] (spAgainst C) := by
  obtain ⟨G_whole_sign, m_whole_sign, k_whole_sign, b_whole_sign⟩ := C_whole_sign
  refine F.ok sc_Ratio_against (fun vs H Q E h => ?_) (fun cdv A outer s H vs Q E hr h => ?_)
  · obtain ⟨p, q, t, b, u, d, rfl, _⟩ := h
    rfl
  · obtain ⟨p, q, t, b, u, d, rfl, ⟨dx, hp⟩, ⟨dy, hq⟩, bt, bb, bu, bd, k⟩ := h
    refine ⟨_, (pss_one (ps_ret (pe_call G_whole_sign (hr.mono (by decide)) rfl m_whole_sign k_whole_sign b_whole_sign .nil pass0 (pa_cons (pe_op op_sub (pe_op op_mulB (pe_fldK (K := K) rfl (pv 0) rfl) (pe_fldK (K := K) rfl (pv 1) rfl)) (pe_op op_mulB (pe_fldK (K := K) rfl (pv 1) rfl) (pe_fldK (K := K) rfl (pv 0) rfl))) pa_nil)))), ?_⟩
    refine ⟨_, rfl, p, C, dx, _, _, rfl, hp, R.cl, R.nT, flds_top _ _, _, rfl, q, C, dy, _, _, rfl, hq, R.cl, R.nB, flds_bottom _ _, _, _, rfl, rfl, ⟨bt.mono (by decide), bd.mono (by decide)⟩, ?_⟩
    exact ⟨_, rfl, q, C, dy, _, _, rfl, hq, R.cl, R.nT, flds_top _ _, _, rfl, p, C, dx, _, _, rfl, hp, R.cl, R.nB, flds_bottom _ _, _, _, rfl, rfl, ⟨bu.mono (by decide), bb.mono (by decide)⟩, _, _, rfl, rfl, _, rfl, k⟩
theorem ok_poly {f : Addr} {fd : FuncData} (F : Fun K "poly" "poly" s_poly f fd) (T : Txt K mg) : FnOk P w K mg base CX0 1 f fd ["row"] (spTrim K) := by
  refine F.ok sc_poly (fun vs H Q E h => ?_) (fun cdv A outer s H vs Q E hr h => ?_)
  · obtain ⟨a, ns, rfl, _⟩ := h
    rfl
  · obtain ⟨a, ns, rfl, hS, k⟩ := h
    refine ⟨_, (pss_cons (ps_set (i := 1) sc_poly.nd rfl (Or.inl rfl) (pe_callB (call_lenK (K := K) rfl) (by rfl) T.len_ PySem.boot_len (pa_cons (pv 0) pa_nil)))
      (pss_cons (ps_while PassesOwn.never (PW.pt (pw_and (pt_cmpR op_gt (pv 1) pe_int (nomark _)) (pw_and1 (pt_cmpR op_eqI (pe_ix (ix_listK (K := K) rfl) (pv 0) (pe_op op_sub (pv 1) pe_int) (fun _ _ => rfl)) pe_int (nomark _)))))
        (pss_one (ps_set (i := 1) sc_poly.nd rfl (Or.inl rfl) (pe_op op_sub (pv 1) pe_int))))
      (pss_one (ps_ret (pe_slice (sl_listK (K := K) rfl) (pv 0) po_none (po_some (pv 1))))))), ?_⟩
    refine ⟨_, rfl, a, _, rfl, .inl hS, ?_⟩
    refine ⟨fun m σ' H' => ∃ n : Nat, n ≤ ns.length ∧ σ' = [some (.ref a), some (.int n)] ∧ H = H' ∧ n = m ∧ trim (ns.take n) = trim ns, ⟨_, ns.length, Nat.le_refl _, ?_, rfl, rfl, ?_⟩, ?_⟩
    · rw [List.length_map]; rfl
    · rw [List.take_length]
    · rintro m σ' H' ⟨n, hn, rfl, rfl, rfl, ht⟩
      have fin : trim (ns.take n) = ns.take n → ∃ v, ([some (V.ref a), some (V.int n)] : St)[0]? = some (some v) ∧ ∃ v_1, ([some (V.ref a), some (V.int n)] : St)[1]? = some (some v_1) ∧ ∃ i, v_1 = V.int i ∧ rSlL K v none (some i) H Q := fun h => by
        refine ⟨_, rfl, _, rfl, n, rfl, a, _, rfl, hS, fun p hp => k p _ (Same.upd_new hp) hp ?_⟩
        rw [upd_same, ← ht, h]
        have e : cutV (ns.map V.int) none (some (n : Int)) = (ns.take n).map V.int := by
          unfold cutV
          rw [HT.sIx_none, HT.sIx_nat, List.drop_zero, Nat.sub_zero, List.length_map, Nat.min_eq_left hn, List.map_take]
        rw [e]
      refine ⟨_, rfl, _, _, rfl, rfl, _, rfl, ?_⟩
      refine rd_dec (fun hp => ?_) (fun hp => ?_)
      · obtain ⟨j, rfl⟩ : ∃ j, n = j + 1 := ⟨n - 1, by have : (0 : Int) < n := hp; omega⟩
        have hj : j < ns.length := hn
        refine ⟨_, rfl, _, rfl, _, _, rfl, rfl, a, _, j, .int (cf ns j), rfl, ?_, hS, atI_nat ?_, _, _, rfl, rfl, _, rfl, ?_⟩
        · show V.int (((j + 1 : Nat) : Int) - 1) = V.int j
          congr 1; omega
        · rw [List.getElem?_map, get_cf hj]; rfl
        refine rd_dec (fun h0 => ?_) (fun h0 => ?_)
        · refine ⟨fun σ'' H'' => ∃ m', m' < j + 1 ∧ ∃ n : Nat, n ≤ ns.length ∧ σ'' = [some (.ref a), some (.int n)] ∧ H = H'' ∧ n = m' ∧ trim (ns.take n) = trim ns, fun _ _ h => h, ?_⟩
          refine ⟨_, rfl, _, _, rfl, rfl, j, Nat.lt_succ_self _, j, Nat.le_of_lt hj, ?_, rfl, rfl, ?_⟩
          · show [some (V.ref a), some (V.int (((j + 1 : Nat) : Int) - 1))] = [some (V.ref a), some (V.int j)]
            congr 4; omega
          · rw [← ht, trim_take_zero hj h0]
        · exact fin (trim_take_ne hj h0)
      · obtain rfl : n = 0 := by have : ¬ (0 : Int) < n := hp; omega
        exact fin (by rw [List.take_zero]; rfl)
def spDeg : Sp := fun vs H Q _ => ∃ (a : Addr) (xs : List V), vs = [.ref a] ∧ H a = some (.lst xs) ∧ Q (.int ((xs.length : Int) - 1)) H
theorem ok_degree {f : Addr} {fd : FuncData} (F : Fun K "degree" "degree" s_degree f fd) (T : Txt K mg) : FnOk P w K mg base CX0 1 f fd ["row"] spDeg := by
  refine F.ok sc_degree (fun vs H Q E h => ?_) (fun cdv A outer s H vs Q E hr h => ?_)
  · obtain ⟨a, xs, rfl, _⟩ := h
    rfl
  · obtain ⟨a, xs, rfl, hA, k⟩ := h
    refine ⟨_, (pss_one (ps_ret (pe_op op_sub (pe_callB (call_lenK (K := K) rfl) (by rfl) T.len_ PySem.boot_len (pa_cons (pv 0) pa_nil)) pe_int))), ?_⟩
    exact ⟨_, rfl, a, _, rfl, .inl (SqL.of hA), _, _, rfl, rfl, k⟩
theorem ok_coefficient {f : Addr} {fd : FuncData} (F : Fun K "coefficient" "coefficient" s_coefficient f fd) (T : Txt K mg) : FnOk P w K mg base CX0 1 f fd ["row", "place"] (spCell K) := by
  refine F.ok sc_coefficient (fun vs H Q E h => ?_) (fun cdv A outer s H vs Q E hr h => ?_)
  · obtain ⟨a, ns, k, rfl, _⟩ := h
    rfl
  · obtain ⟨a, ns, n, rfl, hS, k⟩ := h
    refine ⟨_, (pss_cons (ps_if (pt_cmpR op_lt (pv 1) (pe_callB (call_lenK (K := K) rfl) (by rfl) T.len_ PySem.boot_len (pa_cons (pv 0) pa_nil)) (nomark _))
        (pss_one (ps_ret (pe_ix (ix_listK (K := K) rfl) (pv 0) (pv 1) (fun _ _ => rfl))))
        pss_nil)
      (pss_one (ps_ret pe_int))), ?_⟩
    refine ⟨_, rfl, _, rfl, a, _, rfl, .inl hS, _, _, rfl, rfl, _, rfl, ?_⟩
    refine rd_dec (fun h1 => ?_) (fun h1 => ?_)
    · rw [List.length_map] at h1
      have h2 : n < ns.length := by omega
      refine ⟨_, rfl, _, rfl, a, _, _, _, rfl, rfl, hS, atI_nat (v := .int (ns.getD n 0)) ?_, k⟩
      rw [List.getElem?_map, List.getElem?_eq_getElem h2]
      simp [List.getD, h2]
    · rw [List.length_map] at h1
      have h2 : ns.length ≤ n := by omega
      have e : ns.getD n 0 = 0 := by simp [List.getD, List.getElem?_eq_none_iff.mpr h2]
      rw [e] at k
      exact k
theorem ok_taken {f : Addr} {fd : FuncData} (F : Fun K "taken" "taken" s_taken f fd) (T : Txt K mg) {f_poly : Addr} {fd_poly : FuncData} (C_poly : Cal P w K mg base 1 "poly" ["row"] (spTrim K) f_poly fd_poly) {f_coefficient : Addr} {fd_coefficient : FuncData} (C_coefficient : Cal P w K mg base 1 "coefficient" ["row", "place"] (spCell K) f_coefficient fd_coefficient) : FnOk P w K mg base CX0 2 f fd ["first", "second"] (sp2L K subL) := by
  obtain ⟨G_poly, m_poly, k_poly, b_poly⟩ := C_poly
  obtain ⟨G_coefficient, m_coefficient, k_coefficient, b_coefficient⟩ := C_coefficient
  refine F.ok sc_taken (fun vs H Q E h => ?_) (fun cdv A outer s H vs Q E hr h => ?_)
  · obtain ⟨a, b, xs, ys, rfl, _⟩ := h
    rfl
  · obtain ⟨a, b, xs, ys, rfl, hA, hB, hx, hy, k⟩ := h
    refine ⟨_, (pss_cons (ps_set (i := 2) sc_taken.nd rfl (Or.inl rfl) (pe_callB (call_max2 rfl) (by rfl) T.max_ PyProof.Rows.boot_max (pa_cons (pe_callB (call_lenK (K := K) rfl) (by rfl) T.len_ PySem.boot_len (pa_cons (pv 0) pa_nil)) (pa_cons (pe_callB (call_lenK (K := K) rfl) (by rfl) T.len_ PySem.boot_len (pa_cons (pv 1) pa_nil)) pa_nil))))
      (pss_one (ps_ret (pe_call G_poly (hr.mono (by decide)) rfl m_poly k_poly b_poly .nil pass0 (pa_cons (pe_comp (own := ["k"]) (fr := ["first", "second"]) (js := [0, 1]) (by walk_at "comp_ok") rfl (pi_range1 rfl T.range_ (pa_cons (pv 2) pa_nil)) (fun _ _ _ _ => (pg_name (i := 0) (show List.Nodup (["k", "first", "second"] : List Str) from by decide +kernel) rfl (Or.inl rfl))) (fun _ _ _ _ => (pe_op op_sub (pe_call G_coefficient (hr.mono (by decide)) rfl m_coefficient k_coefficient b_coefficient .nil pass0 (pa_cons (pv 1) (pa_cons (pv 0) pa_nil))) (pe_call G_coefficient (hr.mono (by decide)) rfl m_coefficient k_coefficient b_coefficient .nil pass0 (pa_cons (pv 2) (pa_cons (pv 0) pa_nil)))))) pa_nil))))), ?_⟩
    refine ⟨_, rfl, a, _, rfl, .inl hA, _, rfl, b, _, rfl, .inl hB, _, _, rfl, ?_⟩
    rw [max_eq, List.length_map, List.length_map]
    have hz : max xs.length ys.length ≤ sizeLine := by have := sizeLine_eq; omega
    refine ⟨_, rfl, _, rfl, (small62 hz).1, (small62 hz).2, comp_range (lo := 0) (n := max xs.length ys.length) (fun i zs σ' H' => ∃ z : Option V, σ' = [z, some (.ref a), some (.ref b)] ∧ zs = ((List.range i).map fun k => V.int (cf xs k - cf ys k)) ∧ H = H') hz ⟨none, rfl, rfl, rfl⟩ ?_ ?_ ?_⟩
    · rintro i zs σ' H' _ ⟨z, rfl, rfl, rfl⟩
      simp
    · rintro i zs σ' H' hi ⟨z, rfl, rfl, rfl⟩
      refine ⟨_, rfl, _, rfl, a, xs, i, ?_, hA, _, rfl, _, rfl, b, ys, i, ?_, hB, _, _, rfl, rfl, _, rfl, ?_, rfl⟩
      · show [V.ref a, V.int (0 + (i : Int))] = _
        rw [Int.zero_add]
      · show [V.ref b, V.int (0 + (i : Int))] = _
        rw [Int.zero_add]
      · rw [List.range_succ, List.map_append]; rfl
    · rintro zs σ' H' p ⟨z, rfl, rfl, rfl⟩ hp
      refine ⟨p, (List.range (max xs.length ys.length)).map fun k => cf xs k - cf ys k, rfl, SqL.of ?_, ?_⟩
      · rw [upd_same, List.map_map]; rfl
      · intro p' H' sm hp' e
        refine k p' H' ((Same.upd_new hp).trans sm) ((Same.upd_new hp).free hp') ?_
        rw [e, subL_eq]
def sp1 (g : List Int → List Int) : Sp := fun vs H Q _ => ∃ (a : Addr) (ns : List Int), vs = [.ref a] ∧ H a = some (.lst (ns.map V.int)) ∧ ns.length ≤ 100000 ∧ AllB 100000 ns ∧ mkL H Q (g ns)
theorem nat_bits {k : Nat} {n : Nat} (h : n < 2 ^ k) : Bits k (n : Int) := by show ((n : Int)).natAbs < 2 ^ k; rw [Int.natAbs_natCast]; exact h
theorem small_bits {n : Nat} (h : n ≤ 1000000) : Bits 1000000 (n : Int) := (nat_bits (k := 20) (Nat.lt_of_le_of_lt h (by decide))).mono (by decide)
theorem range_snoc (f : Nat → V) (i : Nat) : (List.range i).map f ++ [f i] = (List.range (i + 1)).map f := by rw [List.range_succ, List.map_append]; rfl
theorem ok_slope {f : Addr} {fd : FuncData} (F : Fun K "slope" "slope" s_slope f fd) (T : Txt K mg) : FnOk P w K mg base CX0 1 f fd ["row"] (sp1 slopeL) := by
  refine F.ok sc_slope (fun vs H Q E h => ?_) (fun cdv A outer s H vs Q E hr h => ?_)
  · obtain ⟨a, ns, rfl, _⟩ := h
    rfl
  · obtain ⟨a, ns, rfl, hA, hn, hb, k⟩ := h
    have big := sizeLine_eq
    refine ⟨_, (pss_one (ps_ret (pe_comp (own := ["k"]) (fr := ["row"]) (js := [0]) (by walk_at "comp_ok") rfl (pi_range2 rfl T.range_ (pa_cons pe_int (pa_cons (pe_callB (call_lenK (K := K) rfl) (by rfl) T.len_ PySem.boot_len (pa_cons (pv 0) pa_nil)) pa_nil))) (fun _ _ _ _ => (pg_name (i := 0) (show List.Nodup (["k", "row"] : List Str) from by decide +kernel) rfl (Or.inl rfl))) (fun _ _ _ _ => (pe_op op_mulB (pv 0) (pe_ix (ix_listK (K := K) rfl) (pv 1) (pv 0) (fun _ _ => rfl))))))), ?_⟩
    have hl : (ns.map V.int).length = ns.length := List.length_map _
    refine rd_ret ⟨_, rfl, a, _, rfl, .inl (SqL.of hA), 1, _, rfl, ⟨by decide, by decide, by rw [hl]; omega, by rw [hl]; omega⟩, comp_range (lo := 1) (fun i ys σ' H' => ∃ z : Option V, σ' = [z, some (.ref a)] ∧ ys = ((List.range i).map fun (j : Nat) => V.int (((j : Int) + 1) * cf ns (j + 1))) ∧ H = H') (by rw [hl]; omega) ⟨none, rfl, rfl, rfl⟩ ?_ ?_ ?_⟩
    · rintro i ys σ' H' _ ⟨z, rfl, rfl, rfl⟩
      simp
    · rintro i ys σ' H' hi ⟨z, rfl, rfl, rfl⟩
      rw [hl] at hi
      have hi' : i + 1 < ns.length := by omega
      have e0 : (1 : Int) + (i : Int) = ((i + 1 : Nat) : Int) := by omega
      refine ⟨_, rfl, _, rfl, _, rfl, a, _, _, _, rfl, rfl, SqL.of hA, at_map e0 hi', _, _, rfl, rfl, ⟨by rw [e0]; exact small_bits (by omega), (hb.cf _).mono (by decide)⟩, _, rfl, ?_, rfl⟩
      rw [← range_snoc]
      show _ ++ [V.int ((1 + (i : Int)) * cf ns (i + 1))] = _
      rw [Int.add_comm 1]
    · rintro ys σ' H' p ⟨z, rfl, rfl, rfl⟩ hp
      refine k p _ (Same.upd_new hp) hp ?_
      have en : (((ns.map V.int).length : Int) - 1).toNat = ns.length - 1 := by rw [hl]; omega
      rw [upd_same, en]; unfold RM.slopeL; rw [List.map_map]; rfl
def spShr : Sp := fun vs H Q _ => ∃ (a : Addr) (ns : List Int), vs = [.ref a] ∧ H a = some (.lst (ns.map V.int)) ∧ Tr ns ∧ ns.length ≤ 1000000 ∧ mkL H Q (shrL ns)
theorem gcdL_pos {ns : List Int} (ht : Tr ns) (hne : ns ≠ []) : 0 < (gcdL ns : Int) := by
  obtain ⟨r, x, rfl⟩ := (snoc_cases ns).resolve_left hne
  have hx : x ≠ 0 := tr_snoc.mp ht
  have hm : x ∈ r ++ [x] := by simp
  have h1 : 0 < gcdL (r ++ [x]) := Nat.pos_of_dvd_of_pos (gcdL_dvd hm) (Int.natAbs_pos.mpr hx)
  omega
theorem ok_shrunk {f : Addr} {fd : FuncData} (F : Fun K "shrunk" "shrunk" s_shrunk f fd) (T : Txt K mg) (hNS : base.NoSeer) (hTr : P.given.tree = none) {f_shared : Addr} {fd_shared : FuncData} (C_shared : Cal P w K mg base 2 "shared" ["row"] (spShared K) f_shared fd_shared) : FnOk P w K mg base CX0 33 f fd ["row"] spShr := by
  obtain ⟨G_shared, m_shared, k_shared, b_shared⟩ := C_shared
  refine F.ok sc_shrunk (fun vs H Q E h => ?_) (fun cdv A outer s H vs Q E hr h => ?_)
  · obtain ⟨a, ns, rfl, _⟩ := h
    rfl
  · obtain ⟨a, ns, rfl, hA, ht, hn, k⟩ := h
    have big := sizeLine_eq
    have hdp : (A.deeper (PyProof.Rows.envOfC (Str.ofString "shrunk") (defScope s_shrunk) s.heap.objs.size f cdv)).depth + 100 < recursionLimit := by have := hr.dp; omega
    refine ⟨_, (pss_cons (ps_set (i := 1) sc_shrunk.nd rfl (Or.inr rfl) (pe_call G_shared (hr.mono (by decide)) rfl m_shared k_shared b_shared .nil pass0 (pa_cons (pv 0) pa_nil)))
      (pss_one (ps_ret (pe_comp (own := ["value"]) (fr := ["divisor"]) (js := [1]) (by walk_at "comp_ok") rfl (pi_listK (K := K) rfl (pv 0)) (fun _ _ _ _ => (pg_name (i := 0) (show List.Nodup (["value", "divisor"] : List Str) from by decide +kernel) rfl (Or.inl rfl))) (fun _ _ _ _ => (pe_op (op_fdivS hNS hTr hdp rfl rfl rfl rfl rfl) (pv 0) (pv 1))))))), ?_⟩
    refine rd_sa ⟨_, rfl, a, ns, rfl, SqL.of hA, ?_⟩
    refine rd_ret ⟨_, rfl, a, rfl, ⟨_, SqL.of hA⟩, comp_list (K := K) (a := a) (xs := ns.map V.int) (fun i ys σ' H' => ∃ (z0 : Option V), σ' = [z0, some (.int (gcdL ns : Nat))] ∧ ys = ((ns.take i).map fun x => x / (gcdL ns : Int)).map V.int ∧ H = H') (by rw [List.length_map]; omega) ⟨none, rfl, rfl, rfl⟩ ?_ ?_ ?_⟩
    · rintro i ys σ' H' _ ⟨z0, rfl, rfl, rfl⟩
      exact ⟨SqL.of hA, by rw [List.length_map, List.length_map, List.length_take]; exact Nat.min_le_left _ _⟩
    · rintro i x ys σ' H' hi ⟨z0, rfl, rfl, rfl⟩
      rw [List.getElem?_map] at hi
      cases e : ns[i]? with
      | none => rw [e] at hi; cases hi
      | some c =>
        rw [e] at hi
        obtain rfl := Option.some.inj hi
        have g1 := gcdL_pos ht (fun z => by rw [z] at e; simp at e)
        refine ⟨_, rfl, _, rfl, _, _, rfl, rfl, g1, _, rfl, ?_, rfl⟩
        rw [List.take_add_one, e]
        simp
    · rintro ys σ' H' p ⟨z0, rfl, rfl, rfl⟩ hp
      refine k p _ (Same.upd_new hp) hp ?_
      rw [upd_same, List.length_map, List.take_length]
      rfl
def spPlain : Sp := fun vs H Q _ => ∃ (a : Addr) (ns : List Int), vs = [.ref a] ∧ H a = some (.lst (ns.map V.int)) ∧ Tr ns ∧ ns.length ≤ 1000000 ∧ mkL H Q (plainL ns)
theorem at_last (r : List Int) (x : Int) : atI ((r ++ [x]).map V.int) (-1) = some (.int x) := by
  rw [List.map_append]; exact atI_last _ _
theorem ok_plain {f : Addr} {fd : FuncData} (F : Fun K "plain" "plain" s_plain f fd) (T : Txt K mg) {f_shrunk : Addr} {fd_shrunk : FuncData} (C_shrunk : Cal P w K mg base 33 "shrunk" ["row"] spShr f_shrunk fd_shrunk) : FnOk P w K mg base CX0 34 f fd ["row"] spPlain := by
  obtain ⟨G_shrunk, m_shrunk, k_shrunk, b_shrunk⟩ := C_shrunk
  refine F.ok sc_plain (fun vs H Q E h => ?_) (fun cdv A outer s H vs Q E hr h => ?_)
  · obtain ⟨a, ns, rfl, _⟩ := h
    rfl
  · obtain ⟨a, ns, rfl, hA, ht, hn, k⟩ := h
    have big := sizeLine_eq
    have hu := hr.units
    refine ⟨_, (pss_cons (ps_set (i := 1) sc_plain.nd rfl (Or.inl rfl) (pe_call G_shrunk (hr.mono (by decide)) rfl m_shrunk k_shrunk b_shrunk .nil pass0 (pa_cons (pv 0) pa_nil)))
      (pss_cons (ps_if (PW.pt (pw_and (pt_cmpR (op_neLK (K := K) rfl hu) (pv 1) (pe_lst pa_nil) (nomark _)) (pw_and1 (pt_cmpR op_lt (pe_ix (ix_listK (K := K) rfl) (pv 1) (pe_un un_neg pe_int) (fun _ _ => rfl)) pe_int (nomark _)))))
        (pss_one (ps_ret (pe_comp (own := ["value"]) (fr := []) (js := []) (by walk_at "comp_ok") rfl (pi_listK (K := K) rfl (pv 1)) (fun _ _ _ _ => (pg_name (i := 0) (show List.Nodup (["value"] : List Str) from by decide +kernel) rfl (Or.inl rfl))) (fun _ _ _ _ => (pe_un un_neg (pv 0))))))
        pss_nil)
      (pss_one (ps_ret (pv 1))))), ?_⟩
    refine rd_sa ⟨_, rfl, a, ns, rfl, hA, ht, hn, fun p H1 s1 hp e1 => ?_⟩
    have hsl : (shrL ns).length = ns.length := List.length_map _
    have done : posL (shrL ns) = shrL ns → Q (.ref p) H1 := fun e => k p H1 s1 hp (by rw [e1]; show _ = some (HO.lst ((posL (shrL ns)).map V.int)); rw [e])
    refine rd_cutIf (fun σ' H' => σ' = [some (.ref a), some (.ref p)] ∧ Same H H' ∧ H' p = some (.lst ((shrL ns).map V.int)) ∧ posL (shrL ns) = shrL ns) ?_ ?_
    · rintro σ' H' ⟨rfl, s2, e2, e3⟩
      exact ⟨_, rfl, k p H' s2 hp (by rw [e2]; show _ = some (HO.lst ((posL (shrL ns)).map V.int)); rw [e3])⟩
    intro rest
    refine rd_and ⟨_, rfl, Nat.zero_le _, fun q hq => ?_⟩
    have s2 : Same H (upd H1 q (.lst [])) := s1.then_new hq
    have e2 : upd H1 q (.lst []) p = some (.lst ((shrL ns).map V.int)) := by rw [upd_ne (ne_of_none e1 hq)]; exact e1
    refine ⟨p, q, shrL ns, [], rfl, rfl, SqL.of e2, SqL.of upd_same, _, rfl, ?_⟩
    refine rd_ndec (fun hne => ?_) (fun he => ?_)
    · obtain ⟨r, x, er⟩ := (snoc_cases (shrL ns)).resolve_left hne
      refine ⟨_, rfl, _, rfl, p, _, _, .int x, rfl, rfl, SqL.of e2, (by rw [er]; exact at_last r x), _, _, rfl, rfl, _, rfl, ?_⟩
      have elast : lastI (shrL ns) = x := by rw [er, lastI_snoc]
      refine rd_dec (fun hx => ?_) (fun hx => ?_)
      · have hx' : x < 0 := hx
        have epos : posL (shrL ns) = (shrL ns).map fun x => -x := by unfold posL; rw [elast, if_pos hx']
        refine rd_ret ⟨_, rfl, p, rfl, ⟨_, SqL.of e2⟩, comp_list (K := K) (a := p) (xs := (shrL ns).map V.int) (fun i ys σ' H' => ∃ (z0 : Option V), σ' = [z0] ∧ ys = (((shrL ns).take i).map fun x => -x).map V.int ∧ upd H1 q (.lst []) = H') (by rw [List.length_map, hsl]; omega) ⟨none, rfl, rfl, rfl⟩ ?_ ?_ ?_⟩
        · rintro i ys σ' H' _ ⟨z0, rfl, rfl, rfl⟩
          exact ⟨SqL.of e2, by rw [List.length_map, List.length_map, List.length_take]; exact Nat.min_le_left _ _⟩
        · rintro i x ys σ' H' hi ⟨z0, rfl, rfl, rfl⟩
          rw [List.getElem?_map] at hi
          cases e : (shrL ns)[i]? with
          | none => rw [e] at hi; cases hi
          | some c =>
            rw [e] at hi
            obtain rfl := Option.some.inj hi
            refine ⟨_, rfl, _, rfl, _, rfl, ?_, rfl⟩
            rw [List.take_add_one, e]
            simp
        · rintro ys σ' H' p' ⟨z0, rfl, rfl, rfl⟩ hp'
          refine k p' _ (s2.then_new hp') (s2.free hp') ?_
          rw [upd_same, List.length_map, List.take_length]
          show _ = some (HO.lst ((posL (shrL ns)).map V.int))
          rw [epos]
      · exact rest _ _ ⟨rfl, s2, e2, by unfold posL; rw [elast, if_neg hx]⟩
    · have he' : shrL ns = [] := he
      exact rest _ _ ⟨rfl, s2, e2, by rw [he']; rfl⟩
def spSc : Sp := fun vs H Q _ => ∃ (a : Addr) (xs : List Int) (c : Int), vs = [.ref a, .int c] ∧ H a = some (.lst (xs.map V.int)) ∧ xs.length ≤ 1000000 ∧ Bits 1000000 c ∧ AllB 1000000 xs ∧ mkL H Q (scL c xs)
theorem ok_scaled {f : Addr} {fd : FuncData} (F : Fun K "scaled" "scaled" s_scaled f fd) (T : Txt K mg) : FnOk P w K mg base CX0 1 f fd ["row", "factor"] spSc := by
  refine F.ok sc_scaled (fun vs H Q E h => ?_) (fun cdv A outer s H vs Q E hr h => ?_)
  · obtain ⟨a, xs, c, rfl, _⟩ := h
    rfl
  · obtain ⟨a, xs, c, rfl, hA, hn, bc, bx, k⟩ := h
    have big := sizeLine_eq
    refine ⟨_, (pss_one (ps_ret (pe_comp (own := ["value"]) (fr := ["factor"]) (js := [1]) (by walk_at "comp_ok") rfl (pi_listK (K := K) rfl (pv 0)) (fun _ _ _ _ => (pg_name (i := 0) (show List.Nodup (["value", "factor"] : List Str) from by decide +kernel) rfl (Or.inl rfl))) (fun _ _ _ _ => (pe_op op_mulB (pv 1) (pv 0)))))), ?_⟩
    refine rd_ret ⟨_, rfl, a, rfl, ⟨_, SqL.of hA⟩, comp_list (K := K) (a := a) (xs := xs.map V.int) (fun i ys σ' H' => ∃ (z0 : Option V), σ' = [z0, some (.int c)] ∧ ys = (scL c (xs.take i)).map V.int ∧ H = H') (by rw [List.length_map]; omega) ⟨none, rfl, rfl, rfl⟩ ?_ ?_ ?_⟩
    · rintro i ys σ' H' _ ⟨z0, rfl, rfl, rfl⟩
      exact ⟨SqL.of hA, by rw [List.length_map, length_scL, List.length_take]; exact Nat.min_le_left _ _⟩
    · rintro i x ys σ' H' hi ⟨z0, rfl, rfl, rfl⟩
      obtain ⟨y, _, rfl, hm, et⟩ := get_int hi
      refine ⟨_, rfl, _, rfl, _, _, rfl, rfl, ⟨bc, bx y hm⟩, _, rfl, ?_, rfl⟩
      rw [et]; simp [scL]
    · rintro ys σ' H' p ⟨z0, rfl, rfl, rfl⟩ hp
      refine k p _ (Same.upd_new hp) hp ?_
      rw [upd_same, List.length_map, List.take_length]
theorem cutL_init (ms : List Int) : cutL ms none (some (-1)) = ms.take (ms.length - 1) := by
  unfold cutL
  rw [HT.sIx_none, List.drop_zero, Nat.sub_zero]
  congr 1
  show (if (-1 : Int) < 0 then ((-1 : Int) + (ms.length : Int)).toNat else min (-1 : Int).toNat ms.length) = _
  rw [if_pos (by decide)]; omega
theorem cf_take {ms : List Int} {n k : Nat} : cf (ms.take n) k = if k < n then cf ms k else 0 := by
  unfold cf
  by_cases h : k < n
  · rw [if_pos h]; simp [List.getD, List.getElem?_take, h]
  · rw [if_neg h]; simp [List.getD, List.getElem?_take, h]
def spLow : Sp := fun vs H Q _ => ∃ (a b : Addr) (rs ys : List Int) (p : Nat) (l : Int), vs = [.ref a, .ref b, .int p, .int l] ∧ H a = some (.lst (rs.map V.int)) ∧ H b = some (.lst (ys.map V.int)) ∧ rs.length = p + ys.length ∧ ys ≠ [] ∧ Bits 1000000 l ∧ AllB 1000000 ys ∧ mkL H Q (lowL rs ys p l)
theorem ok_lowered {f : Addr} {fd : FuncData} (F : Fun K "lowered" "lowered" s_lowered f fd) (T : Txt K mg) : FnOk P w K mg base CX0 1 f fd ["row", "second", "place", "lead"] spLow := by
  refine F.ok sc_lowered (fun vs H Q E h => ?_) (fun cdv A outer s H vs Q E hr h => ?_)
  · obtain ⟨a, b, rs, ys, p, l, rfl, _⟩ := h
    rfl
  · obtain ⟨a, b, rs, ys, p, l, rfl, hA, hB, hl, hy, bl, by', k⟩ := h
    have hyl := List.length_pos_iff.mpr hy
    refine ⟨_, (pss_cons (ps_set (i := 4) sc_lowered.nd rfl (Or.inl rfl) (pe_slice (sl_listK (K := K) rfl) (pv 0) po_none (po_some (pe_un un_neg pe_int))))
      (pss_cons (ps_for PassesOwn.never rfl (pi_enum rfl T.enumerate_ (pa_cons (pe_slice (sl_listK (K := K) rfl) (pv 1) po_none (po_some (pe_un un_neg pe_int))) pa_nil)) (pg_tup rfl (pgs_cons (pg_name (i := 5) sc_lowered.nd rfl (Or.inl rfl)) (pgs_cons (pg_name (i := 6) sc_lowered.nd rfl (Or.inl rfl)) pgs_nil)))
        (pss_one (ps_asg (pe_op op_sub (pe_ix (ix_listK (K := K) rfl) (pv 4) (pe_op op_add (pv 2) (pv 5)) (fun _ _ => rfl)) (pe_op op_mulB (pv 3) (pv 6))) (pg_sub (pv 4) (pe_op op_add (pv 2) (pv 5)) set_list))))
      (pss_one (ps_ret (pv 4))))), ?_⟩
    refine rd_sa ⟨_, rfl, _, rfl, _, rfl, a, _, rfl, SqL.of hA, fun kp hkp => ?_⟩
    rw [cutV_map, cutL_init]
    have s1 := Same.upd_new (o := .lst ((rs.take (rs.length - 1)).map V.int)) hkp
    have nkb : b ≠ kp := ne_of_none hB hkp
    refine ⟨_, rfl, _, rfl, _, rfl, b, _, rfl, SqL.of (s1 _ _ hB), fun p2 hp2 => ?_⟩
    rw [cutV_map, cutL_init]
    have n2 : kp ≠ p2 := ne_of_none upd_same hp2
    generalize hH2 : upd (upd H kp (.lst ((rs.take (rs.length - 1)).map V.int))) p2 (.lst ((ys.take (ys.length - 1)).map V.int)) = H2
    have hk2 : H2 kp = some (.lst ((rs.take (rs.length - 1)).map V.int)) := by rw [← hH2, upd_ne n2, upd_same]
    have hq2 : H2 p2 = some (.lst ((ys.take (ys.length - 1)).map V.int)) := by rw [← hH2, upd_same]
    have s2 : Same H H2 := by rw [← hH2]; exact s1.then_new hp2
    have lt : (rs.take (rs.length - 1)).length = rs.length - 1 := by rw [List.length_take]; omega
    have lty : (ys.take (ys.length - 1)).length = ys.length - 1 := by rw [List.length_take]; omega
    refine ⟨p2, rfl, ⟨_, SqL.of hq2⟩, for_enum (K := K) (a := p2) (xs := (ys.take (ys.length - 1)).map V.int) (fun i σ' H' => ∃ (acc : List Int) (z5 z6 : Option V), σ' = [some (.ref a), some (.ref b), some (.int p), some (.int l), some (.ref kp), z5, z6] ∧ SameB kp H2 H' ∧ H' kp = some (.lst (acc.map V.int)) ∧ acc.length = rs.length - 1 ∧ ∀ n, n < acc.length → cf acc n = cf rs n - (if p ≤ n ∧ n - p < i then l * cf ys (n - p) else 0))
      ⟨_, none, none, rfl, SameB.refl _ _, hk2, lt, fun n hn => by rw [cf_take, if_pos (by omega), if_neg (by omega)]; omega⟩ ?_ ?_ ?_⟩
    · rintro i σ' H' _ ⟨acc, z5, z6, rfl, sb, _⟩
      exact SqL.of (sb _ _ (Ne.symm n2) hq2)
    · rintro i x σ' H' q hi ⟨acc, z5, z6, rfl, sb, hpa, hal, hac⟩ hq
      have hil : i < ys.length - 1 := by
        apply Classical.byContradiction
        intro hn
        rw [List.getElem?_eq_none_iff.mpr (by rw [List.length_map, lty]; omega)] at hi
        cases hi
      rw [List.getElem?_map, get_cf (by rw [lty]; exact hil), cf_take, if_pos hil] at hi
      obtain rfl := Option.some.inj hi
      refine ⟨q, _, rfl, SqT.of upd_same, rfl, _, _, rfl, _, _, rfl, rfl, ?_⟩
      have nqp : kp ≠ q := ne_of_none hpa hq
      have hpa' : upd H' q (.tup [.int i, .int (cf ys i)]) kp = some (.lst (acc.map V.int)) := by rw [upd_ne nqp]; exact hpa
      have hpi : p + i < acc.length := by omega
      have epi : ((p : Nat) : Int) + ((i : Nat) : Int) = ((p + i : Nat) : Int) := by omega
      refine ⟨_, rfl, _, rfl, _, rfl, _, _, rfl, rfl, kp, _, _, _, rfl, rfl, SqL.of hpa', at_map epi hpi, _, rfl, _, rfl, _, _, rfl, rfl, ⟨bl, by'.cf i⟩, _, _, rfl, rfl, _, rfl, _, rfl, _, rfl, _, _, rfl, rfl, kp, _, _, p + i, rfl, rfl, hpa', ixN_nat epi (by rw [List.length_map]; exact hpi), ?_⟩
      refine ⟨acc.set (p + i) (cf acc (p + i) - l * cf ys i), _, _, rfl, (sb.then_new hq).then_upd, by rw [upd_same, map_set_int], by rw [List.length_set]; exact hal, fun n hn => ?_⟩
      rw [List.length_set] at hn
      rw [cf_set hpi]
      by_cases e : n = p + i
      · subst e
        rw [if_pos rfl, hac _ hpi, if_neg (by omega), if_pos (by omega), Nat.add_sub_cancel_left]; omega
      · rw [if_neg e, hac n hn]
        by_cases h1 : p ≤ n ∧ n - p < i
        · rw [if_pos h1, if_pos (by omega)]
        · rw [if_neg h1, if_neg (by omega)]
    · rintro σ' H' ⟨acc, z5, z6, rfl, sb, hpa, hal, hac⟩
      rw [List.length_map, lty] at hac
      refine ⟨_, rfl, k kp H' (fun b' o e => sb b' o (ne_of_none e hkp) (s2 b' o e)) hkp ?_⟩
      rw [hpa]
      have e : acc = lowL rs ys p l := by
        apply ext_cf
        · rw [hal, length_lowL]
        · intro n hn
          have hn' : n < rs.length - 1 := by omega
          rw [hac n hn, cf_lowL, if_pos hn']
          by_cases h1 : p ≤ n
          · have h2 : p ≤ n ∧ n - p < ys.length - 1 := ⟨h1, by omega⟩
            rw [if_pos h1, if_pos h2]
          · have h2 : ¬ (p ≤ n ∧ n - p < ys.length - 1) := fun z => h1 z.1
            rw [if_neg h1, if_neg h2]
      rw [e]
theorem AllB.of_cf {k : Nat} {l : List Int} (h : ∀ n, Bits k (RM.cf l n)) : AllB k l := fun x hx => by
  obtain ⟨i, hi, rfl⟩ := List.mem_iff_getElem.mp hx
  have := h i
  rwa [cf_lt hi] at this
theorem abs_bits {k : Nat} {x : Int} (h : Bits k x) : Bits k ((x.natAbs : Nat) : Int) := h.of_le (by rw [Int.natAbs_natCast]; exact Nat.le_refl _)
theorem sg_bits {x : Int} : Bits 1 (sg x) := by
  show (sg x).natAbs < 2 ^ 1
  unfold sg; split <;> (try split) <;> decide
theorem sg_mul_bits {k : Nat} {x y : Int} (h : Bits k y) : Bits k (sg x * y) := h.of_le (by
  rw [Int.natAbs_mul]
  have h2 : (sg x).natAbs ≤ 1 := by unfold sg; split <;> (try split) <;> decide
  calc (sg x).natAbs * y.natAbs ≤ 1 * y.natAbs := Nat.mul_le_mul_right _ h2
    _ = y.natAbs := Nat.one_mul _)
theorem div_bits {xs ys : List Int} {b : Nat} (hx : AllB b xs) (hy : AllB b ys) : ∀ i, AllB (b + i * (b + 1)) (divAt xs ys i).1 ∧ AllB (b + i * (b + 1)) (divAt xs ys i).2
  | 0 => by rw [Nat.zero_mul]; exact ⟨AllB.zeros, hx⟩
  | i + 1 => by
    obtain ⟨h1, h2⟩ := div_bits hx hy i
    have e : b + (i + 1) * (b + 1) = b + i * (b + 1) + b + 1 := by rw [Nat.succ_mul]; omega
    have hs : Bits b (((RM.cf ys (ys.length - 1)).natAbs : Nat) : Int) := abs_bits (hy.cf _)
    rw [e]
    show AllB _ (divStep ys (divAt xs ys i) _).1 ∧ AllB _ (divStep ys (divAt xs ys i) _).2
    unfold divStep
    dsimp only
    constructor
    · intro x hx
      rcases List.mem_or_eq_of_mem_set hx with h | rfl
      · obtain ⟨y, hy', rfl⟩ := List.mem_map.mp h
        have := hs.mul (h1 y hy')
        exact this.mono (by omega)
      · exact (sg_mul_bits (h2.cf _)).mono (by omega)
    · refine AllB.of_cf fun n => ?_
      rw [cf_lowL]
      by_cases hn : n < (scL (((RM.cf ys (ys.length - 1)).natAbs : Nat) : Int) (divAt xs ys i).2).length - 1
      · rw [if_pos hn, cf_scL]
        have m1 : Bits (b + i * (b + 1) + b) ((((RM.cf ys (ys.length - 1)).natAbs : Nat) : Int) * RM.cf (divAt xs ys i).2 n) := by
          have := hs.mul (h2.cf n); rwa [Nat.add_comm] at this
        refine m1.sub ?_
        by_cases hp : (xs.length + 1 - ys.length - 1 - i) ≤ n
        · rw [if_pos hp]
          exact (sg_mul_bits (h2.cf _)).mul (hy.cf _)
        · rw [if_neg hp]; exact Bits.zero
      · rw [if_neg hn]; exact Bits.zero
theorem bits_pow {k : Nat} {b : Int} (h : Bits k b) : ∀ n, Bits (k * n + 1) (b ^ n)
  | 0 => by show ((b ^ 0 : Int)).natAbs < 2 ^ (k * 0 + 1); rw [Int.pow_zero, Nat.mul_zero]; decide
  | n + 1 => by
    rw [Int.pow_succ]
    have := (bits_pow h n).mul h
    exact this.mono (by rw [Nat.mul_succ]; omega)
/-- what `divided` hands back: a new tuple with two new lists -/
def mkDiv (H : Hp) (Q : VK) (xs ys : List Int) : Prop := ∀ (t q r : Addr) (H' : Hp), Same H H' → H t = none → H q = none → H r = none → q ≠ r → q ≠ t → r ≠ t → H' t = some (.tup [.int (divF xs ys), .ref q, .ref r]) → H' q = some (.lst ((divQ xs ys).map V.int)) → H' r = some (.lst ((divR xs ys).map V.int)) → Q (.ref t) H'
def spDiv : Sp := fun vs H Q _ => ∃ (a b : Addr) (xs ys : List Int) (n : Nat), vs = [.ref a, .ref b] ∧ H a = some (.lst (xs.map V.int)) ∧ H b = some (.lst (ys.map V.int)) ∧ ys ≠ [] ∧ AllB n xs ∧ AllB n ys ∧ (xs.length + 2) * (n + 1) ≤ 1000000 ∧ ys.length ≤ 1000000 ∧ mkDiv H Q xs ys
theorem at_last' {l : List Int} (h : l ≠ []) : atI (l.map V.int) (-1) = some (.int (cf l (l.length - 1))) := by
  obtain ⟨r, x, rfl⟩ := (snoc_cases l).resolve_left h
  have e : (r ++ [x]).length - 1 = r.length := by simp
  rw [e, cf_last, List.map_append]; exact atI_last _ _
theorem ok_divided {f : Addr} {fd : FuncData} (F : Fun K "divided" "divided" s_divided f fd) (T : Txt K mg) {f_whole_sign : Addr} {fd_whole_sign : FuncData} (C_whole_sign : Cal P w K mg base 1 "whole_sign" ["value"] spSg f_whole_sign fd_whole_sign) {f_degree : Addr} {fd_degree : FuncData} (C_degree : Cal P w K mg base 1 "degree" ["row"] spDeg f_degree fd_degree) {f_scaled : Addr} {fd_scaled : FuncData} (C_scaled : Cal P w K mg base 1 "scaled" ["row", "factor"] spSc f_scaled fd_scaled) {f_lowered : Addr} {fd_lowered : FuncData} (C_lowered : Cal P w K mg base 1 "lowered" ["row", "second", "place", "lead"] spLow f_lowered fd_lowered) {f_poly : Addr} {fd_poly : FuncData} (C_poly : Cal P w K mg base 1 "poly" ["row"] (spTrim K) f_poly fd_poly) : FnOk P w K mg base CX0 2 f fd ["first", "second"] spDiv := by
  obtain ⟨G_whole_sign, m_whole_sign, k_whole_sign, b_whole_sign⟩ := C_whole_sign
  obtain ⟨G_degree, m_degree, k_degree, b_degree⟩ := C_degree
  obtain ⟨G_scaled, m_scaled, k_scaled, b_scaled⟩ := C_scaled
  obtain ⟨G_lowered, m_lowered, k_lowered, b_lowered⟩ := C_lowered
  obtain ⟨G_poly, m_poly, k_poly, b_poly⟩ := C_poly
  refine F.ok sc_divided (fun vs H Q E h => ?_) (fun cdv A outer s H vs Q E hr h => ?_)
  · obtain ⟨a, b, xs, ys, n, rfl, _⟩ := h
    rfl
  · obtain ⟨a, b, xs, ys, nb, rfl, hA, hB, hy, bx, by', hsz, hyn, k⟩ := h
    have big := sizeLine_eq
    have hu := hr.units
    have hyl := List.length_pos_iff.mpr hy
    have hxl : xs.length ≤ 1000000 := by
      have := Nat.mul_le_mul_left (xs.length + 2) (show 1 ≤ nb + 1 by omega)
      omega
    have bsz : ∀ i, i ≤ xs.length → nb + i * (nb + 1) ≤ 1000000 := fun i hi => by
      have h1 := Nat.mul_le_mul_right (nb + 1) hi
      rw [Nat.add_mul] at hsz
      omega
    have hnb : nb ≤ 1000000 := by have := bsz 0 (Nat.zero_le _); omega
    refine ⟨_, (pss_cons (ps_if (pt_cmpR (op_eqLK (K := K) rfl hu) (pv 1) (pe_lst pa_nil) (nomark _))
        (pss_one ps_never)
        pss_nil)
      (pss_cons (ps_set (i := 2) sc_divided.nd rfl (Or.inl rfl) (pe_callB call_abs (by rfl) T.abs_ PyProof.Rows.boot_abs (pa_cons (pe_ix (ix_listK (K := K) rfl) (pv 1) (pe_un un_neg pe_int) (fun _ _ => rfl)) pa_nil)))
      (pss_cons (ps_set (i := 3) sc_divided.nd rfl (Or.inl rfl) (pe_call G_whole_sign (hr.mono (by decide)) rfl m_whole_sign k_whole_sign b_whole_sign .nil pass0 (pa_cons (pe_ix (ix_listK (K := K) rfl) (pv 1) (pe_un un_neg pe_int) (fun _ _ => rfl)) pa_nil)))
      (pss_cons (ps_set (i := 4) sc_divided.nd rfl (Or.inl rfl) (pe_op op_add (pe_op op_sub (pe_call G_degree (hr.mono (by decide)) rfl m_degree k_degree b_degree .nil pass0 (pa_cons (pv 0) pa_nil)) (pe_call G_degree (hr.mono (by decide)) rfl m_degree k_degree b_degree .nil pass0 (pa_cons (pv 1) pa_nil))) pe_int))
      (pss_cons (ps_set (i := 5) sc_divided.nd rfl (Or.inl rfl) pe_int)
      (pss_cons (ps_set (i := 6) sc_divided.nd rfl (Or.inl rfl) (pe_op op_rep (pe_lst (pa_cons pe_int pa_nil)) (pv 4)))
      (pss_cons (ps_set (i := 7) sc_divided.nd rfl (Or.inl rfl) (pe_callTy (call_listK (K := K) rfl) (by rfl) T.list_ PyProof.Rows.boot_list (pa_cons (pv 0) pa_nil)))
      (pss_cons (ps_for PassesOwn.never rfl (pi_rangeD rfl T.range_ (pa_cons (pe_op op_sub (pv 4) pe_int) (pa_cons (pe_un un_neg pe_int) (pa_cons (pe_un un_neg pe_int) pa_nil)))) (pg_name (i := 8) sc_divided.nd rfl (Or.inl rfl))
        (pss_cons (ps_set (i := 9) sc_divided.nd rfl (Or.inl rfl) (pe_op op_mulB (pv 3) (pe_ix (ix_listK (K := K) rfl) (pv 7) (pe_un un_neg pe_int) (fun _ _ => rfl))))
          (pss_cons (ps_set (i := 5) sc_divided.nd rfl (Or.inl rfl) (pe_op op_mulB (pv 5) (pv 2)))
          (pss_cons (ps_set (i := 6) sc_divided.nd rfl (Or.inl rfl) (pe_call G_scaled (hr.mono (by decide)) rfl m_scaled k_scaled b_scaled .nil pass0 (pa_cons (pv 6) (pa_cons (pv 2) pa_nil))))
          (pss_cons (ps_asg (pv 9) (pg_sub (pv 6) (pv 8) set_list))
          (pss_one (ps_set (i := 7) sc_divided.nd rfl (Or.inl rfl) (pe_call G_lowered (hr.mono (by decide)) rfl m_lowered k_lowered b_lowered .nil pass0 (pa_cons (pe_call G_scaled (hr.mono (by decide)) rfl m_scaled k_scaled b_scaled .nil pass0 (pa_cons (pv 7) (pa_cons (pv 2) pa_nil))) (pa_cons (pv 1) (pa_cons (pv 8) (pa_cons (pv 9) pa_nil))))))))))))
      (pss_one (ps_ret (pe_tup (pa_cons (pv 5) (pa_cons (pv 6) (pa_cons (pe_call G_poly (hr.mono (by decide)) rfl m_poly k_poly b_poly .nil pass0 (pa_cons (pv 7) pa_nil)) pa_nil)))))))))))))), ?_⟩
    refine rd_sr ⟨_, rfl, Nat.zero_le _, fun p1 hp1 => ?_⟩
    have s1 : Same H (upd H p1 (.lst [])) := Same.upd_new hp1
    refine ⟨b, p1, ys, [], rfl, rfl, SqL.of (s1 _ _ hB), SqL.of upd_same, _, rfl, rd_dec (fun h0 => absurd h0 hy) (fun _ => ?_)⟩
    generalize upd H p1 (.lst []) = H1 at s1 ⊢
    refine rd_sa ⟨_, rfl, _, rfl, b, _, _, _, rfl, rfl, SqL.of (s1 _ _ hB), at_last' hy, _, rfl, ?_⟩
    rw [abs_eq]
    refine rd_sa ⟨_, rfl, _, rfl, b, _, _, _, rfl, rfl, SqL.of (s1 _ _ hB), at_last' hy, _, rfl, ?_⟩
    refine rd_sa ⟨_, rfl, a, _, rfl, s1 _ _ hA, _, rfl, b, _, rfl, s1 _ _ hB, _, _, rfl, rfl, _, _, rfl, rfl, ?_⟩
    dsimp only
    rw [List.length_map, List.length_map]
    have est : ((xs.length : Int) - 1 - ((ys.length : Int) - 1) + 1).toNat = divN xs ys := by unfold divN; omega
    generalize hst : ((xs.length : Int) - 1 - ((ys.length : Int) - 1) + 1) = st at est ⊢
    refine rd_sa ?_
    refine rd_sa ⟨by show 1 ≤ sizeLine; decide, fun p2 hp2 => ⟨_, rfl, p2, _, _, rfl, rfl, upd_same, by omega, by omega, by show 1 * _ ≤ _; omega, fun q hq => ?_⟩⟩
    rw [est, rep_zero]
    have s2 := s1.then_new (o := .lst [V.int 0]) hp2
    have s3 := s2.then_new (o := .lst ((List.replicate (divN xs ys) (0 : Int)).map V.int)) hq
    have fq : H q = none := s2.free hq
    refine rd_sa ⟨_, rfl, a, _, rfl, .inl (SqL.of (s3 _ _ hA)), fun r hr' => ?_⟩
    have hq3 : upd (upd H1 p2 (.lst [V.int 0])) q (.lst ((List.replicate (divN xs ys) (0 : Int)).map V.int)) q = some (.lst ((List.replicate (divN xs ys) (0 : Int)).map V.int)) := upd_same
    have s4 := s3.then_new (o := .lst (xs.map V.int)) hr'
    have fr : H r = none := s3.free hr'
    have nqr : q ≠ r := ne_of_none hq3 hr'
    generalize hH4 : upd (upd (upd H1 p2 (.lst [V.int 0])) q (.lst ((List.replicate (divN xs ys) (0 : Int)).map V.int))) r (.lst (xs.map V.int)) = H4 at s4 ⊢
    have hq4 : H4 q = some (.lst ((List.replicate (divN xs ys) (0 : Int)).map V.int)) := by rw [← hH4, upd_ne nqr]; exact hq3
    have hr4 : H4 r = some (.lst (xs.map V.int)) := by rw [← hH4, upd_same]
    have hs : Bits nb (((cf ys (ys.length - 1)).natAbs : Nat) : Int) := abs_bits (by'.cf _)
    refine ⟨_, rfl, _, _, rfl, rfl, _, rfl, _, rfl, st - 1, -1, rfl, by omega, ?_⟩
    have en : (st - 1 - -1).toNat = divN xs ys := by rw [← est]; congr 1; omega
    rw [en]
    refine for_rangeD (fun i σ' H' => ∃ (q r : Addr) (z8 z9 : Option V), σ' = [some (.ref a), some (.ref b), some (.int ((cf ys (ys.length - 1)).natAbs : Nat)), some (.int (sg (cf ys (ys.length - 1)))), some (.int st), some (.int (((cf ys (ys.length - 1)).natAbs : Int) ^ i)), some (.ref q), some (.ref r), z8, z9] ∧ Same H H' ∧ H q = none ∧ H r = none ∧ q ≠ r ∧ H' q = some (.lst ((divAt xs ys i).1.map V.int)) ∧ H' r = some (.lst ((divAt xs ys i).2.map V.int)))
      ⟨q, r, none, none, rfl, s4, fq, fr, nqr, hq4, hr4⟩ ?_ ?_
    · rintro i σ' H' hi ⟨q, r, z8, z9, rfl, sm, fq, fr, nqr, hq', hr'⟩
      obtain ⟨lq, lr, low, _⟩ := div_inv (a := xs) hy i (Nat.le_of_lt hi)
      obtain ⟨bq, br⟩ := div_bits bx by' i
      have hix : i < xs.length := by unfold divN at hi; omega
      have bi := bsz i (Nat.le_of_lt hix)
      have rne : (divAt xs ys i).2 ≠ [] := fun z => by rw [z] at lr; simp at lr; omega
      have ep : st - 1 + (i : Int) * -1 = ((xs.length + 1 - ys.length - 1 - i : Nat) : Int) := by unfold divN at hi est; omega
      refine rd_sa ⟨_, rfl, _, rfl, _, rfl, r, _, _, _, rfl, rfl, SqL.of hr', at_last' rne, _, _, rfl, rfl, ⟨sg_bits.mono (by decide), (br.cf _).mono bi⟩, ?_⟩
      have bpow : Bits 1000000 (((cf ys (ys.length - 1)).natAbs : Int) ^ i) := (bits_pow hs i).mono (by
        have := Nat.mul_le_mul_right i (show nb ≤ nb + 1 by omega)
        rw [Nat.mul_comm (nb + 1) i] at this
        have h2 := bsz (i + 1) hix
        rw [Nat.succ_mul] at h2
        omega)
      refine rd_sa ⟨_, rfl, _, rfl, _, _, rfl, rfl, ⟨bpow, hs.mono hnb⟩, ?_⟩
      dsimp only
      rw [← Int.pow_succ]
      refine rd_sa ⟨_, rfl, _, rfl, q, _, _, rfl, hq', by rw [lq]; omega, hs.mono hnb, bq.mono bi, fun q1 H2 sm2 hq1 eq1 => ?_⟩
      have fq1 : H q1 = none := sm.free hq1
      have sm2' := sm.trans sm2
      have hpl : xs.length + 1 - ys.length - 1 - i < (scL ((cf ys (ys.length - 1)).natAbs : Int) (divAt xs ys i).1).length := by rw [length_scL, lq]; unfold divN at hi; omega
      refine ⟨_, rfl, _, rfl, _, rfl, q1, _, _, _, rfl, rfl, eq1, ixN_nat ep (by rw [List.length_map]; exact hpl), ?_⟩
      rw [map_set_int]
      have sm3 : Same H (upd H2 q1 (.lst (((scL ((cf ys (ys.length - 1)).natAbs : Int) (divAt xs ys i).1).set (xs.length + 1 - ys.length - 1 - i) (sg (cf ys (ys.length - 1)) * cf (divAt xs ys i).2 ((divAt xs ys i).2.length - 1))).map V.int))) := mut_same sm2' fq1
      have nq1r : q1 ≠ r := fun z => by rw [z, hr'] at hq1; cases hq1
      have hr3 : upd H2 q1 (.lst (((scL ((cf ys (ys.length - 1)).natAbs : Int) (divAt xs ys i).1).set (xs.length + 1 - ys.length - 1 - i) (sg (cf ys (ys.length - 1)) * cf (divAt xs ys i).2 ((divAt xs ys i).2.length - 1))).map V.int)) r = some (.lst ((divAt xs ys i).2.map V.int)) := by rw [upd_ne (Ne.symm nq1r)]; exact sm2 _ _ hr'
      have hq3 : upd H2 q1 (.lst (((scL ((cf ys (ys.length - 1)).natAbs : Int) (divAt xs ys i).1).set (xs.length + 1 - ys.length - 1 - i) (sg (cf ys (ys.length - 1)) * cf (divAt xs ys i).2 ((divAt xs ys i).2.length - 1))).map V.int)) q1 = some (.lst (((scL ((cf ys (ys.length - 1)).natAbs : Int) (divAt xs ys i).1).set (xs.length + 1 - ys.length - 1 - i) (sg (cf ys (ys.length - 1)) * cf (divAt xs ys i).2 ((divAt xs ys i).2.length - 1))).map V.int)) := upd_same
      generalize upd H2 q1 (.lst (((scL ((cf ys (ys.length - 1)).natAbs : Int) (divAt xs ys i).1).set (xs.length + 1 - ys.length - 1 - i) (sg (cf ys (ys.length - 1)) * cf (divAt xs ys i).2 ((divAt xs ys i).2.length - 1))).map V.int)) = H3 at sm3 hr3 hq3 ⊢
      refine ⟨_, rfl, _, rfl, r, _, _, rfl, hr3, by rw [lr]; omega, hs.mono hnb, br.mono bi, fun r1 H5 sm5 hr1 er1 => ?_⟩
      have sm35 := sm3.trans sm5
      refine ⟨_, rfl, _, rfl, _, rfl, r1, b, _, _, (xs.length + 1 - ys.length - 1 - i), sg (cf ys (ys.length - 1)) * cf (divAt xs ys i).2 ((divAt xs ys i).2.length - 1), ?_, er1, sm35 _ _ hB, ?_, hy, (sg_mul_bits (br.cf _)).mono bi, by'.mono hnb, fun r2 H6 sm6 hr2 er2 => ?_⟩
      · rw [← ep]; rfl
      · rw [length_scL, lr]; unfold divN at hi; omega
      · have nqr2 : q1 ≠ r2 := fun z => by rw [← z, sm5 _ _ hq3] at hr2; cases hr2
        exact ⟨q1, r2, _, _, rfl, sm35.trans sm6, fq1, sm35.free hr2, nqr2, sm6 _ _ (sm5 _ _ hq3), er2⟩
    · rintro σ' H' ⟨q, r, z8, z9, rfl, sm, fq, fr, nqr, hq', hr'⟩
      refine ⟨_, rfl, _, rfl, _, rfl, r, _, rfl, SqL.of hr', fun r1 H2 sm2 hr1 er1 => ⟨by show 3 ≤ sizeLine; decide, fun t ht => ?_⟩⟩
      have nqr1 : q ≠ r1 := fun z => by rw [← z, hq'] at hr1; cases hr1
      have ntq : q ≠ t := ne_of_none (sm2 _ _ hq') ht
      have ntr : r1 ≠ t := ne_of_none er1 ht
      refine k t q r1 _ ((sm.trans sm2).then_new ht) ((sm.trans sm2).free ht) fq (sm.free hr1) nqr1 ntq ntr upd_same ?_ ?_
      · rw [upd_ne ntq]; exact sm2 _ _ hq'
      · rw [upd_ne ntr]; exact er1
def Vp (C : Addr) (H : Hp) (vs : List V) (a r : Addr) (ns : List Int) (t b : Int) : Prop := vs = [.ref a, .ref r] ∧ H a = some (.lst (ns.map V.int)) ∧ RA C H r t b ∧ ns.length ≤ 20 ∧ AllB 1000 ns ∧ Bits 3000 t ∧ Bits 3000 b
def VpI (H : Hp) (vs : List V) (a : Addr) (ns : List Int) (t b : Int) : Prop := vs = [.ref a, .int t, .int b] ∧ H a = some (.lst (ns.map V.int)) ∧ ns.length ≤ 20 ∧ AllB 1000 ns ∧ Bits 3000 t ∧ Bits 3000 b
def spVp : Sp := fun vs H Q _ => ∃ (a : Addr) (ns : List Int) (t b : Int), VpI H vs a ns t b ∧ ∀ (p : Addr) (H' : Hp), Same H H' → H p = none → H' p = some (.tup [.int (hv t b ns), .int (b ^ ns.length)]) → Q (.ref p) H'
theorem hv_bits {t b : Int} (bt : Bits 3000 t) (bb : Bits 3000 b) : ∀ {l : List Int}, AllB 1000 l → Bits (1001 + 3001 * l.length) (hv t b l)
  | [], _ => by refine Bits.mono (j := 1) ?_ (by omega); show (0 : Int).natAbs < 2 ^ 1; decide
  | v :: l, h => by
    rw [hv_cons]
    have h1 := h v (List.mem_cons_self ..)
    have h2 := hv_bits bt bb (l := l) fun x hx => h x (List.mem_cons_of_mem _ hx)
    have e1 := (h1.mul (bits_pow bb (l.length + 1))).mono (k := 1001 + 3001 * l.length + 3000) (by omega)
    have e2 := (bt.mul h2).mono (k := 1001 + 3001 * l.length + 3000) (by omega)
    exact (e1.add e2).mono (by rw [List.length_cons]; omega)
theorem ok_value_parts {f : Addr} {fd : FuncData} (F : Fun K "value_parts" "value_parts" s_value_parts f fd) (T : Txt K mg) : FnOk P w K mg base CX0 1 f fd ["row", "top", "bottom"] spVp := by
  refine F.ok sc_value_parts (fun vs H Q E h => ?_) (fun cdv A outer s H vs Q E hr h => ?_)
  · obtain ⟨a, ns, t, b, ⟨rfl, _⟩, _⟩ := h
    rfl
  · obtain ⟨a, ns, t, b, ⟨rfl, hA, hn, hb, bt, bb⟩, k⟩ := h
    refine ⟨_, (pss_cons (ps_set (i := 3) sc_value_parts.nd rfl (Or.inl rfl) pe_int)
      (pss_cons (ps_set (i := 4) sc_value_parts.nd rfl (Or.inl rfl) pe_int)
      (pss_cons (ps_for PassesOwn.never rfl (pi_rev rfl T.reversed_ (pa_cons (pv 0) pa_nil)) (pg_name (i := 5) sc_value_parts.nd rfl (Or.inl rfl))
        (pss_cons (ps_set (i := 4) sc_value_parts.nd rfl (Or.inl rfl) (pe_op op_mulB (pv 4) (pv 2)))
          (pss_one (ps_set (i := 3) sc_value_parts.nd rfl (Or.inl rfl) (pe_op op_add (pe_op op_mulB (pv 3) (pv 1)) (pe_op op_mulB (pv 5) (pv 4)))))))
      (pss_one (ps_ret (pe_tup (pa_cons (pv 3) (pa_cons (pv 4) pa_nil)))))))), ?_⟩
    have hl : (ns.map V.int).length = ns.length := List.length_map _
    refine rd_sa ?_
    refine rd_sa ?_
    refine ⟨_, rfl, a, _, rfl, SqL.of hA, for_rev (K := K) (a := a) (xs := ns.map V.int) (fun i σ' H' => ∃ z : Option V, σ' = [some (.ref a), some (.int t), some (.int b), some (.int (hv t b (ns.drop (ns.length - i)))), some (.int (b ^ i)), z] ∧ H = H') ⟨none, ?_, rfl⟩ ?_ ?_ ?_⟩
    · rw [Nat.sub_zero, List.drop_length, Int.pow_zero]; rfl
    · rintro i σ' H' _ ⟨z, rfl, rfl⟩
      exact SqL.of hA
    · rintro i x σ' H' hi hx ⟨z, rfl, rfl⟩
      rw [hl] at hi hx
      obtain ⟨c, ec, rfl, hc, _⟩ := get_int hx
      have hi' : i < ns.length := hi
      have e1 : ns.length - (i + 1) = ns.length - 1 - i := by omega
      have hd := drop_hv t b (l := ns) (n := ns.length - 1 - i) (by omega)
      have e2 : ns.length - 1 - i + 1 = ns.length - i := by omega
      have e3 : ns.length - (ns.length - 1 - i) = i + 1 := by omega
      rw [e2, e3, cf_some ec] at hd
      have bs := hv_bits bt bb (l := ns.drop (ns.length - i)) fun x hx => hb x (List.mem_of_mem_drop hx)
      rw [List.length_drop] at bs
      have bp := bits_pow bb i
      have bq := bits_pow bb (i + 1)
      refine ⟨_, rfl, _, rfl, _, _, rfl, rfl, ⟨bp.mono (by omega), bb.mono (by decide)⟩, ?_⟩
      refine ⟨_, rfl, _, rfl, _, _, rfl, rfl, ⟨bs.mono (by omega), bt.mono (by decide)⟩, _, rfl, _, rfl, _, _, rfl, rfl, ⟨(hb c hc).mono (by decide), ?_⟩, _, _, rfl, rfl, ?_⟩
      · show Bits 1000000 (b ^ i * b)
        rw [← Int.pow_succ]; exact bq.mono (by omega)
      refine ⟨some (.int c), ?_, rfl⟩
      rw [e1, hd, Int.pow_succ b i, Int.add_comm, Int.mul_comm t]
      rfl
    · rintro σ' H' ⟨z, rfl, rfl⟩
      rw [hl, Nat.sub_self, List.drop_zero]
      exact ⟨_, rfl, _, rfl, by show 2 ≤ sizeLine; decide, fun p hp => k p _ (Same.upd_new hp) hp upd_same⟩
def spSa (C : Addr) : Sp := fun vs H Q _ => ∃ (a r : Addr) (ns : List Int) (t b : Int), Vp C H vs a r ns t b ∧ ∀ H', Same H H' → Q (.int (sg (hv t b ns))) H'
theorem ok_sign_at {C f : Addr} {fd : FuncData} (F : Fun K "sign_at" "sign_at" s_sign_at f fd) (T : Txt K mg) (R : RCI K mg C) {f_value_parts : Addr} {fd_value_parts : FuncData} (C_value_parts : Cal P w K mg base 1 "value_parts" ["row", "top", "bottom"] spVp f_value_parts fd_value_parts) {f_whole_sign : Addr} {fd_whole_sign : FuncData} (C_whole_sign : Cal P w K mg base 1 "whole_sign" ["value"] spSg f_whole_sign fd_whole_sign) : FnOk P w K mg base CX0 2 f fd ["row", "ratio"] (spSa C) := by
  obtain ⟨G_value_parts, m_value_parts, k_value_parts, b_value_parts⟩ := C_value_parts
  obtain ⟨G_whole_sign, m_whole_sign, k_whole_sign, b_whole_sign⟩ := C_whole_sign
  refine F.ok sc_sign_at (fun vs H Q E h => ?_) (fun cdv A outer s H vs Q E hr h => ?_)
  · obtain ⟨a, r, ns, t, b, ⟨rfl, _⟩, _⟩ := h
    rfl
  · obtain ⟨a, r, ns, t, b, hV, k⟩ := h
    obtain ⟨rfl, hA, ⟨dx, hR⟩, hn, hbs, bt, bb⟩ := hV
    refine ⟨_, (pss_one (ps_ret (pe_call G_whole_sign (hr.mono (by decide)) rfl m_whole_sign k_whole_sign b_whole_sign .nil pass0 (pa_cons (pe_ix (ix_tupK (K := K) rfl) (pe_call G_value_parts (hr.mono (by decide)) rfl m_value_parts k_value_parts b_value_parts .nil pass0 (pa_cons (pv 0) (pa_cons (pe_fldK (K := K) rfl (pv 1) rfl) (pa_cons (pe_fldK (K := K) rfl (pv 1) rfl) pa_nil)))) pe_int (fun _ _ => rfl)) pa_nil)))), ?_⟩
    refine ⟨_, rfl, _, rfl, r, C, dx, _, _, rfl, hR, R.cl, R.nT, flds_top _ _, _, rfl, r, C, dx, _, _, rfl, hR, R.cl, R.nB, flds_bottom _ _, a, ns, t, b, ⟨rfl, hA, hn, hbs, bt, bb⟩, fun p H1 s1 hp e1 => ?_⟩
    exact ⟨p, _, _, _, rfl, rfl, SqT.of e1, rfl, _, rfl, k H1 s1⟩
theorem b60 : Bits 200 (10 ^ 60) := by show ((10 : Int) ^ 60).natAbs < 2 ^ 200; decide +kernel
theorem b30 : Bits 100 (10 ^ 30) := by show ((10 : Int) ^ 30).natAbs < 2 ^ 100; decide +kernel
/-- an item of a written list at a remainder -/
theorem atI_mod {xs : List V} {n : Int} (hn : n = xs.length) (h : 0 < n) (c : Int) : ∃ v, v ∈ xs ∧ atI xs (c % n) = some v := by
  have h1 := Int.emod_nonneg c (Int.ne_of_gt h)
  have h2 := Int.emod_lt_of_pos c h
  obtain ⟨j, hj⟩ := Int.eq_ofNat_of_zero_le h1
  have hl : j < xs.length := by omega
  refine ⟨xs[j], List.getElem_mem hl, ?_⟩
  rw [hj]
  exact atI_nat (by simp [hl])
def Fit (one other : List Int) : Prop := Tr one ∧ Tr other ∧ ∃ n, AllB n one ∧ AllB n other ∧ (one.length + 2) * (n + 1) ≤ 1000000 ∧ other.length ≤ 1000000
def Run : Nat → List Int → List Int → Prop
  | 0, one, _ => one = []
  | n + 1, one, other => one = [] ∨ (Fit one other ∧ Run n other (nxt one other))
/-- a new list of new lists is handed back -/
def mkRows (H : Hp) (Q : VK) (xss : List (List Int)) : Prop := ∀ (l : Addr) (ps : List Addr) (H' : Hp), Same H H' → H l = none → (∀ p ∈ ps, H p = none ∧ p ≠ l) → H' l = some (.lst (ps.map V.ref)) → RwH H' ps xss → Q (.ref l) H'
theorem RwH.upd_ne {H : Hp} {ps : List Addr} {xss : List (List Int)} {a : Addr} {o : HO} (h : RwH H ps xss) (hn : ∀ p ∈ ps, p ≠ a) : RwH (upd H a o) ps xss := ⟨h.1, fun i p xs e1 e2 => by rw [L2.upd_ne (hn p (List.mem_of_getElem? e1))]; exact h.2 i p xs e1 e2⟩
def spRowF : Sp := fun vs H Q _ => ∃ (a b : Addr) (xs ys : List Int) (n : Nat), vs = [.ref a, .ref b] ∧ H a = some (.lst (xs.map V.int)) ∧ H b = some (.lst (ys.map V.int)) ∧ Tr xs ∧ Tr ys ∧ xs.length ≤ 1000 ∧ ys.length ≤ 1000 ∧ n ≤ 1000 ∧ Run n (shrL xs) (shrL ys) ∧ mkRows H Q (rowS n (shrL xs) (shrL ys))
theorem ok_row_from {f : Addr} {fd : FuncData} (F : Fun K "row_from" "row_from" s_row_from f fd) (T : Txt K mg) {f_shrunk : Addr} {fd_shrunk : FuncData} (C_shrunk : Cal P w K mg base 33 "shrunk" ["row"] spShr f_shrunk fd_shrunk) {f_divided : Addr} {fd_divided : FuncData} (C_divided : Cal P w K mg base 2 "divided" ["first", "second"] spDiv f_divided fd_divided) {f_taken : Addr} {fd_taken : FuncData} (C_taken : Cal P w K mg base 2 "taken" ["first", "second"] (sp2L K subL) f_taken fd_taken) : FnOk P w K mg base CX0 34 f fd ["first", "second"] spRowF := by
  obtain ⟨G_shrunk, m_shrunk, k_shrunk, b_shrunk⟩ := C_shrunk
  obtain ⟨G_divided, m_divided, k_divided, b_divided⟩ := C_divided
  obtain ⟨G_taken, m_taken, k_taken, b_taken⟩ := C_taken
  refine F.ok sc_row_from (fun vs H Q E h => ?_) (fun cdv A outer s H vs Q E hr h => ?_)
  · obtain ⟨a, b, xs, ys, n, rfl, _⟩ := h
    rfl
  · obtain ⟨a, b, xs, ys, n, rfl, hA, hB, xtr, ytr, hx, hy, hn, hrun, k⟩ := h
    have big := sizeLine_eq
    have hu := hr.units
    refine ⟨_, (pss_cons (ps_set (i := 2) sc_row_from.nd rfl (Or.inl rfl) (pe_lst pa_nil))
      (pss_cons (ps_set (i := 3) sc_row_from.nd rfl (Or.inl rfl) (pe_call G_shrunk (hr.mono (by decide)) rfl m_shrunk k_shrunk b_shrunk .nil pass0 (pa_cons (pv 0) pa_nil)))
      (pss_cons (ps_set (i := 4) sc_row_from.nd rfl (Or.inl rfl) (pe_call G_shrunk (hr.mono (by decide)) rfl m_shrunk k_shrunk b_shrunk .nil pass0 (pa_cons (pv 1) pa_nil)))
      (pss_cons (ps_while PassesOwn.never (pt_cmpR (op_neLK (K := K) rfl hu) (pv 3) (pe_lst pa_nil) (nomark _))
        (pss_cons (ps_expr (pe_bm PySem.F.plainAttrs_list PySem.F.slot_list_append PySem.F.type_list_append mt_append (pv 2) (pa_cons (pv 3) pa_nil)))
          (pss_cons (ps_set (i := 5) sc_row_from.nd rfl (Or.inl rfl) (pe_ifExp (pt_cmpR (op_eqLK (K := K) rfl hu) (pv 4) (pe_lst pa_nil) (nomark _)) (pe_lst pa_nil) (pe_ix (ix_tupK (K := K) rfl) (pe_call G_divided (hr.mono (by decide)) rfl m_divided k_divided b_divided .nil pass0 (pa_cons (pv 3) (pa_cons (pv 4) pa_nil))) pe_int (fun _ _ => rfl))))
          (pss_cons (ps_set (i := 3) sc_row_from.nd rfl (Or.inl rfl) (pv 4))
          (pss_one (ps_set (i := 4) sc_row_from.nd rfl (Or.inl rfl) (pe_call G_shrunk (hr.mono (by decide)) rfl m_shrunk k_shrunk b_shrunk .nil pass0 (pa_cons (pe_call G_taken (hr.mono (by decide)) rfl m_taken k_taken b_taken .nil pass0 (pa_cons (pe_lst pa_nil) (pa_cons (pv 5) pa_nil))) pa_nil))))))))
      (pss_one (ps_ret (pv 2))))))), ?_⟩
    refine rd_sa ⟨Nat.zero_le _, fun l hl => ?_⟩
    have s1 := Same.upd_new (o := .lst []) hl
    have hl1 : upd H l (.lst []) l = some (.lst (([] : List Addr).map V.ref)) := upd_same
    generalize upd H l (.lst []) = H1 at s1 hl1 ⊢
    refine rd_sa ⟨_, rfl, a, xs, rfl, s1 _ _ hA, xtr, by omega, fun p1 H2 sm2 hp1 e1 => ?_⟩
    have s2 := s1.trans sm2
    refine rd_sa ⟨_, rfl, b, ys, rfl, s2 _ _ hB, ytr, by omega, fun p2 H3 sm3 hp2 e2 => ?_⟩
    have s3 := s2.trans sm3
    have n1l : p1 ≠ l := fun z => by rw [z, hl1] at hp1; cases hp1
    have n2l : p2 ≠ l := fun z => by rw [z, sm2 _ _ hl1] at hp2; cases hp2
    generalize shrL xs = one' at hrun k e1
    generalize shrL ys = other at hrun k e2
    refine ⟨fun m σ' H' => ∃ (po pt : Addr) (one other' : List Int) (ps : List Addr) (acc : List (List Int)) (z5 : Option V), σ' = [some (.ref a), some (.ref b), some (.ref l), some (.ref po), some (.ref pt), z5] ∧ Same H H' ∧ H' l = some (.lst (ps.map V.ref)) ∧ RwH H' ps acc ∧ (∀ p ∈ ps, H p = none ∧ p ≠ l) ∧ H' po = some (.lst (one.map V.int)) ∧ H' pt = some (.lst (other'.map V.int)) ∧ H po = none ∧ H pt = none ∧ po ≠ l ∧ pt ≠ l ∧ Run m one other' ∧ acc ++ rowS m one other' = rowS n one' other ∧ ps.length + m ≤ 1000,
      ⟨_, p1, p2, one', other, [], [], none, rfl, s3, sm3 _ _ (sm2 _ _ hl1), RwH.nil, (fun p hp => nomatch hp), sm3 _ _ e1, e2, s1.free hp1, s2.free hp2, n1l, n2l, hrun, rfl, by show 0 + n ≤ 1000; omega⟩, ?_⟩
    rintro m σ' H4 ⟨po, pt, one, other', ps, acc, z5, rfl, s4, hl4, hR4, hf4, ho4, ht4, fo, ft, nol, ntl, hrun4, hacc, hlen⟩
    refine ⟨_, rfl, Nat.zero_le _, fun q hq => ?_⟩
    have t5 := Same.upd_new (o := .lst []) hq
    refine ⟨po, q, one, [], rfl, rfl, SqL.of (t5 _ _ ho4), SqL.of upd_same, _, rfl, rd_ndec (fun hne => ?_) (fun he => ?_)⟩
    rotate_left
    · have he' : one = [] := he
      subst he'
      rw [rowS_nil, List.append_nil] at hacc
      refine ⟨_, rfl, k l ps _ (s4.trans t5) hl hf4 (t5 _ _ hl4) ?_⟩
      rw [← hacc]
      exact hR4.same t5
    have hne' : one ≠ [] := hne
    obtain ⟨m1, rfl⟩ : ∃ m1, m = m1 + 1 := by
      cases m with
      | zero => exact absurd hrun4 hne'
      | succ m1 => exact ⟨m1, rfl⟩
    obtain ⟨⟨otr, ttr, nb, bo, bt, hsz, htl⟩, hrun5⟩ := (show one = [] ∨ (Fit one other' ∧ Run m1 other' (nxt one other')) from hrun4).resolve_left hne'
    have hacc5 : (acc ++ [one]) ++ rowS m1 other' (nxt one other') = rowS n one' other := by
      rw [← hacc]
      show _ = acc ++ (if one = [] then [] else one :: rowS m1 other' (nxt one other'))
      rw [if_neg hne', List.append_assoc]; rfl
    generalize hH5 : upd H4 q (.lst []) = H5 at t5 ⊢
    refine ⟨fun σ'' H'' => ∃ m', m' < m1 + 1 ∧ ∃ (po pt : Addr) (one other' : List Int) (ps : List Addr) (acc : List (List Int)) (z5 : Option V), σ'' = [some (.ref a), some (.ref b), some (.ref l), some (.ref po), some (.ref pt), z5] ∧ Same H H'' ∧ H'' l = some (.lst (ps.map V.ref)) ∧ RwH H'' ps acc ∧ (∀ p ∈ ps, H p = none ∧ p ≠ l) ∧ H'' po = some (.lst (one.map V.int)) ∧ H'' pt = some (.lst (other'.map V.int)) ∧ H po = none ∧ H pt = none ∧ po ≠ l ∧ pt ≠ l ∧ Run m' one other' ∧ acc ++ rowS m' one other' = rowS n one' other ∧ ps.length + m' ≤ 1000, fun _ _ h => h, ?_⟩
    have hl5 := t5 _ _ hl4
    refine rd_sd ⟨_, rfl, .inl ⟨rfl, _, SqL.of hl5⟩, _, rfl, l, _, _, rfl, rfl, hl5, by rw [List.length_map]; omega, ?_⟩
    rw [map_ref_snoc]
    have s6 : Same H (upd H5 l (.lst ((ps ++ [po]).map V.ref))) := mut_same (s4.trans t5) hl
    have hl6 : upd H5 l (.lst ((ps ++ [po]).map V.ref)) l = some (.lst ((ps ++ [po]).map V.ref)) := upd_same
    have hf6 : ∀ p ∈ ps ++ [po], H p = none ∧ p ≠ l := fun p hp => by
      rcases List.mem_append.mp hp with h | h
      · exact hf4 p h
      · rw [List.mem_singleton.mp h]; exact ⟨fo, nol⟩
    have hR6 : RwH (upd H5 l (.lst ((ps ++ [po]).map V.ref))) (ps ++ [po]) (acc ++ [one]) := ((hR4.same t5).snoc (t5 _ _ ho4)).upd_ne fun p hp => (hf6 p hp).2
    have ho6 : upd H5 l (.lst ((ps ++ [po]).map V.ref)) po = some (.lst (one.map V.int)) := by rw [L2.upd_ne nol]; exact t5 _ _ ho4
    have ht6 : upd H5 l (.lst ((ps ++ [po]).map V.ref)) pt = some (.lst (other'.map V.int)) := by rw [L2.upd_ne ntl]; exact t5 _ _ ht4
    generalize upd H5 l (.lst ((ps ++ [po]).map V.ref)) = H6 at s6 hl6 hR6 ho6 ht6 ⊢
    -- rest
    refine rd_cut (fun σ' H' => ∃ pr : Addr, σ' = [some (.ref a), some (.ref b), some (.ref l), some (.ref po), some (.ref pt), some (.ref pr)] ∧ Same H6 H' ∧ H' pr = some (.lst ((rst one other').map V.int))) ?_ ?_
    case refine_2 =>
      intro rest
      refine rd_asg (rd_ifE ⟨_, rfl, Nat.zero_le _, fun q2 hq2 => ?_⟩)
      have t7 := Same.upd_new (o := .lst []) hq2
      refine ⟨pt, q2, other', [], rfl, rfl, SqL.of (t7 _ _ ht6), SqL.of upd_same, _, rfl, rd_dec (fun h0 => ?_) (fun h0 => ?_)⟩
      · have h0' : other' = [] := h0
        refine ⟨Nat.zero_le _, fun q3 hq3 => rest _ _ ⟨q3, rfl, t7.then_new hq3, ?_⟩⟩
        rw [upd_same]; unfold rst; rw [if_pos h0']; rfl
      · have h0' : other' ≠ [] := h0
        refine ⟨_, rfl, _, rfl, po, pt, one, other', nb, rfl, t7 _ _ ho6, t7 _ _ ht6, h0', bo, bt, hsz, htl, fun t q' r H8 sm8 _ _ _ _ _ _ et _ er => ?_⟩
        refine ⟨t, _, _, _, rfl, rfl, SqT.of et, rfl, rest _ _ ⟨r, rfl, t7.trans sm8, ?_⟩⟩
        rw [er]; unfold rst; rw [if_neg h0']
    rintro σ' H8 ⟨pr, rfl, t8, hr8⟩
    refine rd_sa ⟨_, rfl, ?_⟩
    refine rd_asg ⟨Nat.zero_le _, fun q hq => ?_⟩
    have t9 := t8.then_new (o := .lst []) hq
    have hrl : (rst one other').length ≤ 1000000 := by
      unfold rst
      split
      · exact Nat.zero_le _
      · rename_i h0
        have := div_lenR (a := one) h0
        omega
    refine ⟨_, rfl, q, pr, [], rst one other', rfl, SqL.of upd_same, SqL.of (by rw [L2.upd_ne (ne_of_none hr8 hq)]; exact hr8), Nat.zero_le _, hrl, fun p9 H9 sm9 hp9 e9 => ?_⟩
    have hsl : (subL [] (rst one other')).length ≤ 1000000 := Nat.le_trans (length_trim _) (by unfold linL; rw [List.length_map, List.length_range]; exact Nat.max_le.mpr ⟨Nat.zero_le _, hrl⟩)
    refine ⟨p9, _, rfl, e9, tr_trim _, hsl, fun p10 H10 sm10 hp10 e10 => ?_⟩
    have t10 : Same H6 H10 := (t9.trans sm9).trans sm10
    have f10 : H6 p10 = none := (t9.trans sm9).free hp10
    refine ⟨m1, Nat.lt_succ_self _, pt, p10, other', nxt one other', ps ++ [po], acc ++ [one], _, rfl, s6.trans t10, t10 _ _ hl6, hR6.same t10, hf6, t10 _ _ ht6, e10, ft, s6.free f10, ntl, (fun z => by rw [z, hl6] at f10; cases f10), hrun5, hacc5, by rw [List.length_append]; show ps.length + 1 + m1 ≤ 1000; omega⟩
def spRowOf : Sp := fun vs H Q _ => ∃ (a : Addr) (xs : List Int) (n : Nat), vs = [.ref a] ∧ H a = some (.lst (xs.map V.int)) ∧ Tr xs ∧ AllB 90000 xs ∧ xs.length ≤ 1000 ∧ n ≤ 1000 ∧ Run n (shrL xs) (shrL (slopeL xs)) ∧ mkRows H Q (rowS n (shrL xs) (shrL (slopeL xs)))
theorem tr_slopeL {xs : List Int} (h : Tr xs) : Tr (slopeL xs) := by
  intro n hn
  unfold slopeL at *
  rw [List.length_map, List.length_range] at hn
  rw [cf_map_range, if_pos (by omega)]
  exact Int.mul_ne_zero (by omega) (h (n + 1) (by omega))
theorem ok_row_of {f : Addr} {fd : FuncData} (F : Fun K "row_of" "row_of" s_row_of f fd) (T : Txt K mg) {f_row_from : Addr} {fd_row_from : FuncData} (C_row_from : Cal P w K mg base 34 "row_from" ["first", "second"] spRowF f_row_from fd_row_from) {f_slope : Addr} {fd_slope : FuncData} (C_slope : Cal P w K mg base 1 "slope" ["row"] (sp1 slopeL) f_slope fd_slope) : FnOk P w K mg base CX0 35 f fd ["polynomial"] spRowOf := by
  obtain ⟨G_row_from, m_row_from, k_row_from, b_row_from⟩ := C_row_from
  obtain ⟨G_slope, m_slope, k_slope, b_slope⟩ := C_slope
  refine F.ok sc_row_of (fun vs H Q E h => ?_) (fun cdv A outer s H vs Q E hr h => ?_)
  · obtain ⟨a, xs, n, rfl, _⟩ := h
    rfl
  · obtain ⟨a, xs, n, rfl, hA, xtr, bx, hx, hn, hrun, k⟩ := h
    refine ⟨_, (pss_one (ps_ret (pe_call G_row_from (hr.mono (by decide)) rfl m_row_from k_row_from b_row_from .nil pass0 (pa_cons (pv 0) (pa_cons (pe_call G_slope (hr.mono (by decide)) rfl m_slope k_slope b_slope .nil pass0 (pa_cons (pv 0) pa_nil)) pa_nil))))), ?_⟩
    refine rd_ret ⟨_, rfl, _, rfl, a, xs, rfl, hA, by omega, bx.mono (by decide), fun p H1 s1 hp e1 => ?_⟩
    have hsl : (slopeL xs).length ≤ 1000 := by unfold slopeL; rw [List.length_map, List.length_range]; omega
    exact ⟨a, p, xs, slopeL xs, n, rfl, s1 _ _ hA, e1, xtr, tr_slopeL xtr, hx, hsl, hn, hrun, fun l ps H' sm hl hf e r => k l ps H' (s1.trans sm) (s1.free hl) (fun p hp => ⟨s1.free (hf p hp).1, (hf p hp).2⟩) e r⟩
def sgs (t b : Int) (xss : List (List Int)) : List Int := xss.map fun p => sg (hv t b p)
def spChg (C : Addr) : Sp := fun vs H Q _ => ∃ (l r : Addr) (ps : List Addr) (xss : List (List Int)) (t b : Int), vs = [.ref l, .ref r] ∧ H l = some (.lst (ps.map V.ref)) ∧ RwH H ps xss ∧ RA C H r t b ∧ Bits 300 t ∧ Bits 300 b ∧ (∀ xs ∈ xss, xs.length ≤ 20 ∧ AllB 1000 xs) ∧ xss.length ≤ 1000000 ∧ ∀ H', Same H H' → Q (.int (chS (sgs t b xss)).1) H'
theorem sgs_small (t b : Int) (xss : List (List Int)) : ∀ s ∈ sgs t b xss, s.natAbs ≤ 1 := fun s hs => by
  obtain ⟨x, _, rfl⟩ := List.mem_map.mp hs
  exact sg_small _
theorem sgs_take {t b : Int} {xss : List (List Int)} {i : Nat} {xs : List Int} (h : xss[i]? = some xs) : sgs t b (xss.take (i + 1)) = sgs t b (xss.take i) ++ [sg (hv t b xs)] := by
  unfold sgs
  rw [List.take_add_one, h, List.map_append]; rfl
theorem one_bits {x : Int} (h : x.natAbs ≤ 1) : Bits 1000000 x := Bits.mono (j := 1) (Nat.lt_of_le_of_lt h (by decide)) (by decide)
theorem ok_changes {C f : Addr} {fd : FuncData} (F : Fun K "changes" "changes" s_changes f fd) (T : Txt K mg) (R : RCI K mg C) {f_sign_at : Addr} {fd_sign_at : FuncData} (C_sign_at : Cal P w K mg base 2 "sign_at" ["row", "ratio"] (spSa C) f_sign_at fd_sign_at) : FnOk P w K mg base CX0 3 f fd ["row", "ratio"] (spChg C) := by
  obtain ⟨G_sign_at, m_sign_at, k_sign_at, b_sign_at⟩ := C_sign_at
  refine F.ok sc_changes (fun vs H Q E h => ?_) (fun cdv A outer s H vs Q E hr h => ?_)
  · obtain ⟨l, r, ps, xss, t, b, rfl, _⟩ := h
    rfl
  · obtain ⟨l, r, ps, xss, t, b, rfl, hL, hR, hRA, bt, bb, hb, hn, k⟩ := h
    refine ⟨_, (pss_cons (ps_set (i := 2) sc_changes.nd rfl (Or.inl rfl) pe_int)
      (pss_cons (ps_set (i := 3) sc_changes.nd rfl (Or.inl rfl) pe_int)
      (pss_cons (ps_for PassesOwn.never rfl (pi_listK (K := K) rfl (pv 0)) (pg_name (i := 4) sc_changes.nd rfl (Or.inl rfl))
        (pss_cons (ps_set (i := 5) sc_changes.nd rfl (Or.inl rfl) (pe_call G_sign_at (hr.mono (by decide)) rfl m_sign_at k_sign_at b_sign_at .nil pass0 (pa_cons (pv 4) (pa_cons (pv 1) pa_nil))))
          (pss_cons (ps_if (pt_cmpR op_lt (pe_op op_mulB (pv 5) (pv 3)) pe_int (nomark _))
            (pss_one (ps_set (i := 2) sc_changes.nd rfl (Or.inl rfl) (pe_op op_add (pv 2) pe_int)))
            pss_nil)
          (pss_one (ps_if (pt_cmpR op_neI (pv 5) pe_int (nomark _))
            (pss_one (ps_set (i := 3) sc_changes.nd rfl (Or.inl rfl) (pv 5)))
            pss_nil)))))
      (pss_one (ps_ret (pv 2)))))), ?_⟩
    have hpl : (ps.map V.ref).length = xss.length := by rw [List.length_map, hR.1]
    refine rd_sa ?_
    refine rd_sa ?_
    refine ⟨_, rfl, l, rfl, ⟨_, SqL.of hL⟩, for_list (K := K) (a := l) (xs := ps.map V.ref) (fun i σ' H' => ∃ (z4 z5 : Option V), σ' = [some (.ref l), some (.ref r), some (.int (chS (sgs t b (xss.take i))).1), some (.int (chS (sgs t b (xss.take i))).2), z4, z5] ∧ Same H H') ⟨none, none, rfl, fun _ _ e => e⟩ ?_ ?_ ?_⟩
    · rintro i σ' H' _ ⟨z4, z5, rfl, sm⟩
      exact SqL.of (sm _ _ hL)
    · rintro i x σ' H1 hi ⟨z4, z5, rfl, s1⟩
      obtain ⟨p, xs, rfl, ep, ex, hp, hlt⟩ := hR.of_get hi
      obtain ⟨hx1, hx2⟩ := hb xs (List.mem_of_getElem? ex)
      show tSeq (tAsg _ (gName 5)) _ _ _ _
      refine rd_sa ⟨_, rfl, _, rfl, p, r, xs, t, b, ⟨rfl, s1 _ _ hp, hRA.same s1, hx1, hx2, bt.mono (by decide), bb.mono (by decide)⟩, fun H2 sm2 => ?_⟩
      have s2 := s1.trans sm2
      obtain ⟨c1, c2, c3⟩ := chS_small _ (sgs_small t b (xss.take i))
      rw [sgs_take ex, chS_snoc]
      have hs := sg_small (hv t b xs)
      generalize sg (hv t b xs) = s at hs ⊢
      generalize chS (sgs t b (xss.take i)) = z at c1 ⊢
      obtain ⟨m, bf⟩ := z
      dsimp only
      refine rd_cutIf (fun σ' H' => σ' = [some (.ref l), some (.ref r), some (.int (if s * bf < 0 then m + 1 else m)), some (.int bf), some (.ref p), some (.int s)] ∧ H2 = H') ?_ ?_
      case refine_2 =>
        intro rest
        refine ⟨_, rfl, _, rfl, _, _, rfl, rfl, ⟨one_bits hs, one_bits c1⟩, _, _, rfl, rfl, _, rfl, rd_dec (fun h1 => ?_) (fun h1 => ?_)⟩
        · refine rd_asg ⟨_, rfl, _, _, rfl, rfl, rest _ _ ⟨?_, rfl⟩⟩
          rw [if_pos h1]; rfl
        · refine rest _ _ ⟨?_, rfl⟩
          rw [if_neg h1]; rfl
      rintro σ' H' ⟨rfl, rfl⟩
      refine ⟨_, rfl, _, _, rfl, rfl, _, rfl, rd_ndec (fun h1 => ?_) (fun h1 => ?_)⟩
      · refine rd_asg ⟨_, rfl, some (.ref p), some (.int s), ?_, s2⟩
        unfold chF
        have h1' : ¬ s = 0 := h1
        rw [if_neg h1']; rfl
      · refine ⟨some (.ref p), some (.int s), ?_, s2⟩
        unfold chF
        have h1' : s = 0 := h1
        rw [if_pos h1']
    · rintro σ' H' ⟨z4, z5, rfl, sm⟩
      rw [hpl, List.take_length]
      exact ⟨_, rfl, k H' sm⟩
def spCnt (C : Addr) : Sp := fun vs H Q _ => ∃ (l r r2 : Addr) (ps : List Addr) (xss : List (List Int)) (t b t2 b2 : Int), vs = [.ref l, .ref r, .ref r2] ∧ H l = some (.lst (ps.map V.ref)) ∧ RwH H ps xss ∧ RA C H r t b ∧ RA C H r2 t2 b2 ∧ Bits 300 t ∧ Bits 300 b ∧ Bits 300 t2 ∧ Bits 300 b2 ∧ (∀ xs ∈ xss, xs.length ≤ 20 ∧ AllB 1000 xs) ∧ xss.length ≤ 1000000 ∧ ∀ H', Same H H' → Q (.int ((chS (sgs t b xss)).1 - (chS (sgs t2 b2 xss)).1)) H'
theorem ok_count {C f : Addr} {fd : FuncData} (F : Fun K "count" "count" s_count f fd) (T : Txt K mg) (R : RCI K mg C) {f_changes : Addr} {fd_changes : FuncData} (C_changes : Cal P w K mg base 3 "changes" ["row", "ratio"] (spChg C) f_changes fd_changes) : FnOk P w K mg base CX0 4 f fd ["row", "low", "high"] (spCnt C) := by
  obtain ⟨G_changes, m_changes, k_changes, b_changes⟩ := C_changes
  refine F.ok sc_count (fun vs H Q E h => ?_) (fun cdv A outer s H vs Q E hr h => ?_)
  · obtain ⟨l, r, r2, ps, xss, t, b, t2, b2, rfl, _⟩ := h
    rfl
  · obtain ⟨l, r, r2, ps, xss, t, b, t2, b2, rfl, hL, hR, h1, h2, bt, bb, bt2, bb2, hb, hn, k⟩ := h
    refine ⟨_, (pss_one (ps_ret (pe_op op_sub (pe_call G_changes (hr.mono (by decide)) rfl m_changes k_changes b_changes .nil pass0 (pa_cons (pv 0) (pa_cons (pv 1) pa_nil))) (pe_call G_changes (hr.mono (by decide)) rfl m_changes k_changes b_changes .nil pass0 (pa_cons (pv 0) (pa_cons (pv 2) pa_nil)))))), ?_⟩
    refine rd_ret ⟨_, rfl, _, rfl, l, r, ps, xss, t, b, rfl, hL, hR, h1, bt, bb, hb, hn, fun H1 s1 => ?_⟩
    refine ⟨_, rfl, _, rfl, l, r2, ps, xss, t2, b2, rfl, s1 _ _ hL, hR.same s1, h2.same s1, bt2, bb2, hb, hn, fun H2 s2 => ?_⟩
    exact ⟨_, _, rfl, rfl, k _ (s1.trans s2)⟩
theorem abs_eqB (i : Int) : (if i < 0 then -i else i) = (i.natAbs : Int) := by split <;> omega
theorem at_lastB {l : List Int} (h : l ≠ []) : atI (l.map V.int) (-1) = some (.int (lastI l)) := by
  obtain ⟨r, x, rfl⟩ := (snoc_cases l).resolve_left h
  rw [lastI_snoc, List.map_append]; exact atI_last _ _
theorem cutL_initB {l : List Int} : cutL l none (some (-1)) = l.take (l.length - 1) := by
  unfold cutL
  rw [HT.sIx_none]
  have e : HT.sIx l.length l.length (some (-1)) = l.length - 1 := by
    unfold HT.sIx; simp; omega
  rw [e, List.drop_zero, Nat.sub_zero]
/-- 2 ^ k is the first of 1, 2, 4 .. of which one less, times l, is no less than each of os -/
def isB (os : List Int) (l k : Nat) : Prop := (∀ x ∈ os, x.natAbs ≤ (2 ^ k - 1) * l) ∧ ∀ j, j < k → ∃ x ∈ os, (2 ^ j - 1) * l < x.natAbs
def spBound (K : PySem.W.Frag) : Sp := fun vs H Q _ => ∃ (a : Addr) (ns : List Int), vs = [.ref a] ∧ SqL K H a (ns.map V.int) ∧ Tr ns ∧ ns ≠ [] ∧ ns.length ≤ 100000 ∧ AllB 100000 ns ∧
  ∀ (k : Nat) (H' : Hp), k ≤ 100000 → isB (ns.take (ns.length - 1)) (lastI ns).natAbs k → Same H H' → Q (.int ((2 ^ k : Nat) : Int)) H'
theorem rMax_of {os : List Int} {F : Int → Prop} (h : ∀ g : Nat, (∀ x ∈ os, x.natAbs ≤ g) → (g = 0 ∨ ∃ x ∈ os, x.natAbs = g) → F g) :
    (∀ M, M ∈ os.map (fun x => (x.natAbs : Int)) → (∀ a ∈ os.map (fun x => (x.natAbs : Int)), a ≤ M) → F M) ∧ (os.map (fun x => (x.natAbs : Int)) = [] → F 0) := by
  constructor
  · intro M hM ha
    obtain ⟨x, hx, rfl⟩ := List.mem_map.mp hM
    exact h x.natAbs (fun y hy => Int.ofNat_le.mp (ha _ (List.mem_map.mpr ⟨y, hy, rfl⟩))) (.inr ⟨x, hx, rfl⟩)
  · intro e
    have : os = [] := List.map_eq_nil_iff.mp e
    subst this
    exact h 0 (fun x hx => nomatch hx) (.inl rfl)
theorem ok_bound {f : Addr} {fd : FuncData} (F : Fun K "bound" "bound" s_bound f fd) (T : Txt K mg) : FnOk P w K mg base CX0 1 f fd ["row"] (spBound K) := by
  refine F.ok sc_bound (fun vs H Q E h => ?_) (fun cdv A outer s H vs Q E hr h => ?_)
  · obtain ⟨a, ns, rfl, _⟩ := h
    rfl
  · obtain ⟨a, ns, rfl, hA, ht, hne, hn, hb, k⟩ := h
    have big := sizeLine_eq
    refine ⟨_, (pss_cons (ps_set (i := 1) sc_bound.nd rfl (Or.inl rfl) (pe_callB call_abs (by rfl) T.abs_ PyProof.Rows.boot_abs (pa_cons (pe_ix (ix_listK (K := K) rfl) (pv 0) (pe_un un_neg pe_int) (fun _ _ => rfl)) pa_nil)))
      (pss_cons (ps_set (i := 2) sc_bound.nd rfl (Or.inl rfl) (pe_maxD (K := K) rfl rfl (by rfl) T.max_ (pe_comp (own := ["value"]) (fr := []) (js := []) (by walk_at "comp_ok") rfl (pi_listK (K := K) rfl (pe_slice (sl_listK (K := K) rfl) (pv 0) po_none (po_some (pe_un un_neg pe_int)))) (fun _ _ _ _ => (pg_name (i := 0) (show List.Nodup (["value"] : List Str) from by decide +kernel) rfl (Or.inl rfl))) (fun _ _ _ _ => (pe_callB call_abs (by rfl) T.abs_ PyProof.Rows.boot_abs (pa_cons (pv 0) pa_nil)))) pe_int))
      (pss_cons (ps_set (i := 3) sc_bound.nd rfl (Or.inl rfl) pe_int)
      (pss_cons (ps_while PassesOwn.never (pt_cmpR op_lt (pe_op op_mulB (pe_op op_sub (pv 3) pe_int) (pv 1)) (pv 2) (nomark _))
        (pss_one (ps_set (i := 3) sc_bound.nd rfl (Or.inl rfl) (pe_op op_mulB pe_int (pv 3)))))
      (pss_one (ps_ret (pv 3))))))), ?_⟩
    refine rd_sa ⟨_, rfl, _, rfl, a, _, _, _, rfl, rfl, hA, at_lastB hne, _, rfl, ?_⟩
    rw [abs_eqB]
    have hl0 : lastI ns ≠ 0 := by
      obtain ⟨r, x, rfl⟩ := (snoc_cases ns).resolve_left hne
      rw [lastI_snoc]; exact tr_snoc.mp ht
    generalize hL : (lastI ns).natAbs = L at k ⊢
    have hL1 : 1 ≤ L := by omega
    have bL : Bits 100000 (L : Int) := by
      obtain ⟨r, x, rfl⟩ := (snoc_cases ns).resolve_left hne
      rw [lastI_snoc] at hL
      exact (hb x (by simp)).of_le (by omega)
    refine rd_sa ⟨_, rfl, _, rfl, _, rfl, a, _, rfl, hA, fun p1 hp1 => ?_⟩
    rw [cutV_map, cutL_initB]
    have s1 : Same H (upd H p1 (.lst ((ns.take (ns.length - 1)).map V.int))) := Same.upd_new hp1
    have q1 : upd H p1 (.lst ((ns.take (ns.length - 1)).map V.int)) p1 = some (.lst ((ns.take (ns.length - 1)).map V.int)) := upd_same
    generalize hO : ns.take (ns.length - 1) = os at k s1 q1 ⊢
    generalize upd H p1 (.lst (os.map V.int)) = H1 at s1 q1 ⊢
    have bO : AllB 100000 os := fun x hx => hb x (List.mem_of_mem_take (hO ▸ hx))
    have lO : os.length ≤ 100000 := by rw [← hO, List.length_take]; omega
    refine ⟨p1, rfl, ⟨_, SqL.of q1⟩, comp_list (K := K) (a := p1) (xs := os.map V.int) (fun i ys σ' H' => ∃ (z0 : Option V), σ' = [z0] ∧ ys = ((os.take i).map fun x => (x.natAbs : Int)).map V.int ∧ H1 = H') (by rw [List.length_map]; omega) ⟨none, rfl, rfl, rfl⟩ ?_ ?_ ?_⟩
    · rintro i ys σ' H' _ ⟨z0, rfl, rfl, rfl⟩
      exact ⟨SqL.of q1, by rw [List.length_map, List.length_map, List.length_take]; exact Nat.min_le_left _ _⟩
    · rintro i x ys σ' H' hi ⟨z0, rfl, rfl, rfl⟩
      rw [List.getElem?_map] at hi
      cases e : os[i]? with
      | none => rw [e] at hi; cases hi
      | some c =>
        rw [e] at hi
        obtain rfl := Option.some.inj hi
        refine ⟨_, rfl, _, rfl, _, rfl, ?_, rfl⟩
        rw [List.take_add_one, e, abs_eqB]
        simp
    · rintro ys σ' H' p ⟨z0, rfl, rfl, rfl⟩ hp
      rw [List.length_map, List.take_length]
      have s2 : Same H (upd H1 p (.lst ((os.map fun x => (x.natAbs : Int)).map V.int))) := s1.then_new hp
      refine ⟨p, _, rfl, SqL.of upd_same, ?_⟩
      generalize upd H1 p (.lst ((os.map fun x => (x.natAbs : Int)).map V.int)) = H2 at s2 ⊢
      -- the greatest
      refine And.symm (rMax_of fun g hg1 hg2 => ?_)
      have bg : g < 2 ^ 100000 := by
        rcases hg2 with rfl | ⟨x, hx, rfl⟩
        · exact Nat.pow_pos (by decide)
        · exact bO x hx
      refine rd_sa ?_
      refine ⟨fun m σ' H' => ∃ k0 : Nat, σ' = [some (.ref a), some (.int L), some (.int g), some (.int ((2 ^ k0 : Nat) : Int))] ∧ H2 = H' ∧ 2 * g + 2 - 2 ^ k0 = m ∧ 2 ^ k0 ≤ 2 * g + 1 ∧ ∀ j, j < k0 → (2 ^ j - 1) * L < g, ⟨_, 0, rfl, rfl, rfl, by omega, fun j hj => absurd hj (Nat.not_lt_zero _)⟩, ?_⟩
      rintro m σ' H' ⟨k0, rfl, rfl, rfl, h2, h3⟩
      have hk0 : k0 ≤ 100000 := by
        have e : 2 ^ k0 < 2 ^ 100001 := by rw [Nat.pow_succ 2 100000]; omega
        have := (Nat.pow_lt_pow_iff_right (a := 2) (by decide)).mp e
        omega
      have hp : 1 ≤ 2 ^ k0 := Nat.pow_pos (by decide)
      have bk : Bits 100002 ((2 ^ k0 : Nat) : Int) := by
        show ((2 ^ k0 : Nat) : Int).natAbs < _
        rw [Int.natAbs_natCast]
        exact (Nat.pow_lt_pow_iff_right (a := 2) (by decide)).mpr (by omega)
      have bk1 : Bits 100002 (((2 ^ k0 : Nat) : Int) - 1) := bk.of_le (by omega)
      have cast : (((2 ^ k0 : Nat) : Int) - 1) * (L : Int) = (((2 ^ k0 - 1) * L : Nat) : Int) := by
        rw [Int.natCast_mul, Int.natCast_sub hp]; rfl
      refine ⟨_, rfl, _, _, rfl, rfl, _, rfl, _, _, rfl, rfl, ⟨bk1.mono (by decide), bL.mono (by decide)⟩, _, rfl, _, _, rfl, rfl, _, rfl, ?_⟩
      rw [cast]
      refine rd_dec (fun hlt => ?_) (fun hge => ?_)
      · have hlt' : (2 ^ k0 - 1) * L < g := by exact Int.ofNat_lt.mp hlt
        have h4 : 2 ^ k0 - 1 < g := Nat.lt_of_le_of_lt (Nat.le_mul_of_pos_right _ hL1) hlt'
        refine ⟨fun σ'' H'' => ∃ m', m' < 2 * g + 2 - 2 ^ k0 ∧ ∃ k0 : Nat, σ'' = [some (.ref a), some (.int L), some (.int g), some (.int ((2 ^ k0 : Nat) : Int))] ∧ H2 = H'' ∧ 2 * g + 2 - 2 ^ k0 = m' ∧ 2 ^ k0 ≤ 2 * g + 1 ∧ ∀ j, j < k0 → (2 ^ j - 1) * L < g, fun _ _ h => h, ?_⟩
        refine ⟨_, rfl, _, _, rfl, rfl, ⟨Bits.mono (j := 2) (by show (2 : Int).natAbs < 2 ^ 2; decide) (by decide), bk.mono (by decide)⟩, ?_⟩
        have e2 : (2 : Int) * ((2 ^ k0 : Nat) : Int) = ((2 ^ (k0 + 1) : Nat) : Int) := by rw [Nat.pow_succ]; omega
        have e3 : 2 ^ (k0 + 1) = 2 * 2 ^ k0 := by rw [Nat.pow_succ]; omega
        refine ⟨2 * g + 2 - 2 ^ (k0 + 1), by omega, k0 + 1, by rw [← e2]; rfl, rfl, rfl, by omega, fun j hj => ?_⟩
        by_cases ej : j = k0
        · subst ej; exact hlt'
        · exact h3 j (by omega)
      · have hge' : ¬ (2 ^ k0 - 1) * L < g := fun z => hge (Int.ofNat_lt.mpr z)
        refine ⟨_, rfl, k k0 H2 hk0 ⟨fun x hx => Nat.le_trans (hg1 x hx) (by omega), fun j hj => ?_⟩ s2⟩
        have h5 := h3 j hj
        rcases hg2 with rfl | ⟨x, hx, e⟩
        · exact absurd h5 (Nat.not_lt_zero _)
        · exact ⟨x, hx, by rw [e]; exact h5⟩
def FitC (one other : List Int) : Prop := Tr one ∧ Tr other ∧ ∃ n, AllB n one ∧ AllB n other ∧ (one.length + 2) * (n + 1) ≤ 1000000 ∧ other.length ≤ 1000000
def RunC : Nat → List Int → List Int → Prop
  | 0, _, other => other = []
  | n + 1, one, other => other = [] ∨ (FitC one other ∧ RunC n other (plainL (divR one other)))
def spCom : Sp := fun vs H Q _ => ∃ (a b : Addr) (xs ys : List Int) (n : Nat), vs = [.ref a, .ref b] ∧ H a = some (.lst (xs.map V.int)) ∧ H b = some (.lst (ys.map V.int)) ∧ Tr xs ∧ Tr ys ∧ xs.length ≤ 1000 ∧ ys.length ≤ 1000 ∧ RunC n (plainL xs) (plainL ys) ∧ mkL H Q (comN n (plainL xs) (plainL ys))
theorem ok_common {f : Addr} {fd : FuncData} (F : Fun K "common" "common" s_common f fd) (T : Txt K mg) {f_plain : Addr} {fd_plain : FuncData} (C_plain : Cal P w K mg base 34 "plain" ["row"] spPlain f_plain fd_plain) {f_divided : Addr} {fd_divided : FuncData} (C_divided : Cal P w K mg base 2 "divided" ["first", "second"] spDiv f_divided fd_divided) : FnOk P w K mg base CX0 35 f fd ["first", "second"] spCom := by
  obtain ⟨G_plain, m_plain, k_plain, b_plain⟩ := C_plain
  obtain ⟨G_divided, m_divided, k_divided, b_divided⟩ := C_divided
  refine F.ok sc_common (fun vs H Q E h => ?_) (fun cdv A outer s H vs Q E hr h => ?_)
  · obtain ⟨a, b, xs, ys, n, rfl, _⟩ := h
    rfl
  · obtain ⟨a, b, xs, ys, n, rfl, hA, hB, xtr, ytr, hx, hy, hrun, k⟩ := h
    have big := sizeLine_eq
    have hu := hr.units
    refine ⟨_, (pss_cons (ps_set (i := 2) sc_common.nd rfl (Or.inl rfl) (pe_call G_plain (hr.mono (by decide)) rfl m_plain k_plain b_plain .nil pass0 (pa_cons (pv 0) pa_nil)))
      (pss_cons (ps_set (i := 3) sc_common.nd rfl (Or.inl rfl) (pe_call G_plain (hr.mono (by decide)) rfl m_plain k_plain b_plain .nil pass0 (pa_cons (pv 1) pa_nil)))
      (pss_cons (ps_while PassesOwn.never (pt_cmpR (op_neLK (K := K) rfl hu) (pv 3) (pe_lst pa_nil) (nomark _))
        (pss_cons (ps_set (i := 4) sc_common.nd rfl (Or.inl rfl) (pe_call G_plain (hr.mono (by decide)) rfl m_plain k_plain b_plain .nil pass0 (pa_cons (pe_ix (ix_tupK (K := K) rfl) (pe_call G_divided (hr.mono (by decide)) rfl m_divided k_divided b_divided .nil pass0 (pa_cons (pv 2) (pa_cons (pv 3) pa_nil))) pe_int (fun _ _ => rfl)) pa_nil)))
          (pss_cons (ps_set (i := 2) sc_common.nd rfl (Or.inl rfl) (pv 3))
          (pss_one (ps_set (i := 3) sc_common.nd rfl (Or.inl rfl) (pv 4))))))
      (pss_one (ps_ret (pv 2)))))), ?_⟩
    refine rd_sa ⟨_, rfl, a, xs, rfl, hA, xtr, by omega, fun p1 H1 s1 hp1 e1 => ?_⟩
    refine rd_sa ⟨_, rfl, b, ys, rfl, s1 _ _ hB, ytr, by omega, fun p2 H2 sm2 hp2 e2 => ?_⟩
    have s2 := s1.trans sm2
    generalize plainL xs = one' at hrun k e1
    generalize plainL ys = other' at hrun k e2
    refine ⟨fun m σ' H' => ∃ (po pt : Addr) (one other : List Int) (z4 : Option V), σ' = [some (.ref a), some (.ref b), some (.ref po), some (.ref pt), z4] ∧ Same H H' ∧ H' po = some (.lst (one.map V.int)) ∧ H' pt = some (.lst (other.map V.int)) ∧ H po = none ∧ H pt = none ∧ RunC m one other ∧ comN m one other = comN n one' other',
      ⟨_, p1, p2, one', other', none, rfl, s2, sm2 _ _ e1, e2, hp1, s1.free hp2, hrun, rfl⟩, ?_⟩
    rintro m σ' H3 ⟨po, pt, one, other, z4, rfl, s3, ho, ht, fo, ft, hrun3, hcom⟩
    refine ⟨_, rfl, Nat.zero_le _, fun q hq => ?_⟩
    have t4 := Same.upd_new (o := .lst []) hq
    refine ⟨pt, q, other, [], rfl, rfl, SqL.of (t4 _ _ ht), SqL.of upd_same, _, rfl, rd_ndec (fun hne => ?_) (fun he => ?_)⟩
    rotate_left
    · have he' : other = [] := he
      subst he'
      rw [comN_nil] at hcom
      refine ⟨_, rfl, k po _ (s3.trans t4) fo ?_⟩
      rw [← hcom]
      exact t4 _ _ ho
    have hne' : other ≠ [] := hne
    obtain ⟨m1, rfl⟩ : ∃ m1, m = m1 + 1 := by
      cases m with
      | zero => exact absurd hrun3 hne'
      | succ m1 => exact ⟨m1, rfl⟩
    obtain ⟨⟨otr, ttr, nb, bo, bt, hsz, htl⟩, hrun5⟩ := (show other = [] ∨ (FitC one other ∧ RunC m1 other (plainL (divR one other))) from hrun3).resolve_left hne'
    have hcom5 : comN m1 other (plainL (divR one other)) = comN n one' other' := by
      rw [← hcom]
      show _ = if other = [] then one else comN m1 other (plainL (divR one other))
      rw [if_neg hne']
    generalize hH5 : upd H3 q (.lst []) = H5 at t4 ⊢
    refine ⟨fun σ'' H'' => ∃ m', m' < m1 + 1 ∧ ∃ (po pt : Addr) (one other : List Int) (z4 : Option V), σ'' = [some (.ref a), some (.ref b), some (.ref po), some (.ref pt), z4] ∧ Same H H'' ∧ H'' po = some (.lst (one.map V.int)) ∧ H'' pt = some (.lst (other.map V.int)) ∧ H po = none ∧ H pt = none ∧ RunC m' one other ∧ comN m' one other = comN n one' other', fun _ _ h => h, ?_⟩
    have hrl : (divR one other).length ≤ 1000000 := by
      have := div_lenR (a := one) hne'
      omega
    refine rd_sa ⟨_, rfl, _, rfl, po, pt, one, other, nb, rfl, t4 _ _ ho, t4 _ _ ht, hne', bo, bt, hsz, htl, fun t q' r H8 sm8 _ _ _ _ _ _ et _ er => ?_⟩
    refine ⟨t, _, _, _, rfl, rfl, SqT.of et, rfl, r, _, rfl, er, div_trR _ _, hrl, fun p9 H9 sm9 hp9 e9 => ?_⟩
    refine rd_sa ⟨_, rfl, ?_⟩
    refine ⟨_, rfl, ?_⟩
    have t9 := (t4.trans sm8).trans sm9
    exact ⟨m1, Nat.lt_succ_self _, pt, p9, other, _, _, rfl, s3.trans t9, t9 _ _ ht, e9, ft, s3.free ((t4.trans sm8).free hp9), hrun5, hcom5⟩
def spPart : Sp := fun vs H Q _ => ∃ (a b : Addr) (xs ys : List Int) (n : Nat), vs = [.ref a, .ref b] ∧ H a = some (.lst (xs.map V.int)) ∧ H b = some (.lst (ys.map V.int)) ∧ Tr xs ∧ Tr ys ∧ AllB n xs ∧ AllB n ys ∧ (xs.length + 2) * (n + 1) ≤ 1000000 ∧ ys.length ≤ 1000000 ∧ ys ≠ [] ∧ divR xs ys = [] ∧ mkL H Q (plainL (divQ xs ys))
theorem ok_part {f : Addr} {fd : FuncData} (F : Fun K "part" "part" s_part f fd) (T : Txt K mg) {f_divided : Addr} {fd_divided : FuncData} (C_divided : Cal P w K mg base 2 "divided" ["first", "second"] spDiv f_divided fd_divided) {f_plain : Addr} {fd_plain : FuncData} (C_plain : Cal P w K mg base 34 "plain" ["row"] spPlain f_plain fd_plain) : FnOk P w K mg base CX0 35 f fd ["row", "divisor"] spPart := by
  obtain ⟨G_divided, m_divided, k_divided, b_divided⟩ := C_divided
  obtain ⟨G_plain, m_plain, k_plain, b_plain⟩ := C_plain
  refine F.ok sc_part (fun vs H Q E h => ?_) (fun cdv A outer s H vs Q E hr h => ?_)
  · obtain ⟨a, b, xs, ys, n, rfl, _⟩ := h
    rfl
  · obtain ⟨a, b, xs, ys, nb, rfl, hA, hB, xtr, ytr, bx, by', hsz, hyn, hy, hR, k⟩ := h
    have hu := hr.units
    refine ⟨_, (pss_cons (ps_set (i := 2) sc_part.nd rfl (Or.inl rfl) (pe_call G_divided (hr.mono (by decide)) rfl m_divided k_divided b_divided .nil pass0 (pa_cons (pv 0) (pa_cons (pv 1) pa_nil))))
      (pss_cons (ps_if (pt_cmpR (op_neLK (K := K) rfl hu) (pe_ix (ix_tupK (K := K) rfl) (pv 2) pe_int (fun _ _ => rfl)) (pe_lst pa_nil) (nomark _))
        (pss_one ps_never)
        pss_nil)
      (pss_one (ps_ret (pe_call G_plain (hr.mono (by decide)) rfl m_plain k_plain b_plain .nil pass0 (pa_cons (pe_ix (ix_tupK (K := K) rfl) (pv 2) pe_int (fun _ _ => rfl)) pa_nil)))))), ?_⟩
    refine rd_sa ⟨_, rfl, _, rfl, a, b, xs, ys, nb, rfl, hA, hB, hy, bx, by', hsz, hyn, fun t q r H1 sm1 ft fq fr _ _ _ et eq er => ?_⟩
    refine rd_sr ⟨_, rfl, t, _, _, _, rfl, rfl, SqT.of et, rfl, Nat.zero_le _, fun p hp => ?_⟩
    have s2 := Same.upd_new (o := .lst []) hp
    refine ⟨r, p, _, [], rfl, rfl, SqL.of (s2 _ _ er), SqL.of upd_same, _, rfl, rd_ndec (fun h => absurd hR h) (fun h => ?_)⟩
    have lq := div_lenQ (a := xs) hy
    have hxl : xs.length ≤ 1000000 := by
      have := Nat.mul_le_mul_left (xs.length + 2) (show 1 ≤ nb + 1 by omega)
      omega
    have hN : divN xs ys ≤ xs.length + 1 := by unfold divN; omega
    have hN2 : divN xs ys ≤ xs.length := by
      have := List.length_pos_iff.mpr hy
      unfold divN; omega
    exact ⟨_, rfl, t, _, _, _, rfl, rfl, SqT.of (s2 _ _ et), rfl, q, divQ xs ys, rfl, s2 _ _ eq, div_trQ hy xtr ytr, by omega, fun p' H' sm' hp' e' => k p' H' ((sm1.then_new hp).trans sm') ((sm1.then_new hp).free hp') e'⟩
--SPLIT
theorem ok_added {f : Addr} {fd : FuncData} (F : Fun K "added" "added" s_added f fd) (T : Txt K mg) {f_poly : Addr} {fd_poly : FuncData} (C_poly : Cal P w K mg base 1 "poly" ["row"] (spTrim K) f_poly fd_poly) {f_coefficient : Addr} {fd_coefficient : FuncData} (C_coefficient : Cal P w K mg base 1 "coefficient" ["row", "place"] (spCell K) f_coefficient fd_coefficient) : FnOk P w K mg base CX0 2 f fd ["first", "second"] (sp2L K addL) := by
  obtain ⟨G_poly, m_poly, k_poly, b_poly⟩ := C_poly
  obtain ⟨G_coefficient, m_coefficient, k_coefficient, b_coefficient⟩ := C_coefficient
  refine F.ok sc_added (fun vs H Q E h => ?_) (fun cdv A outer s H vs Q E hr h => ?_)
  · obtain ⟨a, b, xs, ys, rfl, _⟩ := h
    rfl
  · obtain ⟨a, b, xs, ys, rfl, hA, hB, hx, hy, k⟩ := h
    refine ⟨_, (pss_cons (ps_set (i := 2) sc_added.nd rfl (Or.inl rfl) (pe_callB (call_max2 rfl) (by rfl) T.max_ PyProof.Rows.boot_max (pa_cons (pe_callB (call_lenK (K := K) rfl) (by rfl) T.len_ PySem.boot_len (pa_cons (pv 0) pa_nil)) (pa_cons (pe_callB (call_lenK (K := K) rfl) (by rfl) T.len_ PySem.boot_len (pa_cons (pv 1) pa_nil)) pa_nil))))
      (pss_one (ps_ret (pe_call G_poly (hr.mono (by decide)) rfl m_poly k_poly b_poly .nil pass0 (pa_cons (pe_comp (own := ["k"]) (fr := ["first", "second"]) (js := [0, 1]) (by walk_at "comp_ok") rfl (pi_range1 rfl T.range_ (pa_cons (pv 2) pa_nil)) (fun _ _ _ _ => (pg_name (i := 0) (show List.Nodup (["k", "first", "second"] : List Str) from by decide +kernel) rfl (Or.inl rfl))) (fun _ _ _ _ => (pe_op op_add (pe_call G_coefficient (hr.mono (by decide)) rfl m_coefficient k_coefficient b_coefficient .nil pass0 (pa_cons (pv 1) (pa_cons (pv 0) pa_nil))) (pe_call G_coefficient (hr.mono (by decide)) rfl m_coefficient k_coefficient b_coefficient .nil pass0 (pa_cons (pv 2) (pa_cons (pv 0) pa_nil)))))) pa_nil))))), ?_⟩
    refine ⟨_, rfl, a, _, rfl, .inl hA, _, rfl, b, _, rfl, .inl hB, _, _, rfl, ?_⟩
    rw [max_eq, List.length_map, List.length_map]
    have hz : max xs.length ys.length ≤ sizeLine := by have := sizeLine_eq; omega
    refine ⟨_, rfl, _, rfl, (small62 hz).1, (small62 hz).2, comp_range (lo := 0) (n := max xs.length ys.length) (fun i zs σ' H' => ∃ z : Option V, σ' = [z, some (.ref a), some (.ref b)] ∧ zs = ((List.range i).map fun k => V.int (cf xs k + cf ys k)) ∧ H = H') hz ⟨none, rfl, rfl, rfl⟩ ?_ ?_ ?_⟩
    · rintro i zs σ' H' _ ⟨z, rfl, rfl, rfl⟩
      simp
    · rintro i zs σ' H' hi ⟨z, rfl, rfl, rfl⟩
      refine ⟨_, rfl, _, rfl, a, xs, i, ?_, hA, _, rfl, _, rfl, b, ys, i, ?_, hB, _, _, rfl, rfl, _, rfl, ?_, rfl⟩
      · show [V.ref a, V.int (0 + (i : Int))] = _
        rw [Int.zero_add]
      · show [V.ref b, V.int (0 + (i : Int))] = _
        rw [Int.zero_add]
      · rw [List.range_succ, List.map_append]; rfl
    · rintro zs σ' H' p ⟨z, rfl, rfl, rfl⟩ hp
      refine ⟨p, (List.range (max xs.length ys.length)).map fun k => cf xs k + cf ys k, rfl, SqL.of ?_, ?_⟩
      · rw [upd_same, List.map_map]; rfl
      · intro p' H' sm hp' e
        refine k p' H' ((Same.upd_new hp).trans sm) ((Same.upd_new hp).free hp') ?_
        rw [e, addL_eq]
def spMul : Sp := fun vs H Q _ => ∃ (a b : Addr) (xs ys : List Int), vs = [.ref a, .ref b] ∧ H a = some (.lst (xs.map V.int)) ∧ H b = some (.lst (ys.map V.int)) ∧ xs.length ≤ 1000000 ∧ ys.length ≤ 1000000 ∧ AllB 1000000 xs ∧ AllB 1000000 ys ∧ mkL H Q (mulL xs ys)
theorem ok_multiplied {f : Addr} {fd : FuncData} (F : Fun K "multiplied" "multiplied" s_multiplied f fd) (T : Txt K mg) : FnOk P w K mg base CX0 1 f fd ["first", "second"] spMul := by
  refine F.ok sc_multiplied (fun vs H Q E h => ?_) (fun cdv A outer s H vs Q E hr h => ?_)
  · obtain ⟨a, b, xs, ys, rfl, _⟩ := h
    rfl
  · obtain ⟨a, b, xs, ys, rfl, hA, hB, hx, hy, bx, by', k⟩ := h
    have hu := hr.units
    refine ⟨_, (pss_cons (ps_if (PW.pt (pw_or (pt_cmpR (op_eqLK (K := K) rfl hu) (pv 0) (pe_lst pa_nil) (nomark _)) (pw_or1 (pt_cmpR (op_eqLK (K := K) rfl hu) (pv 1) (pe_lst pa_nil) (nomark _)))))
        (pss_one (ps_ret (pe_lst pa_nil)))
        pss_nil)
      (pss_cons (ps_set (i := 2) sc_multiplied.nd rfl (Or.inl rfl) (pe_op op_rep (pe_lst (pa_cons pe_int pa_nil)) (pe_op op_sub (pe_op op_add (pe_callB (call_lenK (K := K) rfl) (by rfl) T.len_ PySem.boot_len (pa_cons (pv 0) pa_nil)) (pe_callB (call_lenK (K := K) rfl) (by rfl) T.len_ PySem.boot_len (pa_cons (pv 1) pa_nil))) pe_int)))
      (pss_cons (ps_for PassesOwn.never rfl (pi_enum rfl T.enumerate_ (pa_cons (pv 0) pa_nil)) (pg_tup rfl (pgs_cons (pg_name (i := 3) sc_multiplied.nd rfl (Or.inl rfl)) (pgs_cons (pg_name (i := 4) sc_multiplied.nd rfl (Or.inl rfl)) pgs_nil)))
        (pss_one (ps_for PassesOwn.never rfl (pi_enum rfl T.enumerate_ (pa_cons (pv 1) pa_nil)) (pg_tup rfl (pgs_cons (pg_name (i := 5) sc_multiplied.nd rfl (Or.inl rfl)) (pgs_cons (pg_name (i := 6) sc_multiplied.nd rfl (Or.inl rfl)) pgs_nil)))
            (pss_one (ps_asg (pe_op op_add (pe_ix (ix_listK (K := K) rfl) (pv 2) (pe_op op_add (pv 3) (pv 5)) (fun _ _ => rfl)) (pe_op op_mulB (pv 4) (pv 6))) (pg_sub (pv 2) (pe_op op_add (pv 3) (pv 5)) set_list))))))
      (pss_one (ps_ret (pv 2)))))), ?_⟩
    refine ⟨_, rfl, Nat.zero_le _, fun p1 hp1 => ?_⟩
    have s1 : Same H (upd H p1 (.lst [])) := Same.upd_new hp1
    refine ⟨a, p1, xs, [], rfl, rfl, SqL.of (s1 _ _ hA), SqL.of upd_same, _, rfl, ?_⟩
    refine rd_dec (fun h0 => ?_) (fun h0 => ?_)
    · refine rd_true ⟨Nat.zero_le _, fun p2 hp2 => k p2 _ (s1.then_new hp2) (s1.free hp2) ?_⟩
      rw [upd_same]; unfold mulL; rw [if_pos (.inl h0)]; rfl
    refine ⟨_, rfl, Nat.zero_le _, fun p2 hp2 => ?_⟩
    have s2 : Same H (upd (upd H p1 (.lst [])) p2 (.lst [])) := s1.then_new hp2
    refine ⟨b, p2, ys, [], rfl, rfl, SqL.of (s2 _ _ hB), SqL.of upd_same, _, rfl, ?_⟩
    refine rd_dec (fun h1 => ?_) (fun h1 => ?_)
    · refine ⟨Nat.zero_le _, fun p3 hp3 => k p3 _ (s2.then_new hp3) (s2.free hp3) ?_⟩
      rw [upd_same]; unfold mulL; rw [if_pos (.inr h1)]; rfl
    generalize upd (upd H p1 (.lst [])) p2 (.lst []) = H2 at s2 ⊢
    obtain ⟨la, ea⟩ : ∃ la, xs.length = la + 1 := ⟨xs.length - 1, by have := List.length_pos_iff.mpr h0; omega⟩
    obtain ⟨lb, eb⟩ : ∃ lb, ys.length = lb + 1 := ⟨ys.length - 1, by have := List.length_pos_iff.mpr h1; omega⟩
    refine ⟨(by show 1 ≤ sizeLine; decide), fun p3 hp3 => ?_⟩
    have s3 := s2.then_new (o := .lst [V.int 0]) hp3
    have big := sizeLine_eq
    refine ⟨_, rfl, a, _, rfl, .inl (SqL.of (s3 _ _ hA)), _, rfl, b, _, rfl, .inl (SqL.of (s3 _ _ hB)), _, _, rfl, rfl, _, _, rfl, rfl, p3, _, _, rfl, rfl, upd_same, ?_, ?_, ?_, fun p hp => ?_⟩
    · rw [List.length_map, List.length_map]; omega
    · rw [List.length_map, List.length_map]; omega
    · rw [List.length_map, List.length_map]; show 1 * _ ≤ _; omega
    have en : (((xs.map V.int).length : Int) + ((ys.map V.int).length : Int) - 1).toNat = la + lb + 1 := by rw [List.length_map, List.length_map]; omega
    rw [en, rep_zero]
    have s4 := s3.then_new (o := .lst ((List.replicate (la + lb + 1) (0 : Int)).map V.int)) hp
    have npa : a ≠ p := s3.ne hA hp
    have npb : b ≠ p := s3.ne hB hp
    generalize hH4 : upd (upd H2 p3 (.lst [V.int 0])) p (.lst ((List.replicate (la + lb + 1) (0 : Int)).map V.int)) = H4 at s4 ⊢
    have hp4 : H4 p = some (.lst ((List.replicate (la + lb + 1) (0 : Int)).map V.int)) := by rw [← hH4, upd_same]
    refine ⟨_, rfl, a, rfl, ⟨_, SqL.of (s4 _ _ hA)⟩, for_enum (K := K) (a := a) (xs := xs.map V.int) (fun j σ' H' => ∃ (acc : List Int) (z3 z4 z5 z6 : Option V), σ' = [some (.ref a), some (.ref b), some (.ref p), z3, z4, z5, z6] ∧ SameB p H4 H' ∧ H' p = some (.lst (acc.map V.int)) ∧ acc.length = la + lb + 1 ∧ ∀ n, n < acc.length → cf acc n = sm xs ys n j)
      ⟨List.replicate (la + lb + 1) 0, none, none, none, none, rfl, SameB.refl _ _, hp4, by simp, fun n _ => by rw [cf_replicate]; rfl⟩ ?_ ?_ ?_⟩
    · rintro j σ' H' _ ⟨acc, z3, z4, z5, z6, rfl, sb, _⟩
      exact SqL.of (sb _ _ npa (s4 _ _ hA))
    · rintro j x σ' H' q hj ⟨acc, z3, z4, z5, z6, rfl, sb, hpa, hal, hac⟩ hq
      rw [List.getElem?_map] at hj
      have hjl : j < xs.length := by
        apply Classical.byContradiction
        intro hn
        rw [List.getElem?_eq_none_iff.mpr (Nat.le_of_not_lt hn)] at hj
        cases hj
      rw [get_cf hjl] at hj
      obtain rfl := Option.some.inj hj
      refine ⟨q, _, rfl, SqT.of upd_same, rfl, _, _, rfl, _, _, rfl, rfl, ?_⟩
      have nqp : p ≠ q := ne_of_none hpa hq
      have sb1 : SameB p H4 (upd H' q (.tup [.int j, .int (cf xs j)])) := sb.then_new hq
      refine ⟨_, rfl, b, rfl, ⟨_, SqL.of (sb1 _ _ npb (s4 _ _ hB))⟩, for_enum (K := K) (a := b) (xs := ys.map V.int) (fun i σ' H' => ∃ (acc : List Int) (z5 z6 : Option V), σ' = [some (.ref a), some (.ref b), some (.ref p), some (.int j), some (.int (cf xs j)), z5, z6] ∧ SameB p H4 H' ∧ H' p = some (.lst (acc.map V.int)) ∧ acc.length = la + lb + 1 ∧ ∀ n, n < acc.length → cf acc n = sm xs ys n j + (if j ≤ n ∧ n - j < i then tm xs ys n j else 0))
        ⟨acc, z5, z6, rfl, sb1, by rw [upd_ne nqp]; exact hpa, hal, mul_start hac⟩ ?_ ?_ ?_⟩
      · rintro i σ' H' _ ⟨acc, z5, z6, rfl, sb, _⟩
        exact SqL.of (sb _ _ npb (s4 _ _ hB))
      · rintro i x σ' H' q hi ⟨acc, z5, z6, rfl, sb, hpa, hal, hac⟩ hq
        rw [List.getElem?_map] at hi
        have hil : i < ys.length := by
          apply Classical.byContradiction
          intro hn
          rw [List.getElem?_eq_none_iff.mpr (Nat.le_of_not_lt hn)] at hi
          cases hi
        rw [get_cf hil] at hi
        obtain rfl := Option.some.inj hi
        refine ⟨q, _, rfl, SqT.of upd_same, rfl, _, _, rfl, _, _, rfl, rfl, ?_⟩
        have nqp : p ≠ q := ne_of_none hpa hq
        have hpa' : upd H' q (.tup [.int i, .int (cf ys i)]) p = some (.lst (acc.map V.int)) := by rw [upd_ne nqp]; exact hpa
        have hji : j + i < acc.length := by omega
        have eji : ((j : Nat) : Int) + ((i : Nat) : Int) = ((j + i : Nat) : Int) := by omega
        refine ⟨_, rfl, _, rfl, _, rfl, _, _, rfl, rfl, p, _, _, _, rfl, rfl, SqL.of hpa', at_map eji hji, _, rfl, _, rfl, _, _, rfl, rfl, ⟨bx.cf j, by'.cf i⟩, _, _, rfl, rfl, _, rfl, _, rfl, _, rfl, _, _, rfl, rfl, p, _, _, j + i, rfl, rfl, hpa', ixN_nat eji (by rw [List.length_map]; exact hji), ?_⟩
        refine ⟨acc.set (j + i) (cf acc (j + i) + cf xs j * cf ys i), _, _, rfl, (sb.then_new hq).then_upd, by rw [upd_same, map_set_int], by rw [List.length_set]; exact hal, mul_step hjl hil hji hac⟩
      · rintro σ' H' ⟨acc, z5, z6, rfl, sb, hpa, hal, hac⟩
        rw [List.length_map] at hac
        exact ⟨acc, _, _, _, _, rfl, sb, hpa, hal, mul_row hac⟩
    · rintro σ' H' ⟨acc, z3, z4, z5, z6, rfl, sb, hpa, hal, hac⟩
      rw [List.length_map] at hac
      refine ⟨_, rfl, k p H' (fun b' o e => sb b' o (s3.ne e hp) (s4 b' o e)) (s3.free hp) ?_⟩
      rw [hpa]
      have e : acc = mulL xs ys := by
        apply ext_cf
        · rw [hal]; unfold mulL; rw [if_neg (by intro z; exact z.elim h0 h1), List.length_map, List.length_range]; omega
        · intro n _
          rw [cf_mulL, mul_end (by omega) hac]
      rw [e]
def spPlus (C : Addr) : Sp := fun vs H Q _ => ∃ (p q : Addr) (t b u d : Int) (i j : Nat), vs = [.ref p, .ref q] ∧ RA C H p t b ∧ RA C H q u d ∧ Bits 100000 t ∧ Bits i b ∧ Bits 100000 u ∧ Bits j d ∧ i + j ≤ 9000 ∧ 0 < b ∧ 0 < d ∧ mkR C H Q (t * d + u * b) (b * d)
theorem ok_Ratio_plus {C f : Addr} {fd : FuncData} (F : Fun K "plus" "Ratio.plus" s_Ratio_plus f fd) (T : Txt K mg) (R : RCI K mg C) {f_Ratio : Addr} {fd_Ratio : FuncData} {ds_Ratio : List Value} (C_Ratio : KCal P w K mg base 2 C "Ratio" ["self", "top", "bottom"] (spInit C) f_Ratio fd_Ratio ds_Ratio [.int 1]) : FnOk P w K mg base CX0 4 f fd ["self", "other"] (spPlus C) := by
  obtain ⟨G_Ratio, M_Ratio, m_Ratio, b_Ratio, bD_Ratio, d_Ratio⟩ := C_Ratio
  refine F.ok sc_Ratio_plus (fun vs H Q E h => ?_) (fun cdv A outer s H vs Q E hr h => ?_)
  · obtain ⟨p, q, t, b, u, d, i, j, rfl, _⟩ := h
    rfl
  · obtain ⟨p, q, t, b, u, d, i, j, rfl, ⟨dx, hp⟩, ⟨dy, hq⟩, bt, bb, bu, bd, hij, hb, hd, k⟩ := h
    have bb' : Bits 1000000 b := bb.mono (by omega)
    have bd' : Bits 1000000 d := bd.mono (by omega)
    refine ⟨_, (pss_one (ps_ret (pe_make M_Ratio G_Ratio (hr.mono (by decide)) rfl m_Ratio b_Ratio .nil pass0 (pa_cons (pe_op op_add (pe_op op_mulB (pe_fldK (K := K) rfl (pv 0) rfl) (pe_fldK (K := K) rfl (pv 1) rfl)) (pe_op op_mulB (pe_fldK (K := K) rfl (pv 1) rfl) (pe_fldK (K := K) rfl (pv 0) rfl))) (pa_cons (pe_op op_mulB (pe_fldK (K := K) rfl (pv 0) rfl) (pe_fldK (K := K) rfl (pv 1) rfl)) pa_nil))))), ?_⟩
    refine ⟨_, rfl, p, C, dx, _, _, rfl, hp, R.cl, R.nT, flds_top _ _, _, rfl, q, C, dy, _, _, rfl, hq, R.cl, R.nB, flds_bottom _ _, _, _, rfl, rfl, ⟨bt.mono (by decide), bd'⟩, ?_⟩
    refine ⟨_, rfl, q, C, dy, _, _, rfl, hq, R.cl, R.nT, flds_top _ _, _, rfl, p, C, dx, _, _, rfl, hp, R.cl, R.nB, flds_bottom _ _, _, _, rfl, rfl, ⟨bu.mono (by decide), bb'⟩, _, _, rfl, rfl, ?_⟩
    refine ⟨_, rfl, p, C, dx, _, _, rfl, hp, R.cl, R.nB, flds_bottom _ _, _, rfl, q, C, dy, _, _, rfl, hq, R.cl, R.nB, flds_bottom _ _, _, _, rfl, rfl, ⟨bb', bd'⟩, ?_⟩
    exact make_R (Int.ne_of_gt (Int.mul_pos hb hd)) ((bb.mul bd).mono hij) k
def spMinus (C : Addr) : Sp := fun vs H Q _ => ∃ (p q : Addr) (t b u d : Int) (i j : Nat), vs = [.ref p, .ref q] ∧ RA C H p t b ∧ RA C H q u d ∧ Bits 100000 t ∧ Bits i b ∧ Bits 100000 u ∧ Bits j d ∧ i + j ≤ 9000 ∧ 0 < b ∧ 0 < d ∧ mkR C H Q (t * d - u * b) (b * d)
theorem ok_Ratio_minus {C f : Addr} {fd : FuncData} (F : Fun K "minus" "Ratio.minus" s_Ratio_minus f fd) (T : Txt K mg) (R : RCI K mg C) {f_Ratio : Addr} {fd_Ratio : FuncData} {ds_Ratio : List Value} (C_Ratio : KCal P w K mg base 2 C "Ratio" ["self", "top", "bottom"] (spInit C) f_Ratio fd_Ratio ds_Ratio [.int 1]) : FnOk P w K mg base CX0 4 f fd ["self", "other"] (spMinus C) := by
  obtain ⟨G_Ratio, M_Ratio, m_Ratio, b_Ratio, bD_Ratio, d_Ratio⟩ := C_Ratio
  refine F.ok sc_Ratio_minus (fun vs H Q E h => ?_) (fun cdv A outer s H vs Q E hr h => ?_)
  · obtain ⟨p, q, t, b, u, d, i, j, rfl, _⟩ := h
    rfl
  · obtain ⟨p, q, t, b, u, d, i, j, rfl, ⟨dx, hp⟩, ⟨dy, hq⟩, bt, bb, bu, bd, hij, hb, hd, k⟩ := h
    have bb' : Bits 1000000 b := bb.mono (by omega)
    have bd' : Bits 1000000 d := bd.mono (by omega)
    refine ⟨_, (pss_one (ps_ret (pe_make M_Ratio G_Ratio (hr.mono (by decide)) rfl m_Ratio b_Ratio .nil pass0 (pa_cons (pe_op op_sub (pe_op op_mulB (pe_fldK (K := K) rfl (pv 0) rfl) (pe_fldK (K := K) rfl (pv 1) rfl)) (pe_op op_mulB (pe_fldK (K := K) rfl (pv 1) rfl) (pe_fldK (K := K) rfl (pv 0) rfl))) (pa_cons (pe_op op_mulB (pe_fldK (K := K) rfl (pv 0) rfl) (pe_fldK (K := K) rfl (pv 1) rfl)) pa_nil))))), ?_⟩
    refine ⟨_, rfl, p, C, dx, _, _, rfl, hp, R.cl, R.nT, flds_top _ _, _, rfl, q, C, dy, _, _, rfl, hq, R.cl, R.nB, flds_bottom _ _, _, _, rfl, rfl, ⟨bt.mono (by decide), bd'⟩, ?_⟩
    refine ⟨_, rfl, q, C, dy, _, _, rfl, hq, R.cl, R.nT, flds_top _ _, _, rfl, p, C, dx, _, _, rfl, hp, R.cl, R.nB, flds_bottom _ _, _, _, rfl, rfl, ⟨bu.mono (by decide), bb'⟩, _, _, rfl, rfl, ?_⟩
    refine ⟨_, rfl, p, C, dx, _, _, rfl, hp, R.cl, R.nB, flds_bottom _ _, _, rfl, q, C, dy, _, _, rfl, hq, R.cl, R.nB, flds_bottom _ _, _, _, rfl, rfl, ⟨bb', bd'⟩, ?_⟩
    exact make_R (Int.ne_of_gt (Int.mul_pos hb hd)) ((bb.mul bd).mono hij) k
def spTimes (C : Addr) : Sp := fun vs H Q _ => ∃ (p q : Addr) (t b u d : Int) (i j : Nat), vs = [.ref p, .ref q] ∧ RA C H p t b ∧ RA C H q u d ∧ Bits 100000 t ∧ Bits i b ∧ Bits 100000 u ∧ Bits j d ∧ i + j ≤ 9000 ∧ 0 < b ∧ 0 < d ∧ mkR C H Q (t * u) (b * d)
theorem ok_Ratio_times {C f : Addr} {fd : FuncData} (F : Fun K "times" "Ratio.times" s_Ratio_times f fd) (T : Txt K mg) (R : RCI K mg C) {f_Ratio : Addr} {fd_Ratio : FuncData} {ds_Ratio : List Value} (C_Ratio : KCal P w K mg base 2 C "Ratio" ["self", "top", "bottom"] (spInit C) f_Ratio fd_Ratio ds_Ratio [.int 1]) : FnOk P w K mg base CX0 4 f fd ["self", "other"] (spTimes C) := by
  obtain ⟨G_Ratio, M_Ratio, m_Ratio, b_Ratio, bD_Ratio, d_Ratio⟩ := C_Ratio
  refine F.ok sc_Ratio_times (fun vs H Q E h => ?_) (fun cdv A outer s H vs Q E hr h => ?_)
  · obtain ⟨p, q, t, b, u, d, i, j, rfl, _⟩ := h
    rfl
  · obtain ⟨p, q, t, b, u, d, i, j, rfl, ⟨dx, hp⟩, ⟨dy, hq⟩, bt, bb, bu, bd, hij, hb, hd, k⟩ := h
    refine ⟨_, (pss_one (ps_ret (pe_make M_Ratio G_Ratio (hr.mono (by decide)) rfl m_Ratio b_Ratio .nil pass0 (pa_cons (pe_op op_mulB (pe_fldK (K := K) rfl (pv 0) rfl) (pe_fldK (K := K) rfl (pv 1) rfl)) (pa_cons (pe_op op_mulB (pe_fldK (K := K) rfl (pv 0) rfl) (pe_fldK (K := K) rfl (pv 1) rfl)) pa_nil))))), ?_⟩
    refine ⟨_, rfl, p, C, dx, _, _, rfl, hp, R.cl, R.nT, flds_top _ _, _, rfl, q, C, dy, _, _, rfl, hq, R.cl, R.nT, flds_top _ _, _, _, rfl, rfl, ⟨bt.mono (by decide), bu.mono (by decide)⟩, ?_⟩
    refine ⟨_, rfl, p, C, dx, _, _, rfl, hp, R.cl, R.nB, flds_bottom _ _, _, rfl, q, C, dy, _, _, rfl, hq, R.cl, R.nB, flds_bottom _ _, _, _, rfl, rfl, ⟨bb.mono (by omega), bd.mono (by omega)⟩, ?_⟩
    exact make_R (Int.ne_of_gt (Int.mul_pos hb hd)) ((bb.mul bd).mono hij) k
--SPLIT
theorem drop_cons {l : List Int} {i : Nat} {c : Int} (hi : i < l.length) (e : l[l.length - 1 - i]? = some c) : l.drop (l.length - (i + 1)) = c :: l.drop (l.length - i) := by
  have h : l.length - (i + 1) = l.length - 1 - i := by omega
  rw [h, List.drop_eq_getElem_cons (by omega)]
  have h2 : l.length - 1 - i + 1 = l.length - i := by omega
  rw [h2]
  have h3 := List.getElem?_eq_getElem (l := l) (i := l.length - 1 - i) (by omega)
  rw [h3] at e
  rw [Option.some.inj e]
theorem pow2_pos (n : Nat) : (0 : Int) < 2 ^ n := Int.pow_pos (by decide)
theorem pow2_cast (n : Nat) : (2 : Int) ^ n = ((2 ^ n : Nat) : Int) := by rw [Int.natCast_pow]; rfl
theorem pow2_bits {n k : Nat} (h : n < k) : Bits k ((2 : Int) ^ n) := by
  rw [pow2_cast]
  show (((2 ^ n : Nat) : Int)).natAbs < 2 ^ k
  rw [Int.natAbs_natCast]
  exact (Nat.pow_lt_pow_iff_right (by decide)).mpr h
theorem two6 : Bits 1000000 (2 : Int) := Bits.mono (j := 2) (by show (2 : Int).natAbs < 2 ^ 2; decide) (by decide)
theorem one6 : Bits 1000000 (1 : Int) := Bits.mono (j := 1) (by show (1 : Int).natAbs < 2 ^ 1; decide) (by decide)
def spHvs (C : Addr) : Sp := fun vs H Q _ => ∃ (r wd : Addr) (r1 r2 w1 w2 : Int) (kr kw : Nat), vs = [.ref r, .ref wd] ∧ RA C H r r1 r2 ∧ RA C H wd w1 w2 ∧ 0 < r2 ∧ 0 < w1 ∧ Bits kr r1 ∧ Bits 100000 r2 ∧ Bits 100000 w1 ∧ Bits kw w2 ∧ kr + kw ≤ 100000 ∧ ∀ n : Nat, n ≤ kr + kw → r1 * w2 ≤ w1 * r2 * 2 ^ n → (∀ j : Nat, j < n → w1 * r2 * 2 ^ j < r1 * w2) → Q (.int n) H
theorem ok_halvings {C f : Addr} {fd : FuncData} (F : Fun K "halvings" "halvings" s_halvings f fd) (T : Txt K mg) (R : RCI K mg C) : FnOk P w K mg base CX0 1 f fd ["reach", "width"] (spHvs C) := by
  refine F.ok sc_halvings (fun vs H Q E h => ?_) (fun cdv A outer s H vs Q E hr h => ?_)
  · obtain ⟨r, wd, r1, r2, w1, w2, kr, kw, rfl, _⟩ := h
    rfl
  · obtain ⟨r, wd, r1, r2, w1, w2, kr, kw, rfl, ⟨dr, hR⟩, ⟨dw, hW⟩, hr2, hw1, br1, br2, bw1, bw2, hkk, k⟩ := h
    refine ⟨_, (pss_cons (ps_set (i := 2) sc_halvings.nd rfl (Or.inl rfl) (pe_op op_mulB (pe_fldK (K := K) rfl (pv 0) rfl) (pe_fldK (K := K) rfl (pv 1) rfl)))
      (pss_cons (ps_set (i := 3) sc_halvings.nd rfl (Or.inl rfl) (pe_op op_mulB (pe_fldK (K := K) rfl (pv 1) rfl) (pe_fldK (K := K) rfl (pv 0) rfl)))
      (pss_cons (ps_set (i := 4) sc_halvings.nd rfl (Or.inl rfl) pe_int)
      (pss_cons (ps_while PassesOwn.never (pt_cmpR op_gt (pv 2) (pv 3) (nomark _))
        (pss_cons (ps_set (i := 3) sc_halvings.nd rfl (Or.inl rfl) (pe_op op_mulB pe_int (pv 3)))
          (pss_one (ps_set (i := 4) sc_halvings.nd rfl (Or.inl rfl) (pe_op op_add (pv 4) pe_int)))))
      (pss_one (ps_ret (pv 4))))))), ?_⟩
    refine rd_sa ⟨_, rfl, r, C, dr, _, _, rfl, hR, R.cl, R.nT, flds_top _ _, _, rfl, wd, C, dw, _, _, rfl, hW, R.cl, R.nB, flds_bottom _ _, _, _, rfl, rfl, ⟨br1.mono (by omega), bw2.mono (by omega)⟩, ?_⟩
    refine rd_sa ⟨_, rfl, wd, C, dw, _, _, rfl, hW, R.cl, R.nT, flds_top _ _, _, rfl, r, C, dr, _, _, rfl, hR, R.cl, R.nB, flds_bottom _ _, _, _, rfl, rfl, ⟨bw1.mono (by decide), br2.mono (by decide)⟩, ?_⟩
    have bW : Bits (kr + kw) (r1 * w2) := br1.mul bw2
    have g0 : 0 < w1 * r2 := Int.mul_pos hw1 hr2
    refine rd_sa ?_
    dsimp only
    generalize r1 * w2 = W at *
    generalize w1 * r2 = g at *
    show tSeq _ _ _ _ _
    have b0 : ∀ n : Nat, (∀ j : Nat, j < n → g * 2 ^ j < W) → n ≤ kr + kw := fun n hn => by
      rcases Nat.lt_or_ge (kr + kw) n with z | z
      · have h1 := hn (kr + kw) z
        have h2 : (2 : Int) ^ (kr + kw) ≤ g * 2 ^ (kr + kw) := by
          have := Int.mul_le_mul_of_nonneg_right (show (1 : Int) ≤ g by omega) (Int.le_of_lt (pow2_pos (kr + kw)))
          omega
        have h3 : W.natAbs < 2 ^ (kr + kw) := bW
        have h5 : (W.natAbs : Int) < ((2 ^ (kr + kw) : Nat) : Int) := Int.ofNat_lt.mpr h3
        rw [← pow2_cast] at h5
        generalize (2 : Int) ^ (kr + kw) = Y at *
        omega
      · exact z
    refine ⟨fun m σ' H' => ∃ n : Nat, σ' = [some (.ref r), some (.ref wd), some (.int W), some (.int (g * 2 ^ n)), some (.int n)] ∧ H = H' ∧ m = (W - g * 2 ^ n).toNat ∧ ∀ j : Nat, j < n → g * 2 ^ j < W, ⟨_, 0, by rw [Int.pow_zero, Int.mul_one]; rfl, rfl, rfl, fun j hj => absurd hj (Nat.not_lt_zero _)⟩, ?_⟩
    rintro m σ' H' ⟨n, rfl, rfl, rfl, hj⟩
    refine ⟨_, rfl, _, rfl, _, _, rfl, rfl, _, rfl, rd_dec (fun hgt => ?_) (fun hle => ?_)⟩
    · have hgt' : g * 2 ^ n < W := hgt
      have gp : 0 < g * 2 ^ n := Int.mul_pos g0 (pow2_pos n)
      have bg : Bits (kr + kw) (g * 2 ^ n) := bW.of_le (by omega)
      refine ⟨fun σ'' H'' => ∃ m', m' < (W - g * 2 ^ n).toNat ∧ ∃ n : Nat, σ'' = [some (.ref r), some (.ref wd), some (.int W), some (.int (g * 2 ^ n)), some (.int n)] ∧ H = H'' ∧ m' = (W - g * 2 ^ n).toNat ∧ ∀ j : Nat, j < n → g * 2 ^ j < W, fun _ _ h => h, ?_⟩
      have e2 : 2 * (g * 2 ^ n) = g * 2 ^ (n + 1) := by rw [Int.pow_succ]; grind
      refine rd_sa ⟨_, rfl, _, _, rfl, rfl, ⟨two6, bg.mono (by omega)⟩, ?_⟩
      refine rd_asg ⟨_, rfl, _, _, rfl, rfl, ?_⟩
      refine ⟨(W - g * 2 ^ (n + 1)).toNat, by rw [← e2]; omega, n + 1, by rw [← e2]; rfl, rfl, rfl, fun j h' => ?_⟩
      by_cases ej : j = n
      · subst ej; exact hgt'
      · exact hj j (by omega)
    · refine ⟨_, rfl, k n (b0 n hj) ?_ hj⟩
      have : ¬ g * 2 ^ n < W := hle
      omega
theorem rt_bits {k : Nat} {t b : Int} (hb : b ≠ 0) (h : Bits k t) : Bits k (rt t b) := h.of_le (rt_abs hb)
theorem rb_bits {k : Nat} {t b : Int} (hb : b ≠ 0) (h : Bits k b) : Bits k (rb t b) := h.of_le (rb_abs hb)
theorem no_plus : ¬ (("plus" : Str) = "bottom") ∧ ¬ (("plus" : Str) = "top") := ⟨by decide +kernel, by decide +kernel⟩
theorem no_minus : ¬ (("minus" : Str) = "bottom") ∧ ¬ (("minus" : Str) = "top") := ⟨by decide +kernel, by decide +kernel⟩
theorem no_times : ¬ (("times" : Str) = "bottom") ∧ ¬ (("times" : Str) = "top") := ⟨by decide +kernel, by decide +kernel⟩
def spAlo (C : Addr) : Sp := fun vs H Q _ => ∃ (l r : Addr) (l1 l2 r1 r2 pl pc : Int) (i j n : Nat), vs = [.ref l, .ref r, .int pl, .int pc] ∧ RA C H l l1 l2 ∧ RA C H r r1 r2 ∧ 0 < l2 ∧ 0 < r2 ∧ 0 < pc ∧ Bits i l1 ∧ Bits i l2 ∧ Bits j r1 ∧ Bits j r2 ∧ Bits n pl ∧ Bits n pc ∧ i + (j + n) ≤ 9000 ∧
  ∀ (x : Addr) (H' : Hp) (x1 x2 : Int), Same H H' → H x = none → RA C H' x x1 x2 → 0 < x2 → x1 * (l2 * r2 * pc) = (l1 * r2 * pc + r1 * l2 * pl) * x2 → Bits (i + (j + n) + 1) x1 → Bits (i + (j + n) + 1) x2 → Nat.gcd x1.natAbs x2.natAbs = 1 → Q (.ref x) H'
theorem ok_along {C f : Addr} {fd : FuncData} (F : Fun K "along" "along" s_along f fd) (T : Txt K mg) (R : RCI K mg C) {f_Ratio_plus : Addr} {fd_Ratio_plus : FuncData} (C_Ratio_plus : MCal P w K mg base 4 C "plus" ["self", "other"] (spPlus C) f_Ratio_plus fd_Ratio_plus) {f_Ratio_times : Addr} {fd_Ratio_times : FuncData} (C_Ratio_times : MCal P w K mg base 4 C "times" ["self", "other"] (spTimes C) f_Ratio_times fd_Ratio_times) {f_Ratio : Addr} {fd_Ratio : FuncData} {ds_Ratio : List Value} (C_Ratio : KCal P w K mg base 2 C "Ratio" ["self", "top", "bottom"] (spInit C) f_Ratio fd_Ratio ds_Ratio [.int 1]) : FnOk P w K mg base CX0 5 f fd ["low", "reach", "place", "pieces"] (spAlo C) := by
  obtain ⟨G_Ratio_plus, mt_Ratio_plus, b_Ratio_plus⟩ := C_Ratio_plus
  obtain ⟨G_Ratio_times, mt_Ratio_times, b_Ratio_times⟩ := C_Ratio_times
  obtain ⟨G_Ratio, M_Ratio, m_Ratio, b_Ratio, bD_Ratio, d_Ratio⟩ := C_Ratio
  refine F.ok sc_along (fun vs H Q E h => ?_) (fun cdv A outer s H vs Q E hr h => ?_)
  · obtain ⟨l, r, l1, l2, r1, r2, pl, pc, i, j, n, rfl, _⟩ := h
    rfl
  · obtain ⟨l, r, l1, l2, r1, r2, pl, pc, i, j, n, rfl, hL, hR, hl2, hr2, hpc, bl1, bl2, br1, br2, bpl, bpc, hijn, k⟩ := h
    refine ⟨_, (pss_one (ps_ret (pe_meth (pv 0) R.cl mt_Ratio_plus G_Ratio_plus (hr.mono (by decide)) b_Ratio_plus .nil pass0 (pa_cons (pe_meth (pv 1) R.cl mt_Ratio_times G_Ratio_times (hr.mono (by decide)) b_Ratio_times .nil pass0 (pa_cons (pe_make M_Ratio G_Ratio (hr.mono (by decide)) rfl m_Ratio b_Ratio .nil pass0 (pa_cons (pv 2) (pa_cons (pv 3) pa_nil))) pa_nil)) pa_nil)))), ?_⟩
    obtain ⟨dl, hl⟩ := id hL
    obtain ⟨dr, hrr⟩ := id hR
    have pc0 : pc ≠ 0 := Int.ne_of_gt hpc
    refine rd_ret ⟨_, rfl, l, dl, _, rfl, hl, flds_no _ _ no_plus.1 no_plus.2, _, rfl, r, dr, _, rfl, hrr, flds_no _ _ no_times.1 no_times.2, _, rfl, _, rfl, make_R pc0 (bpc.mono (by omega)) fun xa H1 s1 ha hRa => ?_⟩
    have a0 : 0 < rb pl pc := rb_pos pc0
    have ba1 : Bits n (rt pl pc) := rt_bits pc0 bpl
    have ba2 : Bits n (rb pl pc) := rb_bits pc0 bpc
    have ea := r_cross (t := pl) pc0
    generalize rt pl pc = a1 at *
    generalize rb pl pc = a2 at *
    refine ⟨r, xa, r1, r2, a1, a2, j, n, rfl, hR.same s1, hRa, br1.mono (by omega), br2, ba1.mono (by omega), ba2, by omega, hr2, a0, fun xc H2 s2 hc hRc => ?_⟩
    have d0 : r2 * a2 ≠ 0 := Int.ne_of_gt (Int.mul_pos hr2 a0)
    have c0 : 0 < rb (r1 * a1) (r2 * a2) := rb_pos d0
    have bc1 : Bits (j + n) (rt (r1 * a1) (r2 * a2)) := rt_bits d0 (br1.mul ba1)
    have bc2 : Bits (j + n) (rb (r1 * a1) (r2 * a2)) := rb_bits d0 (br2.mul ba2)
    have ec := r_cross (t := r1 * a1) d0
    generalize rt (r1 * a1) (r2 * a2) = c1 at *
    generalize rb (r1 * a1) (r2 * a2) = c2 at *
    have t2 := s1.trans s2
    refine ⟨l, xc, l1, l2, c1, c2, i, j + n, rfl, hL.same t2, hRc, bl1.mono (by omega), bl2, bc1.mono (by omega), bc2, hijn, hl2, c0, fun xx H3 s3 hx hRx => ?_⟩
    have x0 : l2 * c2 ≠ 0 := Int.ne_of_gt (Int.mul_pos hl2 c0)
    refine k xx H3 _ _ (t2.trans s3) (t2.free hx) hRx (rb_pos x0) (along_eq a0 c0 ea ec (r_cross x0)) ?_ ?_ (r_gcd x0)
    · refine (rt_bits x0 ?_)
      exact Bits.add (bl1.mul bc2) ((bc1.mul bl2).mono (by omega))
    · exact (rb_bits x0 (bl2.mul bc2)).mono (by omega)
/-! stretched -/
theorem mb_bits {i j : Nat} {a b c : Int} {l : List Int} (hl : AllB i l) (ha : Bits j a) (hb : Bits j b) (hc : Bits (i + j) c) : AllB (i + j + 1) (mb a b c l) := AllB.of_cf fun n => by
  rw [cf_mb]
  refine Bits.add ?_ ?_
  · exact (ha.neg.mul (hl.cf n)).mono (by omega)
  · split
    · exact hc
    · exact (hb.mul (hl.cf (n - 1))).mono (by omega)
theorem strG_bits {kv j : Nat} {m s0 s1 : Int} (hm : Bits j m) (h0 : Bits j s0) (h1 : Bits j s1) : ∀ {l : List Int}, AllB kv l → AllB (kv + (j + 1) * l.length + 1) (strG m s0 s1 l)
  | [], _ => AllB.nil
  | v :: l, h => by
    have ih := strG_bits hm h0 h1 (l := l) fun x hx => h x (List.mem_cons_of_mem _ hx)
    have hv := h v (List.mem_cons_self ..)
    have := mb_bits (c := v * m ^ l.length) ih h0.neg h1 ((hv.mul (bits_pow hm l.length)).mono (by
      have : (j + 1) * l.length = j * l.length + l.length := by rw [Nat.add_mul, Nat.one_mul]
      omega))
    refine AllB.mono this ?_
    rw [List.length_cons, Nat.mul_add, Nat.mul_one]; omega
theorem str_add {a b c : Int} {l : List Int} (hne : l ≠ []) (hT : Tr (mb a b c l)) : addL (mulL l [-a, b]) (trim [c]) = mb a b c l := by
  refine eq_of_cf (tr_trim _) hT fun k => ?_
  unfold addL
  rw [cf_trim, cf_linL, cf_trim, Int.one_mul, mul_two hne, cf_mb, cf_mb]
  rcases k with _ | k
  · show _ + 0 + c = _ + c
    omega
  · rw [if_neg (by omega), if_neg (by omega)]
    show _ + cf [] k = _
    rw [cf_nil]; omega
theorem tr_str {m s0 s1 : Int} (hs : 0 < s1) {l : List Int} (hne : l ≠ []) (hl : Tr l) : Tr (strG m s0 s1 l) := by
  have h1 := strG_last m s0 s1 l
  have hlen := strG_len m s0 s1 l
  have hp : 0 < l.length := List.length_pos_iff.mpr hne
  have h2 : cf l (l.length - 1) ≠ 0 := hl _ (by omega)
  intro n hn
  have : n = l.length - 1 := by omega
  subst this
  rw [h1]
  exact Int.mul_ne_zero h2 (Int.ne_of_gt (Int.pow_pos hs))
theorem tr_drop {l : List Int} (hl : Tr l) {i : Nat} (h : i < l.length) : Tr (l.drop i) := by
  intro n hn
  rw [List.length_drop] at hn
  have e : cf (l.drop i) n = cf l (i + n) := by
    unfold cf
    simp [List.getD]
  rw [e]
  exact hl _ (by omega)
def spStr (C : Addr) : Sp := fun vs H Q _ => ∃ (a l r : Addr) (ns : List Int) (l1 l2 r1 r2 : Int), vs = [.ref a, .ref l, .ref r] ∧ H a = some (.lst (ns.map V.int)) ∧ RA C H l l1 l2 ∧ RA C H r r1 r2 ∧ Tr ns ∧ ns ≠ [] ∧ ns.length ≤ 12 ∧ AllB 1000 ns ∧ 0 < l2 ∧ 0 < r1 ∧ 0 < r2 ∧ Bits 1400 l1 ∧ Bits 1400 l2 ∧ Bits 2900 r1 ∧ Bits 2900 r2 ∧
  ∀ m s0 s1 : Int, 0 < m → s0 * l2 = l1 * m → s1 * r2 = r1 * m → 0 < s1 → AllB 60000 (strG m s0 s1 ns) → mkL H Q (strG m s0 s1 ns)
theorem ok_stretched {C f : Addr} {fd : FuncData} (F : Fun K "stretched" "stretched" s_stretched f fd) (T : Txt K mg) (R : RCI K mg C) {f_shared : Addr} {fd_shared : FuncData} (C_shared : Cal P w K mg base 2 "shared" ["row"] (spShared K) f_shared fd_shared) {f_added : Addr} {fd_added : FuncData} (C_added : Cal P w K mg base 2 "added" ["first", "second"] (sp2L K addL) f_added fd_added) {f_multiplied : Addr} {fd_multiplied : FuncData} (C_multiplied : Cal P w K mg base 1 "multiplied" ["first", "second"] spMul f_multiplied fd_multiplied) {f_poly : Addr} {fd_poly : FuncData} (C_poly : Cal P w K mg base 1 "poly" ["row"] (spTrim K) f_poly fd_poly) : FnOk P w K mg base CX0 3 f fd ["row", "low", "reach"] (spStr C) := by
  obtain ⟨G_shared, m_shared, k_shared, b_shared⟩ := C_shared
  obtain ⟨G_added, m_added, k_added, b_added⟩ := C_added
  obtain ⟨G_multiplied, m_multiplied, k_multiplied, b_multiplied⟩ := C_multiplied
  obtain ⟨G_poly, m_poly, k_poly, b_poly⟩ := C_poly
  refine F.ok sc_stretched (fun vs H Q E h => ?_) (fun cdv A outer s H vs Q E hr h => ?_)
  · obtain ⟨a, l, r, ns, l1, l2, r1, r2, rfl, _⟩ := h
    rfl
  · obtain ⟨a, l, r, ns, l1, l2, r1, r2, rfl, hA, ⟨dl, hL⟩, ⟨dr, hR⟩, hT, hne, hln, hbn, hl2, hr1, hr2, bl1, bl2, br1, br2, k⟩ := h
    refine ⟨_, (pss_cons (ps_set (i := 3) sc_stretched.nd rfl (Or.inl rfl) (pe_op op_fdivP (pe_op op_mulB (pe_fldK (K := K) rfl (pv 1) rfl) (pe_fldK (K := K) rfl (pv 2) rfl)) (pe_call G_shared (hr.mono (by decide)) rfl m_shared k_shared b_shared .nil pass0 (pa_cons (pe_lst (pa_cons (pe_fldK (K := K) rfl (pv 1) rfl) (pa_cons (pe_fldK (K := K) rfl (pv 2) rfl) pa_nil))) pa_nil))))
      (pss_cons (ps_set (i := 4) sc_stretched.nd rfl (Or.inl rfl) (pe_op op_mulB (pe_fldK (K := K) rfl (pv 1) rfl) (pe_op op_fdivP (pv 3) (pe_fldK (K := K) rfl (pv 1) rfl))))
      (pss_cons (ps_set (i := 5) sc_stretched.nd rfl (Or.inl rfl) (pe_op op_mulB (pe_fldK (K := K) rfl (pv 2) rfl) (pe_op op_fdivP (pv 3) (pe_fldK (K := K) rfl (pv 2) rfl))))
      (pss_cons (ps_set (i := 6) sc_stretched.nd rfl (Or.inl rfl) (pe_lst pa_nil))
      (pss_cons (ps_set (i := 7) sc_stretched.nd rfl (Or.inl rfl) pe_int)
      (pss_cons (ps_for PassesOwn.never rfl (pi_rev rfl T.reversed_ (pa_cons (pv 0) pa_nil)) (pg_name (i := 8) sc_stretched.nd rfl (Or.inl rfl))
        (pss_cons (ps_set (i := 6) sc_stretched.nd rfl (Or.inl rfl) (pe_call G_added (hr.mono (by decide)) rfl m_added k_added b_added .nil pass0 (pa_cons (pe_call G_multiplied (hr.mono (by decide)) rfl m_multiplied k_multiplied b_multiplied .nil pass0 (pa_cons (pv 6) (pa_cons (pe_lst (pa_cons (pv 4) (pa_cons (pv 5) pa_nil))) pa_nil))) (pa_cons (pe_call G_poly (hr.mono (by decide)) rfl m_poly k_poly b_poly .nil pass0 (pa_cons (pe_lst (pa_cons (pe_op op_mulB (pv 8) (pv 7)) pa_nil)) pa_nil)) pa_nil))))
          (pss_one (ps_set (i := 7) sc_stretched.nd rfl (Or.inl rfl) (pe_op op_mulB (pv 7) (pv 3))))))
      (pss_one (ps_ret (pv 6))))))))), ?_⟩
    obtain ⟨l', r', pl', pr', pg, el, er, em, e1, e2, pm⟩ := both_of hl2 hr2 (g := gcdL [l2, r2]) (by show Nat.gcd (Nat.gcd 0 l2.natAbs) r2.natAbs = _; rw [Nat.gcd_zero_left])
    have bg : Bits 9000 ((gcdL [l2, r2] : Nat) : Int) := Bits.mono (j := 1400) (bl2.of_le (by rw [Int.natAbs_natCast]; exact Nat.le_of_dvd (by omega) (by show Nat.gcd (Nat.gcd 0 l2.natAbs) r2.natAbs ∣ _; rw [Nat.gcd_zero_left]; exact Nat.gcd_dvd_left _ _))) (by decide)
    have bl' : Bits 1400 l' := bl2.of_le (by
      rw [el, Int.natAbs_mul]
      exact Nat.le_mul_of_pos_left _ (by omega))
    have br' : Bits 2900 r' := br2.of_le (by
      rw [er, Int.natAbs_mul]
      exact Nat.le_mul_of_pos_left _ (by omega))
    refine rd_sa ⟨_, rfl, l, C, dl, _, _, rfl, hL, R.cl, R.nB, flds_bottom _ _, _, rfl, r, C, dr, _, _, rfl, hR, R.cl, R.nB, flds_bottom _ _, _, _, rfl, rfl, ⟨bl2.mono (by decide), br2.mono (by decide)⟩, ?_⟩
    refine ⟨_, rfl, l, C, dl, _, _, rfl, hL, R.cl, R.nB, flds_bottom _ _, _, rfl, r, C, dr, _, _, rfl, hR, R.cl, R.nB, flds_bottom _ _, by show 2 ≤ sizeLine; decide, fun p0 hp0 => ?_⟩
    have s0' := Same.upd_new (o := .lst [V.int l2, V.int r2]) hp0
    refine ⟨p0, [l2, r2], rfl, SqL.of upd_same, _, _, rfl, rfl, ⟨pg, bg⟩, ?_⟩
    generalize upd H p0 (.lst [V.int l2, V.int r2]) = H0 at s0' ⊢
    dsimp only
    rw [em]
    refine rd_sa ⟨_, rfl, l, C, dl, _, _, rfl, s0' _ _ hL, R.cl, R.nT, flds_top _ _, _, rfl, _, rfl, l, C, dl, _, _, rfl, s0' _ _ hL, R.cl, R.nB, flds_bottom _ _, _, _, rfl, rfl, ⟨hl2, bl2.mono (by decide)⟩, ?_⟩
    dsimp only
    rw [e1]
    refine ⟨_, _, rfl, rfl, ⟨bl1.mono (by decide), br'.mono (by decide)⟩, ?_⟩
    refine rd_sa ⟨_, rfl, r, C, dr, _, _, rfl, s0' _ _ hR, R.cl, R.nT, flds_top _ _, _, rfl, _, rfl, r, C, dr, _, _, rfl, s0' _ _ hR, R.cl, R.nB, flds_bottom _ _, _, _, rfl, rfl, ⟨hr2, br2.mono (by decide)⟩, ?_⟩
    dsimp only
    rw [e2]
    refine ⟨_, _, rfl, rfl, ⟨br1.mono (by decide), bl'.mono (by decide)⟩, ?_⟩
    have q0 : l1 * r' * l2 = l1 * (l2 * r') := by grind
    have q1 : r1 * l' * r2 = r1 * (l2 * r') := by
      calc r1 * l' * r2 = r1 * l' * (((gcdL [l2, r2] : Nat) : Int) * r') := by rw [← er]
        _ = r1 * ((((gcdL [l2, r2] : Nat) : Int) * l') * r') := by grind
        _ = r1 * (l2 * r') := by rw [← el]
    have q2 : 0 < r1 * l' := Int.mul_pos hr1 pl'
    have bm : Bits 4300 (l2 * r') := bl2.mul br'
    have bs0 : Bits 4300 (l1 * r') := bl1.mul br'
    have bs1 : Bits 4300 (r1 * l') := br1.mul bl'
    dsimp only
    generalize l2 * r' = m at *
    generalize l1 * r' = s0 at *
    generalize r1 * l' = s1 at *
    have sb : ∀ {l : List Int}, AllB 1000 l → l.length ≤ 12 → AllB 60000 (strG m s0 s1 l) := fun {l} h hl => (strG_bits bm bs0 bs1 h).mono (by omega)
    refine rd_sa ⟨Nat.zero_le _, fun p1 hp1 => ?_⟩
    have s1' := s0'.then_new (o := .lst []) hp1
    have h1 : upd H0 p1 (.lst []) p1 = some (.lst []) := upd_same
    have f1 : H p1 = none := s0'.free hp1
    generalize upd H0 p1 (.lst []) = H1 at s1' h1 ⊢
    refine rd_sa ?_
    have hl : (ns.map V.int).length = ns.length := List.length_map _
    refine ⟨_, rfl, a, _, rfl, SqL.of (s1' _ _ hA), for_rev (K := K) (a := a) (xs := ns.map V.int) (fun i σ' H' => ∃ (p : Addr) (z : Option V), σ' = [some (.ref a), some (.ref l), some (.ref r), some (.int m), some (.int s0), some (.int s1), some (.ref p), some (.int (m ^ i)), z] ∧ Same H H' ∧ H p = none ∧ H' p = some (.lst ((strG m s0 s1 (ns.drop (ns.length - i))).map V.int))) ⟨p1, none, by rw [Int.pow_zero]; rfl, s1', f1, by rw [Nat.sub_zero, List.drop_length]; exact h1⟩ ?_ ?_ ?_⟩
    · rintro i σ' H' _ ⟨p, z, rfl, sm, _⟩
      exact SqL.of (sm _ _ hA)
    · rintro i x σ' H2 hi hx ⟨p, z, rfl, s2, fp, e2'⟩
      rw [hl] at hi hx
      obtain ⟨c, ec, rfl, hc, _⟩ := get_int hx
      have bc := hbn c hc
      have hd := drop_cons hi ec
      have len : (ns.drop (ns.length - i)).length = i := by rw [List.length_drop]; omega
      have hbd : AllB 1000 (ns.drop (ns.length - i)) := fun x hx => hbn x (List.mem_of_mem_drop hx)
      have aF := sb hbd (by omega)
      have lF : (strG m s0 s1 (ns.drop (ns.length - i))).length = i := by rw [strG_len, len]
      have bP : Bits 60000 (m ^ i) := (bits_pow bm i).mono (by omega)
      have eF : addL (mulL (strG m s0 s1 (ns.drop (ns.length - i))) [s0, s1]) (trim [c * m ^ i]) = strG m s0 s1 (ns.drop (ns.length - (i + 1))) := by
        have hT' : Tr (strG m s0 s1 (ns.drop (ns.length - (i + 1)))) := tr_str q2 (by rw [hd]; simp) (tr_drop hT (by omega))
        rw [hd] at hT' ⊢
        have hT2 : Tr (mb (-s0) s1 (c * m ^ i) (strG m s0 s1 (ns.drop (ns.length - i)))) := by
          have : strG m s0 s1 (c :: ns.drop (ns.length - i)) = mb (-s0) s1 (c * m ^ (ns.drop (ns.length - i)).length) (strG m s0 s1 (ns.drop (ns.length - i))) := rfl
          rw [this, len] at hT'
          exact hT'
        show _ = mb (-s0) s1 (c * m ^ (ns.drop (ns.length - i)).length) (strG m s0 s1 (ns.drop (ns.length - i)))
        rw [len]
        by_cases hi0 : i = 0
        · subst hi0
          have e0 : strG m s0 s1 (ns.drop (ns.length - 0)) = [] := by rw [Nat.sub_zero, List.drop_length]; rfl
          rw [e0] at hT2 ⊢
          refine eq_of_cf (tr_trim _) hT2 fun k => ?_
          unfold addL
          rw [cf_trim, cf_linL, cf_mulL, cf_trim, Int.one_mul]
          show 0 + _ = _
          rw [Int.zero_add]; rfl
        · have hn' : strG m s0 s1 (ns.drop (ns.length - i)) ≠ [] := fun z => by rw [z] at lF; exact hi0 lF.symm
          have := str_add (a := -s0) (b := s1) (c := c * m ^ i) hn' hT2
          rw [Int.neg_neg] at this
          exact this
      show tSeq (tAsg _ (gName 6)) _ _ _ _
      have bs : AllB 4300 [s0, s1] := fun x hx => by
        simp only [List.mem_cons, List.not_mem_nil, or_false] at hx
        rcases hx with rfl | rfl
        · exact bs0
        · exact bs1
      generalize strG m s0 s1 (ns.drop (ns.length - i)) = Fs at *
      refine rd_sa ⟨_, rfl, _, rfl, _, rfl, by show 2 ≤ sizeLine; decide, fun p3 hp3 => ?_⟩
      have s3 := s2.then_new (o := .lst ([s0, s1].map V.int)) hp3
      have e3 : upd H2 p3 (.lst ([s0, s1].map V.int)) p = some (.lst (Fs.map V.int)) := (Same.upd_new hp3) _ _ e2'
      have h3 : upd H2 p3 (.lst ([s0, s1].map V.int)) p3 = some (.lst ([s0, s1].map V.int)) := upd_same
      refine ⟨p, p3, Fs, [s0, s1], rfl, e3, h3, by omega, by show 2 ≤ 1000000; decide, aF.mono (by decide), bs.mono (by decide), fun p4 H4 s4 hp4 e4 => ?_⟩
      have t4 := s3.trans s4
      refine ⟨_, rfl, _, rfl, _, _, rfl, rfl, ⟨bc.mono (by decide), bP.mono (by decide)⟩, by show 1 ≤ sizeLine; decide, fun p5 hp5 => ?_⟩
      have s5 := t4.then_new (o := .lst ([c * m ^ i].map V.int)) hp5
      have e5 : upd H4 p5 (.lst ([c * m ^ i].map V.int)) p4 = some (.lst ((mulL Fs [s0, s1]).map V.int)) := (Same.upd_new hp5) _ _ e4
      have h5 : upd H4 p5 (.lst ([c * m ^ i].map V.int)) p5 = some (.lst ([c * m ^ i].map V.int)) := upd_same
      refine ⟨p5, [c * m ^ i], rfl, SqL.of h5, fun p6 H6 s6 hp6 e6 => ?_⟩
      have t6 := s5.trans s6
      refine ⟨p4, p6, mulL Fs [s0, s1], trim [c * m ^ i], rfl, SqL.of (s6 _ _ e5), SqL.of e6, ?_, ?_, fun p7 H7 s7 hp7 e7 => ?_⟩
      · have : (mulL Fs [s0, s1]).length ≤ 1000 := by
          unfold mulL
          split
          · exact Nat.zero_le _
          · rw [List.length_map, List.length_range]; show _ + 2 - 1 ≤ _; omega
        omega
      · have := length_trim [c * m ^ i]
        have : (trim [c * m ^ i]).length ≤ 1 := this
        omega
      rw [eF] at e7
      refine rd_asg ⟨_, rfl, _, rfl, _, _, rfl, rfl, ⟨bP.mono (by decide), bm.mono (by decide)⟩, ?_⟩
      refine ⟨p7, some (.int c), ?_, t6.trans s7, t6.free hp7, e7⟩
      rw [Int.pow_succ]; rfl
    · rintro σ' H' ⟨p, z, rfl, sm, fp, e⟩
      rw [hl, Nat.sub_self, List.drop_zero] at e
      exact ⟨_, rfl, k m s0 s1 pm q0 q1 q2 (sb hbn hln) p H' sm fp e⟩
--SPLIT
def spSpr : Sp := fun vs H Q _ => ∃ (a : Addr) (ns : List Int), vs = [.ref a] ∧ H a = some (.lst (ns.map V.int)) ∧ ns.length ≤ 1000 ∧ AllB 500000 ns ∧ mkL H Q (sprG ns)
theorem ok_spread {f : Addr} {fd : FuncData} (F : Fun K "spread" "spread" s_spread f fd) (T : Txt K mg) : FnOk P w K mg base CX0 1 f fd ["row"] spSpr := by
  refine F.ok sc_spread (fun vs H Q E h => ?_) (fun cdv A outer s H vs Q E hr h => ?_)
  · obtain ⟨a, ns, rfl, _⟩ := h
    rfl
  · obtain ⟨a, ns, rfl, hA, hn, hb, k⟩ := h
    have big := sizeLine_eq
    refine ⟨_, (pss_cons (ps_set (i := 1) sc_spread.nd rfl (Or.inl rfl) (pe_lst pa_nil))
      (pss_cons (ps_set (i := 2) sc_spread.nd rfl (Or.inl rfl) pe_int)
      (pss_cons (ps_for PassesOwn.never rfl (pi_rev rfl T.reversed_ (pa_cons (pv 0) pa_nil)) (pg_name (i := 3) sc_spread.nd rfl (Or.inl rfl))
        (pss_cons (ps_expr (pe_bm PySem.F.plainAttrs_list PySem.F.slot_list_append PySem.F.type_list_append mt_append (pv 1) (pa_cons (pe_op op_mulB (pv 2) (pv 3)) pa_nil)))
          (pss_one (ps_set (i := 2) sc_spread.nd rfl (Or.inl rfl) (pe_op op_mulB pe_int (pv 2))))))
      (pss_cons (ps_expr (pe_bm0 PySem.F.plainAttrs_list PySem.F.slot_list_reverse PySem.F.type_list_reverse mt_reverse (pv 1)))
      (pss_one (ps_ret (pv 1))))))), ?_⟩
    refine rd_sa ⟨Nat.zero_le _, fun p1 hp1 => ?_⟩
    have s1' := Same.upd_new (o := .lst []) hp1
    have h1 : upd H p1 (.lst []) p1 = some (.lst []) := upd_same
    generalize upd H p1 (.lst []) = H1 at s1' h1 ⊢
    refine rd_sa ?_
    have hl : (ns.map V.int).length = ns.length := List.length_map _
    refine ⟨_, rfl, a, _, rfl, SqL.of (s1' _ _ hA), for_rev (K := K) (a := a) (xs := ns.map V.int) (fun i σ' H' => ∃ z : Option V, σ' = [some (.ref a), some (.ref p1), some (.int (2 ^ i)), z] ∧ Same H H' ∧ H' p1 = some (.lst ((sprG (ns.drop (ns.length - i))).reverse.map V.int))) ⟨none, rfl, s1', by rw [Nat.sub_zero, List.drop_length]; exact h1⟩ ?_ ?_ ?_⟩
    · rintro i σ' H' _ ⟨z, rfl, sm, _⟩
      exact SqL.of (sm _ _ hA)
    · rintro i x σ' H2 hi hx ⟨z, rfl, s2, h2⟩
      rw [hl] at hi hx
      obtain ⟨c, ec, rfl, hc, _⟩ := get_int hx
      have hd := drop_cons hi ec
      have len : (ns.drop (ns.length - i)).length = i := by rw [List.length_drop]; omega
      show tSeq (tDrop _) _ _ _ _
      refine rd_sd ⟨_, rfl, .inl ⟨rfl, _, SqL.of h2⟩, _, rfl, _, rfl, _, _, rfl, rfl, ⟨(pow2_bits (n := i) (k := 1001) (by omega)).mono (by decide), (hb c hc).mono (by decide)⟩, p1, _, _, rfl, rfl, h2, by rw [List.length_map, List.length_reverse, sprG_len, len]; omega, ?_⟩
      refine rd_asg ⟨_, rfl, _, _, rfl, rfl, ⟨two6, (pow2_bits (n := i) (k := 1001) (by omega)).mono (by decide)⟩, ?_⟩
      refine ⟨some (.int c), ?_, mut_same s2 hp1, ?_⟩
      · show [some (V.ref a), some (V.ref p1), some (V.int (2 * 2 ^ i)), some (V.int c)] = _
        rw [Int.pow_succ, Int.mul_comm]
      · rw [upd_same, hd, map_snoc]
        show some (HO.lst (((sprG (ns.drop (ns.length - i))).reverse ++ [2 ^ i * c]).map V.int)) = some (HO.lst ((2 ^ (ns.drop (ns.length - i)).length * c :: sprG (ns.drop (ns.length - i))).reverse.map V.int))
        rw [List.reverse_cons, len]
    · rintro σ' H2 ⟨z, rfl, s2, h2⟩
      rw [hl, Nat.sub_self, List.drop_zero] at h2
      dsimp only
      refine rd_sd ⟨_, rfl, .inl ⟨rfl, _, SqL.of h2⟩, p1, _, rfl, rfl, h2, ?_⟩
      refine ⟨_, rfl, k p1 _ (mut_same s2 hp1) hp1 ?_⟩
      rw [upd_same, ← List.map_reverse, List.reverse_reverse]
/-! moved: in a pass from the end on -/
def half_ (m : List Int) (j : Nat) : List Int := m.take (m.length - 1 - j) ++ suf (m.drop (m.length - 1 - j))
theorem pass_eq : ∀ (i : Nat) (m : List Int), pass i m = m.take i ++ suf (m.drop i)
  | 0, m => by rw [List.take_zero, List.drop_zero]; rfl
  | i + 1, [] => rfl
  | i + 1, c :: m => by show c :: pass i m = c :: (m.take i ++ suf (m.drop i)); rw [pass_eq i m]
theorem half_len (m : List Int) (j : Nat) : (half_ m j).length = m.length := by
  unfold half_
  rw [List.length_append, suf_len, ← List.length_append, List.take_append_drop]
theorem half_zero (m : List Int) : half_ m 0 = m := by
  unfold half_
  rw [Nat.sub_zero]
  cases hd : m.drop (m.length - 1) with
  | nil =>
    have : m.length - 1 = m.length ∨ True := .inr trivial
    have h1 : m.length ≤ m.length - 1 := List.drop_eq_nil_iff.mp hd
    have : m = [] := List.eq_nil_of_length_eq_zero (by omega)
    subst this; rfl
  | cons c r =>
    have hl := congrArg List.length hd
    rw [List.length_drop, List.length_cons] at hl
    have : r = [] := List.eq_nil_of_length_eq_zero (by omega)
    subst this
    show _ ++ [c + 0] = _
    rw [Int.add_zero, ← hd, List.take_append_drop]
theorem half_last (m : List Int) {i : Nat} (h : i + 1 ≤ m.length) : half_ m (m.length - 1 - i) = pass i m := by
  unfold half_
  rw [pass_eq]
  have : m.length - 1 - (m.length - 1 - i) = i := by omega
  rw [this]
/-- one turn of the pass -/
theorem half_step' (m : List Int) {j : Nat} (h : j + 2 ≤ m.length) : (half_ m j).set (m.length - 2 - j) (cf (half_ m j) (m.length - 2 - j) + cf (half_ m j) (m.length - 1 - j)) = half_ m (j + 1) := by
  have e1 : m.length - 1 - (j + 1) = m.length - 2 - j := by omega
  have e2 : m.length - 1 - j = m.length - 2 - j + 1 := by omega
  have hk : m.length - 2 - j < m.length := by omega
  unfold half_
  rw [e1, e2]
  generalize m.length - 2 - j = k at hk e2
  have hd : m.drop k = m[k] :: m.drop (k + 1) := List.drop_eq_getElem_cons hk
  have ht : m.take (k + 1) = m.take k ++ [m[k]] := by rw [List.take_add_one, List.getElem?_eq_getElem hk]; rfl
  rw [hd, ht]
  have lt : (m.take k).length = k := by rw [List.length_take]; omega
  have c1 : cf (m.take k ++ [m[k]] ++ suf (m.drop (k + 1))) k = m[k] := by
    rw [List.append_assoc, cf_append_right (by omega), lt, Nat.sub_self]; rfl
  have c2 : cf (m.take k ++ [m[k]] ++ suf (m.drop (k + 1))) (k + 1) = (suf (m.drop (k + 1))).headD 0 := by
    rw [cf_append_right (by rw [List.length_append, lt]; exact Nat.le_refl _), List.length_append, lt]
    show cf _ (k + 1 - (k + 1)) = _
    rw [Nat.sub_self]
    cases suf (m.drop (k + 1)) with
    | nil => rfl
    | cons _ _ => rfl
  rw [c1, c2]
  show _ = m.take k ++ ((m[k] + (suf (m.drop (k + 1))).headD 0) :: suf (m.drop (k + 1)))
  rw [List.append_assoc, List.set_append_right _ _ (by omega), lt, Nat.sub_self]
  rfl
theorem suf_le {M : Nat} : ∀ {l : List Int}, (∀ x ∈ l, x.natAbs ≤ M) → ∀ x ∈ suf l, x.natAbs ≤ l.length * M
  | [], _, x, hx => nomatch hx
  | v :: l, h, x, hx => by
    have ih := suf_le (l := l) fun x hx => h x (List.mem_cons_of_mem _ hx)
    have hv := h v (List.mem_cons_self ..)
    have hh : ((suf l).headD 0).natAbs ≤ l.length * M := by
      cases hs : suf l with
      | nil => show (0 : Int).natAbs ≤ _; exact Nat.zero_le _
      | cons g r => exact ih g (by rw [hs]; exact List.mem_cons_self ..)
    rw [List.length_cons, Nat.add_mul, Nat.one_mul]
    rcases List.mem_cons.mp hx with e | e
    · subst e; omega
    · have := ih x e; omega
theorem pass_bits {i k : Nat} {m : List Int} (h : AllB i m) (hl : m.length ≤ 16) : AllB (i + 4) (pass k m) := by
  rw [pass_eq]
  refine AllB.app (fun x hx => (h x (List.mem_of_mem_take hx)).mono (by omega)) fun x hx => ?_
  have h1 := suf_le (M := 2 ^ i - 1) (l := m.drop k) (fun y hy => by have : y.natAbs < 2 ^ i := h y (List.mem_of_mem_drop hy); omega) x hx
  have h2 : (m.drop k).length * (2 ^ i - 1) ≤ 16 * (2 ^ i - 1) := Nat.mul_le_mul_right _ (by rw [List.length_drop]; omega)
  have h3 : 0 < 2 ^ i := Nat.pow_pos (by decide)
  show x.natAbs < 2 ^ (i + 4)
  have h4 : 2 ^ (i + 4) = 2 ^ i * 16 := by rw [Nat.pow_add]
  omega
theorem movT_bits {i : Nat} {m : List Int} (h : AllB i m) (hl : m.length ≤ 16) : ∀ n, AllB (i + 4 * n) (movT n m)
  | 0 => h
  | n + 1 => by
    have := pass_bits (k := n) (movT_bits h hl n) (by rw [movT_len]; exact hl)
    exact this.mono (by omega)
theorem movG_bits {i : Nat} {m : List Int} (h : AllB i m) (hl : m.length ≤ 12) : AllB (i + 44) (movG m) := (movT_bits h (by omega) _).mono (by omega)
theorem sprG_bits {i : Nat} : ∀ {m : List Int}, AllB i m → m.length ≤ 12 → AllB (i + 13) (sprG m)
  | [], _, _ => AllB.nil
  | v :: m, h, hl => by
    have ih := sprG_bits (m := m) (fun x hx => h x (List.mem_cons_of_mem _ hx)) (by rw [List.length_cons] at hl; omega)
    intro x hx
    rcases List.mem_cons.mp hx with e | e
    · subst e
      have := (pow2_bits (n := m.length) (k := 13) (by rw [List.length_cons] at hl; omega)).mul (h v (List.mem_cons_self ..))
      exact this.mono (by omega)
    · exact ih x e
def spMov : Sp := fun vs H Q _ => ∃ (a : Addr) (ns : List Int), vs = [.ref a] ∧ H a = some (.lst (ns.map V.int)) ∧ 1 ≤ ns.length ∧ ns.length ≤ 1000 ∧ mkL H Q (movG ns)
theorem set_map (l : List Int) (k : Nat) (v : Int) : (l.map V.int).set k (.int v) = (l.set k v).map V.int := by rw [List.map_set]
theorem at_cf {l : List Int} {k : Nat} {j : Int} (e : j = (k : Int)) (h : k < l.length) : atI (l.map V.int) j = some (.int (cf l k)) := by
  subst e
  refine atI_nat ?_
  rw [List.getElem?_map, List.getElem?_eq_getElem h]
  show some (V.int l[k]) = _
  rw [cf_some (List.getElem?_eq_getElem h)]
theorem ok_moved {f : Addr} {fd : FuncData} (F : Fun K "moved" "moved" s_moved f fd) (T : Txt K mg) {f_degree : Addr} {fd_degree : FuncData} (C_degree : Cal P w K mg base 1 "degree" ["row"] spDeg f_degree fd_degree) : FnOk P w K mg base CX0 2 f fd ["row"] spMov := by
  obtain ⟨G_degree, m_degree, k_degree, b_degree⟩ := C_degree
  refine F.ok sc_moved (fun vs H Q E h => ?_) (fun cdv A outer s H vs Q E hr h => ?_)
  · obtain ⟨a, ns, rfl, _⟩ := h
    rfl
  · obtain ⟨a, ns, rfl, hA, hn1, hn, k⟩ := h
    have big := sizeLine_eq
    refine ⟨_, (pss_cons (ps_set (i := 1) sc_moved.nd rfl (Or.inl rfl) (pe_callTy (call_listK (K := K) rfl) (by rfl) T.list_ PyProof.Rows.boot_list (pa_cons (pv 0) pa_nil)))
      (pss_cons (ps_for PassesOwn.never rfl (pi_range1 rfl T.range_ (pa_cons (pe_call G_degree (hr.mono (by decide)) rfl m_degree k_degree b_degree .nil pass0 (pa_cons (pv 0) pa_nil)) pa_nil)) (pg_name (i := 2) sc_moved.nd rfl (Or.inl rfl))
        (pss_one (ps_for PassesOwn.never rfl (pi_rangeD rfl T.range_ (pa_cons (pe_op op_sub (pe_call G_degree (hr.mono (by decide)) rfl m_degree k_degree b_degree .nil pass0 (pa_cons (pv 0) pa_nil)) pe_int) (pa_cons (pe_op op_sub (pv 2) pe_int) (pa_cons (pe_un un_neg pe_int) pa_nil)))) (pg_name (i := 3) sc_moved.nd rfl (Or.inl rfl))
            (pss_one (ps_asg (pe_op op_add (pe_ix (ix_listK (K := K) rfl) (pv 1) (pv 3) (fun _ _ => rfl)) (pe_ix (ix_listK (K := K) rfl) (pv 1) (pe_op op_add (pv 3) pe_int) (fun _ _ => rfl))) (pg_sub (pv 1) (pv 3) set_list))))))
      (pss_one (ps_ret (pv 1))))), ?_⟩
    refine rd_sa ⟨_, rfl, a, _, rfl, .inl (SqL.of hA), fun p hp => ?_⟩
    have s1' := Same.upd_new (o := .lst (ns.map V.int)) hp
    have h1 : upd H p (.lst (ns.map V.int)) p = some (.lst (ns.map V.int)) := upd_same
    generalize upd H p (.lst (ns.map V.int)) = H1 at s1' h1 ⊢
    have hl : (ns.map V.int).length = ns.length := List.length_map _
    have ed : ((ns.map V.int).length : Int) - 1 = ((ns.length - 1 : Nat) : Int) := by rw [hl]; omega
    refine ⟨_, rfl, a, _, rfl, s1' _ _ hA, _, rfl, (by rw [ed]; omega), (by rw [ed]; omega), ?_⟩
    rw [ed]
    refine for_range (lo := 0) (n := ns.length - 1) (fun i σ' H' => ∃ z2 z3 : Option V, σ' = [some (.ref a), some (.ref p), z2, z3] ∧ Same H H' ∧ H' p = some (.lst ((movT i ns).map V.int))) ⟨none, none, rfl, s1', h1⟩ ?_ ?_
    · rintro i σ' H2 hi ⟨z2, z3, rfl, s2, h2⟩
      have lm : (movT i ns).length = ns.length := movT_len _ _
      generalize hM : movT i ns = M at h2 lm
      refine ⟨_, rfl, a, _, rfl, s2 _ _ hA, _, _, rfl, rfl, _, rfl, _, _, rfl, rfl, _, rfl, ((ns.length - 2 : Nat) : Int), (i : Int) - 1, ?_, ⟨by omega, by omega, by omega, by omega⟩, ?_⟩
      · rw [ed]
        have e1 : ((ns.length - 1 : Nat) : Int) - 1 = ((ns.length - 2 : Nat) : Int) := by omega
        have e2 : (0 : Int) + (i : Int) - 1 = (i : Int) - 1 := by omega
        dsimp only
        rw [e1, e2]
      have en : (((ns.length - 2 : Nat) : Int) - ((i : Int) - 1)).toNat = ns.length - 1 - i := by omega
      rw [en]
      refine for_rangeD (fun j σ' H' => ∃ z3 : Option V, σ' = [some (.ref a), some (.ref p), some (.int (0 + (i : Int))), z3] ∧ Same H H' ∧ H' p = some (.lst ((half_ M j).map V.int))) ⟨z3, rfl, s2, by rw [half_zero]; exact h2⟩ ?_ ?_
      · rintro j σ' H3 hj ⟨z3, rfl, s3, h3⟩
        have lh : (half_ M j).length = ns.length := by rw [half_len, lm]
        have hs := half_step' M (j := j) (by omega)
        rw [lm] at hs
        have k1 : ((ns.length - 2 : Nat) : Int) + (j : Int) * -1 = ((ns.length - 2 - j : Nat) : Int) := by omega
        have k2 : ((ns.length - 2 : Nat) : Int) + (j : Int) * -1 + 1 = ((ns.length - 1 - j : Nat) : Int) := by omega
        refine ⟨_, rfl, _, rfl, p, _, _, _, rfl, rfl, SqL.of h3, at_cf k1 (by omega), _, rfl, _, rfl, _, _, rfl, rfl, p, _, _, _, rfl, rfl, SqL.of h3, at_cf k2 (by omega), _, _, rfl, rfl, _, rfl, _, rfl, p, _, _, ns.length - 2 - j, rfl, rfl, h3, ?_, ?_⟩
        · exact ixN_nat k1 (by rw [List.length_map]; omega)
        refine ⟨_, rfl, mut_same s3 hp, ?_⟩
        rw [upd_same, set_map, hs]
      · rintro σ' H3 ⟨z3, rfl, s3, h3⟩
        refine ⟨_, _, rfl, s3, ?_⟩
        have : half_ M (ns.length - 1 - i) = movT (i + 1) ns := by
          rw [← lm, half_last M (by omega), ← hM]; rfl
        rw [← this]; exact h3
    · rintro σ' H2 ⟨z2, z3, rfl, s2, h2⟩
      exact ⟨_, rfl, k p H2 s2 hp h2⟩
--SPLIT
/-- the one root within (0, 1]: up p c says that it is above p / c -/
structure RootB (ns : List Int) (ε : Int) (up : Int → Int → Prop) : Prop where
  e1 : ε = 1 ∨ ε = -1
  r1 : ∀ p c, 0 < p → p ≤ c → up p c → sg (hv p c ns) = -ε
  r2 : ∀ p c, 0 < p → p ≤ c → ¬ up p c → sg (hv p c ns) = ε ∨ sg (hv p c ns) = 0
  r3 : ∀ p c p' c', 0 < p → p ≤ c → 0 < p' → p' ≤ c' → ¬ up p c → p * c' < p' * c → sg (hv p' c' ns) = ε
  sc : ∀ p c, 0 < c → (up (2 * p) (2 * c) ↔ up p c)
  top : ¬ up 1 1
theorem hv_two_sg (p c : Int) (l : List Int) : sg (hv (2 * p) (2 * c) l) = sg (hv p c l) := by
  rw [hv_scale]; exact sg_pos_mul (Int.pow_pos (by decide))
def spHlv : Sp := fun vs H Q _ => ∃ (a : Addr) (ns : List Int) (e : Int) (n : Nat) (ε : Int) (up : Int → Int → Prop), vs = [.ref a, .int e, .int n] ∧ H a = some (.lst (ns.map V.int)) ∧ 1 ≤ ns.length ∧ ns.length ≤ 12 ∧ AllB 60000 ns ∧ n ≤ 4000 ∧ RootB ns ε up ∧ e = sg (hv 1 1 ns) ∧
  ∀ (p : Addr) (H' : Hp) (pl : Nat), Same H H' → H p = none → H' p = some (.tup [.int pl, .int (2 ^ n)]) → pl < 2 ^ n → (pl = 0 ∨ up pl (2 ^ n)) → ¬ up ((pl : Int) + 1) (2 ^ n) → Q (.ref p) H'
theorem ok_halved {f : Addr} {fd : FuncData} (F : Fun K "halved" "halved" s_halved f fd) (T : Txt K mg) {f_spread : Addr} {fd_spread : FuncData} (C_spread : Cal P w K mg base 1 "spread" ["row"] spSpr f_spread fd_spread) {f_whole_sign : Addr} {fd_whole_sign : FuncData} (C_whole_sign : Cal P w K mg base 1 "whole_sign" ["value"] spSg f_whole_sign fd_whole_sign) {f_moved : Addr} {fd_moved : FuncData} (C_moved : Cal P w K mg base 2 "moved" ["row"] spMov f_moved fd_moved) : FnOk P w K mg base CX0 3 f fd ["row", "end", "steps"] spHlv := by
  obtain ⟨G_spread, m_spread, k_spread, b_spread⟩ := C_spread
  obtain ⟨G_whole_sign, m_whole_sign, k_whole_sign, b_whole_sign⟩ := C_whole_sign
  obtain ⟨G_moved, m_moved, k_moved, b_moved⟩ := C_moved
  refine F.ok sc_halved (fun vs H Q E h => ?_) (fun cdv A outer s H vs Q E hr h => ?_)
  · obtain ⟨a, ns, e, n, ε, up, rfl, _⟩ := h
    rfl
  · obtain ⟨a, ns, e, n, ε, up, rfl, hA, h1n, hln, hbn, hn, hB, he, k⟩ := h
    refine ⟨_, (pss_cons (ps_set (i := 3) sc_halved.nd rfl (Or.inl rfl) pe_int)
      (pss_cons (ps_set (i := 4) sc_halved.nd rfl (Or.inl rfl) pe_int)
      (pss_cons (ps_set (i := 5) sc_halved.nd rfl (Or.inl rfl) (pv 1))
      (pss_cons (ps_set (i := 6) sc_halved.nd rfl (Or.inl rfl) (pv 0))
      (pss_cons (ps_for PassesOwn.never rfl (pi_range1 rfl T.range_ (pa_cons (pv 2) pa_nil)) (pg_name (i := 7) sc_halved.nd rfl (Or.inl rfl))
        (pss_cons (ps_set (i := 3) sc_halved.nd rfl (Or.inl rfl) (pe_op op_mulB pe_int (pv 3)))
          (pss_cons (ps_set (i := 4) sc_halved.nd rfl (Or.inl rfl) (pe_op op_mulB pe_int (pv 4)))
          (pss_cons (ps_set (i := 6) sc_halved.nd rfl (Or.inl rfl) (pe_call G_spread (hr.mono (by decide)) rfl m_spread k_spread b_spread .nil pass0 (pa_cons (pv 6) pa_nil)))
          (pss_cons (ps_set (i := 8) sc_halved.nd rfl (Or.inl rfl) (pe_call G_whole_sign (hr.mono (by decide)) rfl m_whole_sign k_whole_sign b_whole_sign .nil pass0 (pa_cons (pe_callB (call_sumK (K := K) rfl rfl) (by rfl) T.sum_ PyProof.Rows.boot_sum (pa_cons (pv 6) pa_nil)) pa_nil)))
          (pss_one (ps_if (PW.pt (pw_and (pt_cmpR op_neI (pv 8) pe_int (nomark _)) (pw_and1 (pt_cmpR op_neI (pv 8) (pv 5) (nomark _)))))
            (pss_cons (ps_set (i := 3) sc_halved.nd rfl (Or.inl rfl) (pe_op op_add (pv 3) pe_int))
              (pss_one (ps_set (i := 6) sc_halved.nd rfl (Or.inl rfl) (pe_call G_moved (hr.mono (by decide)) rfl m_moved k_moved b_moved .nil pass0 (pa_cons (pv 6) pa_nil)))))
            (pss_one (ps_set (i := 5) sc_halved.nd rfl (Or.inl rfl) (pv 8))))))))))
      (pss_one (ps_ret (pe_tup (pa_cons (pv 3) (pa_cons (pv 4) pa_nil)))))))))), ?_⟩
    refine rd_sa ?_
    refine rd_sa ?_
    refine rd_sa ⟨_, rfl, ?_⟩
    refine rd_sa ⟨_, rfl, ?_⟩
    refine ⟨_, rfl, n, rfl, by omega, by omega, for_range (lo := 0) (n := n) (fun i σ' H' => ∃ (p : Addr) (pl : Nat) (L : List Int) (z7 z8 : Option V), σ' = [some (.ref a), some (.int e), some (.int n), some (.int pl), some (.int (2 ^ i)), some (.int (sg (hv ((pl : Int) + 1) (2 ^ i) ns))), some (.ref p), z7, z8] ∧ Same H H' ∧ H' p = some (.lst (L.map V.int)) ∧ L.length = ns.length ∧ AllB (60000 + 60 * i) L ∧ (∀ p q : Int, 2 ^ i * hv p q L = hv (pl * q + p) (2 ^ i * q) ns) ∧ pl < 2 ^ i ∧ (pl = 0 ∨ up pl (2 ^ i)) ∧ ¬ up ((pl : Int) + 1) (2 ^ i)) ⟨a, 0, ns, none, none, by rw [he]; rfl, Same.refl _, hA, rfl, hbn, fun p q => by rw [Int.pow_zero, Int.one_mul, Int.one_mul]; show _ = hv (0 * q + p) q ns; rw [Int.zero_mul, Int.zero_add], by decide, .inl rfl, by rw [Int.pow_zero]; exact hB.top⟩ ?_ ?_⟩
    · rintro i σ' H1 hi ⟨p, pl, L, z7, z8, rfl, s1, h1, lL, bL, hval, hpl, hup, hnup⟩
      show tSeq (tAsg _ (gName 3)) _ _ _ _
      have b2i : Bits 4002 ((2 : Int) ^ i) := pow2_bits (by omega)
      have p2i := pow2_pos i
      have cpl : (pl : Int) < 2 ^ i := by rw [pow2_cast]; exact Int.ofNat_lt.mpr hpl
      have bpl : Bits 4002 (pl : Int) := b2i.of_le (by rw [pow2_cast]; omega)
      refine rd_sa ⟨_, rfl, _, _, rfl, rfl, ⟨two6, bpl.mono (by decide)⟩, ?_⟩
      refine rd_sa ⟨_, rfl, _, _, rfl, rfl, ⟨two6, b2i.mono (by decide)⟩, ?_⟩
      refine rd_sa ⟨_, rfl, p, L, rfl, h1, by omega, bL.mono (by omega), fun p2 H2 s2 hp2 e2 => ?_⟩
      have t2 := s1.trans s2
      have lS : (sprG L).length = ns.length := by rw [sprG_len, lL]
      have bS : AllB (60000 + 60 * i + 13) (sprG L) := sprG_bits bL (by omega)
      have e2i : (2 : Int) * 2 ^ i = 2 ^ (i + 1) := by rw [Int.pow_succ, Int.mul_comm]
      have vS : ∀ p q : Int, 2 ^ (i + 1) * hv p q (sprG L) = hv (((2 * pl : Nat) : Int) * q + p) (2 ^ (i + 1) * q) ns := fun p q => by
        have h3 := hval p (2 * q)
        rw [← hv_spr] at h3
        have h4 : (2 : Int) ^ (i + 1) * hv p q (sprG L) = 2 ^ i * (2 * hv p q (sprG L)) := by rw [Int.pow_succ]; grind
        rw [h4, h3]
        have h5 : (pl : Int) * (2 * q) + p = ((2 * pl : Nat) : Int) * q + p := by
          have : ((2 * pl : Nat) : Int) = 2 * (pl : Int) := by omega
          rw [this]; grind
        have h6 : (2 : Int) ^ i * (2 * q) = 2 ^ (i + 1) * q := by rw [Int.pow_succ]; grind
        rw [h5, h6]
      refine rd_sa ⟨_, rfl, p2, sprG L, rfl, SqL.of e2, _, rfl, ?_⟩
      have p2i1 := pow2_pos (i + 1)
      have ethere : sg (sprG L).sum = sg (hv (((2 * pl : Nat) : Int) + 1) (2 ^ (i + 1)) ns) := by
        have h3 := vS 1 1
        rw [Int.mul_one, Int.mul_one] at h3
        rw [← hv_sum, ← h3, sg_pos_mul p2i1]
      have c2pl : (((2 * pl : Nat) : Int) + 1) ≤ 2 ^ (i + 1) := by rw [← e2i]; omega
      have hold : sg (hv ((pl : Int) + 1) (2 ^ i) ns) = sg (hv (2 * ((pl : Int) + 1)) (2 ^ (i + 1)) ns) := by rw [← e2i, hv_two_sg]
      have plc : (pl : Int) + 1 ≤ 2 ^ i := by omega
      generalize hth : sg (sprG L).sum = th at ethere
      show tIfS _ _ _ _ _ _
      have epl : (2 : Int) * (pl : Int) = ((2 * pl : Nat) : Int) := by omega
      have n2i : 2 ^ (i + 1) = 2 * 2 ^ i := by rw [Nat.pow_succ, Nat.mul_comm]
      refine rd_gen (fun σ' H' => σ' = [some (.ref a), some (.int e), some (.int n), some (.int (2 * (pl : Int))), some (.int (2 * 2 ^ i)), some (.int (sg (hv ((pl : Int) + 1) (2 ^ i) ns))), some (.ref p2), some (.int (0 + (i : Int))), some (.int th)] ∧ H2 = H') ⟨by rw [← hth]; rfl, rfl⟩ ?_
      rintro σ' H' ⟨rfl, rfl⟩
      by_cases hu : up (((2 * pl : Nat) : Int) + 1) (2 ^ (i + 1))
      · -- above the cut
        have r1 := hB.r1 _ _ (by omega) c2pl hu
        rw [← ethere] at r1
        have r2 := hB.r2 _ _ (by omega) plc hnup
        have n0 : th ≠ 0 := by rcases hB.e1 with z | z <;> omega
        have n1 : th ≠ sg (hv ((pl : Int) + 1) (2 ^ i) ns) := by rcases hB.e1 with z | z <;> rcases r2 with y | y <;> omega
        refine rd_if (rd_and ⟨_, rfl, _, _, rfl, rfl, _, rfl, rd_ndec (fun _ => ?_) (fun h0 => absurd h0 n0)⟩)
        refine ⟨_, rfl, _, rfl, _, _, rfl, rfl, _, rfl, rd_ndec (fun _ => ?_) (fun h0 => absurd h0 n1)⟩
        refine rd_sa ⟨_, rfl, _, _, rfl, rfl, ?_⟩
        refine rd_asg ⟨_, rfl, p2, sprG L, rfl, e2, by omega, by omega, fun p3 H3 s3 hp3 e3 => ?_⟩
        refine ⟨p3, 2 * pl + 1, movG (sprG L), some (.int (0 + (i : Int))), some (.int th), ?_, t2.trans s3, e3, by rw [movG_len, lS], (movG_bits bS (by omega)).mono (by omega), fun p q => ?_, by omega, .inr ?_, ?_⟩
        · have q1 : (2 : Int) * (pl : Int) + 1 = ((2 * pl + 1 : Nat) : Int) := by omega
          have q2 : ((2 * pl + 1 : Nat) : Int) + 1 = 2 * ((pl : Int) + 1) := by omega
          rw [q2, ← hold, ← q1, ← e2i]; rfl
        · rw [hv_mov, vS]
          have : ((2 * pl : Nat) : Int) * q + (p + q) = ((2 * pl + 1 : Nat) : Int) * q + p := by
            have : ((2 * pl + 1 : Nat) : Int) = ((2 * pl : Nat) : Int) + 1 := by omega
            rw [this]; grind
          rw [this]
        · exact hu
        · have q2 : ((2 * pl + 1 : Nat) : Int) + 1 = 2 * ((pl : Int) + 1) := by omega
          rw [q2, ← e2i, hB.sc _ _ p2i]
          exact hnup
      · -- not above it
        have r2 := hB.r2 _ _ (by omega) c2pl hu
        rw [← ethere] at r2
        have r3 := hB.r3 _ _ ((pl : Int) + 1) (2 ^ i) (by omega) c2pl (by omega) plc hu (by
          have h7 : (((2 * pl : Nat) : Int) + 1) * 2 ^ i < (2 * (pl : Int) + 2) * 2 ^ i := Int.mul_lt_mul_of_pos_right (by omega) p2i
          have h8 : ((pl : Int) + 1) * 2 ^ (i + 1) = (2 * (pl : Int) + 2) * 2 ^ i := by rw [Int.pow_succ]; grind
          omega)
        have low : ∃ (p : Addr) (q : Nat) (L' : List Int) (z7 z8 : Option V), [some (V.ref a), some (V.int e), some (V.int n), some (V.int (2 * (pl : Int))), some (V.int (2 * 2 ^ i)), some (V.int th), some (V.ref p2), some (V.int (0 + (i : Int))), some (V.int th)] = [some (.ref a), some (.int e), some (.int n), some (.int q), some (.int (2 ^ (i + 1))), some (.int (sg (hv ((q : Int) + 1) (2 ^ (i + 1)) ns))), some (.ref p), z7, z8] ∧ Same H H2 ∧ H2 p = some (.lst (L'.map V.int)) ∧ L'.length = ns.length ∧ AllB (60000 + 60 * (i + 1)) L' ∧ (∀ p q' : Int, 2 ^ (i + 1) * hv p q' L' = hv (q * q' + p) (2 ^ (i + 1) * q') ns) ∧ q < 2 ^ (i + 1) ∧ (q = 0 ∨ up q (2 ^ (i + 1))) ∧ ¬ up ((q : Int) + 1) (2 ^ (i + 1)) := by
          refine ⟨p2, 2 * pl, sprG L, some (.int (0 + (i : Int))), some (.int th), by rw [e2i, epl, ethere], t2, e2, lS, bS.mono (by omega), vS, by omega, ?_, hu⟩
          rcases hup with z | z
          · exact .inl (by omega)
          · refine .inr ?_
            rw [← epl, ← e2i, hB.sc _ _ p2i]
            exact z
        by_cases n0 : th = 0
        · refine rd_if (rd_and ⟨_, rfl, _, _, rfl, rfl, _, rfl, rd_ndec (fun h0 => absurd n0 h0) (fun _ => ?_)⟩)
          exact rd_false (rd_asg ⟨_, rfl, low⟩)
        · have n1 : th = sg (hv ((pl : Int) + 1) (2 ^ i) ns) := by
            rcases r2 with z | z
            · rw [z, r3]
            · exact absurd z n0
          refine rd_if (rd_and ⟨_, rfl, _, _, rfl, rfl, _, rfl, rd_ndec (fun _ => ?_) (fun h0 => absurd h0 n0)⟩)
          refine ⟨_, rfl, _, rfl, _, _, rfl, rfl, _, rfl, rd_ndec (fun h0 => absurd n1 h0) (fun _ => ?_)⟩
          exact rd_asg ⟨_, rfl, low⟩
    · rintro σ' H1 ⟨p, pl, L, z7, z8, rfl, s1, h1, lL, bL, hval, hpl, hup, hnup⟩
      dsimp only
      refine rd_ret ⟨_, rfl, _, rfl, by show 2 ≤ sizeLine; decide, fun p' hp' => ?_⟩
      exact k p' _ pl (s1.then_new hp') (s1.free hp') upd_same hpl hup hnup
/-- the one root of a row within (l, h]: Up x1 x2 says that it is above x1 / x2 -/
structure RootU (ns : List Int) (l1 l2 h1 h2 ε : Int) (Up : Int → Int → Prop) : Prop where
  e1 : ε = 1 ∨ ε = -1
  r1 : ∀ x1 x2, 0 < x2 → l1 * x2 < x1 * l2 → x1 * h2 ≤ h1 * x2 → Up x1 x2 → sg (hv x1 x2 ns) = -ε
  r2 : ∀ x1 x2, 0 < x2 → l1 * x2 < x1 * l2 → x1 * h2 ≤ h1 * x2 → ¬ Up x1 x2 → sg (hv x1 x2 ns) = ε ∨ sg (hv x1 x2 ns) = 0
  r3 : ∀ x1 x2 y1 y2, 0 < x2 → 0 < y2 → l1 * x2 < x1 * l2 → y1 * h2 ≤ h1 * y2 → ¬ Up x1 x2 → x1 * y2 < y1 * x2 → sg (hv y1 y2 ns) = ε
  sc : ∀ x1 x2 y1 y2, 0 < x2 → 0 < y2 → x1 * y2 = y1 * x2 → Up x1 x2 → Up y1 y2
  low : Up l1 l2
  top : ¬ Up h1 h2
structure EndsG (k : Nat) (l1 l2 h1 h2 : Int) : Prop where
  l2p : 0 < l2
  h2p : 0 < h2
  bl1 : Bits k l1
  bl2 : Bits k l2
  bh1 : Bits k h1
  bh2 : Bits k h2
  lt : l1 * h2 < h1 * l2
  gl : Nat.gcd l1.natAbs l2.natAbs = 1
  gh : Nat.gcd h1.natAbs h2.natAbs = 1
theorem EndsG.mono {j k : Nat} {l1 l2 h1 h2 : Int} (e : EndsG j l1 l2 h1 h2) (h : j ≤ k) : EndsG k l1 l2 h1 h2 := ⟨e.l2p, e.h2p, e.bl1.mono h, e.bl2.mono h, e.bh1.mono h, e.bh2.mono h, e.lt, e.gl, e.gh⟩
/-- what narrowed tells: the place among the 2 ^ n pieces -/
structure NarP (l1 l2 h1 h2 w1 w2 : Int) (Up : Int → Int → Prop) (kb : Nat) (n pl : Nat) (x1 x2 y1 y2 : Int) : Prop where
  ends : EndsG kb x1 x2 y1 y2
  ux : Up x1 x2
  uy : ¬ Up y1 y2
  lo : l1 * x2 ≤ x1 * l2
  hi : y1 * h2 ≤ h1 * y2
  wide : (y1 * x2 - x1 * y2) * w2 ≤ w1 * (x2 * y2)
  pls : pl < 2 ^ n
  ex : x1 * (l2 * h2 * 2 ^ n) = (l1 * h2 * 2 ^ n + (h1 * l2 - l1 * h2) * pl) * x2
  ey : y1 * (l2 * h2 * 2 ^ n) = (l1 * h2 * 2 ^ n + (h1 * l2 - l1 * h2) * (pl + 1)) * y2
  big : ∀ j : Nat, j < n → w1 * (h2 * l2) * 2 ^ j < (h1 * l2 - l1 * h2) * w2
  fit : (h1 * l2 - l1 * h2) * w2 ≤ w1 * (h2 * l2) * 2 ^ n
--SPLIT
theorem sg_hv_cross {x1 x2 y1 y2 : Int} (hx : 0 < x2) (hy : 0 < y2) (e : x1 * y2 = y1 * x2) (l : List Int) : sg (hv x1 x2 l) = sg (hv y1 y2 l) := by
  have h1 := hv_scale y2 x1 x2 l
  have h2 := hv_scale x2 y1 y2 l
  have e1 : y2 * x1 = x2 * y1 := by rw [Int.mul_comm y2, e, Int.mul_comm]
  rw [e1, Int.mul_comm y2 x2] at h1
  rw [h1] at h2
  have h3 := congrArg sg h2
  rw [sg_pos_mul (Int.pow_pos hy), sg_pos_mul (Int.pow_pos hx)] at h3
  exact h3
theorem cancel {a b c : Int} (hc : 0 < c) (h : a * c = b * c) : a = b := Int.eq_of_mul_eq_mul_right (Int.ne_of_gt hc) h
theorem cancel_le {a b c : Int} (hc : 0 < c) (h : a * c ≤ b * c) : a ≤ b := Int.le_of_mul_le_mul_right h hc
theorem cancel_lt {a b c : Int} (hc : 0 < c) (h : a * c < b * c) : a < b := Int.lt_of_mul_lt_mul_right h (Int.le_of_lt hc)
/-- along the span, without the reach -/
theorem along_un {l1 l2 h1 h2 r1 r2 x1 x2 pc pl : Int} (hr : 0 < r2) (er : r1 * (h2 * l2) = (h1 * l2 - l1 * h2) * r2) (e : x1 * (l2 * r2 * pc) = (l1 * r2 * pc + r1 * l2 * pl) * x2) : x1 * (l2 * h2 * pc) = (l1 * h2 * pc + (h1 * l2 - l1 * h2) * pl) * x2 := by
  refine cancel hr ?_
  calc x1 * (l2 * h2 * pc) * r2 = (x1 * (l2 * r2 * pc)) * h2 := by grind
    _ = (l1 * r2 * pc + r1 * l2 * pl) * x2 * h2 := by rw [e]
    _ = (l1 * h2 * pc * r2 + (r1 * (h2 * l2)) * pl) * x2 := by grind
    _ = (l1 * h2 * pc * r2 + ((h1 * l2 - l1 * h2) * r2) * pl) * x2 := by rw [er]
    _ = (l1 * h2 * pc + (h1 * l2 - l1 * h2) * pl) * x2 * r2 := by grind
theorem nar_facts {l1 l2 h1 h2 w1 w2 x1 x2 y1 y2 pc pl : Int} (hl : 0 < l2) (hh : 0 < h2) (hx : 0 < x2) (hy : 0 < y2) (hpc : 0 < pc) (hp0 : 0 ≤ pl) (hp1 : pl + 1 ≤ pc) (hD : 0 < h1 * l2 - l1 * h2) (ex : x1 * (l2 * h2 * pc) = (l1 * h2 * pc + (h1 * l2 - l1 * h2) * pl) * x2) (ey : y1 * (l2 * h2 * pc) = (l1 * h2 * pc + (h1 * l2 - l1 * h2) * (pl + 1)) * y2) (fit : (h1 * l2 - l1 * h2) * w2 ≤ w1 * (h2 * l2) * pc) : x1 * y2 < y1 * x2 ∧ l1 * x2 ≤ x1 * l2 ∧ y1 * h2 ≤ h1 * y2 ∧ (y1 * x2 - x1 * y2) * w2 ≤ w1 * (x2 * y2) := by
  have hlh : 0 < l2 * h2 := Int.mul_pos hl hh
  have hM : 0 < l2 * h2 * pc := Int.mul_pos hlh hpc
  have hxy : 0 < x2 * y2 := Int.mul_pos hx hy
  have hd : (y1 * x2 - x1 * y2) * (l2 * h2 * pc) = (h1 * l2 - l1 * h2) * (x2 * y2) := by
    calc (y1 * x2 - x1 * y2) * (l2 * h2 * pc) = (y1 * (l2 * h2 * pc)) * x2 - (x1 * (l2 * h2 * pc)) * y2 := by grind
      _ = ((l1 * h2 * pc + (h1 * l2 - l1 * h2) * (pl + 1)) * y2) * x2 - ((l1 * h2 * pc + (h1 * l2 - l1 * h2) * pl) * x2) * y2 := by rw [ex, ey]
      _ = (h1 * l2 - l1 * h2) * (x2 * y2) := by grind
  have hi : y1 * h2 ≤ h1 * y2 := by
    refine cancel_le (c := l2 * pc) (Int.mul_pos hl hpc) ?_
    have e1 : y1 * h2 * (l2 * pc) = y1 * (l2 * h2 * pc) := by grind
    have e2 : h1 * y2 * (l2 * pc) = (l1 * h2 * pc + (h1 * l2 - l1 * h2) * pc) * y2 := by grind
    rw [e1, ey, e2]
    refine Int.mul_le_mul_of_nonneg_right ?_ (Int.le_of_lt hy)
    have := Int.mul_le_mul_of_nonneg_left hp1 (Int.le_of_lt hD)
    omega
  generalize h1 * l2 - l1 * h2 = D at *
  refine ⟨?_, ?_, hi, ?_⟩
  · have h3 : 0 < (y1 * x2 - x1 * y2) * (l2 * h2 * pc) := by rw [hd]; exact Int.mul_pos hD hxy
    have h4 : 0 < y1 * x2 - x1 * y2 := cancel_lt hM (by rw [Int.zero_mul]; exact h3)
    omega
  · refine cancel_le (c := h2 * pc) (Int.mul_pos hh hpc) ?_
    have e1 : x1 * l2 * (h2 * pc) = x1 * (l2 * h2 * pc) := by grind
    have e2 : l1 * x2 * (h2 * pc) = l1 * h2 * pc * x2 := by grind
    rw [e1, ex, e2, Int.add_mul]
    have : 0 ≤ D * pl * x2 := Int.mul_nonneg (Int.mul_nonneg (Int.le_of_lt hD) hp0) (Int.le_of_lt hx)
    omega
  · refine cancel_le hM ?_
    have e1 : (y1 * x2 - x1 * y2) * w2 * (l2 * h2 * pc) = ((y1 * x2 - x1 * y2) * (l2 * h2 * pc)) * w2 := by grind
    have e2 : w1 * (x2 * y2) * (l2 * h2 * pc) = w1 * (h2 * l2) * pc * (x2 * y2) := by grind
    have e3 : D * (x2 * y2) * w2 = D * w2 * (x2 * y2) := by grind
    rw [e1, hd, e2, e3]
    exact Int.mul_le_mul_of_nonneg_right fit (Int.le_of_lt hxy)
def spNar (C : Addr) : Sp := fun vs H Q _ => ∃ (a l h wd : Addr) (ns : List Int) (l1 l2 h1 h2 w1 w2 : Int) (k kw : Nat) (ε : Int) (Up : Int → Int → Prop), vs = [.ref a, .ref l, .ref h, .ref wd] ∧ H a = some (.lst (ns.map V.int)) ∧ Tr ns ∧ ns ≠ [] ∧ ns.length ≤ 12 ∧ AllB 1000 ns ∧ RA C H l l1 l2 ∧ RA C H h h1 h2 ∧ RA C H wd w1 w2 ∧ EndsG k l1 l2 h1 h2 ∧ 0 < w1 ∧ 0 < w2 ∧ Bits kw w1 ∧ Bits kw w2 ∧ k ≤ 1400 ∧ 2 * k + kw ≤ 3900 ∧ 5 * k + kw ≤ 8900 ∧ RootU ns l1 l2 h1 h2 ε Up ∧
  ∀ (p x y : Addr) (H' : Hp) (n pl : Nat) (x1 x2 y1 y2 : Int), Same H H' → H p = none → H' p = some (.tup [.ref x, .ref y]) → RA C H' x x1 x2 → RA C H' y y1 y2 → NarP l1 l2 h1 h2 w1 w2 Up (5 * k + kw + 4) n pl x1 x2 y1 y2 → Q (.ref p) H'
theorem ok_narrowed {C f : Addr} {fd : FuncData} (F : Fun K "narrowed" "narrowed" s_narrowed f fd) (T : Txt K mg) (R : RCI K mg C) {f_Ratio_minus : Addr} {fd_Ratio_minus : FuncData} (C_Ratio_minus : MCal P w K mg base 4 C "minus" ["self", "other"] (spMinus C) f_Ratio_minus fd_Ratio_minus) {f_halvings : Addr} {fd_halvings : FuncData} (C_halvings : Cal P w K mg base 1 "halvings" ["reach", "width"] (spHvs C) f_halvings fd_halvings) {f_halved : Addr} {fd_halved : FuncData} (C_halved : Cal P w K mg base 3 "halved" ["row", "end", "steps"] spHlv f_halved fd_halved) {f_stretched : Addr} {fd_stretched : FuncData} (C_stretched : Cal P w K mg base 3 "stretched" ["row", "low", "reach"] (spStr C) f_stretched fd_stretched) {f_sign_at : Addr} {fd_sign_at : FuncData} (C_sign_at : Cal P w K mg base 2 "sign_at" ["row", "ratio"] (spSa C) f_sign_at fd_sign_at) {f_along : Addr} {fd_along : FuncData} (C_along : Cal P w K mg base 5 "along" ["low", "reach", "place", "pieces"] (spAlo C) f_along fd_along) : FnOk P w K mg base CX0 6 f fd ["row", "low", "high", "width"] (spNar C) := by
  obtain ⟨G_Ratio_minus, mt_Ratio_minus, b_Ratio_minus⟩ := C_Ratio_minus
  obtain ⟨G_halvings, m_halvings, k_halvings, b_halvings⟩ := C_halvings
  obtain ⟨G_halved, m_halved, k_halved, b_halved⟩ := C_halved
  obtain ⟨G_stretched, m_stretched, k_stretched, b_stretched⟩ := C_stretched
  obtain ⟨G_sign_at, m_sign_at, k_sign_at, b_sign_at⟩ := C_sign_at
  obtain ⟨G_along, m_along, k_along, b_along⟩ := C_along
  refine F.ok sc_narrowed (fun vs H Q E h => ?_) (fun cdv A outer s H vs Q E hr h => ?_)
  · obtain ⟨a, l, h, wd, ns, l1, l2, h1, h2, w1, w2, k, kw, ε, Up, rfl, _⟩ := h
    rfl
  · obtain ⟨a, l, h, wd, ns, l1, l2, h1, h2, w1, w2, kb, kw, ε, Up, rfl, hA, hT, hne, hln, hbn, hl, hh, hw, en, hw1, hw2, bw1, bw2, hk1, hk2, hk3, hU, k⟩ := h
    refine ⟨_, (pss_cons (ps_set (i := 4) sc_narrowed.nd rfl (Or.inl rfl) (pe_meth (pv 2) R.cl mt_Ratio_minus G_Ratio_minus (hr.mono (by decide)) b_Ratio_minus .nil pass0 (pa_cons (pv 1) pa_nil)))
      (pss_cons (ps_set (i := 5) sc_narrowed.nd rfl (Or.inl rfl) (pe_call G_halvings (hr.mono (by decide)) rfl m_halvings k_halvings b_halvings .nil pass0 (pa_cons (pv 4) (pa_cons (pv 3) pa_nil))))
      (pss_cons (ps_if (pt_cmpR op_eqI (pv 5) pe_int (nomark _))
        (pss_one (ps_ret (pe_tup (pa_cons (pv 1) (pa_cons (pv 2) pa_nil)))))
        pss_nil)
      (pss_cons (ps_set (i := 6) sc_narrowed.nd rfl (Or.inl rfl) (pe_call G_halved (hr.mono (by decide)) rfl m_halved k_halved b_halved .nil pass0 (pa_cons (pe_call G_stretched (hr.mono (by decide)) rfl m_stretched k_stretched b_stretched .nil pass0 (pa_cons (pv 0) (pa_cons (pv 1) (pa_cons (pv 4) pa_nil)))) (pa_cons (pe_call G_sign_at (hr.mono (by decide)) rfl m_sign_at k_sign_at b_sign_at .nil pass0 (pa_cons (pv 0) (pa_cons (pv 2) pa_nil))) (pa_cons (pv 5) pa_nil)))))
      (pss_one (ps_ret (pe_tup (pa_cons (pe_call G_along (hr.mono (by decide)) rfl m_along k_along b_along .nil pass0 (pa_cons (pv 1) (pa_cons (pv 4) (pa_cons (pe_ix (ix_tupK (K := K) rfl) (pv 6) pe_int (fun _ _ => rfl)) (pa_cons (pe_ix (ix_tupK (K := K) rfl) (pv 6) pe_int (fun _ _ => rfl)) pa_nil))))) (pa_cons (pe_call G_along (hr.mono (by decide)) rfl m_along k_along b_along .nil pass0 (pa_cons (pv 1) (pa_cons (pv 4) (pa_cons (pe_op op_add (pe_ix (ix_tupK (K := K) rfl) (pv 6) pe_int (fun _ _ => rfl)) pe_int) (pa_cons (pe_ix (ix_tupK (K := K) rfl) (pv 6) pe_int (fun _ _ => rfl)) pa_nil))))) pa_nil))))))))), ?_⟩
    obtain ⟨dl, hl'⟩ := id hl
    obtain ⟨dh, hh'⟩ := id hh
    obtain ⟨l2p, h2p, bl1, bl2, bh1, bh2, lt, _, _⟩ := id en
    refine rd_sa ⟨_, rfl, h, dh, _, rfl, hh', flds_no _ _ no_minus.1 no_minus.2, _, rfl, h, l, h1, h2, l1, l2, kb, kb, rfl, hh, hl, bh1.mono (by omega), bh2, bl1.mono (by omega), bl2, by omega, h2p, l2p, fun r H1 s1 fr hr1 => ?_⟩
    have d0 : h2 * l2 ≠ 0 := Int.ne_of_gt (Int.mul_pos h2p l2p)
    have er := r_cross (t := h1 * l2 - l1 * h2) d0
    have r2p : 0 < rb (h1 * l2 - l1 * h2) (h2 * l2) := rb_pos d0
    have br1 : Bits (2 * kb + 1) (rt (h1 * l2 - l1 * h2) (h2 * l2)) := rt_bits d0 (Bits.sub ((bh1.mul bl2).mono (by omega)) ((bl1.mul bh2).mono (by omega)))
    have br2 : Bits (2 * kb + 1) (rb (h1 * l2 - l1 * h2) (h2 * l2)) := rb_bits d0 ((bh2.mul bl2).mono (by omega))
    generalize rt (h1 * l2 - l1 * h2) (h2 * l2) = r1 at *
    generalize rb (h1 * l2 - l1 * h2) (h2 * l2) = r2 at *
    have hD : 0 < h1 * l2 - l1 * h2 := by omega
    have hhl : 0 < h2 * l2 := Int.mul_pos h2p l2p
    have r1p : 0 < r1 := cancel_lt hhl (by rw [Int.zero_mul, er]; exact Int.mul_pos hD r2p)
    have hA1 := s1 _ _ hA
    have hl1 := hl.same s1
    have hh1 := hh.same s1
    refine rd_sa ⟨_, rfl, _, rfl, r, wd, r1, r2, w1, w2, 2 * kb + 1, kw, rfl, hr1, hw.same s1, r2p, hw1, br1, br2.mono (by omega), bw1.mono (by omega), bw2, by omega, fun n hn hle hmin => ?_⟩
    have fit : (h1 * l2 - l1 * h2) * w2 ≤ w1 * (h2 * l2) * 2 ^ n := by
      refine cancel_le r2p ?_
      calc (h1 * l2 - l1 * h2) * w2 * r2 = ((h1 * l2 - l1 * h2) * r2) * w2 := by grind
        _ = r1 * (h2 * l2) * w2 := by rw [er]
        _ = r1 * w2 * (h2 * l2) := by grind
        _ ≤ w1 * r2 * 2 ^ n * (h2 * l2) := Int.mul_le_mul_of_nonneg_right hle (Int.le_of_lt hhl)
        _ = w1 * (h2 * l2) * 2 ^ n * r2 := by grind
    have bigg : ∀ j : Nat, j < n → w1 * (h2 * l2) * 2 ^ j < (h1 * l2 - l1 * h2) * w2 := fun j hj => by
      refine cancel_lt r2p ?_
      calc w1 * (h2 * l2) * 2 ^ j * r2 = w1 * r2 * 2 ^ j * (h2 * l2) := by grind
        _ < r1 * w2 * (h2 * l2) := Int.mul_lt_mul_of_pos_right (hmin j hj) hhl
        _ = r1 * (h2 * l2) * w2 := by grind
        _ = (h1 * l2 - l1 * h2) * r2 * w2 := by rw [er]
        _ = (h1 * l2 - l1 * h2) * w2 * r2 := by grind
    refine rd_sr ⟨_, rfl, _, _, rfl, rfl, _, rfl, rd_dec (fun h0 => ?_) (fun _ => ?_)⟩
    · obtain rfl : n = 0 := by have : (n : Int) = 0 := h0; omega
      refine rd_ret ⟨_, rfl, _, rfl, by show 2 ≤ sizeLine; decide, fun p hp => ?_⟩
      have sp := Same.upd_new (o := .tup [V.ref l, V.ref h]) hp
      have ex : l1 * (l2 * h2 * 2 ^ 0) = (l1 * h2 * 2 ^ 0 + (h1 * l2 - l1 * h2) * ((0 : Nat) : Int)) * l2 := by rw [Int.pow_zero]; show _ = (_ + _ * 0) * _; grind
      have ey : h1 * (l2 * h2 * 2 ^ 0) = (l1 * h2 * 2 ^ 0 + (h1 * l2 - l1 * h2) * (((0 : Nat) : Int) + 1)) * h2 := by rw [Int.pow_zero]; show _ = (_ + _ * (0 + 1)) * _; grind
      have nf := nar_facts (w1 := w1) (w2 := w2) (pc := 2 ^ 0) l2p h2p l2p h2p (pow2_pos 0) (Int.le_refl 0) (by decide) hD ex ey fit
      exact k p l h _ 0 0 l1 l2 h1 h2 (s1.then_new hp) (s1.free hp) upd_same (hl1.same sp) (hh1.same sp) ⟨en.mono (by omega), hU.low, hU.top, Int.le_refl _, Int.le_refl _, nf.2.2.2, by decide, ex, ey, bigg, fit⟩
    refine rd_sa ⟨_, rfl, _, rfl, _, rfl, a, l, r, ns, l1, l2, r1, r2, rfl, hA1, hl1, hr1, hT, hne, hln, hbn, l2p, r1p, r2p, bl1.mono hk1, bl2.mono hk1, br1.mono (by omega), br2.mono (by omega), fun m s0 s1' pm e0 e1 hs1 bS p2 H2 s2 hp2 eq2 => ?_⟩
    have t2 := s1.trans s2
    refine ⟨_, rfl, _, rfl, a, h, ns, h1, h2, ⟨rfl, t2 _ _ hA, hh.same t2, by omega, hbn, bh1.mono (by omega), bh2.mono (by omega)⟩, fun H3 s3 => ?_⟩
    have t3 := t2.trans s3
    have lp : 0 < l2 * r2 := Int.mul_pos l2p r2p
    -- the high end is low + reach
    have top : (s0 + s1') * h2 = h1 * m := by
      refine cancel lp ?_
      calc (s0 + s1') * h2 * (l2 * r2) = ((s0 * l2) * r2 + (s1' * r2) * l2) * h2 := by grind
        _ = (l1 * m * r2 + r1 * m * l2) * h2 := by rw [e0, e1]
        _ = m * (l1 * r2 * h2 + r1 * (h2 * l2)) := by grind
        _ = m * (l1 * r2 * h2 + (h1 * l2 - l1 * h2) * r2) := by rw [er]
        _ = h1 * m * (l2 * r2) := by grind
    have pt : ∀ p c : Int, 0 < p → p ≤ c → 0 < m * c ∧ l1 * (m * c) < (s0 * c + s1' * p) * l2 ∧ (s0 * c + s1' * p) * h2 ≤ h1 * (m * c) := fun p c hp hc => by
      refine ⟨Int.mul_pos pm (by omega), ?_, ?_⟩
      · have : (s0 * c + s1' * p) * l2 = l1 * (m * c) + s1' * p * l2 := by
          calc (s0 * c + s1' * p) * l2 = (s0 * l2) * c + s1' * p * l2 := by grind
            _ = l1 * m * c + s1' * p * l2 := by rw [e0]
            _ = l1 * (m * c) + s1' * p * l2 := by grind
        rw [this]
        have := Int.mul_pos (Int.mul_pos hs1 hp) l2p
        omega
      · have h3 : s1' * p ≤ s1' * c := Int.mul_le_mul_of_nonneg_left hc (Int.le_of_lt hs1)
        have h4 : (s0 * c + s1' * p) * h2 ≤ (s0 * c + s1' * c) * h2 := Int.mul_le_mul_of_nonneg_right (by omega) (Int.le_of_lt h2p)
        have h5 : (s0 * c + s1' * c) * h2 = h1 * (m * c) := by
          calc (s0 * c + s1' * c) * h2 = ((s0 + s1') * h2) * c := by grind
            _ = h1 * m * c := by rw [top]
            _ = h1 * (m * c) := by grind
        omega
    have vs : ∀ p c : Int, sg (hv p c (strG m s0 s1' ns)) = sg (hv (s0 * c + s1' * p) (m * c) ns) := fun p c => by
      rw [← hv_str, sg_pos_mul pm]
    have hB : RootB (strG m s0 s1' ns) ε (fun p c => Up (s0 * c + s1' * p) (m * c)) := by
      refine ⟨hU.e1, fun p c hp hc hu => ?_, fun p c hp hc hu => ?_, fun p c p' c' hp hc hp' hc' hu hlt => ?_, fun p c hc => ?_, fun hu => ?_⟩
      · rw [vs]
        obtain ⟨q1, q2, q3⟩ := pt p c hp hc
        exact hU.r1 _ _ q1 q2 q3 hu
      · rw [vs]
        obtain ⟨q1, q2, q3⟩ := pt p c hp hc
        exact hU.r2 _ _ q1 q2 q3 hu
      · rw [vs]
        obtain ⟨q1, q2, q3⟩ := pt p c hp hc
        obtain ⟨q1', q2', q3'⟩ := pt p' c' hp' hc'
        refine hU.r3 _ _ _ _ q1 q1' q2 q3' hu ?_
        have h3 : s1' * m * (p * c') < s1' * m * (p' * c) := Int.mul_lt_mul_of_pos_left hlt (Int.mul_pos hs1 pm)
        have e3 : (s0 * c + s1' * p) * (m * c') = s0 * c * (m * c') + s1' * m * (p * c') := by grind
        have e4 : (s0 * c' + s1' * p') * (m * c) = s0 * c * (m * c') + s1' * m * (p' * c) := by grind
        omega
      · have g1 : 0 < m * c := Int.mul_pos pm hc
        have g2 : 0 < m * (2 * c) := Int.mul_pos pm (by omega)
        constructor
        · exact hU.sc _ _ _ _ g2 g1 (by grind)
        · exact hU.sc _ _ _ _ g1 g2 (by grind)
      · refine hU.top (hU.sc _ _ _ _ (by rw [Int.mul_one]; exact pm) h2p ?_ hu)
        rw [Int.mul_one, Int.mul_one, Int.mul_one]; exact top
    have lstr := strG_len m s0 s1' ns
    have hn1 : 1 ≤ ns.length := List.length_pos_iff.mpr hne
    refine ⟨_, rfl, p2, strG m s0 s1' ns, _, n, ε, _, rfl, s3 _ _ eq2, by omega, by omega, bS, by omega, hB, ?_, fun p4 H4 pl s4 hp4 e4 hpl hup hnup => ?_⟩
    · rw [vs]
      refine sg_hv_cross h2p (by rw [Int.mul_one]; exact pm) ?_ ns
      rw [Int.mul_one, Int.mul_one, Int.mul_one]; exact top.symm
    have t4 := t3.trans s4
    have u4 := (s2.trans s3).trans s4
    have b2n : Bits (n + 1) ((2 : Int) ^ n) := pow2_bits (by omega)
    have cpl : (pl : Int) < 2 ^ n := by rw [pow2_cast]; exact Int.ofNat_lt.mpr hpl
    have bpl : Bits (n + 1) (pl : Int) := b2n.of_le (by rw [pow2_cast]; omega)
    have bpl1 : Bits (n + 1) ((pl : Int) + 1) := b2n.of_le (by rw [pow2_cast]; omega)
    have p2n := pow2_pos n
    refine rd_ret ⟨_, rfl, _, rfl, _, rfl, p4, _, _, _, rfl, rfl, SqT.of e4, rfl, _, rfl, p4, _, _, _, rfl, rfl, SqT.of e4, rfl, l, r, l1, l2, r1, r2, pl, 2 ^ n, kb, 2 * kb + 1, n + 1, rfl, hl.same t4, hr1.same u4, l2p, r2p, p2n, bl1, bl2, br1, br2, bpl, b2n, by omega, fun x H5 x1 x2 s5 hx hRx x2p ex bx1 bx2 gx => ?_⟩
    have e5 := s5 _ _ e4
    have t5 := t4.trans s5
    have u5 := u4.trans s5
    refine ⟨_, rfl, _, rfl, _, rfl, p4, _, _, _, rfl, rfl, SqT.of e5, rfl, _, _, rfl, rfl, _, rfl, p4, _, _, _, rfl, rfl, SqT.of e5, rfl, l, r, l1, l2, r1, r2, pl + 1, 2 ^ n, kb, 2 * kb + 1, n + 1, rfl, hl.same t5, hr1.same u5, l2p, r2p, p2n, bl1, bl2, br1, br2, bpl1, b2n, by omega, fun y H6 y1 y2 s6 hy hRy y2p ey by1 by2 gy => ?_⟩
    refine ⟨by show 2 ≤ sizeLine; decide, fun p hp => ?_⟩
    have sp := Same.upd_new (o := .tup [V.ref x, V.ref y]) hp
    have t6 := t5.trans s6
    have ex' := along_un r2p er ex
    have ey' := along_un r2p er ey
    have nf := nar_facts (w1 := w1) (w2 := w2) l2p h2p x2p y2p p2n (show (0 : Int) ≤ (pl : Int) by omega) (by omega) hD ex' ey' fit
    have cross : ∀ (q z1 z2 : Int), z1 * (l2 * r2 * 2 ^ n) = (l1 * r2 * 2 ^ n + r1 * l2 * q) * z2 → (s0 * 2 ^ n + s1' * q) * z2 = z1 * (m * 2 ^ n) := fun q z1 z2 ez => by
      refine cancel lp ?_
      calc (s0 * 2 ^ n + s1' * q) * z2 * (l2 * r2) = ((s0 * l2) * r2 * 2 ^ n + (s1' * r2) * l2 * q) * z2 := by grind
        _ = (l1 * m * r2 * 2 ^ n + r1 * m * l2 * q) * z2 := by rw [e0, e1]
        _ = m * ((l1 * r2 * 2 ^ n + r1 * l2 * q) * z2) := by grind
        _ = m * (z1 * (l2 * r2 * 2 ^ n)) := by rw [ez]
        _ = z1 * (m * 2 ^ n) * (l2 * r2) := by grind
    have hm2 : 0 < m * 2 ^ n := Int.mul_pos pm p2n
    refine k p x y _ n pl x1 x2 y1 y2 (t6.then_new hp) (t6.free hp) upd_same ((hRx.same s6).same sp) (hRy.same sp) ⟨⟨x2p, y2p, bx1.mono (by omega), bx2.mono (by omega), by1.mono (by omega), by2.mono (by omega), nf.1, gx, gy⟩, ?_, ?_, nf.2.1, nf.2.2.1, nf.2.2.2, hpl, ex', ey', bigg, fit⟩
    · rcases hup with z | z
      · refine hU.sc _ _ _ _ l2p x2p ?_ hU.low
        rw [z] at ex'
        refine cancel (Int.mul_pos h2p p2n) ?_
        calc l1 * x2 * (h2 * 2 ^ n) = (l1 * h2 * 2 ^ n + (h1 * l2 - l1 * h2) * ((0 : Nat) : Int)) * x2 := by show _ = (_ + _ * 0) * _; grind
          _ = x1 * (l2 * h2 * 2 ^ n) := ex'.symm
          _ = x1 * l2 * (h2 * 2 ^ n) := by grind
      · exact hU.sc _ _ _ _ hm2 x2p (cross _ _ _ ex) z
    · intro hu
      exact hnup (hU.sc _ _ _ _ y2p hm2 (cross _ _ _ ey).symm hu)
--SPLIT
theorem ok_refuse_high {f : Addr} {fd : FuncData} (F : Fun K "refuse_high" "refuse_high" s_refuse_high f fd) (T : Txt K mg) : FnOk P w K mg base CX0 1 f fd ["height"] (fun vs H Q _ => ∃ i : Int, vs = [.int i] ∧ i ≤ 8 ∧ Q .non H) := by
  obtain ⟨tH, hHIGHEST⟩ := T.HIGHEST_
  refine F.ok sc_refuse_high (fun vs H Q E h => ?_) (fun cdv A outer s H vs Q E hr h => ?_)
  · obtain ⟨i, rfl, _⟩ := h
    rfl
  · obtain ⟨i, rfl, hi, k⟩ := h
    refine ⟨_, (pss_one (ps_if (pt_cmpR op_gt (pv 0) (pe_glob (v := .int 8) rfl hHIGHEST ⟨_, rfl⟩) (nomark _))
        (pss_one ps_never)
        pss_nil)), ?_⟩
    refine rd_if ⟨_, rfl, _, _, rfl, rfl, _, rfl, rd_dec (fun h => absurd (show i > 8 from h) (by omega)) (fun _ => ?_)⟩
    exact k
structure NCI (K : PySem.W.Frag) (mg : Str → Option Value) (CN : Addr) : Prop where
  cl : Cls K CN
  nP : NoAttr K CN "poly"
  nL : NoAttr K CN "low"
  nH : NoAttr K CN "high"
  mg : mg "Number" = some (.ref CN)
  ha : PySem.W.findIn K (.ref CN) "__class__" = some (some (.builtin "object.__class__"))
  hn : PySem.W.specialIn K (.builtin "object.__class__") "__get__" = some (some (.builtin "getset_descriptor.__get__"))
  ht : PySem.W.takesIn K (.builtin "object.__class__") = some true
  hm : PySem.W.mroIn K CN (.type "object") = some true
def fldsN (p l h : Addr) : List (Str × V) := putF "high" (.ref h) (putF "low" (.ref l) (putF "poly" (.ref p) []))
theorem ph_ne : ¬ (("poly" : Str) = "high") := by decide +kernel
theorem pl_ne : ¬ (("poly" : Str) = "low") := by decide +kernel
theorem lh_ne : ¬ (("low" : Str) = "high") := by decide +kernel
theorem fldsN_high (p l h : Addr) : (fldsN p l h).lookup ("high" : Str) = some (.ref h) := by unfold fldsN; rw [lookup_putF, if_pos rfl]
theorem fldsN_low (p l h : Addr) : (fldsN p l h).lookup ("low" : Str) = some (.ref l) := by unfold fldsN; rw [lookup_putF, if_neg lh_ne, lookup_putF, if_pos rfl]
theorem fldsN_poly (p l h : Addr) : (fldsN p l h).lookup ("poly" : Str) = some (.ref p) := by unfold fldsN; rw [lookup_putF, if_neg ph_ne, lookup_putF, if_neg pl_ne, lookup_putF, if_pos rfl]
/-- a Number stands at x -/
def NA (CN : Addr) (H : Hp) (x p l h : Addr) : Prop := ∃ dx, H x = some (.ins CN dx (fldsN p l h))
theorem NA.same {CN : Addr} {H H' : Hp} {x p l h : Addr} (n : NA CN H x p l h) (s : Same H H') : NA CN H' x p l h := let ⟨dx, e⟩ := n; ⟨dx, s _ _ e⟩
def spInitN (CN : Addr) : Sp := fun vs H Q _ => ∃ (x dx r l h : Addr) (ns : List V), vs = [.ref x, .ref r, .ref l, .ref h] ∧ H x = some (.ins CN dx []) ∧ H r = some (.lst ns) ∧ ∀ p, H p = none → Q .non (upd (upd H p (.lst ns)) x (.ins CN dx (fldsN p l h)))
theorem ok_Number___init__ {CN f : Addr} {fd : FuncData} (F : Fun K "__init__" "Number.__init__" s_Number___init__ f fd) (T : Txt K mg) (RN : NCI K mg CN) : FnOk P w K mg base CX0 1 f fd ["self", "row", "low", "high"] (spInitN CN) := by
  refine F.ok sc_Number___init__ (fun vs H Q E h => ?_) (fun cdv A outer s H vs Q E hr h => ?_)
  · obtain ⟨x, dx, r, l, h, ns, rfl, _⟩ := h
    rfl
  · obtain ⟨x, dx, r, l, h, ns, rfl, hx, hR, k⟩ := h
    refine ⟨_, (pss_cons (ps_fld (pv 0) (pe_callTy (call_listK (K := K) rfl) (by rfl) T.list_ PyProof.Rows.boot_list (pa_cons (pv 1) pa_nil)) rfl)
      (pss_cons (ps_fld (pv 0) (pv 2) rfl)
      (pss_one (ps_fld (pv 0) (pv 3) rfl)))), ?_⟩
    refine ⟨_, rfl, r, _, rfl, .inl (SqL.of hR), fun p hp => ?_⟩
    have npx : x ≠ p := ne_of_none hx hp
    refine ⟨_, rfl, x, CN, dx, _, rfl, by rw [upd_ne npx]; exact hx, RN.cl, RN.nP, by show 0 < 1000; decide, ?_⟩
    refine ⟨_, rfl, _, rfl, x, CN, dx, _, rfl, upd_same, RN.cl, RN.nL, by show 1 < 1000; decide, ?_⟩
    refine ⟨_, rfl, _, rfl, x, CN, dx, _, rfl, upd_same, RN.cl, RN.nH, by show 2 < 1000; decide, ?_⟩
    show Q .non (upd (upd (upd (upd H p _) x _) x _) x _)
    rw [upd_upd, upd_upd]
    exact k p hp
def spRg : Sp := fun vs H Q _ => ∃ (a : Addr) (ns : List Int), vs = [.ref a] ∧ H a = some (.lst (ns.map V.int)) ∧ ns.length ≤ 1000 ∧ AllB 300 ns ∧ ∀ H', Same H H' → Q .non H'
theorem b120 : Bits 399 (10 ^ 60 * 10 ^ 60) ∧ (2 : Int) ^ 300 ≤ 10 ^ 60 * 10 ^ 60 := by
  constructor
  · show ((10 : Int) ^ 60 * 10 ^ 60).natAbs < 2 ^ 399; decide +kernel
  · decide +kernel
theorem ok_refuse_great {f : Addr} {fd : FuncData} (F : Fun K "refuse_great" "refuse_great" s_refuse_great f fd) (T : Txt K mg) : FnOk P w K mg base CX0 1 f fd ["row"] spRg := by
  refine F.ok sc_refuse_great (fun vs H Q E h => ?_) (fun cdv A outer s H vs Q E hr h => ?_)
  · obtain ⟨a, ns, rfl, _⟩ := h
    rfl
  · obtain ⟨a, ns, rfl, hA, hl, hb, k⟩ := h
    have big := sizeLine_eq
    refine ⟨_, (pss_cons (ps_set (i := 1) sc_refuse_great.nd rfl (Or.inr rfl) (pe_op op_mulB (pe_op op_pow pe_int pe_int) (pe_op op_pow pe_int pe_int)))
      (pss_one (ps_if (pt_truth (pe_callB (call_anyK (K := K) rfl rfl) (by rfl) T.any_ PyProof.Rows.boot_any (pa_cons (pe_comp (own := ["value"]) (fr := ["limit"]) (js := [1]) (by walk_at "comp_ok") rfl (pi_listK (K := K) rfl (pv 0)) (fun _ _ _ _ => (pg_name (i := 0) (show List.Nodup (["value", "limit"] : List Str) from by decide +kernel) rfl (Or.inl rfl))) (fun _ _ _ _ => (pe_cmpR op_ge (pe_callB call_abs (by rfl) T.abs_ PyProof.Rows.boot_abs (pa_cons (pv 0) pa_nil)) (pv 1) (nomark _)))) pa_nil)) (by intro _; rfl))
        (pss_one ps_never)
        pss_nil))), ?_⟩
    have b6 : Bits 1000000 ((10 : Int) ^ 60) := b60.mono (by decide)
    refine rd_sa ⟨_, _, rfl, rfl, ⟨by decide, by decide, by decide⟩, _, _, rfl, rfl, ⟨by decide, by decide, by decide⟩, _, _, rfl, rfl, ⟨b6, b6⟩, ?_⟩
    refine rd_if ⟨_, rfl, a, rfl, ⟨_, SqL.of hA⟩, comp_list (K := K) (a := a) (xs := ns.map V.int) (fun i ys σ' H' => ∃ (z0 : Option V) (bs : List Bool), σ' = [z0, some (.int (10 ^ 60 * 10 ^ 60))] ∧ ys = bs.map V.bl ∧ bs.length = i ∧ (∀ x ∈ bs, x = false) ∧ H = H') (by rw [List.length_map]; omega) ⟨none, [], rfl, rfl, rfl, (fun _ h => nomatch h), rfl⟩ ?_ ?_ ?_⟩
    · rintro i ys σ' H' _ ⟨z0, bs, rfl, rfl, rfl, _, rfl⟩
      exact ⟨SqL.of hA, by rw [List.length_map]; exact Nat.le_refl _⟩
    · rintro i x ys σ' H' hi ⟨z0, bs, rfl, rfl, rfl, hbs, rfl⟩
      obtain ⟨c, _, rfl, hc, _⟩ := get_int hi
      refine ⟨_, rfl, _, rfl, _, rfl, _, _, rfl, rfl, ?_⟩
      refine ⟨_, bs ++ [false], rfl, ?_, by rw [List.length_append]; rfl, fun x hx => ?_, rfl⟩
      · have hlt : ¬ ((if c < 0 then -c else c) ≥ 10 ^ 60 * 10 ^ 60) := by
          have h1 : c.natAbs < 2 ^ 300 := hb c hc
          have h2 := b120.2
          have h3 : ((2 ^ 300 : Nat) : Int) = (2 : Int) ^ 300 := by rw [Int.natCast_pow]; rfl
          have h4 : (c.natAbs : Int) < (2 : Int) ^ 300 := by rw [← h3]; exact Int.ofNat_lt.mpr h1
          generalize (2 : Int) ^ 300 = X at h2 h4
          generalize (10 : Int) ^ 60 * 10 ^ 60 = Y at h2 ⊢
          split <;> omega
        rw [List.map_append]
        show _ ++ [V.bl (decide _)] = _
        rw [decide_eq_false hlt]; rfl
      · rcases List.mem_append.mp hx with h | h
        · exact hbs x h
        · exact List.mem_singleton.mp h
    rintro ys σ' H' p ⟨z0, bs, rfl, rfl, hbl, hbs, rfl⟩ hp
    refine ⟨p, bs, rfl, SqL.of upd_same, ?_⟩
    have e : bs.any id = false := by
      rw [List.any_eq_false]
      intro x hx
      rw [hbs x hx]; decide
    rw [e]
    refine ⟨_, rfl, rd_false ?_⟩
    exact k _ (Same.upd_new hp)
theorem sg_neg1 {x : Int} (h : x < 0) : sg x = -1 := by unfold sg; split <;> (try split) <;> omega
theorem sg_pos1 {x : Int} (h : 0 < x) : sg x = 1 := by unfold sg; split <;> (try split) <;> omega
theorem no_against : (¬ ("against" : Str) = "bottom") ∧ ¬ ("against" : Str) = "top" := ⟨by decide +kernel, by decide +kernel⟩
theorem b1k {k : Nat} (h : 1 ≤ k) : Bits k (1 : Int) := Bits.mono (j := 1) (by show (1 : Int).natAbs < 2 ^ 1; decide) h
theorem dv_one (t : Int) : dv t 1 = 1 := by
  unfold dv
  rw [if_neg (by decide)]
  show ((Nat.gcd t.natAbs 1 : Nat) : Int) = 1
  rw [Nat.gcd_one_right]; rfl
theorem rt_one (t : Int) : rt t 1 = t := by
  have h := rt_eq (t := t) (b := 1) (by decide)
  rw [dv_one, Int.one_mul] at h
  exact h
theorem rb_one (t : Int) : rb t 1 = 1 := by
  have h := rb_eq (t := t) (b := 1) (by decide)
  rw [dv_one, Int.one_mul] at h
  exact h
theorem dv_top {b : Int} (hb : 0 < b) : dv 1 b = 1 := by
  unfold dv
  rw [if_neg (by omega)]
  show ((Nat.gcd 1 b.natAbs : Nat) : Int) = 1
  rw [Nat.gcd_one_left]; rfl
theorem rt_top {b : Int} (hb : 0 < b) : rt 1 b = 1 := by
  have h := rt_eq (t := 1) (b := b) (by omega)
  rw [dv_top hb, Int.one_mul] at h
  exact h
theorem rb_top {b : Int} (hb : 0 < b) : rb 1 b = b := by
  have h := rb_eq (t := 1) (b := b) (by omega)
  rw [dv_top hb, Int.one_mul] at h
  exact h
theorem make_N {CN : Addr} {H3 : Hp} {q : Addr → Hp → Prop} {E : XK} {r l h : Addr} {ns : List V} (e3 : H3 r = some (.lst ns)) (k : ∀ (x p : Addr) (H' : Hp), Same H3 H' → H3 x = none → NA CN H' x p l h → H' p = some (.lst ns) → H3 p = none → q x H') : ∀ x dx : Addr, H3 x = none → H3 dx = none → dx ≠ x → spInitN CN (.ref x :: ([.ref r, .ref l, .ref h] ++ [])) (upd (upd H3 dx (.own x)) x (.ins CN dx [])) (fun v H2 => v = .non ∧ q x H2) E := fun x dx nx ndx ne => by
  have npx : r ≠ x := ne_of_none e3 nx
  have npd : r ≠ dx := ne_of_none e3 ndx
  refine ⟨x, dx, r, l, h, _, rfl, upd_same, by rw [upd_ne npx, upd_ne npd]; exact e3, fun q hq => ⟨rfl, ?_⟩⟩
  have nqx : q ≠ x := fun z => by rw [z, upd_same] at hq; cases hq
  have nqd : q ≠ dx := fun z => by rw [z, upd_ne ne, upd_same] at hq; cases hq
  have hq3 : H3 q = none := by rw [upd_ne nqx, upd_ne nqd] at hq; exact hq
  refine k x q _ (fun c o ec => ?_) nx ⟨dx, upd_same⟩ (by rw [upd_ne nqx, upd_same]) hq3
  have ncx : c ≠ x := ne_of_none ec nx
  have ncd : c ≠ dx := ne_of_none ec ndx
  have e4 : upd (upd H3 dx (.own x)) x (.ins CN dx []) c = some o := by rw [upd_ne ncx, upd_ne ncd]; exact ec
  rw [upd_ne ncx, upd_ne (ne_of_none e4 hq)]
  exact e4
/-- a row of degree one or two that is its own least polynomial, and its chain -/
structure SR (ns : List Int) (n1 n2 : Nat) (xss : List (List Int)) : Prop where
  pln : Pln ns
  l2 : 2 ≤ ns.length
  l3 : ns.length ≤ 3
  bits : AllB 250 ns
  runC : RunC n1 ns (plainL (slopeL ns))
  com : comN n1 ns (plainL (slopeL ns)) = [1]
  n2le : n2 ≤ 1000
  run : Run n2 ns (shrL (slopeL ns))
  row : rowS n2 ns (shrL (slopeL ns)) = xss
  xb : ∀ xs ∈ xss, xs.length ≤ 20 ∧ AllB 1000 xs
  xl : xss.length ≤ 1000000
  irr : ns.length = 3 → ∀ t b, 0 < b → hv t b ns ≠ 0
theorem SR.shr {ns : List Int} {n1 n2 : Nat} {xss : List (List Int)} (h : SR ns n1 n2 xss) : shrL ns = ns := shrL_prim (.inr h.pln.prim)
theorem part_one {ns : List Int} (h : Pln ns) : divR ns [1] = [] ∧ plainL (divQ ns [1]) = ns := by
  have dn : divR ns [1] = [] := divR_const (by simp) rfl
  have tr1 : Tr ([1] : List Int) := (tr_snoc (r := [])).mpr (by decide)
  refine ⟨dn, ?_⟩
  have hd := div_eqn (a := ns) (b := [1]) (by simp)
  have hF : divF ns [1] = 1 := by
    unfold divF
    show ((1 : Int).natAbs : Int) ^ _ = 1
    exact Int.one_pow
  have hc : ∀ n, cf (divQ ns [1]) n = cf ns n := fun n => by
    have h := hd n
    rw [hF, dn, cf_nil, mulc_comm, mulc_one'] at h
    omega
  have hq : divQ ns [1] = ns := eq_of_cf (div_trQ (by simp) h.tr tr1) h.tr hc
  rw [hq, h.plain]
def spWsq : Sp := fun vs H Q _ => ∃ (a : Addr) (ns : List Int) (n1 n2 : Nat) (xss : List (List Int)), vs = [.ref a] ∧ H a = some (.lst (ns.map V.int)) ∧ SR ns n1 n2 xss ∧ mkL H Q ns
theorem ok_without_squares {f : Addr} {fd : FuncData} (F : Fun K "without_squares" "without_squares" s_without_squares f fd) (T : Txt K mg) {f_part : Addr} {fd_part : FuncData} (C_part : Cal P w K mg base 35 "part" ["row", "divisor"] spPart f_part fd_part) {f_common : Addr} {fd_common : FuncData} (C_common : Cal P w K mg base 35 "common" ["first", "second"] spCom f_common fd_common) {f_slope : Addr} {fd_slope : FuncData} (C_slope : Cal P w K mg base 1 "slope" ["row"] (sp1 slopeL) f_slope fd_slope) : FnOk P w K mg base CX0 36 f fd ["row"] spWsq := by
  obtain ⟨G_part, m_part, k_part, b_part⟩ := C_part
  obtain ⟨G_common, m_common, k_common, b_common⟩ := C_common
  obtain ⟨G_slope, m_slope, k_slope, b_slope⟩ := C_slope
  refine F.ok sc_without_squares (fun vs H Q E h => ?_) (fun cdv A outer s H vs Q E hr h => ?_)
  · obtain ⟨a, ns, n1, n2, xss, rfl, _⟩ := h
    rfl
  · obtain ⟨a, ns, n1, n2, xss, rfl, hA, hS, k⟩ := h
    have hu := hr.units
    have l3 := hS.l3
    have hne := hS.pln.ne
    refine ⟨_, (pss_cons (ps_if (pt_cmpR (op_eqLK (K := K) rfl hu) (pv 0) (pe_lst pa_nil) (nomark _))
        (pss_one (ps_ret (pe_lst pa_nil)))
        pss_nil)
      (pss_one (ps_ret (pe_call G_part (hr.mono (by decide)) rfl m_part k_part b_part .nil pass0 (pa_cons (pv 0) (pa_cons (pe_call G_common (hr.mono (by decide)) rfl m_common k_common b_common .nil pass0 (pa_cons (pv 0) (pa_cons (pe_call G_slope (hr.mono (by decide)) rfl m_slope k_slope b_slope .nil pass0 (pa_cons (pv 0) pa_nil)) pa_nil))) pa_nil)))))), ?_⟩
    refine rd_sr ⟨_, rfl, Nat.zero_le _, fun p0 hp0 => ?_⟩
    have s0 : Same H (upd H p0 (.lst [])) := Same.upd_new hp0
    refine ⟨a, p0, ns, [], rfl, rfl, SqL.of (s0 _ _ hA), SqL.of upd_same, _, rfl, rd_dec (fun h0 => absurd h0 hne) (fun _ => ?_)⟩
    generalize upd H p0 (.lst []) = H0 at s0 ⊢
    have hA0 := s0 _ _ hA
    refine rd_ret ⟨_, rfl, _, rfl, _, rfl, a, ns, rfl, hA0, by omega, hS.bits.mono (by decide), fun p1 H1 s1 hp1 e1 => ?_⟩
    have t1 := s0.trans s1
    have o1 : AllB 250 ([1] : List Int) := fun x hx => by rw [List.mem_singleton.mp hx]; exact b1k (by decide)
    have tr1 : Tr ([1] : List Int) := (tr_snoc (r := [])).mpr (by decide)
    have lsl : (slopeL ns).length ≤ 1000 := by unfold slopeL; simp; omega
    refine ⟨a, p1, ns, slopeL ns, n1, rfl, t1 _ _ hA, e1, hS.pln.tr, tr_slopeL hS.pln.tr, by omega, lsl, by rw [hS.pln.plain]; exact hS.runC, fun p2 H2 s2 hp2 e2 => ?_⟩
    rw [hS.pln.plain, hS.com] at e2
    have t2 := t1.trans s2
    obtain ⟨dn, eq⟩ := part_one hS.pln
    refine ⟨a, p2, ns, [1], 250, rfl, t2 _ _ hA, e2, hS.pln.tr, tr1, hS.bits, o1, by have : (ns.length + 2) * (250 + 1) ≤ 5 * 251 := Nat.mul_le_mul_right _ (by omega); omega, by show 1 ≤ 1000000; decide, by simp, dn, fun p3 H3 s3 hp3 e3 => ?_⟩
    rw [eq] at e3
    exact k p3 H3 (t2.trans s3) (t2.free hp3) e3
def spMw (C : Addr) : Sp := fun vs H Q _ => ∃ (a l h : Addr) (ns : List Int) (n1 n2 : Nat) (xss : List (List Int)) (l1 l2 h1 h2 : Int), vs = [.ref a, .ref l, .ref h] ∧ H a = some (.lst (ns.map V.int)) ∧ SR ns n1 n2 xss ∧ RA C H l l1 l2 ∧ RA C H h h1 h2 ∧ EndsG 250 l1 l2 h1 h2 ∧ ∀ H', Same H H' → Q (.int ((chS (sgs l1 l2 xss)).1 - (chS (sgs h1 h2 xss)).1)) H'
theorem ok_many_within {C f : Addr} {fd : FuncData} (F : Fun K "many_within" "many_within" s_many_within f fd) (T : Txt K mg) (R : RCI K mg C) {f_Ratio_against : Addr} {fd_Ratio_against : FuncData} (C_Ratio_against : MCal P w K mg base 2 C "against" ["self", "other"] (spAgainst C) f_Ratio_against fd_Ratio_against) {f_count : Addr} {fd_count : FuncData} (C_count : Cal P w K mg base 4 "count" ["row", "low", "high"] (spCnt C) f_count fd_count) {f_row_of : Addr} {fd_row_of : FuncData} (C_row_of : Cal P w K mg base 35 "row_of" ["polynomial"] spRowOf f_row_of fd_row_of) : FnOk P w K mg base CX0 36 f fd ["simple", "low", "high"] (spMw C) := by
  obtain ⟨G_Ratio_against, mt_Ratio_against, b_Ratio_against⟩ := C_Ratio_against
  obtain ⟨G_count, m_count, k_count, b_count⟩ := C_count
  obtain ⟨G_row_of, m_row_of, k_row_of, b_row_of⟩ := C_row_of
  refine F.ok sc_many_within (fun vs H Q E h => ?_) (fun cdv A outer s H vs Q E hr h => ?_)
  · obtain ⟨a, l, h, ns, n1, n2, xss, l1, l2, h1, h2, rfl, _⟩ := h
    rfl
  · obtain ⟨a, l, h, ns, n1, n2, xss, l1, l2, h1, h2, rfl, hA, hS, hl, hh, en, k⟩ := h
    refine ⟨_, (pss_cons (ps_if (pt_cmpR op_ge (pe_meth (pv 1) R.cl mt_Ratio_against G_Ratio_against (hr.mono (by decide)) b_Ratio_against .nil pass0 (pa_cons (pv 2) pa_nil)) pe_int (nomark _))
        (pss_one (ps_ret pe_int))
        pss_nil)
      (pss_one (ps_ret (pe_call G_count (hr.mono (by decide)) rfl m_count k_count b_count .nil pass0 (pa_cons (pe_call G_row_of (hr.mono (by decide)) rfl m_row_of k_row_of b_row_of .nil pass0 (pa_cons (pv 0) pa_nil)) (pa_cons (pv 1) (pa_cons (pv 2) pa_nil))))))), ?_⟩
    have l3 := hS.l3
    obtain ⟨dxl, hl'⟩ := id hl
    refine rd_sr ⟨_, rfl, l, dxl, _, rfl, hl', flds_no _ _ no_against.1 no_against.2, _, rfl, l, h, l1, l2, h1, h2, rfl, hl, hh, en.bl1.mono (by decide), en.bl2.mono (by decide), en.bh1.mono (by decide), en.bh2.mono (by decide), _, _, rfl, rfl, _, rfl, rd_dec (fun hge => ?_) (fun _ => ?_)⟩
    · have : sg (l1 * h2 - h1 * l2) = -1 := sg_neg1 (by have := en.lt; omega)
      rw [this] at hge
      exact absurd hge (by decide)
    refine rd_ret ⟨_, rfl, a, ns, n2, rfl, hA, hS.pln.tr, hS.bits.mono (by decide), by omega, hS.n2le, by rw [hS.shr]; exact hS.run, fun lr ps H1 s1 hl1 hnew el hR => ?_⟩
    rw [hS.shr, hS.row] at hR
    refine ⟨_, rfl, _, rfl, lr, l, h, ps, xss, l1, l2, h1, h2, rfl, el, hR, hl.same s1, hh.same s1, en.bl1.mono (by decide), en.bl2.mono (by decide), en.bh1.mono (by decide), en.bh2.mono (by decide), hS.xb, hS.xl, fun H2 s2 => k H2 (s1.trans s2)⟩
/-! the least polynomial -/
def spFw (C : Addr) : Sp := fun vs H Q _ => ∃ (a : Addr) (ns : List Int), vs = [.ref a] ∧ H a = some (.lst (ns.map V.int)) ∧ Pln ns ∧ ns.length ≤ 3 ∧ AllB 250 ns ∧ ∀ (x : Addr) (H' : Hp) (D : Int), Same H H' → H x = none → RA C H' x 1 D → 0 < D → Bits 520 D → Q (.ref x) H'
theorem bound_small {ns : List Int} (h : AllB 250 ns) (hp : 0 < lastI ns) {kb : Nat} (hB : isB (ns.take (ns.length - 1)) (lastI ns).natAbs kb) : kb ≤ 252 := by
  rcases Nat.lt_or_ge kb 253 with z | z
  · omega
  · obtain ⟨x, hx, h2⟩ := hB.2 252 (by omega)
    have h3 : x.natAbs < 2 ^ 250 := h x (List.mem_of_mem_take hx)
    have h4 : 2 ^ 250 ≤ 2 ^ 252 - 1 := by decide +kernel
    have h5 : 2 ^ 252 - 1 ≤ (2 ^ 252 - 1) * (lastI ns).natAbs := Nat.le_mul_of_pos_right _ (by omega)
    omega
theorem last_at {ns : List Int} (h : ns ≠ []) : atI (ns.map V.int) (-1) = some (.int (lastI ns)) := by
  obtain ⟨r, x, rfl⟩ := (snoc_cases ns).resolve_left h
  rw [lastI_snoc]; exact at_last r x
theorem last_bits {k : Nat} {ns : List Int} (h : AllB k ns) : Bits k (lastI ns) := h.cf _
theorem ok_fine_width {C f : Addr} {fd : FuncData} (F : Fun K "fine_width" "fine_width" s_fine_width f fd) (T : Txt K mg) (R : RCI K mg C) {f_Ratio : Addr} {fd_Ratio : FuncData} {ds_Ratio : List Value} (C_Ratio : KCal P w K mg base 2 C "Ratio" ["self", "top", "bottom"] (spInit C) f_Ratio fd_Ratio ds_Ratio [.int 1]) {f_bound : Addr} {fd_bound : FuncData} (C_bound : Cal P w K mg base 1 "bound" ["row"] (spBound K) f_bound fd_bound) : FnOk P w K mg base CX0 4 f fd ["whole"] (spFw C) := by
  obtain ⟨G_Ratio, M_Ratio, m_Ratio, b_Ratio, bD_Ratio, d_Ratio⟩ := C_Ratio
  obtain ⟨G_bound, m_bound, k_bound, b_bound⟩ := C_bound
  refine F.ok sc_fine_width (fun vs H Q E h => ?_) (fun cdv A outer s H vs Q E hr h => ?_)
  · obtain ⟨a, ns, rfl, _⟩ := h
    rfl
  · obtain ⟨a, ns, rfl, hA, hP, hl, hb, k⟩ := h
    refine ⟨_, (pss_one (ps_ret (pe_make M_Ratio G_Ratio (hr.mono (by decide)) rfl m_Ratio b_Ratio .nil pass0 (pa_cons pe_int (pa_cons (pe_op op_mulB (pe_op op_mulB pe_int (pe_ix (ix_listK (K := K) rfl) (pv 0) (pe_un un_neg pe_int) (fun _ _ => rfl))) (pe_call G_bound (hr.mono (by decide)) rfl m_bound k_bound b_bound .nil pass0 (pa_cons (pv 0) pa_nil))) pa_nil))))), ?_⟩
    have b8 : Bits 4 (8 : Int) := by show (8 : Int).natAbs < 2 ^ 4; decide
    have hp := hP.pos
    refine rd_ret ⟨_, rfl, _, rfl, a, _, _, _, rfl, rfl, SqL.of hA, last_at hP.ne, _, _, rfl, rfl, ⟨b8.mono (by decide), (last_bits hb).mono (by decide)⟩, _, rfl, a, ns, rfl, SqL.of hA, hP.tr, hP.ne, by omega, hb.mono (by decide), fun kb H1 hkb hB s1 => ?_⟩
    have hk := bound_small hb hp hB
    have b2 : Bits 253 ((2 ^ kb : Nat) : Int) := by
      show (((2 ^ kb : Nat) : Int)).natAbs < 2 ^ 253
      rw [Int.natAbs_natCast]
      exact (Nat.pow_lt_pow_iff_right (by decide)).mpr (by omega)
    have b3 : Bits 254 (8 * lastI ns) := (b8.mul (last_bits hb)).mono (by decide)
    have pk : (0 : Int) < ((2 ^ kb : Nat) : Int) := Int.ofNat_lt.mpr (Nat.pow_pos (by decide))
    have hD : 0 < 8 * lastI ns * ((2 ^ kb : Nat) : Int) := Int.mul_pos (by omega) pk
    have bD : Bits 520 (8 * lastI ns * ((2 ^ kb : Nat) : Int)) := (b3.mul b2).mono (by decide)
    refine ⟨_, _, rfl, rfl, ⟨b3.mono (by decide), b2.mono (by decide)⟩, make_R (t := 1) (by omega) (bD.mono (by decide)) fun x H2 s2 hx hR => ?_⟩
    rw [rt_top hD, rb_top hD] at hR
    exact k x H2 _ (s1.trans s2) (s1.free hx) hR hD bD
--SPLIT
theorem ok_cells {f : Addr} {fd : FuncData} (F : Fun K "cells" "cells" s_cells f fd) (T : Txt K mg) : FnOk P w K mg base CX0 1 f fd ["row"] spNo := F.ok sc_cells (fun _ _ _ _ h => h.elim) (fun _ _ _ _ _ _ _ _ _ h => h.elim)
theorem ok_square_of {f : Addr} {fd : FuncData} (F : Fun K "square_of" "square_of" s_square_of f fd) (T : Txt K mg) : FnOk P w K mg base CX0 1 f fd ["whole", "span", "other"] spNo := F.ok sc_square_of (fun _ _ _ _ h => h.elim) (fun _ _ _ _ _ _ _ _ _ h => h.elim)
theorem ok_divides {f : Addr} {fd : FuncData} (F : Fun K "divides" "divides" s_divides f fd) (T : Txt K mg) : FnOk P w K mg base CX0 1 f fd ["divisor", "row"] spNo := F.ok sc_divides (fun _ _ _ _ h => h.elim) (fun _ _ _ _ _ _ _ _ _ h => h.elim)
def spFloor (C : Addr) : Sp := fun vs H Q _ => ∃ (p : Addr) (t b : Int), vs = [.ref p] ∧ RA C H p t b ∧ 0 < b ∧ Bits 9000 b ∧ Q (.int (t / b)) H
theorem ok_Ratio_floor {C f : Addr} {fd : FuncData} (F : Fun K "floor" "Ratio.floor" s_Ratio_floor f fd) (T : Txt K mg) (R : RCI K mg C) : FnOk P w K mg base CX0 1 f fd ["self"] (spFloor C) := by
  refine F.ok sc_Ratio_floor (fun vs H Q E h => ?_) (fun cdv A outer s H vs Q E hr h => ?_)
  · obtain ⟨p, t, b, rfl, _⟩ := h
    rfl
  · obtain ⟨p, t, b, rfl, ⟨dx, hp⟩, hb, bb, k⟩ := h
    refine ⟨_, (pss_one (ps_ret (pe_op op_fdivP (pe_fldK (K := K) rfl (pv 0) rfl) (pe_fldK (K := K) rfl (pv 0) rfl)))), ?_⟩
    exact ⟨_, rfl, p, C, dx, _, _, rfl, hp, R.cl, R.nT, flds_top _ _, _, rfl, p, C, dx, _, _, rfl, hp, R.cl, R.nB, flds_bottom _ _, _, _, rfl, rfl, ⟨hb, bb⟩, k⟩
theorem no_floor : ¬ (("floor" : Str) = "bottom") ∧ ¬ (("floor" : Str) = "top") := ⟨by decide +kernel, by decide +kernel⟩
theorem r_floor {a c : Int} (hc : 0 < c) : rt a c / rb a c = a / c := by
  have h0 : c ≠ 0 := by omega
  have e1 := rt_eq (t := a) h0
  have e2 := rb_eq (t := a) h0
  have hp : 0 < dv a c := by
    unfold dv
    rw [if_neg (by omega)]
    have := gcd_pos (t := a) h0
    omega
  have e3 : dv a c * rt a c / (dv a c * rb a c) = rt a c / rb a c := Int.mul_ediv_mul_of_pos _ _ hp
  rw [e1, e2] at e3
  exact e3.symm
def spTf (C : Addr) : Sp := fun vs H Q _ => ∃ (r : Addr) (c t b : Int), vs = [.int c, .ref r] ∧ RA C H r t b ∧ 0 < b ∧ Bits 10000 c ∧ Bits 10000 t ∧ Bits 8900 b ∧ ∀ H', Same H H' → Q (.int (c * t / b)) H'
theorem ok_times_floor {C f : Addr} {fd : FuncData} (F : Fun K "times_floor" "times_floor" s_times_floor f fd) (T : Txt K mg) (R : RCI K mg C) {f_Ratio : Addr} {fd_Ratio : FuncData} {ds_Ratio : List Value} (C_Ratio : KCal P w K mg base 2 C "Ratio" ["self", "top", "bottom"] (spInit C) f_Ratio fd_Ratio ds_Ratio [.int 1]) {f_Ratio_times : Addr} {fd_Ratio_times : FuncData} (C_Ratio_times : MCal P w K mg base 4 C "times" ["self", "other"] (spTimes C) f_Ratio_times fd_Ratio_times) {f_Ratio_floor : Addr} {fd_Ratio_floor : FuncData} (C_Ratio_floor : MCal P w K mg base 1 C "floor" ["self"] (spFloor C) f_Ratio_floor fd_Ratio_floor) : FnOk P w K mg base CX0 5 f fd ["factor", "ratio"] (spTf C) := by
  obtain ⟨G_Ratio, M_Ratio, m_Ratio, b_Ratio, bD_Ratio, d_Ratio⟩ := C_Ratio
  obtain ⟨G_Ratio_times, mt_Ratio_times, b_Ratio_times⟩ := C_Ratio_times
  obtain ⟨G_Ratio_floor, mt_Ratio_floor, b_Ratio_floor⟩ := C_Ratio_floor
  refine F.ok sc_times_floor (fun vs H Q E h => ?_) (fun cdv A outer s H vs Q E hr h => ?_)
  · obtain ⟨r, c, t, b, rfl, _⟩ := h
    rfl
  · obtain ⟨r, c, t, b, rfl, hR, hb, bc, bt, bb, k⟩ := h
    refine ⟨_, (pss_one (ps_ret (pe_meth0 (pe_meth (pe_make M_Ratio G_Ratio (hr.mono (by decide)) rfl m_Ratio bD_Ratio d_Ratio pass0 (pa_cons (pv 0) pa_nil)) R.cl mt_Ratio_times G_Ratio_times (hr.mono (by decide)) b_Ratio_times .nil pass0 (pa_cons (pv 1) pa_nil)) R.cl mt_Ratio_floor G_Ratio_floor (hr.mono (by decide)) b_Ratio_floor .nil pass0))), ?_⟩
    refine rd_ret ⟨_, rfl, make_R (t := c) (b := 1) (by decide) (b1k (by decide)) fun x H1 s1 hx hX => ?_⟩
    rw [rt_one, rb_one] at hX
    obtain ⟨dx, hX'⟩ := id hX
    refine ⟨x, dx, _, rfl, hX', flds_no _ _ no_times.1 no_times.2, _, rfl, x, r, c, 1, t, b, 1, 8900, rfl, hX, hR.same s1, bc.mono (by decide), b1k (by decide), bt.mono (by decide), bb, by decide, by decide, hb, fun y H2 s2 hy hY => ?_⟩
    obtain ⟨dy, hY'⟩ := id hY
    have d0 : 1 * b ≠ 0 := by omega
    refine ⟨y, dy, _, rfl, hY', flds_no _ _ no_floor.1 no_floor.2, y, _, _, rfl, hY, rb_pos d0, (rb_bits d0 (by rw [Int.one_mul]; exact bb)).mono (by decide), ?_⟩
    rw [r_floor (show 0 < 1 * b by omega), Int.one_mul]
    exact k H2 (s1.trans s2)
def spLine (C : Addr) : Sp := fun vs H Q _ => ∃ (a p x y : Addr) (ns : List Int) (x1 x2 y1 y2 : Int), vs = [.ref a, .ref p] ∧ H a = some (.lst (ns.map V.int)) ∧ H p = some (.tup [.ref x, .ref y]) ∧ RA C H x x1 x2 ∧ RA C H y y1 y2 ∧ EndsG 2000 x1 x2 y1 y2 ∧ Pln ns ∧ ns.length ≤ 3 ∧ AllB 250 ns ∧ (∀ t b, 0 < b → hv t b ns ≠ 0) ∧ mkL H Q []
theorem ok_line_of {C f : Addr} {fd : FuncData} (F : Fun K "line_of" "line_of" s_line_of f fd) (T : Txt K mg) (R : RCI K mg C) {f_Ratio : Addr} {fd_Ratio : FuncData} {ds_Ratio : List Value} (C_Ratio : KCal P w K mg base 2 C "Ratio" ["self", "top", "bottom"] (spInit C) f_Ratio fd_Ratio ds_Ratio [.int 1]) {f_times_floor : Addr} {fd_times_floor : FuncData} (C_times_floor : Cal P w K mg base 5 "times_floor" ["factor", "ratio"] (spTf C) f_times_floor fd_times_floor) {f_Ratio_against : Addr} {fd_Ratio_against : FuncData} (C_Ratio_against : MCal P w K mg base 2 C "against" ["self", "other"] (spAgainst C) f_Ratio_against fd_Ratio_against) {f_sign_at : Addr} {fd_sign_at : FuncData} (C_sign_at : Cal P w K mg base 2 "sign_at" ["row", "ratio"] (spSa C) f_sign_at fd_sign_at) : FnOk P w K mg base CX0 6 f fd ["whole", "span"] (spLine C) := by
  obtain ⟨G_Ratio, M_Ratio, m_Ratio, b_Ratio, bD_Ratio, d_Ratio⟩ := C_Ratio
  obtain ⟨G_times_floor, m_times_floor, k_times_floor, b_times_floor⟩ := C_times_floor
  obtain ⟨G_Ratio_against, mt_Ratio_against, b_Ratio_against⟩ := C_Ratio_against
  obtain ⟨G_sign_at, m_sign_at, k_sign_at, b_sign_at⟩ := C_sign_at
  refine F.ok sc_line_of (fun vs H Q E h => ?_) (fun cdv A outer s H vs Q E hr h => ?_)
  · obtain ⟨a, p, x, y, ns, x1, x2, y1, y2, rfl, _⟩ := h
    rfl
  · obtain ⟨a, p, x, y, ns, x1, x2, y1, y2, rfl, hA, hp, hx, hy, en, hP, hl, hb, irr, k⟩ := h
    refine ⟨_, (pss_cons (ps_set (i := 2) sc_line_of.nd rfl (Or.inl rfl) (pe_make M_Ratio G_Ratio (hr.mono (by decide)) rfl m_Ratio b_Ratio .nil pass0 (pa_cons (pe_call G_times_floor (hr.mono (by decide)) rfl m_times_floor k_times_floor b_times_floor .nil pass0 (pa_cons (pe_ix (ix_listK (K := K) rfl) (pv 0) (pe_un un_neg pe_int) (fun _ _ => rfl)) (pa_cons (pe_ix (ix_tupK (K := K) rfl) (pv 1) pe_int (fun _ _ => rfl)) pa_nil))) (pa_cons (pe_ix (ix_listK (K := K) rfl) (pv 0) (pe_un un_neg pe_int) (fun _ _ => rfl)) pa_nil))))
      (pss_cons (ps_if (PW.pt (pw_and (pt_cmpR op_gt (pe_meth (pv 2) R.cl mt_Ratio_against G_Ratio_against (hr.mono (by decide)) b_Ratio_against .nil pass0 (pa_cons (pe_ix (ix_tupK (K := K) rfl) (pv 1) pe_int (fun _ _ => rfl)) pa_nil)) pe_int (nomark _)) (pw_and1 (pt_cmpR op_eqI (pe_call G_sign_at (hr.mono (by decide)) rfl m_sign_at k_sign_at b_sign_at .nil pass0 (pa_cons (pv 0) (pa_cons (pv 2) pa_nil))) pe_int (nomark _)))))
        (pss_one (ps_ret (pe_lst (pa_cons (pe_un un_neg (pe_fldK (K := K) rfl (pv 2) rfl)) (pa_cons (pe_fldK (K := K) rfl (pv 2) rfl) pa_nil)))))
        pss_nil)
      (pss_one (ps_ret (pe_lst pa_nil))))), ?_⟩
    have bl := last_bits hb
    have lp := hP.pos
    refine rd_sa ⟨_, rfl, _, rfl, a, _, _, _, rfl, rfl, SqL.of hA, last_at hP.ne, _, rfl, p, _, _, _, rfl, rfl, SqT.of hp, rfl, y, lastI ns, y1, y2, rfl, hy, en.h2p, bl.mono (by decide), en.bh1.mono (by decide), en.bh2.mono (by decide), fun H1 s1 => ?_⟩
    have bm : Bits 2300 (lastI ns * y1 / y2) := Bits.of_le ((bl.mul en.bh1).mono (k := 2300) (by decide)) (Int.natAbs_ediv_le_natAbs _ _)
    generalize lastI ns * y1 / y2 = m at bm ⊢
    have l0 : lastI ns ≠ 0 := by omega
    refine ⟨_, rfl, _, rfl, a, _, _, _, rfl, rfl, SqL.of (s1 _ _ hA), last_at hP.ne, make_R l0 (bl.mono (by decide)) fun r H2 s2 hr2 hR => ?_⟩
    have t2 := s1.trans s2
    obtain ⟨dr, hR'⟩ := id hR
    have fin : ∀ H3, Same H2 H3 → ∀ q, H3 q = none → Q (.ref q) (upd H3 q (.lst [])) := fun H3 s3 q hq => k q _ ((t2.trans s3).then_new hq) ((t2.trans s3).free hq) upd_same
    refine rd_sr (rd_and ⟨_, rfl, r, dr, _, rfl, hR', flds_no _ _ no_against.1 no_against.2, _, rfl, p, _, _, _, rfl, rfl, SqT.of (t2 _ _ hp), rfl, r, x, _, _, x1, x2, rfl, hR, hx.same t2, (rt_bits l0 bm).mono (by decide), (rb_bits l0 bl).mono (by decide), en.bl1.mono (by decide), en.bl2.mono (by decide), _, _, rfl, rfl, _, rfl, rd_dec (fun _ => ?_) (fun _ => ?_)⟩)
    · refine ⟨_, rfl, _, rfl, a, r, ns, _, _, ⟨rfl, t2 _ _ hA, hR, by omega, hb.mono (by decide), (rt_bits l0 bm).mono (by decide), (rb_bits l0 bl).mono (by decide)⟩, fun H3 s3 => ⟨_, _, rfl, rfl, _, rfl, rd_dec (fun h0 => ?_) (fun _ => ?_)⟩⟩
      · have h0' : sg (hv (rt m (lastI ns)) (rb m (lastI ns)) ns) = 0 := h0
        exact absurd ((sg_zero _).mp h0') (irr _ _ (rb_pos l0))
      · exact rd_ret ⟨Nat.zero_le _, fun q hq => fin H3 s3 q hq⟩
    · exact rd_false (rd_ret ⟨Nat.zero_le _, fun q hq => fin H2 (Same.refl _) q hq⟩)
/-- what a row and its span must be for number -/
structure NumS (ns : List Int) (l1 l2 h1 h2 ε : Int) (Up : Int → Int → Prop) (n1 n2 : Nat) (xss : List (List Int)) : Prop where
  sr : SR ns n1 n2 xss
  en : EndsG 250 l1 l2 h1 h2
  ru : RootU ns l1 l2 h1 h2 ε Up
  one : ((chS (sgs l1 l2 xss)).1 : Int) - (chS (sgs h1 h2 xss)).1 = 1
  lo : sg (hv l1 l2 ns) ≠ 0
def spLst (C : Addr) : Sp := fun vs H Q _ => ∃ (a l h : Addr) (ns : List Int) (l1 l2 h1 h2 ε : Int) (Up : Int → Int → Prop) (n1 n2 : Nat) (xss : List (List Int)), vs = [.ref a, .ref l, .ref h] ∧ H a = some (.lst (ns.map V.int)) ∧ RA C H l l1 l2 ∧ RA C H h h1 h2 ∧ NumS ns l1 l2 h1 h2 ε Up n1 n2 xss ∧ mkL H Q ns
theorem ok_least {C f : Addr} {fd : FuncData} (F : Fun K "least" "least" s_least f fd) (T : Txt K mg) {f_plain : Addr} {fd_plain : FuncData} (C_plain : Cal P w K mg base 34 "plain" ["row"] spPlain f_plain fd_plain) {f_degree : Addr} {fd_degree : FuncData} (C_degree : Cal P w K mg base 1 "degree" ["row"] spDeg f_degree fd_degree) {f_fine_width : Addr} {fd_fine_width : FuncData} (C_fine_width : Cal P w K mg base 4 "fine_width" ["whole"] (spFw C) f_fine_width fd_fine_width) {f_narrowed : Addr} {fd_narrowed : FuncData} (C_narrowed : Cal P w K mg base 6 "narrowed" ["row", "low", "high", "width"] (spNar C) f_narrowed fd_narrowed) {f_line_of : Addr} {fd_line_of : FuncData} (C_line_of : Cal P w K mg base 6 "line_of" ["whole", "span"] (spLine C) f_line_of fd_line_of) {f_cells : Addr} {fd_cells : FuncData} (C_cells : Cal P w K mg base 1 "cells" ["row"] spNo f_cells fd_cells) {f_square_of : Addr} {fd_square_of : FuncData} (C_square_of : Cal P w K mg base 1 "square_of" ["whole", "span", "other"] spNo f_square_of fd_square_of) {f_divides : Addr} {fd_divides : FuncData} (C_divides : Cal P w K mg base 1 "divides" ["divisor", "row"] spNo f_divides fd_divides) {f_count : Addr} {fd_count : FuncData} (C_count : Cal P w K mg base 4 "count" ["row", "low", "high"] (spCnt C) f_count fd_count) {f_row_of : Addr} {fd_row_of : FuncData} (C_row_of : Cal P w K mg base 35 "row_of" ["polynomial"] spRowOf f_row_of fd_row_of) : FnOk P w K mg base CX0 36 f fd ["row", "low", "high"] (spLst C) := by
  obtain ⟨G_plain, m_plain, k_plain, b_plain⟩ := C_plain
  obtain ⟨G_degree, m_degree, k_degree, b_degree⟩ := C_degree
  obtain ⟨G_fine_width, m_fine_width, k_fine_width, b_fine_width⟩ := C_fine_width
  obtain ⟨G_narrowed, m_narrowed, k_narrowed, b_narrowed⟩ := C_narrowed
  obtain ⟨G_line_of, m_line_of, k_line_of, b_line_of⟩ := C_line_of
  obtain ⟨G_cells, m_cells, k_cells, b_cells⟩ := C_cells
  obtain ⟨G_square_of, m_square_of, k_square_of, b_square_of⟩ := C_square_of
  obtain ⟨G_divides, m_divides, k_divides, b_divides⟩ := C_divides
  obtain ⟨G_count, m_count, k_count, b_count⟩ := C_count
  obtain ⟨G_row_of, m_row_of, k_row_of, b_row_of⟩ := C_row_of
  refine F.ok sc_least (fun vs H Q E h => ?_) (fun cdv A outer s H vs Q E hr h => ?_)
  · obtain ⟨a, l, h, ns, l1, l2, h1, h2, ε, Up, n1, n2, xss, rfl, _⟩ := h
    rfl
  · obtain ⟨a, l, h, ns, l1, l2, h1, h2, ε, Up, n1, n2, xss, rfl, hA, hl, hh, hN, k⟩ := h
    have hu := hr.units
    have hP := hN.sr.pln
    have l3 := hN.sr.l3
    have l2' := hN.sr.l2
    have hml : (ns.map V.int).length = ns.length := List.length_map _
    refine ⟨_, (pss_cons (ps_set (i := 3) sc_least.nd rfl (Or.inl rfl) (pe_call G_plain (hr.mono (by decide)) rfl m_plain k_plain b_plain .nil pass0 (pa_cons (pv 0) pa_nil)))
      (pss_cons (ps_if (pt_cmpR op_lt (pe_call G_degree (hr.mono (by decide)) rfl m_degree k_degree b_degree .nil pass0 (pa_cons (pv 3) pa_nil)) pe_int (nomark _))
        (pss_one (ps_ret (pv 3)))
        pss_nil)
      (pss_cons (ps_set (i := 4) sc_least.nd rfl (Or.inl rfl) (pe_call G_fine_width (hr.mono (by decide)) rfl m_fine_width k_fine_width b_fine_width .nil pass0 (pa_cons (pv 3) pa_nil)))
      (pss_cons (ps_set (i := 5) sc_least.nd rfl (Or.inl rfl) (pe_call G_narrowed (hr.mono (by decide)) rfl m_narrowed k_narrowed b_narrowed .nil pass0 (pa_cons (pv 3) (pa_cons (pv 1) (pa_cons (pv 2) (pa_cons (pv 4) pa_nil))))))
      (pss_cons (ps_set (i := 6) sc_least.nd rfl (Or.inl rfl) (pe_call G_line_of (hr.mono (by decide)) rfl m_line_of k_line_of b_line_of .nil pass0 (pa_cons (pv 3) (pa_cons (pv 5) pa_nil))))
      (pss_cons (ps_if (pt_cmpR (op_neLK (K := K) rfl hu) (pv 6) (pe_lst pa_nil) (nomark _))
        (pss_one (ps_ret (pv 6)))
        pss_nil)
      (pss_cons (ps_if (pt_cmpR op_eqI (pe_call G_degree (hr.mono (by decide)) rfl m_degree k_degree b_degree .nil pass0 (pa_cons (pv 3) pa_nil)) pe_int (nomark _))
        (pss_one (ps_ret (pv 3)))
        pss_nil)
      (pss_cons (ps_for PassesOwn.never rfl (pi_listK (K := K) rfl (pe_call G_cells (hr.mono (by decide)) rfl m_cells k_cells b_cells .nil pass0 (pa_cons (pv 3) pa_nil))) (pg_name (i := 7) sc_least.nd rfl (Or.inl rfl))
        (pss_cons (ps_set (i := 8) sc_least.nd rfl (Or.inl rfl) (pe_call G_square_of (hr.mono (by decide)) rfl m_square_of k_square_of b_square_of .nil pass0 (pa_cons (pv 3) (pa_cons (pv 5) (pa_cons (pe_call G_narrowed (hr.mono (by decide)) rfl m_narrowed k_narrowed b_narrowed .nil pass0 (pa_cons (pv 3) (pa_cons (pe_ix (ix_tupK (K := K) rfl) (pv 7) pe_int (fun _ _ => rfl)) (pa_cons (pe_ix (ix_tupK (K := K) rfl) (pv 7) pe_int (fun _ _ => rfl)) (pa_cons (pv 4) pa_nil))))) pa_nil)))))
          (pss_one (ps_if (PW.pt (pw_and (pt_val (pe_call G_divides (hr.mono (by decide)) rfl m_divides k_divides b_divides .nil pass0 (pa_cons (pv 8) (pa_cons (pv 3) pa_nil)))) (pw_and1 (pt_cmpR op_eqI (pe_call G_count (hr.mono (by decide)) rfl m_count k_count b_count .nil pass0 (pa_cons (pe_call G_row_of (hr.mono (by decide)) rfl m_row_of k_row_of b_row_of .nil pass0 (pa_cons (pv 8) pa_nil)) (pa_cons (pv 1) (pa_cons (pv 2) pa_nil)))) pe_int (nomark _)))))
            (pss_one (ps_ret (pv 8)))
            pss_nil))))
      (pss_one (ps_ret (pv 3))))))))))), ?_⟩
    refine rd_sa ⟨_, rfl, a, ns, rfl, hA, hP.tr, by omega, fun p H1 s1 hp e1 => ?_⟩
    rw [hP.plain] at e1
    refine rd_sr ⟨_, rfl, p, _, rfl, e1, _, _, rfl, rfl, _, rfl, rd_dec (fun _ => ?_) (fun h0 => ?_)⟩
    · exact ⟨_, rfl, k p H1 s1 hp e1⟩
    rw [hml] at h0
    have hl3 : ns.length = 3 := by have : ¬ ((ns.length : Int) - 1 < 2) := h0; omega
    have irr := hN.sr.irr hl3
    refine rd_sa ⟨_, rfl, p, ns, rfl, e1, hP, l3, hN.sr.bits, fun wd H2 D s2 hwd hW hD bD => ?_⟩
    have t2 := s1.trans s2
    have e2 := s2 _ _ e1
    refine rd_sa ⟨_, rfl, _, rfl, _, rfl, _, rfl, p, l, h, wd, ns, l1, l2, h1, h2, 1, D, 250, 520, ε, Up, rfl, e2, hP.tr, hP.ne, by omega, hN.sr.bits.mono (by decide), hl.same t2, hh.same t2, hW, hN.en, by decide, hD, b1k (by decide), bD, by decide, by decide, by decide, hN.ru, fun ps x y H3 n pl x1 x2 y1 y2 s3 hps e3 hx hy nar => ?_⟩
    have t3 := t2.trans s3
    have ep3 := s3 _ _ e2
    refine rd_sa ⟨_, rfl, _, rfl, p, ps, x, y, ns, x1, x2, y1, y2, rfl, ep3, e3, hx, hy, nar.ends.mono (by decide), hP, l3, hN.sr.bits, irr, fun pl' H4 s4 hpl e4 => ?_⟩
    refine rd_sr ⟨_, rfl, Nat.zero_le _, fun p0 hp0 => ?_⟩
    have s5 := Same.upd_new (o := .lst []) hp0
    refine ⟨pl', p0, [], [], rfl, rfl, SqL.of (s5 _ _ e4), SqL.of upd_same, _, rfl, rd_ndec (fun h0 => absurd rfl h0) (fun _ => ?_)⟩
    generalize upd H4 p0 (.lst []) = H5 at s5 ⊢
    have u5 := s3.trans (s4.trans s5)
    have ep5 := u5 _ _ e2
    refine rd_sr ⟨_, rfl, p, _, rfl, ep5, _, _, rfl, rfl, _, rfl, rd_dec (fun _ => ?_) (fun h0 => ?_)⟩
    · exact ⟨_, rfl, k p H5 (t2.trans u5) hp ep5⟩
    · rw [hml, hl3] at h0
      exact absurd (show ((3 : Nat) : Int) - 1 = 2 by decide) h0
def spNin (C CN : Addr) : Sp := fun vs H Q _ => ∃ (a l h : Addr) (ns : List Int) (l1 l2 h1 h2 ε : Int) (Up : Int → Int → Prop) (n1 n2 : Nat) (xss : List (List Int)), vs = [.ref a, .ref l, .ref h] ∧ H a = some (.lst (ns.map V.int)) ∧ RA C H l l1 l2 ∧ RA C H h h1 h2 ∧ NumS ns l1 l2 h1 h2 ε Up n1 n2 xss ∧ ∀ (x q : Addr) (H' : Hp), Same H H' → H x = none → NA CN H' x q l h → H' q = some (.lst (ns.map V.int)) → H q = none → Q (.ref x) H'
theorem ok_number_in {C CN f : Addr} {fd : FuncData} (F : Fun K "number_in" "number_in" s_number_in f fd) (T : Txt K mg) (R : RCI K mg C) {f_least : Addr} {fd_least : FuncData} (C_least : Cal P w K mg base 36 "least" ["row", "low", "high"] (spLst C) f_least fd_least) {f_sign_at : Addr} {fd_sign_at : FuncData} (C_sign_at : Cal P w K mg base 2 "sign_at" ["row", "ratio"] (spSa C) f_sign_at fd_sign_at) {f_narrowed : Addr} {fd_narrowed : FuncData} (C_narrowed : Cal P w K mg base 6 "narrowed" ["row", "low", "high", "width"] (spNar C) f_narrowed fd_narrowed) {f_Ratio_minus : Addr} {fd_Ratio_minus : FuncData} (C_Ratio_minus : MCal P w K mg base 4 C "minus" ["self", "other"] (spMinus C) f_Ratio_minus fd_Ratio_minus) {f_Ratio_times : Addr} {fd_Ratio_times : FuncData} (C_Ratio_times : MCal P w K mg base 4 C "times" ["self", "other"] (spTimes C) f_Ratio_times fd_Ratio_times) {f_Ratio : Addr} {fd_Ratio : FuncData} {ds_Ratio : List Value} (C_Ratio : KCal P w K mg base 2 C "Ratio" ["self", "top", "bottom"] (spInit C) f_Ratio fd_Ratio ds_Ratio [.int 1]) {f_Number : Addr} {fd_Number : FuncData} {ds_Number : List Value} (C_Number : KCal P w K mg base 1 CN "Number" ["self", "row", "low", "high"] (spInitN CN) f_Number fd_Number ds_Number []) : FnOk P w K mg base CX0 37 f fd ["simple", "low", "high"] (spNin C CN) := by
  obtain ⟨G_least, m_least, k_least, b_least⟩ := C_least
  obtain ⟨G_sign_at, m_sign_at, k_sign_at, b_sign_at⟩ := C_sign_at
  obtain ⟨G_narrowed, m_narrowed, k_narrowed, b_narrowed⟩ := C_narrowed
  obtain ⟨G_Ratio_minus, mt_Ratio_minus, b_Ratio_minus⟩ := C_Ratio_minus
  obtain ⟨G_Ratio_times, mt_Ratio_times, b_Ratio_times⟩ := C_Ratio_times
  obtain ⟨G_Ratio, M_Ratio, m_Ratio, b_Ratio, bD_Ratio, d_Ratio⟩ := C_Ratio
  obtain ⟨G_Number, M_Number, m_Number, b_Number, bD_Number, d_Number⟩ := C_Number
  refine F.ok sc_number_in (fun vs H Q E h => ?_) (fun cdv A outer s H vs Q E hr h => ?_)
  · obtain ⟨a, l, h, ns, l1, l2, h1, h2, ε, Up, n1, n2, xss, rfl, _⟩ := h
    rfl
  · obtain ⟨a, l, h, ns, l1, l2, h1, h2, ε, Up, n1, n2, xss, rfl, hA, hl, hh, hN, k⟩ := h
    refine ⟨_, (pss_cons (ps_set (i := 3) sc_number_in.nd rfl (Or.inl rfl) (pe_call G_least (hr.mono (by decide)) rfl m_least k_least b_least .nil pass0 (pa_cons (pv 0) (pa_cons (pv 1) (pa_cons (pv 2) pa_nil)))))
      (pss_cons (ps_set (i := 4) sc_number_in.nd rfl (Or.inl rfl) (pe_tup (pa_cons (pv 1) (pa_cons (pv 2) pa_nil))))
      (pss_cons (ps_while PassesOwn.never (pt_cmpR op_eqI (pe_call G_sign_at (hr.mono (by decide)) rfl m_sign_at k_sign_at b_sign_at .nil pass0 (pa_cons (pv 3) (pa_cons (pe_ix (ix_tupK (K := K) rfl) (pv 4) pe_int (fun _ _ => rfl)) pa_nil))) pe_int (nomark _))
        (pss_cons (ps_set (i := 5) sc_number_in.nd rfl (Or.inl rfl) (pe_meth (pe_meth (pe_ix (ix_tupK (K := K) rfl) (pv 4) pe_int (fun _ _ => rfl)) R.cl mt_Ratio_minus G_Ratio_minus (hr.mono (by decide)) b_Ratio_minus .nil pass0 (pa_cons (pe_ix (ix_tupK (K := K) rfl) (pv 4) pe_int (fun _ _ => rfl)) pa_nil)) R.cl mt_Ratio_times G_Ratio_times (hr.mono (by decide)) b_Ratio_times .nil pass0 (pa_cons (pe_make M_Ratio G_Ratio (hr.mono (by decide)) rfl m_Ratio b_Ratio .nil pass0 (pa_cons pe_int (pa_cons pe_int pa_nil))) pa_nil)))
          (pss_one (ps_set (i := 4) sc_number_in.nd rfl (Or.inl rfl) (pe_call G_narrowed (hr.mono (by decide)) rfl m_narrowed k_narrowed b_narrowed .nil pass0 (pa_cons (pv 3) (pa_cons (pe_ix (ix_tupK (K := K) rfl) (pv 4) pe_int (fun _ _ => rfl)) (pa_cons (pe_ix (ix_tupK (K := K) rfl) (pv 4) pe_int (fun _ _ => rfl)) (pa_cons (pv 5) pa_nil)))))))))
      (pss_one (ps_ret (pe_make M_Number G_Number (hr.mono (by decide)) rfl m_Number b_Number .nil pass0 (pa_cons (pv 3) (pa_cons (pe_ix (ix_tupK (K := K) rfl) (pv 4) pe_int (fun _ _ => rfl)) (pa_cons (pe_ix (ix_tupK (K := K) rfl) (pv 4) pe_int (fun _ _ => rfl)) pa_nil))))))))), ?_⟩
    have l3 := hN.sr.l3
    refine rd_sa ⟨_, rfl, _, rfl, _, rfl, a, l, h, ns, l1, l2, h1, h2, ε, Up, n1, n2, xss, rfl, hA, hl, hh, hN, fun p H1 s1 hp e1 => ?_⟩
    refine rd_sa ⟨_, rfl, _, rfl, by show 2 ≤ sizeLine; decide, fun ps hps => ?_⟩
    have s2 := s1.then_new (o := .tup [V.ref l, V.ref h]) hps
    have q2 : upd H1 ps (.tup [V.ref l, V.ref h]) ps = some (.tup [V.ref l, V.ref h]) := upd_same
    have e2 := (Same.upd_new (o := .tup [V.ref l, V.ref h]) hps) _ _ e1
    generalize upd H1 ps (.tup [V.ref l, V.ref h]) = H2 at s2 q2 e2 ⊢
    refine ⟨fun m σ' H' => m = 0 ∧ (∃ z5 : Option V, σ' = [some (.ref a), some (.ref l), some (.ref h), some (.ref p), some (.ref ps), z5]) ∧ H2 = H', ⟨0, rfl, ⟨none, rfl⟩, rfl⟩, ?_⟩
    rintro m σ' H' ⟨rfl, ⟨z5, rfl⟩, rfl⟩
    refine ⟨_, rfl, _, rfl, ps, _, _, _, rfl, rfl, SqT.of q2, rfl, p, l, ns, l1, l2, ⟨rfl, e2, hl.same s2, by omega, hN.sr.bits.mono (by decide), hN.en.bl1.mono (by decide), hN.en.bl2.mono (by decide)⟩, fun H3 s3 => ⟨_, _, rfl, rfl, _, rfl, rd_dec (fun h0 => absurd h0 hN.lo) (fun _ => ?_)⟩⟩
    have q3 := s3 _ _ q2
    have e3 := s3 _ _ e2
    have t3 := s2.trans s3
    dsimp only
    refine rd_ret ⟨_, rfl, _, rfl, ps, _, _, _, rfl, rfl, SqT.of q3, rfl, _, rfl, ps, _, _, _, rfl, rfl, SqT.of q3, rfl, make_N e3 fun x q H4 s4 hx hNA hq hqn => ?_⟩
    exact k x q H4 (t3.trans s4) (t3.free hx) hNA hq (t3.free hqn)
def spNb (C CN : Addr) : Sp := fun vs H Q _ => ∃ (a l h : Addr) (ns : List Int) (l1 l2 h1 h2 ε : Int) (Up : Int → Int → Prop) (n1 n2 : Nat) (xss : List (List Int)), vs = [.ref a, .ref l, .ref h] ∧ H a = some (.lst (ns.map V.int)) ∧ RA C H l l1 l2 ∧ RA C H h h1 h2 ∧ NumS ns l1 l2 h1 h2 ε Up n1 n2 xss ∧ ∀ (x q : Addr) (H' : Hp), Same H H' → H x = none → NA CN H' x q l h → H' q = some (.lst (ns.map V.int)) → H q = none → Q (.ref x) H'
theorem ok_number {C CN f : Addr} {dV : Value} {fd : FuncData} (F : FunD K "number" "number" s_number dV f fd) (T : Txt K mg) (R : RCI K mg C) {f_refuse_high : Addr} {fd_refuse_high : FuncData} (C_refuse_high : Cal P w K mg base 1 "refuse_high" ["height"] (fun vs H Q _ => ∃ i : Int, vs = [.int i] ∧ i ≤ 8 ∧ Q .non H) f_refuse_high fd_refuse_high) {f_degree : Addr} {fd_degree : FuncData} (C_degree : Cal P w K mg base 1 "degree" ["row"] spDeg f_degree fd_degree) {f_Ratio : Addr} {fd_Ratio : FuncData} {ds_Ratio : List Value} (C_Ratio : KCal P w K mg base 2 C "Ratio" ["self", "top", "bottom"] (spInit C) f_Ratio fd_Ratio ds_Ratio [.int 1]) {f_bound : Addr} {fd_bound : FuncData} (C_bound : Cal P w K mg base 1 "bound" ["row"] (spBound K) f_bound fd_bound) {f_without_squares : Addr} {fd_without_squares : FuncData} (C_without_squares : Cal P w K mg base 36 "without_squares" ["row"] spWsq f_without_squares fd_without_squares) {f_many_within : Addr} {fd_many_within : FuncData} (C_many_within : Cal P w K mg base 36 "many_within" ["simple", "low", "high"] (spMw C) f_many_within fd_many_within) {f_refuse_great : Addr} {fd_refuse_great : FuncData} (C_refuse_great : Cal P w K mg base 1 "refuse_great" ["row"] spRg f_refuse_great fd_refuse_great) {f_number_in : Addr} {fd_number_in : FuncData} (C_number_in : Cal P w K mg base 37 "number_in" ["simple", "low", "high"] (spNin C CN) f_number_in fd_number_in) : FnOk P w K mg base CX0 38 f fd ["row", "low", "high"] (spNb C CN) := by
  obtain ⟨G_refuse_high, m_refuse_high, k_refuse_high, b_refuse_high⟩ := C_refuse_high
  obtain ⟨G_degree, m_degree, k_degree, b_degree⟩ := C_degree
  obtain ⟨G_Ratio, M_Ratio, m_Ratio, b_Ratio, bD_Ratio, d_Ratio⟩ := C_Ratio
  obtain ⟨G_bound, m_bound, k_bound, b_bound⟩ := C_bound
  obtain ⟨G_without_squares, m_without_squares, k_without_squares, b_without_squares⟩ := C_without_squares
  obtain ⟨G_many_within, m_many_within, k_many_within, b_many_within⟩ := C_many_within
  obtain ⟨G_refuse_great, m_refuse_great, k_refuse_great, b_refuse_great⟩ := C_refuse_great
  obtain ⟨G_number_in, m_number_in, k_number_in, b_number_in⟩ := C_number_in
  refine F.ok sc_number (fun vs H Q E h => ?_) (fun cdv A outer s H vs Q E hr h => ?_)
  · obtain ⟨a, l, h, ns, l1, l2, h1, h2, ε, Up, n1, n2, xss, rfl, _⟩ := h
    rfl
  · obtain ⟨a, l, h, ns, l1, l2, h1, h2, ε, Up, n1, n2, xss, rfl, hA, hl, hh, hN, k⟩ := h
    have l3 := hN.sr.l3
    have l2' := hN.sr.l2
    have hml : (ns.map V.int).length = ns.length := List.length_map _
    refine ⟨_, (pss_cons (ps_expr (pe_call G_refuse_high (hr.mono (by decide)) rfl m_refuse_high k_refuse_high b_refuse_high .nil pass0 (pa_cons (pe_call G_degree (hr.mono (by decide)) rfl m_degree k_degree b_degree .nil pass0 (pa_cons (pv 0) pa_nil)) pa_nil)))
      (pss_cons (ps_if (pt_cmpR op_lt (pe_call G_degree (hr.mono (by decide)) rfl m_degree k_degree b_degree .nil pass0 (pa_cons (pv 0) pa_nil)) pe_int (nomark _))
        (pss_one ps_never)
        pss_nil)
      (pss_cons (ps_set (i := 3) sc_number.nd rfl (Or.inl rfl) (pe_ifExp (pt_cmpR op_isN (pv 1) pe_non (nomark _)) (pe_make M_Ratio G_Ratio (hr.mono (by decide)) rfl m_Ratio bD_Ratio d_Ratio pass0 (pa_cons (pe_un un_neg (pe_call G_bound (hr.mono (by decide)) rfl m_bound k_bound b_bound .nil pass0 (pa_cons (pv 0) pa_nil))) pa_nil)) (pv 1)))
      (pss_cons (ps_set (i := 4) sc_number.nd rfl (Or.inl rfl) (pe_ifExp (pt_cmpR op_isN (pv 2) pe_non (nomark _)) (pe_make M_Ratio G_Ratio (hr.mono (by decide)) rfl m_Ratio bD_Ratio d_Ratio pass0 (pa_cons (pe_call G_bound (hr.mono (by decide)) rfl m_bound k_bound b_bound .nil pass0 (pa_cons (pv 0) pa_nil)) pa_nil)) (pv 2)))
      (pss_cons (ps_set (i := 5) sc_number.nd rfl (Or.inl rfl) (pe_call G_without_squares (hr.mono (by decide)) rfl m_without_squares k_without_squares b_without_squares .nil pass0 (pa_cons (pv 0) pa_nil)))
      (pss_cons (ps_set (i := 6) sc_number.nd rfl (Or.inl rfl) (pe_call G_many_within (hr.mono (by decide)) rfl m_many_within k_many_within b_many_within .nil pass0 (pa_cons (pv 5) (pa_cons (pv 3) (pa_cons (pv 4) pa_nil)))))
      (pss_cons (ps_if (pt_cmpR op_neI (pv 6) pe_int (nomark _))
        (pss_one ps_never)
        pss_nil)
      (pss_cons (ps_expr (pe_call G_refuse_great (hr.mono (by decide)) rfl m_refuse_great k_refuse_great b_refuse_great .nil pass0 (pa_cons (pv 5) pa_nil)))
      (pss_one (ps_ret (pe_call G_number_in (hr.mono (by decide)) rfl m_number_in k_number_in b_number_in .nil pass0 (pa_cons (pv 5) (pa_cons (pv 3) (pa_cons (pv 4) pa_nil)))))))))))))), ?_⟩
    refine rd_sd ⟨_, rfl, a, _, rfl, hA, _, rfl, by rw [hml]; omega, ?_⟩
    refine rd_sr ⟨_, rfl, a, _, rfl, hA, _, _, rfl, rfl, _, rfl, rd_dec (fun h0 => absurd (show ((ns.map V.int).length : Int) - 1 < 1 from h0) (by rw [hml]; omega)) (fun _ => ?_)⟩
    refine rd_sa ⟨_, rfl, rfl, _, rfl, ?_⟩
    rw [decide_eq_false (by simp)]
    refine rd_false ⟨_, rfl, ?_⟩
    refine rd_sa ⟨_, rfl, rfl, _, rfl, ?_⟩
    rw [decide_eq_false (by simp)]
    refine rd_false ⟨_, rfl, ?_⟩
    refine rd_sa ⟨_, rfl, a, ns, n1, n2, xss, rfl, hA, hN.sr, fun pw H1 s1 hpw e1 => ?_⟩
    refine rd_sa ⟨_, rfl, _, rfl, _, rfl, pw, l, h, ns, n1, n2, xss, l1, l2, h1, h2, rfl, e1, hN.sr, hl.same s1, hh.same s1, hN.en, fun H2 s2 => ?_⟩
    rw [hN.one]
    have e2 := s2 _ _ e1
    have t2 := s1.trans s2
    refine rd_sr ⟨_, rfl, _, _, rfl, rfl, _, rfl, rd_ndec (fun h => absurd rfl h) (fun _ => ?_)⟩
    refine rd_sd ⟨_, rfl, pw, ns, rfl, e2, by omega, hN.sr.bits.mono (by decide), fun H3 s3 => ?_⟩
    have t3 := t2.trans s3
    refine rd_ret ⟨_, rfl, _, rfl, _, rfl, pw, l, h, ns, l1, l2, h1, h2, ε, Up, n1, n2, xss, rfl, s3 _ _ e2, hl.same t3, hh.same t3, hN, fun x q H4 s4 hx hNA hq hqn => ?_⟩
    exact k x q H4 (t3.trans s4) (t3.free hx) hNA hq (t3.free hqn)
/-- a Number of the row with its span, and the one root in it -/
def NU (kb : Nat) (C CN : Addr) (H : Hp) (x : Addr) (ns : List Int) (l1 l2 h1 h2 ε : Int) (Up : Int → Int → Prop) : Prop := ∃ q l h, NA CN H x q l h ∧ H q = some (.lst (ns.map V.int)) ∧ RA C H l l1 l2 ∧ RA C H h h1 h2 ∧ EndsG kb l1 l2 h1 h2 ∧ RootU ns l1 l2 h1 h2 ε Up
theorem NU.same {kb : Nat} {C CN : Addr} {H H' : Hp} {x : Addr} {ns : List Int} {l1 l2 h1 h2 ε : Int} {Up : Int → Int → Prop} (n : NU kb C CN H x ns l1 l2 h1 h2 ε Up) (s : Same H H') : NU kb C CN H' x ns l1 l2 h1 h2 ε Up := let ⟨q, l, h, a, e, c, d, en⟩ := n; ⟨q, l, h, a.same s, s _ _ e, c.same s, d.same s, en⟩
theorem RootU.sub {ns : List Int} {l1 l2 h1 h2 ε : Int} {Up : Int → Int → Prop} (r : RootU ns l1 l2 h1 h2 ε Up) (l2p : 0 < l2) (h2p : 0 < h2) {x1 x2 y1 y2 : Int} (x2p : 0 < x2) (y2p : 0 < y2) (ux : Up x1 x2) (uy : ¬ Up y1 y2) (lo : l1 * x2 ≤ x1 * l2) (hi : y1 * h2 ≤ h1 * y2) : RootU ns x1 x2 y1 y2 ε Up := by
  have gl : ∀ z1 z2 : Int, 0 < z2 → x1 * z2 < z1 * x2 → l1 * z2 < z1 * l2 := fun z1 z2 hz h => by
    refine cancel_lt x2p ?_
    have h3 := Int.mul_le_mul_of_nonneg_right lo (Int.le_of_lt hz)
    have h4 := Int.mul_lt_mul_of_pos_right h l2p
    have e1 : l1 * x2 * z2 = l1 * z2 * x2 := by grind
    have e2 : x1 * l2 * z2 = x1 * z2 * l2 := by grind
    have e3 : z1 * x2 * l2 = z1 * l2 * x2 := by grind
    omega
  have gh : ∀ z1 z2 : Int, 0 < z2 → z1 * y2 ≤ y1 * z2 → z1 * h2 ≤ h1 * z2 := fun z1 z2 hz h => by
    refine cancel_le y2p ?_
    have h3 := Int.mul_le_mul_of_nonneg_right hi (Int.le_of_lt hz)
    have h4 := Int.mul_le_mul_of_nonneg_right h (Int.le_of_lt h2p)
    have e1 : z1 * y2 * h2 = z1 * h2 * y2 := by grind
    have e2 : y1 * z2 * h2 = y1 * h2 * z2 := by grind
    have e3 : h1 * y2 * z2 = h1 * z2 * y2 := by grind
    omega
  exact ⟨r.e1, fun z1 z2 hz h1 h2 => r.r1 z1 z2 hz (gl z1 z2 hz h1) (gh z1 z2 hz h2), fun z1 z2 hz h1 h2 => r.r2 z1 z2 hz (gl z1 z2 hz h1) (gh z1 z2 hz h2), fun z1 z2 w1 w2 hz hw h1 h2 => r.r3 z1 z2 w1 w2 hz hw (gl z1 z2 hz h1) (gh w1 w2 hw h2), r.sc, ux, uy⟩
/-- what a narrowing is asked with -/
structure Nrw (C CN : Addr) (H : Hp) (vs : List V) (x wd : Addr) (ns : List Int) (l1 l2 h1 h2 ε : Int) (Up : Int → Int → Prop) (w1 w2 : Int) (kb kw : Nat) : Prop where
  vs : vs = [.ref x, .ref wd]
  nu : NU kb C CN H x ns l1 l2 h1 h2 ε Up
  tr : Tr ns
  ne : ns ≠ []
  len : ns.length ≤ 12
  bits : AllB 1000 ns
  wd : RA C H wd w1 w2
  w1p : 0 < w1
  w2p : 0 < w2
  b1 : Bits kw w1
  b2 : Bits kw w2
  k1 : kb ≤ 1400
  k2 : 2 * kb + kw ≤ 3900
  k3 : 5 * kb + kw ≤ 8900
def spSpan (C CN : Addr) : Sp := fun vs H Q _ => ∃ (x wd : Addr) (ns : List Int) (l1 l2 h1 h2 ε : Int) (Up : Int → Int → Prop) (w1 w2 : Int) (kb kw : Nat), Nrw C CN H vs x wd ns l1 l2 h1 h2 ε Up w1 w2 kb kw ∧
  ∀ (p y z : Addr) (H' : Hp) (n pl : Nat) (x1 x2 y1 y2 : Int), Same H H' → H p = none → H' p = some (.tup [.ref y, .ref z]) → RA C H' y x1 x2 → RA C H' z y1 y2 → NarP l1 l2 h1 h2 w1 w2 Up (5 * kb + kw + 4) n pl x1 x2 y1 y2 → Q (.ref p) H'
theorem ok_span_of {C CN f : Addr} {fd : FuncData} (F : Fun K "span_of" "span_of" s_span_of f fd) (T : Txt K mg) (R : RCI K mg C) (RN : NCI K mg CN) {f_narrowed : Addr} {fd_narrowed : FuncData} (C_narrowed : Cal P w K mg base 6 "narrowed" ["row", "low", "high", "width"] (spNar C) f_narrowed fd_narrowed) : FnOk P w K mg base CX0 7 f fd ["one", "width"] (spSpan C CN) := by
  obtain ⟨G_narrowed, m_narrowed, k_narrowed, b_narrowed⟩ := C_narrowed
  refine F.ok sc_span_of (fun vs H Q E h => ?_) (fun cdv A outer s H vs Q E hr h => ?_)
  · obtain ⟨x, wd, ns, l1, l2, h1, h2, ε, Up, w1, w2, kb, kw, hn, _⟩ := h
    rw [hn.vs]; rfl
  · obtain ⟨x, wd, ns, l1, l2, h1, h2, ε, Up, w1, w2, kb, kw, ⟨rfl, ⟨q, l, h, ⟨dx, hx⟩, hq, hl, hh, en, ru⟩, tr, ne, len, bs, hw, p1, p2, b1, b2, k1, k2, k3⟩, k⟩ := h
    refine ⟨_, (pss_one (ps_ret (pe_call G_narrowed (hr.mono (by decide)) rfl m_narrowed k_narrowed b_narrowed .nil pass0 (pa_cons (pe_fldK (K := K) rfl (pv 0) rfl) (pa_cons (pe_fldK (K := K) rfl (pv 0) rfl) (pa_cons (pe_fldK (K := K) rfl (pv 0) rfl) (pa_cons (pv 1) pa_nil))))))), ?_⟩
    exact rd_ret ⟨_, rfl, x, CN, dx, _, _, rfl, hx, RN.cl, RN.nP, fldsN_poly _ _ _, _, rfl, x, CN, dx, _, _, rfl, hx, RN.cl, RN.nL, fldsN_low _ _ _, _, rfl, x, CN, dx, _, _, rfl, hx, RN.cl, RN.nH, fldsN_high _ _ _, _, rfl, q, l, h, wd, ns, l1, l2, h1, h2, w1, w2, kb, kw, ε, Up, rfl, hq, tr, ne, len, bs, hl, hh, hw, en, p1, p2, b1, b2, k1, k2, k3, ru, k⟩
def spNrw (C CN : Addr) : Sp := fun vs H Q _ => ∃ (x wd : Addr) (ns : List Int) (l1 l2 h1 h2 ε : Int) (Up : Int → Int → Prop) (w1 w2 : Int) (kb kw : Nat), Nrw C CN H vs x wd ns l1 l2 h1 h2 ε Up w1 w2 kb kw ∧
  ∀ (y : Addr) (H' : Hp) (n pl : Nat) (x1 x2 y1 y2 : Int), Same H H' → H y = none → NU (5 * kb + kw + 4) C CN H' y ns x1 x2 y1 y2 ε Up → NarP l1 l2 h1 h2 w1 w2 Up (5 * kb + kw + 4) n pl x1 x2 y1 y2 → Q (.ref y) H'
theorem ok_narrow {C CN f : Addr} {fd : FuncData} (F : Fun K "narrow" "narrow" s_narrow f fd) (T : Txt K mg) (R : RCI K mg C) (RN : NCI K mg CN) {f_span_of : Addr} {fd_span_of : FuncData} (C_span_of : Cal P w K mg base 7 "span_of" ["one", "width"] (spSpan C CN) f_span_of fd_span_of) {f_Number : Addr} {fd_Number : FuncData} {ds_Number : List Value} (C_Number : KCal P w K mg base 1 CN "Number" ["self", "row", "low", "high"] (spInitN CN) f_Number fd_Number ds_Number []) : FnOk P w K mg base CX0 8 f fd ["one", "width"] (spNrw C CN) := by
  obtain ⟨G_span_of, m_span_of, k_span_of, b_span_of⟩ := C_span_of
  obtain ⟨G_Number, M_Number, m_Number, b_Number, bD_Number, d_Number⟩ := C_Number
  refine F.ok sc_narrow (fun vs H Q E h => ?_) (fun cdv A outer s H vs Q E hr h => ?_)
  · obtain ⟨x, wd, ns, l1, l2, h1, h2, ε, Up, w1, w2, kb, kw, hn, _⟩ := h
    rw [hn.vs]; rfl
  · obtain ⟨x, wd, ns, l1, l2, h1, h2, ε, Up, w1, w2, kb, kw, hn, k⟩ := h
    obtain rfl := hn.vs
    refine ⟨_, (pss_cons (ps_set (i := 2) sc_narrow.nd rfl (Or.inl rfl) (pe_call G_span_of (hr.mono (by decide)) rfl m_span_of k_span_of b_span_of .nil pass0 (pa_cons (pv 0) (pa_cons (pv 1) pa_nil))))
      (pss_one (ps_ret (pe_make M_Number G_Number (hr.mono (by decide)) rfl m_Number b_Number .nil pass0 (pa_cons (pe_fldK (K := K) rfl (pv 0) rfl) (pa_cons (pe_ix (ix_tupK (K := K) rfl) (pv 2) pe_int (fun _ _ => rfl)) (pa_cons (pe_ix (ix_tupK (K := K) rfl) (pv 2) pe_int (fun _ _ => rfl)) pa_nil))))))), ?_⟩
    refine rd_sa ⟨_, rfl, _, rfl, x, wd, ns, l1, l2, h1, h2, ε, Up, w1, w2, kb, kw, hn, fun p y z H1 n pl x1 x2 y1 y2 s1 hp e1 hy hz nar => ?_⟩
    obtain ⟨q, l, h, ⟨dx, hx⟩, hq, hl, hh, en, ru⟩ := hn.nu.same s1
    refine rd_ret ⟨_, rfl, x, CN, dx, _, _, rfl, hx, RN.cl, RN.nP, fldsN_poly _ _ _, _, rfl, p, _, _, _, rfl, rfl, SqT.of e1, rfl, _, rfl, p, _, _, _, rfl, rfl, SqT.of e1, rfl, make_N hq fun y' q' H2 s2 hy' hN' hq' _ => ?_⟩
    exact k y' H2 n pl x1 x2 y1 y2 (s1.trans s2) (s1.free hy') ⟨q', y, z, hN', hq', hy.same s2, hz.same s2, nar.ends, ru.sub en.l2p en.h2p nar.ends.l2p nar.ends.h2p nar.ux nar.uy nar.lo nar.hi⟩ nar
--SPLIT
/-! a row of three, plain, with two real roots that are no fractions -/
theorem hv_three (x y c0 c1 c2 : Int) : hv x y [c0, c1, c2] = (c0 * (y * y) + c1 * (x * y) + c2 * (x * x)) * y := by
  show c0 * y ^ 3 + x * (c1 * y ^ 2 + x * (c2 * y ^ 1 + x * 0)) = _
  have e2 : y ^ 2 = y * y := by rw [Int.pow_succ, Int.pow_succ, Int.pow_zero, Int.one_mul]
  have e3 : y ^ 3 = y * y * y := by rw [Int.pow_succ, e2]
  rw [e2, e3, Int.pow_succ, Int.pow_zero, Int.one_mul]
  grind
theorem hv_pair (x y c0 c1 : Int) : hv x y [c0, c1] = (c0 * y + c1 * x) * y := by
  show c0 * y ^ 2 + x * (c1 * y ^ 1 + x * 0) = _
  have e2 : y ^ 2 = y * y := by rw [Int.pow_succ, Int.pow_succ, Int.pow_zero, Int.one_mul]
  rw [e2, Int.pow_succ, Int.pow_zero, Int.one_mul]
  grind
theorem slope_three (c0 c1 c2 : Int) : slopeL [c0, c1, c2] = [c1, 2 * c2] := by
  show [(((0 : Nat) : Int) + 1) * c1, (((1 : Nat) : Int) + 1) * c2] = _
  simp
theorem tr_three {a b c : Int} (h : c ≠ 0) : Tr [a, b, c] := (tr_snoc (r := [a, b])).mpr h
theorem tr_pair {a b : Int} (h : b ≠ 0) : Tr [a, b] := (tr_snoc (r := [a])).mpr h
theorem three_of {l : List Int} (h : l.length = 3) : ∃ a b c, l = [a, b, c] := by
  match l, h with
  | [a, b, c], _ => exact ⟨a, b, c, rfl⟩
theorem pair_of {l : List Int} (h : l.length = 2) : ∃ a b, l = [a, b] := by
  match l, h with
  | [a, b], _ => exact ⟨a, b, rfl⟩
/-- made plain: by a number above 0 -/
theorem plain_three {r0 r1 r2 : Int} (h : 0 < r2) : ∃ g c0 c1 c2 : Int, 0 < g ∧ plainL [r0, r1, r2] = [c0, c1, c2] ∧ r0 = g * c0 ∧ r1 = g * c1 ∧ r2 = g * c2 ∧ 0 < c2 ∧ Pln [c0, c1, c2] := by
  have ht : Tr [r0, r1, r2] := tr_three (by omega)
  have hp := pln_plain ht (by simp)
  obtain ⟨g, _, hg⟩ := plain_scale ht
  obtain ⟨c0, c1, c2, e⟩ := three_of (l := plainL [r0, r1, r2]) (by rw [RM.plain_len]; rfl)
  rw [e] at hg hp
  have e2 : r2 = g * c2 := hg 2
  have cp : 0 < c2 := hp.pos
  have gp : 0 < g := by
    refine Classical.byContradiction fun z => ?_
    have := Int.mul_nonpos_of_nonpos_of_nonneg (show g ≤ 0 by omega) (Int.le_of_lt cp)
    omega
  exact ⟨g, c0, c1, c2, gp, e, hg 0, hg 1, e2, cp, hp⟩
theorem plain_pair {r0 r1 : Int} (h : 0 < r1) : ∃ g c0 c1 : Int, 0 < g ∧ plainL [r0, r1] = [c0, c1] ∧ r0 = g * c0 ∧ r1 = g * c1 ∧ 0 < c1 ∧ Pln [c0, c1] := by
  have ht : Tr [r0, r1] := tr_pair (by omega)
  have hp := pln_plain ht (by simp)
  obtain ⟨g, _, hg⟩ := plain_scale ht
  obtain ⟨c0, c1, e⟩ := pair_of (l := plainL [r0, r1]) (by rw [RM.plain_len]; rfl)
  rw [e] at hg hp
  have e2 : r1 = g * c1 := hg 1
  have cp : 0 < c1 := hp.pos
  have gp : 0 < g := by
    refine Classical.byContradiction fun z => ?_
    have := Int.mul_nonpos_of_nonpos_of_nonneg (show g ≤ 0 by omega) (Int.le_of_lt cp)
    omega
  exact ⟨g, c0, c1, gp, e, hg 0, e2, cp, hp⟩
theorem gp_le {g c r : Int} {k : Nat} (hg : 0 < g) (e : r = g * c) (h : Bits k r) : Bits k c := h.of_le (by
  rw [e, Int.natAbs_mul]
  exact Nat.le_mul_of_pos_left _ (by omega))
theorem id_a (a c : Int) : a * a * c = a * c * a := by grind
theorem id_b (a0 a1 c1 c2 : Int) : a1 * a1 * c1 - a1 * c2 * a0 = (a1 * c1 - c2 * a0) * a1 := by grind
theorem id_c (a0 a1 c0 c1 c2 G : Int) : (a1 * a1 * c0 - (a1 * c1 - c2 * a0) * a0) * (G * G) = (G * a1) * (G * a1) * c0 - (G * a1) * c1 * (G * a0) + c2 * (G * a0) * (G * a0) := by grind
theorem id_d (c0 c1 c2 : Int) : (2 * c2) * (2 * c2) * c0 - (2 * c2) * c1 * c1 + c2 * c1 * c1 = c2 * (4 * c0 * c2 - c1 * c1) := by grind
/-- the rest of a row of three by its slope: below nought -/
theorem rest_three {c0 c1 c2 a0 a1 G : Int} (hc : 0 < c2) (ha : 0 < a1) (hG : 0 < G) (e0 : c1 = G * a0) (e1 : 2 * c2 = G * a1) (hD : 4 * c0 * c2 < c1 * c1) : ∃ ρ : Int, ρ < 0 ∧ divR [c0, c1, c2] [a0, a1] = [ρ] := by
  have hb : ([a0, a1] : List Int) ≠ [] := by simp
  have hF : divF [c0, c1, c2] [a0, a1] = (a1.natAbs : Int) ^ 2 := rfl
  have ha' : (a1.natAbs : Int) = a1 := by omega
  have hF2 : divF [c0, c1, c2] [a0, a1] = a1 * a1 := by rw [hF, ha', Int.pow_succ, Int.pow_succ, Int.pow_zero, Int.one_mul]
  have hlq : (divQ [c0, c1, c2] [a0, a1]).length = 2 := div_lenQ hb
  have hlr := div_lenR (a := [c0, c1, c2]) hb
  have heq := div_eqn (a := [c0, c1, c2]) hb
  obtain ⟨q0, q1, eq⟩ := pair_of hlq
  rw [hF2, eq] at heq
  have m0 : mulc [q0, q1] [a0, a1] 0 = q0 * a0 := by show sm [q0, q1] [a0, a1] 0 2 = _; rw [sm_two]; simp [cf]
  have m1 : mulc [q0, q1] [a0, a1] 1 = q1 * a0 + q0 * a1 := by show sm [q0, q1] [a0, a1] 1 2 = _; rw [sm_two]; simp [cf]
  have m2 : mulc [q0, q1] [a0, a1] 2 = q1 * a1 := by show sm [q0, q1] [a0, a1] 2 2 = _; rw [sm_two]; simp [cf]
  have f0 := heq 0
  have f1 := heq 1
  have f2 := heq 2
  rw [m0] at f0
  rw [m1] at f1
  rw [m2] at f2
  have r1 : cf (divR [c0, c1, c2] [a0, a1]) 1 = 0 := cf_ge (by have : (divR [c0, c1, c2] [a0, a1]).length < 2 := hlr; omega)
  have r2 : cf (divR [c0, c1, c2] [a0, a1]) 2 = 0 := cf_ge (by have : (divR [c0, c1, c2] [a0, a1]).length < 2 := hlr; omega)
  rw [r1] at f1
  rw [r2] at f2
  have f0' : a1 * a1 * c0 = q0 * a0 + cf (divR [c0, c1, c2] [a0, a1]) 0 := f0
  have f1' : a1 * a1 * c1 = q1 * a0 + q0 * a1 := by have : a1 * a1 * c1 = q1 * a0 + q0 * a1 + 0 := f1; omega
  have f2' : a1 * a1 * c2 = q1 * a1 := by have : a1 * a1 * c2 = q1 * a1 + 0 := f2; omega
  have neg : cf (divR [c0, c1, c2] [a0, a1]) 0 < 0 := by
    generalize cf (divR [c0, c1, c2] [a0, a1]) 0 = ρ at f0'
    have q1e : q1 = a1 * c2 := cancel ha (by rw [← f2']; exact id_a _ _)
    have q0e : q0 = a1 * c1 - c2 * a0 := cancel ha (by
      have : q0 * a1 = a1 * a1 * c1 - q1 * a0 := by omega
      rw [this, q1e]; exact id_b _ _ _ _)
    have ρe : ρ = a1 * a1 * c0 - (a1 * c1 - c2 * a0) * a0 := by rw [← q0e]; omega
    have key : ρ * (G * G) = c2 * (4 * c0 * c2 - c1 * c1) := by
      calc ρ * (G * G) = (G * a1) * (G * a1) * c0 - (G * a1) * c1 * (G * a0) + c2 * (G * a0) * (G * a0) := by rw [ρe]; exact id_c _ _ _ _ _ _
        _ = (2 * c2) * (2 * c2) * c0 - (2 * c2) * c1 * c1 + c2 * c1 * c1 := by rw [← e0, ← e1]
        _ = c2 * (4 * c0 * c2 - c1 * c1) := id_d _ _ _
    have h3 : ρ * (G * G) < 0 := by rw [key]; exact Int.mul_neg_of_pos_of_neg hc (by omega)
    exact cancel_lt (Int.mul_pos hG hG) (by rw [Int.zero_mul]; exact h3)
  have hT := div_trR [c0, c1, c2] [a0, a1]
  match hd : divR [c0, c1, c2] [a0, a1] with
  | [] => rw [hd] at neg; exact absurd neg (by show ¬ (0 : Int) < 0; decide)
  | [ρ] => rw [hd] at neg; exact ⟨ρ, neg, rfl⟩
  | _ :: _ :: _ => rw [hd] at hlr; exact absurd hlr (by simp)
theorem plain_neg {ρ : Int} (h : ρ < 0) : plainL [ρ] = [1] ∧ shrL (subL [] [ρ]) = [1] := by
  constructor
  · refine Pln.const (pln_plain ((tr_snoc (r := [])).mpr (by omega)) (by simp)) (by rw [RM.plain_len]; rfl)
  · have e : subL [] [ρ] = [-ρ] := by
      refine eq_of_cf (tr_trim _) ((tr_snoc (r := [])).mpr (by omega)) fun k => ?_
      unfold subL
      rw [cf_trim, cf_linL, cf_nil]
      rcases k with _ | k
      · show 0 + -1 * ρ = -ρ
        omega
      · show 0 + -1 * cf [] k = cf [] k
        rw [cf_nil]; rfl
    rw [e, shr_one (by omega)]
    have : sg (-ρ) = 1 := sg_pos1 (by omega)
    rw [this]
theorem bits_one {k : Nat} (h : 1 ≤ k) : AllB k ([1] : List Int) := fun x hx => by rw [List.mem_singleton.mp hx]; exact b1k h
theorem tr_one : Tr ([1] : List Int) := (tr_snoc (r := [])).mpr (by decide)
/-- the chain of a row of three -/
theorem sr_three {c0 c1 c2 : Int} (hP : Pln [c0, c1, c2]) (hb : AllB 250 [c0, c1, c2]) (hD : 4 * c0 * c2 < c1 * c1) (irr : ∀ t b, 0 < b → hv t b [c0, c1, c2] ≠ 0) : ∃ a0 a1 G : Int, 0 < G ∧ c1 = G * a0 ∧ 2 * c2 = G * a1 ∧ 0 < a1 ∧ SR [c0, c1, c2] 2 3 [[c0, c1, c2], [a0, a1], [1]] := by
  have hc : 0 < c2 := hP.pos
  obtain ⟨G, a0, a1, hG, ep, e0, e1, ha, hPa⟩ := plain_pair (r0 := c1) (r1 := 2 * c2) (by omega)
  have es : shrL [c1, 2 * c2] = [a0, a1] := by
    have h1 : plainL [c1, 2 * c2] = shrL [c1, 2 * c2] := by
      unfold plainL posL
      have hl : 0 < lastI (shrL [c1, 2 * c2]) := by
        have h2 := shr_scale (l := [c1, 2 * c2])
        have h3 := congrArg (fun l => cf l 1) h2
        have h4 : (gcdL [c1, 2 * c2] : Int) * cf (shrL [c1, 2 * c2]) 1 = 2 * c2 := by
          have h5 : cf (scL (gcdL [c1, 2 * c2] : Int) (shrL [c1, 2 * c2])) 1 = (gcdL [c1, 2 * c2] : Int) * cf (shrL [c1, 2 * c2]) 1 := cf_scL _ _ _
          rw [← h5]; exact h3
        have h6 : lastI (shrL [c1, 2 * c2]) = cf (shrL [c1, 2 * c2]) 1 := by
          unfold lastI
          have : (shrL [c1, 2 * c2]).length = 2 := by unfold shrL; simp
          rw [this]
        rw [h6]
        refine Classical.byContradiction fun z => ?_
        have := Int.mul_nonpos_of_nonneg_of_nonpos (show (0 : Int) ≤ (gcdL [c1, 2 * c2] : Int) by omega) (show cf (shrL [c1, 2 * c2]) 1 ≤ 0 by omega)
        omega
      rw [if_neg (by omega)]
    rw [← h1]; exact ep
  obtain ⟨ρ, hρ, er⟩ := rest_three hc ha hG e0 e1 hD
  obtain ⟨pn, sn⟩ := plain_neg hρ
  have hTa : Tr [a0, a1] := tr_pair (by omega)
  have b0 : Bits 252 c1 := (hb c1 (by simp)).mono (by decide)
  have b2 : Bits 252 (2 * c2) := by
    have : Bits 2 (2 : Int) := by show (2 : Int).natAbs < 2 ^ 2; decide
    exact this.mul (hb c2 (by simp))
  have ba : AllB 252 [a0, a1] := fun x hx => by
    simp only [List.mem_cons, List.not_mem_nil, or_false] at hx
    rcases hx with rfl | rfl
    · exact gp_le hG e0 b0
    · exact gp_le hG e1 b2
  have dn : divR [a0, a1] [1] = [] := divR_const (by simp) rfl
  refine ⟨a0, a1, G, hG, e0, e1, ha, hP, by show 2 ≤ 3; decide, by show 3 ≤ 3; decide, hb, ?_, ?_, by decide, ?_, ?_, ?_, by show 3 ≤ 1000000; decide, fun _ => irr⟩
  · rw [slope_three, ep]
    refine .inr ⟨⟨hP.tr, hTa, 252, hb.mono (by decide), ba, by show (3 + 2) * (252 + 1) ≤ 1000000; decide, by show 2 ≤ 1000000; decide⟩, ?_⟩
    rw [er, pn]
    refine .inr ⟨⟨hTa, tr_one, 252, ba, bits_one (by decide), by show (2 + 2) * (252 + 1) ≤ 1000000; decide, by show 1 ≤ 1000000; decide⟩, ?_⟩
    rw [dn]; rfl
  · rw [slope_three, ep, comN_step (by simp), er, pn, comN_step (by simp), dn]
    rfl
  · rw [slope_three, es]
    have n1 : nxt [c0, c1, c2] [a0, a1] = [1] := by
      show shrL (subL [] (rst [c0, c1, c2] [a0, a1])) = [1]
      have : rst [c0, c1, c2] [a0, a1] = [ρ] := by
        unfold rst
        rw [if_neg (by simp)]; exact er
      rw [this]; exact sn
    refine .inr ⟨⟨hP.tr, hTa, 252, hb.mono (by decide), ba, by show (3 + 2) * (252 + 1) ≤ 1000000; decide, by show 2 ≤ 1000000; decide⟩, ?_⟩
    rw [n1]
    refine .inr ⟨⟨hTa, tr_one, 252, ba, bits_one (by decide), by show (2 + 2) * (252 + 1) ≤ 1000000; decide, by show 1 ≤ 1000000; decide⟩, ?_⟩
    rw [nxt_const (by simp) rfl]
    exact .inr ⟨⟨tr_one, tr_nil, 252, bits_one (by decide), AllB.nil, by show (1 + 2) * (252 + 1) ≤ 1000000; decide, Nat.zero_le _⟩, rfl⟩
  · rw [slope_three, es]
    have n1 : nxt [c0, c1, c2] [a0, a1] = [1] := by
      show shrL (subL [] (rst [c0, c1, c2] [a0, a1])) = [1]
      have : rst [c0, c1, c2] [a0, a1] = [ρ] := by
        unfold rst
        rw [if_neg (by simp)]; exact er
      rw [this]; exact sn
    show (if ([c0, c1, c2] : List Int) = [] then [] else [c0, c1, c2] :: rowS 2 [a0, a1] (nxt [c0, c1, c2] [a0, a1])) = _
    rw [if_neg (by simp), n1]
    show [c0, c1, c2] :: (if ([a0, a1] : List Int) = [] then [] else [a0, a1] :: rowS 1 [1] (nxt [a0, a1] [1])) = _
    rw [if_neg (by simp), nxt_const (by simp) rfl]
    rfl
  · intro xs hx
    simp only [List.mem_cons, List.not_mem_nil, or_false] at hx
    rcases hx with rfl | rfl | rfl
    · exact ⟨by show 3 ≤ 20; decide, hb.mono (by decide)⟩
    · exact ⟨by show 2 ≤ 20; decide, ba.mono (by decide)⟩
    · exact ⟨by show 1 ≤ 20; decide, bits_one (by decide)⟩
theorem sr_pair {c0 c1 : Int} (hP : Pln [c0, c1]) (hb : AllB 250 [c0, c1]) : SR [c0, c1] 1 2 [[c0, c1], [1]] := by
  have hc : 0 < c1 := hP.pos
  have sl : slopeL [c0, c1] = [c1] := by show [(((0 : Nat) : Int) + 1) * c1] = [c1]; simp
  have p1 : plainL [c1] = [1] := Pln.const (pln_plain ((tr_snoc (r := [])).mpr (by omega)) (by simp)) (by rw [RM.plain_len]; rfl)
  have s1 : shrL [c1] = [1] := by rw [shr_one (by omega), sg_pos1 hc]
  have dn : divR [c0, c1] [1] = [] := divR_const (by simp) rfl
  refine ⟨hP, by show 2 ≤ 2; decide, by show 2 ≤ 3; decide, hb, ?_, ?_, by decide, ?_, ?_, ?_, by show 2 ≤ 1000000; decide, fun h => absurd (show 2 = 3 from h) (by decide)⟩
  · rw [sl, p1]
    refine .inr ⟨⟨hP.tr, tr_one, 250, hb, bits_one (by decide), by show (2 + 2) * (250 + 1) ≤ 1000000; decide, by show 1 ≤ 1000000; decide⟩, ?_⟩
    rw [dn]; rfl
  · rw [sl, p1, comN_step (by simp), dn]
    rfl
  · rw [sl, s1]
    refine .inr ⟨⟨hP.tr, tr_one, 250, hb, bits_one (by decide), by show (2 + 2) * (250 + 1) ≤ 1000000; decide, by show 1 ≤ 1000000; decide⟩, ?_⟩
    rw [nxt_const (by simp) rfl]
    exact .inr ⟨⟨tr_one, tr_nil, 250, bits_one (by decide), AllB.nil, by show (1 + 2) * (250 + 1) ≤ 1000000; decide, Nat.zero_le _⟩, rfl⟩
  · rw [sl, s1]
    show (if ([c0, c1] : List Int) = [] then [] else [c0, c1] :: rowS 1 [1] (nxt [c0, c1] [1])) = _
    rw [if_neg (by simp), nxt_const (by simp) rfl]
    rfl
  · intro xs hx
    simp only [List.mem_cons, List.not_mem_nil, or_false] at hx
    rcases hx with rfl | rfl
    · exact ⟨by show 2 ≤ 20; decide, hb.mono (by decide)⟩
    · exact ⟨by show 1 ≤ 20; decide, bits_one (by decide)⟩
--SPLIT
theorem ok__law_cell_at {f : Addr} {fd : FuncData} (F : Fun K "_law_cell_at" "_law_cell_at" s__law_cell_at f fd) (T : Txt K mg) : FnOk P w K mg base CX0 1 f fd ["_law_script", "_law_k"] (spCell K) := by
  refine F.ok sc__law_cell_at (fun vs H Q E h => ?_) (fun cdv A outer s H vs Q E hr h => ?_)
  · obtain ⟨a, ns, k, rfl, _⟩ := h
    rfl
  · obtain ⟨a, ns, n, rfl, hS, k⟩ := h
    refine ⟨_, (pss_cons (ps_if (pt_cmpR op_lt (pv 1) (pe_callB (call_lenK (K := K) rfl) (by rfl) T.len_ PySem.boot_len (pa_cons (pv 0) pa_nil)) (nomark _))
        (pss_one (ps_ret (pe_ix (ix_listK (K := K) rfl) (pv 0) (pv 1) (fun _ _ => rfl))))
        pss_nil)
      (pss_one (ps_ret pe_int))), ?_⟩
    refine ⟨_, rfl, _, rfl, a, _, rfl, .inl hS, _, _, rfl, rfl, _, rfl, ?_⟩
    refine rd_dec (fun h1 => ?_) (fun h1 => ?_)
    · rw [List.length_map] at h1
      have h2 : n < ns.length := by omega
      refine ⟨_, rfl, _, rfl, a, _, _, _, rfl, rfl, hS, atI_nat (v := .int (ns.getD n 0)) ?_, k⟩
      rw [List.getElem?_map, List.getElem?_eq_getElem h2]
      simp [List.getD, h2]
    · rw [List.length_map] at h1
      have h2 : ns.length ≤ n := by omega
      have e : ns.getD n 0 = 0 := by simp [List.getD, List.getElem?_eq_none_iff.mpr h2]
      rw [e] at k
      exact k
def spWhole : Sp := fun vs H Q _ => ∃ i : Int, vs = [.int i] ∧ Q (.bl true) H
theorem ok__law_whole {f : Addr} {fd : FuncData} (F : Fun K "_law_whole" "_law_whole" s__law_whole f fd) (T : Txt K mg) : FnOk P w K mg base CX0 1 f fd ["_law_found"] spWhole := by
  refine F.ok sc__law_whole (fun vs H Q E h => ?_) (fun cdv A outer s H vs Q E hr h => ?_)
  · obtain ⟨i, rfl, _⟩ := h
    rfl
  · obtain ⟨i, rfl, k⟩ := h
    refine ⟨_, (pss_one (ps_ret (pe_and (pe_callB (call_isinstK (K := K) rfl) (by rfl) T.isinstance_ PyProof.Rows.boot_isinstance (pa_cons (pv 0) (pa_cons (pe_bltn (v := .ty "int") (by rfl) T.int_ PyProof.Rows.boot_int (by rfl)) pa_nil))) (pe_one (pe_not (pe_callB (call_isinstK (K := K) rfl) (by rfl) T.isinstance_ PyProof.Rows.boot_isinstance (pa_cons (pv 0) (pa_cons (pe_bltn (v := .ty "bool") (by rfl) T.bool_ PyProof.Rows.boot_bool (by rfl)) pa_nil)))))))), ?_⟩
    refine rd_ret (rd_andV (rd_isI ⟨_, rfl, isI_ty (.int i) (k := true) (by rfl) ⟨_, rfl, rd_true ?_⟩⟩))
    refine rd_notV (rd_isI ⟨_, rfl, isI_ty (.int i) (k := false) (by rfl) ⟨_, rfl, ?_⟩⟩)
    exact k
def WT (H : Hp) (p : Addr) (u v w d : Int) : Prop := H p = some (.tup [.int u, .int v, .int w, .int d])
structure WOk (u v w d : Int) : Prop where
  bu : Bits 21 u
  bv : Bits 21 v
  w1 : 0 < w
  w12 : w ≤ 12
  d2 : 2 ≤ d
  d13 : d ≤ 13
  ns : NSq d
theorem WOk.bw {u v w d : Int} (h : WOk u v w d) : Bits 4 w := by show w.natAbs < 2 ^ 4; have := h.w1; have := h.w12; omega
theorem WOk.bd {u v w d : Int} (h : WOk u v w d) : Bits 4 d := by show d.natAbs < 2 ^ 4; have := h.d2; have := h.d13; omega
def spSign : Sp := fun vs H Q _ => ∃ u v d : Int, vs = [.int u, .int v, .int d] ∧ Bits 100000 u ∧ Bits 100000 v ∧ Bits 10 d ∧ Q (.int (sgq u v d)) H
theorem ok__law_sign {f : Addr} {fd : FuncData} (F : Fun K "_law_sign" "_law_sign" s__law_sign f fd) (T : Txt K mg) : FnOk P w K mg base CX0 1 f fd ["_law_u", "_law_v", "_law_d"] spSign := by
  refine F.ok sc__law_sign (fun vs H Q E h => ?_) (fun cdv A outer s H vs Q E hr h => ?_)
  · obtain ⟨u, v, d, rfl, _⟩ := h
    rfl
  · obtain ⟨u, v, d, rfl, bu, bv, bd, k⟩ := h
    refine ⟨_, (pss_cons (ps_if (PW.pt (pw_and (pt_cmpR op_ge (pv 0) pe_int (nomark _)) (pw_and1 (pt_cmpR op_ge (pv 1) pe_int (nomark _)))))
        (pss_one (ps_ret (pe_callTy call_int1 (by rfl) T.int_ PyProof.Rows.boot_int (pa_cons (pe_or (pe_cmpR op_gt (pv 0) pe_int (nomark _)) (pe_one (pe_cmpR op_gt (pv 1) pe_int (nomark _)))) pa_nil))))
        pss_nil)
      (pss_cons (ps_if (PW.pt (pw_and (pt_cmpR op_le (pv 0) pe_int (nomark _)) (pw_and1 (pt_cmpR op_le (pv 1) pe_int (nomark _)))))
        (pss_one (ps_ret (pe_un un_neg pe_int)))
        pss_nil)
      (pss_cons (ps_if (pt_cmpR op_gt (pv 0) pe_int (nomark _))
        (pss_one (ps_ret (pe_op op_sub pe_int (pe_op op_mulB pe_int (pe_callTy call_int1 (by rfl) T.int_ PyProof.Rows.boot_int (pa_cons (pe_cmpR op_lt (pe_op op_mulB (pv 0) (pv 0)) (pe_op op_mulB (pe_op op_mulB (pv 2) (pv 1)) (pv 1)) (nomark _)) pa_nil))))))
        pss_nil)
      (pss_one (ps_ret (pe_op op_sub pe_int (pe_op op_mulB pe_int (pe_callTy call_int1 (by rfl) T.int_ PyProof.Rows.boot_int (pa_cons (pe_cmpR op_gt (pe_op op_mulB (pv 0) (pv 0)) (pe_op op_mulB (pe_op op_mulB (pv 2) (pv 1)) (pv 1)) (nomark _)) pa_nil))))))))), ?_⟩
    have bdv : Bits 100010 (d * v) := (bd.mul bv).mono (by decide)
    by_cases h1 : 0 ≤ u ∧ 0 ≤ v
    · refine rd_sr (rd_and ⟨_, rfl, _, _, rfl, rfl, _, rfl, rd_dec (fun _ => ?_) (fun z => absurd (show u ≥ 0 from h1.1) z)⟩)
      refine ⟨_, rfl, _, _, rfl, rfl, _, rfl, rd_dec (fun _ => ?_) (fun z => absurd (show v ≥ 0 from h1.2) z)⟩
      refine rd_ret (rd_orV ⟨_, rfl, _, _, rfl, rfl, _, rfl, ?_⟩)
      unfold sgq at k
      rw [if_pos h1] at k
      by_cases h2 : 0 < u
      · rw [decide_eq_true (show u > 0 from h2)]
        refine rd_true (.inr ⟨_, rfl, ?_⟩)
        rw [if_pos (.inl h2)] at k
        exact k
      · rw [decide_eq_false (show ¬ u > 0 from h2)]
        refine rd_false ⟨_, rfl, _, _, rfl, rfl, .inr ⟨_, rfl, ?_⟩⟩
        by_cases h3 : 0 < v
        · rw [if_pos (.inr h3)] at k
          rw [decide_eq_true (show v > 0 from h3)]
          exact k
        · rw [if_neg (by omega)] at k
          rw [decide_eq_false (show ¬ v > 0 from h3)]
          exact k
    unfold sgq at k
    rw [if_neg h1] at k
    have go : ∀ {A B : Prop}, B → (if (decide (u ≥ 0)) = true then (if (decide (v ≥ 0)) = true then A else B) else B) := fun {A B} b => by
      by_cases a1 : u ≥ 0
      · rw [if_pos (decide_eq_true a1), if_neg (by rw [decide_eq_false (fun z => h1 ⟨a1, z⟩)]; decide)]; exact b
      · rw [if_neg (by rw [decide_eq_false a1]; decide)]; exact b
    refine rd_sr (rd_and ⟨_, rfl, _, _, rfl, rfl, _, rfl, rd_dec (fun a1 => ?_) (fun a1 => ?_)⟩)
    · refine ⟨_, rfl, _, _, rfl, rfl, _, rfl, rd_dec (fun a2 => absurd ⟨a1, a2⟩ h1) (fun _ => ?_)⟩
      by_cases h2 : u ≤ 0 ∧ v ≤ 0
      · rw [if_pos h2] at k
        refine rd_sr (rd_and ⟨_, rfl, _, _, rfl, rfl, _, rfl, rd_dec (fun _ => ?_) (fun z => absurd h2.1 z)⟩)
        refine ⟨_, rfl, _, _, rfl, rfl, _, rfl, rd_dec (fun _ => ?_) (fun z => absurd h2.2 z)⟩
        exact rd_ret ⟨_, rfl, k⟩
      rw [if_neg h2] at k
      have a1' : 0 ≤ u := a1
      have up : 0 < u := by omega
      rw [if_pos up] at k
      refine rd_sr (rd_and ⟨_, rfl, _, _, rfl, rfl, _, rfl, rd_dec (fun z => absurd (show u ≤ 0 from z) (by omega)) (fun _ => rd_false ?_)⟩)
      refine rd_sr ⟨_, rfl, _, _, rfl, rfl, _, rfl, rd_dec (fun _ => ?_) (fun z => absurd (show u > 0 from up) z)⟩
      refine rd_ret ⟨_, rfl, _, rfl, _, _, rfl, rfl, ⟨bu.mono (by decide), bu.mono (by decide)⟩, _, rfl, _, rfl, _, _, rfl, rfl, ⟨bd.mono (by decide), bv.mono (by decide)⟩, _, rfl, _, _, rfl, rfl, ⟨bdv.mono (by decide), bv.mono (by decide)⟩, _, _, rfl, rfl, .inr ⟨_, rfl, ?_⟩⟩
      by_cases h3 : u * u < d * v * v
      · rw [if_pos h3] at k
        rw [decide_eq_true h3]
        exact ⟨_, _, rfl, rfl, ⟨two6, one6⟩, _, _, rfl, rfl, k⟩
      · rw [if_neg h3] at k
        rw [decide_eq_false h3]
        exact ⟨_, _, rfl, rfl, ⟨two6, Bits.zero⟩, _, _, rfl, rfl, k⟩
    · have a1' : ¬ 0 ≤ u := a1
      refine rd_false ?_
      by_cases h2 : u ≤ 0 ∧ v ≤ 0
      · rw [if_pos h2] at k
        refine rd_sr (rd_and ⟨_, rfl, _, _, rfl, rfl, _, rfl, rd_dec (fun _ => ?_) (fun z => absurd h2.1 z)⟩)
        refine ⟨_, rfl, _, _, rfl, rfl, _, rfl, rd_dec (fun _ => ?_) (fun z => absurd h2.2 z)⟩
        exact rd_ret ⟨_, rfl, k⟩
      rw [if_neg h2, if_neg (by omega)] at k
      refine rd_sr (rd_and ⟨_, rfl, _, _, rfl, rfl, _, rfl, rd_dec (fun _ => ?_) (fun z => absurd (show u ≤ 0 by omega) z)⟩)
      refine ⟨_, rfl, _, _, rfl, rfl, _, rfl, rd_dec (fun z => absurd (show v ≤ 0 from z) (by omega)) (fun _ => ?_)⟩
      refine rd_sr ⟨_, rfl, _, _, rfl, rfl, _, rfl, rd_dec (fun z => absurd (show u > 0 from z) (by omega)) (fun _ => ?_)⟩
      refine rd_ret ⟨_, rfl, _, rfl, _, _, rfl, rfl, ⟨bu.mono (by decide), bu.mono (by decide)⟩, _, rfl, _, rfl, _, _, rfl, rfl, ⟨bd.mono (by decide), bv.mono (by decide)⟩, _, rfl, _, _, rfl, rfl, ⟨bdv.mono (by decide), bv.mono (by decide)⟩, _, _, rfl, rfl, .inr ⟨_, rfl, ?_⟩⟩
      by_cases h3 : u * u > d * v * v
      · rw [if_pos h3] at k
        rw [decide_eq_true h3]
        exact ⟨_, _, rfl, rfl, ⟨two6, one6⟩, _, _, rfl, rfl, k⟩
      · rw [if_neg h3] at k
        rw [decide_eq_false h3]
        exact ⟨_, _, rfl, rfl, ⟨two6, Bits.zero⟩, _, _, rfl, rfl, k⟩
def spBeside (C : Addr) : Sp := fun vs H Q _ => ∃ (p r : Addr) (u v w d t b : Int), vs = [.ref p, .ref r] ∧ WT H p u v w d ∧ WOk u v w d ∧ RA C H r t b ∧ Bits 3000 t ∧ Bits 3000 b ∧ Q (.int (sgq (u * b - t * w) (v * b) d)) H
theorem ok__law_beside {C f : Addr} {fd : FuncData} (F : Fun K "_law_beside" "_law_beside" s__law_beside f fd) (T : Txt K mg) (R : RCI K mg C) {f__law_sign : Addr} {fd__law_sign : FuncData} (C__law_sign : Cal P w K mg base 1 "_law_sign" ["_law_u", "_law_v", "_law_d"] spSign f__law_sign fd__law_sign) : FnOk P w K mg base CX0 2 f fd ["_law_worth_here", "_law_r"] (spBeside C) := by
  obtain ⟨G__law_sign, m__law_sign, k__law_sign, b__law_sign⟩ := C__law_sign
  refine F.ok sc__law_beside (fun vs H Q E h => ?_) (fun cdv A outer s H vs Q E hr h => ?_)
  · obtain ⟨p, r, u, v, w, d, t, b, rfl, _⟩ := h
    rfl
  · obtain ⟨p, r, u, v, w, d, t, b, rfl, hp, hW, ⟨dr, hR⟩, bt, bb, k⟩ := h
    refine ⟨_, (pss_cons (ps_asg (pv 0) (pg_tup rfl (pgs_cons (pg_name (i := 2) sc__law_beside.nd rfl (Or.inl rfl)) (pgs_cons (pg_name (i := 3) sc__law_beside.nd rfl (Or.inl rfl)) (pgs_cons (pg_name (i := 4) sc__law_beside.nd rfl (Or.inl rfl)) (pgs_cons (pg_name (i := 5) sc__law_beside.nd rfl (Or.inl rfl)) pgs_nil))))))
      (pss_one (ps_ret (pe_call G__law_sign (hr.mono (by decide)) rfl m__law_sign k__law_sign b__law_sign .nil pass0 (pa_cons (pe_op op_sub (pe_op op_mulB (pv 2) (pe_fldK (K := K) rfl (pv 1) rfl)) (pe_op op_mulB (pe_fldK (K := K) rfl (pv 1) rfl) (pv 4))) (pa_cons (pe_op op_mulB (pv 3) (pe_fldK (K := K) rfl (pv 1) rfl)) (pa_cons (pv 5) pa_nil))))))), ?_⟩
    refine ⟨_, rfl, p, _, rfl, SqT.of hp, rfl, _, _, rfl, _, _, rfl, _, _, rfl, _, _, rfl, rfl, ?_⟩
    refine ⟨_, rfl, _, rfl, r, C, dr, _, _, rfl, hR, R.cl, R.nB, flds_bottom _ _, _, _, rfl, rfl, ⟨hW.bu.mono (by decide), bb.mono (by decide)⟩, _, rfl, r, C, dr, _, _, rfl, hR, R.cl, R.nT, flds_top _ _, _, rfl, _, _, rfl, rfl, ⟨bt.mono (by decide), hW.bw.mono (by decide)⟩, _, _, rfl, rfl, ?_⟩
    refine ⟨_, rfl, _, rfl, r, C, dr, _, _, rfl, hR, R.cl, R.nB, flds_bottom _ _, _, _, rfl, rfl, ⟨hW.bv.mono (by decide), bb.mono (by decide)⟩, _, rfl, _, _, _, rfl, ?_, ?_, hW.bd.mono (by decide), k⟩
    · exact Bits.mono (Bits.sub (k := 3100) ((hW.bu.mul bb).mono (by decide)) ((bt.mul hW.bw).mono (by decide))) (by decide)
    · exact (hW.bv.mul bb).mono (by decide)
def spDvs : Sp := fun vs H Q _ => ∃ x y : Int, vs = [.int x, .int y] ∧ 0 ≤ x ∧ 0 ≤ y ∧ Q (.int (Nat.gcd x.natAbs y.natAbs : Nat)) H
theorem ok__law_divisor {f : Addr} {fd : FuncData} (F : Fun K "_law_divisor" "_law_divisor" s__law_divisor f fd) (T : Txt K mg) : FnOk P w K mg base CX0 1 f fd ["_law_one", "_law_other"] spDvs := by
  refine F.ok sc__law_divisor (fun vs H Q E h => ?_) (fun cdv A outer s H vs Q E hr h => ?_)
  · obtain ⟨a, b, rfl, _⟩ := h
    rfl
  · obtain ⟨a, b, rfl, ha, h0, k⟩ := h
    refine ⟨_, (pss_cons (ps_while PassesOwn.never (pt_cmpR op_neI (pv 1) pe_int (nomark _))
        (pss_cons (ps_set (i := 2) sc__law_divisor.nd rfl (Or.inl rfl) (pe_op op_modP (pv 0) (pv 1)))
          (pss_cons (ps_set (i := 0) sc__law_divisor.nd rfl (Or.inl rfl) (pv 1))
          (pss_one (ps_set (i := 1) sc__law_divisor.nd rfl (Or.inl rfl) (pv 2))))))
      (pss_one (ps_ret (pv 0)))), ?_⟩
    refine ⟨fun m σ' H' => ∃ (x y : Int) (z : Option V), σ' = [some (.int x), some (.int y), z] ∧ H = H' ∧ 0 ≤ x ∧ 0 ≤ y ∧ y.natAbs = m ∧ Nat.gcd x.natAbs y.natAbs = Nat.gcd a.natAbs b.natAbs, ⟨_, _, _, none, rfl, rfl, ha, h0, rfl, rfl⟩, ?_⟩
    rintro m σ' H' ⟨x, y, z, rfl, rfl, hx, hy, rfl, hg⟩
    refine ⟨_, rfl, _, _, rfl, rfl, _, rfl, ?_⟩
    refine rd_ndec (fun hn => ?_) (fun h0 => ?_)
    · have hp : 0 < y := by have : y ≠ 0 := hn; omega
      refine ⟨fun σ'' H'' => ∃ m', m' < y.natAbs ∧ ∃ (x' y' : Int) (z : Option V), σ'' = [some (.int x'), some (.int y'), z] ∧ H = H'' ∧ 0 ≤ x' ∧ 0 ≤ y' ∧ y'.natAbs = m' ∧ Nat.gcd x'.natAbs y'.natAbs = Nat.gcd a.natAbs b.natAbs, fun _ _ h => h, ?_⟩
      refine ⟨_, rfl, _, rfl, _, _, rfl, rfl, hp, ?_⟩
      refine ⟨_, rfl, ?_⟩
      refine ⟨_, rfl, ?_⟩
      have h1 := Int.emod_nonneg x (Int.ne_of_gt hp)
      have h2 := Int.emod_lt_of_pos x hp
      exact ⟨(x % y).natAbs, by omega, y, x % y, _, rfl, rfl, hy, h1, rfl, by rw [gcd_turn hx hp]; exact hg⟩
    · have e : (y : Int) = 0 := h0
      subst e
      refine ⟨_, rfl, ?_⟩
      have e2 : (x : Int) = ((Nat.gcd a.natAbs b.natAbs : Nat) : Int) := by
        rw [← hg]
        show x = ((Nat.gcd x.natAbs 0 : Nat) : Int)
        rw [Nat.gcd_zero_right]; omega
      rw [e2]
      exact k
def spPlq : Sp := fun vs H Q _ => ∃ (a : Addr) (ns : List Int), vs = [.ref a] ∧ H a = some (.lst (ns.map V.int)) ∧ Tr ns ∧ ns ≠ [] ∧ 0 < lastI ns ∧ ns.length ≤ 100 ∧ AllB 8000 ns ∧ mkL H Q (plainL ns)
theorem plain_pos {ns : List Int} (hT : Tr ns) (hne : ns ≠ []) (hp : 0 < lastI ns) : 0 < (gcdL ns : Int) ∧ plainL ns = shrL ns := by
  have hs := shr_scale (l := ns)
  have hlast : lastI ns = (gcdL ns : Int) * lastI (shrL ns) := by
    have h5 : cf (scL (gcdL ns : Int) (shrL ns)) (ns.length - 1) = (gcdL ns : Int) * cf (shrL ns) (ns.length - 1) := cf_scL _ _ _
    rw [hs] at h5
    have h6 : (shrL ns).length = ns.length := List.length_map _
    unfold lastI
    rw [h6]; exact h5
  have g0 : (0 : Int) ≤ (gcdL ns : Int) := by omega
  have gp : 0 < (gcdL ns : Int) := by
    refine Classical.byContradiction fun z => ?_
    have : (gcdL ns : Int) = 0 := by omega
    rw [this, Int.zero_mul] at hlast
    omega
  refine ⟨gp, ?_⟩
  unfold plainL posL
  rw [if_neg (fun z => ?_)]
  have := Int.mul_neg_of_pos_of_neg gp z
  omega
theorem ok__law_plain {f : Addr} {fd : FuncData} (F : Fun K "_law_plain" "_law_plain" s__law_plain f fd) (T : Txt K mg) {f__law_divisor : Addr} {fd__law_divisor : FuncData} (C__law_divisor : Cal P w K mg base 1 "_law_divisor" ["_law_one", "_law_other"] spDvs f__law_divisor fd__law_divisor) : FnOk P w K mg base CX0 2 f fd ["_law_row"] spPlq := by
  obtain ⟨G__law_divisor, m__law_divisor, k__law_divisor, b__law_divisor⟩ := C__law_divisor
  refine F.ok sc__law_plain (fun vs H Q E h => ?_) (fun cdv A outer s H vs Q E hr h => ?_)
  · obtain ⟨a, ns, rfl, _⟩ := h
    rfl
  · obtain ⟨a, ns, rfl, hA, hT, hne, hp, hl, hb, k⟩ := h
    have big := sizeLine_eq
    have hS := SqL.of (K := K) hA
    refine ⟨_, (pss_cons (ps_set (i := 1) sc__law_plain.nd rfl (Or.inr rfl) pe_int)
      (pss_cons (ps_for PassesOwn.never rfl (pi_listK (K := K) rfl (pv 0)) (pg_name (i := 2) sc__law_plain.nd rfl (Or.inl rfl))
        (pss_one (ps_set (i := 1) sc__law_plain.nd rfl (Or.inr rfl) (pe_call G__law_divisor (hr.mono (by decide)) rfl m__law_divisor k__law_divisor b__law_divisor .nil pass0 (pa_cons (pv 1) (pa_cons (pe_callB call_abs (by rfl) T.abs_ PyProof.Rows.boot_abs (pa_cons (pv 2) pa_nil)) pa_nil))))))
      (pss_cons (ps_if (pt_cmpR op_lt (pe_ix (ix_listK (K := K) rfl) (pv 0) (pe_un un_neg pe_int) (fun _ _ => rfl)) pe_int (nomark _))
        (pss_one (ps_set (i := 1) sc__law_plain.nd rfl (Or.inr rfl) (pe_un un_neg (pv 1))))
        pss_nil)
      (pss_one (ps_ret (pe_comp (own := ["_law_one"]) (fr := ["_law_by"]) (js := [1]) (by walk_at "comp_ok") rfl (pi_listK (K := K) rfl (pv 0)) (fun _ _ _ _ => (pg_name (i := 0) (show List.Nodup (["_law_one", "_law_by"] : List Str) from by decide +kernel) rfl (Or.inl rfl))) (fun _ _ _ _ => (pe_op op_fdivP (pv 0) (pv 1))))))))), ?_⟩
    refine rd_sa ?_
    refine ⟨_, rfl, a, rfl, ⟨_, hS⟩, for_list (K := K) (a := a) (xs := ns.map V.int) (fun i σ' H' => ∃ z : Option V, σ' = [some (.ref a), some (.int (gcdL (ns.take i) : Nat)), z] ∧ H = H') ⟨none, rfl, rfl⟩ (fun i σ' H' _ ⟨z, _, e⟩ => by rw [← e]; exact hS) ?_ ?_⟩
    · rintro i y σ' H' hi ⟨z, rfl, rfl⟩
      obtain ⟨n, en, rfl, _, _⟩ := get_int hi
      refine rd_asg ⟨_, rfl, _, rfl, _, rfl, _, _, rfl, by omega, by split <;> omega, ?_⟩
      have e3 : ns.take (i + 1) = ns.take i ++ [n] := by rw [List.take_add_one, en]; rfl
      refine ⟨some (.int n), ?_, rfl⟩
      have e4 : (if n < 0 then -n else n).natAbs = n.natAbs := by split <;> omega
      rw [e3, gcdL_snoc, Int.natAbs_natCast, e4]
      rfl
    · rintro σ' H' ⟨z, rfl, rfl⟩
      rw [List.length_map, List.take_length]
      dsimp only
      obtain ⟨gp, ep⟩ := plain_pos hT hne hp
      refine rd_sr ⟨_, rfl, _, rfl, a, _, _, _, rfl, rfl, hS, last_at hne, _, _, rfl, rfl, _, rfl, rd_dec (fun z => absurd (show lastI ns < 0 from z) (by omega)) (fun _ => ?_)⟩
      have bg : Bits 9000 (gcdL ns : Int) := by
        obtain ⟨x, hx, hx0⟩ : ∃ x ∈ ns, x ≠ 0 := by
          obtain ⟨r, x, e⟩ := (snoc_cases ns).resolve_left hne
          refine ⟨x, by rw [e]; simp, fun z => ?_⟩
          rw [e, lastI_snoc, z] at hp; exact absurd hp (by decide)
        have hd := int_dvd_gcdL hx
        exact ((hb x hx).mono (show 8000 ≤ 9000 by decide)).of_le (Nat.le_of_dvd (by omega) (Int.natAbs_dvd_natAbs.mpr hd))
      refine rd_ret ⟨_, rfl, a, rfl, ⟨_, hS⟩, comp_list (K := K) (a := a) (xs := ns.map V.int) (fun i ys σ' H' => ∃ z0 : Option V, σ' = [z0, some (.int (gcdL ns : Nat))] ∧ ys = ((ns.take i).map fun x => x / (gcdL ns : Int)).map V.int ∧ H = H') (by rw [List.length_map]; omega) ⟨none, rfl, rfl, rfl⟩ ?_ ?_ ?_⟩
      · rintro i ys σ' H' _ ⟨z0, rfl, rfl, rfl⟩
        exact ⟨hS, by rw [List.length_map, List.length_map, List.length_take]; exact Nat.min_le_left _ _⟩
      · rintro i x ys σ' H' hi ⟨z0, rfl, rfl, rfl⟩
        obtain ⟨c, ec, rfl, hc, _⟩ := get_int hi
        refine ⟨_, rfl, _, rfl, _, _, rfl, rfl, ⟨gp, bg⟩, ?_⟩
        refine ⟨_, rfl, ?_, rfl⟩
        rw [List.take_add_one, ec]
        simp only [Option.toList_some, List.map_append, List.map_cons, List.map_nil]
      · rintro ys σ' H' q ⟨z0, rfl, rfl, rfl⟩ hq
        refine k q _ (Same.upd_new hq) hq ?_
        rw [upd_same, List.length_map, List.take_length, ep]
        rfl
--SPLIT
def leastL (u v w d : Int) : List Int := if v = 0 then plainL [-u, w] else plainL [u * u - d * v * v, -2 * u * w, w * w]
def UpW (u v w d : Int) : Int → Int → Prop := fun x1 x2 => 0 < sgq (u * x2 - x1 * w) (v * x2) d
theorem low_tr {l1 l2 x1 x2 y1 y2 : Int} (l2p : 0 < l2) (x2p : 0 < x2) (y2p : 0 < y2) (h1 : l1 * x2 < x1 * l2) (h2 : x1 * y2 < y1 * x2) : l1 * y2 < y1 * l2 := by
  refine cancel_lt x2p ?_
  have h3 := Int.mul_lt_mul_of_pos_right h1 y2p
  have h4 := Int.mul_lt_mul_of_pos_right h2 l2p
  have e1 : l1 * x2 * y2 = l1 * y2 * x2 := by grind
  have e2 : x1 * l2 * y2 = x1 * y2 * l2 := by grind
  have e3 : y1 * x2 * l2 = y1 * l2 * x2 := by grind
  omega
theorem up_cross {u v w d x1 x2 y1 y2 : Int} (x2p : 0 < x2) (y2p : 0 < y2) (e : x1 * y2 = y1 * x2) : sgq (u * x2 - x1 * w) (v * x2) d = sgq (u * y2 - y1 * w) (v * y2) d := by
  rw [← sgq_scale (g := y2) y2p, ← sgq_scale (g := x2) (u := u * y2 - y1 * w) x2p]
  have e1 : y2 * (u * x2 - x1 * w) = x2 * (u * y2 - y1 * w) := by
    calc y2 * (u * x2 - x1 * w) = u * x2 * y2 - (x1 * y2) * w := by grind
      _ = u * x2 * y2 - (y1 * x2) * w := by rw [e]
      _ = x2 * (u * y2 - y1 * w) := by grind
  have e2 : y2 * (v * x2) = x2 * (v * y2) := by grind
  rw [e1, e2]
theorem up_less {u v w d x1 x2 y1 y2 : Int} (hw : 0 < w) (x2p : 0 < x2) (y2p : 0 < y2) (h : x1 * y2 < y1 * x2) (hs : sgq (u * x2 - x1 * w) (v * x2) d ≤ 0) : sgq (u * y2 - y1 * w) (v * y2) d = -1 := by
  rw [← sgq_scale (g := y2) y2p] at hs
  rw [← sgq_scale (g := x2) x2p]
  have e2 : y2 * (v * x2) = x2 * (v * y2) := by grind
  rw [e2] at hs
  refine sgq_less ?_ hs
  have h3 := Int.mul_lt_mul_of_pos_right h hw
  have e3 : y2 * (u * x2 - x1 * w) = u * x2 * y2 - x1 * y2 * w := by grind
  have e4 : x2 * (u * y2 - y1 * w) = u * x2 * y2 - y1 * x2 * w := by grind
  omega
theorem rootU_of {ns : List Int} {u v w d l1 l2 h1 h2 δ : Int} (hw : 0 < w) (l2p : 0 < l2) (hδ : δ = 1 ∨ δ = -1) (hs : ∀ x1 x2, 0 < x2 → l1 * x2 < x1 * l2 → x1 * h2 ≤ h1 * x2 → sg (hv x1 x2 ns) = -δ * sgq (u * x2 - x1 * w) (v * x2) d) (lo : UpW u v w d l1 l2) (hi : ¬ UpW u v w d h1 h2) (h2p : 0 < h2) : RootU ns l1 l2 h1 h2 δ (UpW u v w d) := by
  refine ⟨hδ, fun x1 x2 hx a b hu => ?_, fun x1 x2 hx a b hu => ?_, fun x1 x2 y1 y2 hx hy a b hu hlt => ?_, fun x1 x2 y1 y2 hx hy e hu => ?_, lo, hi⟩
  · rw [hs x1 x2 hx a b]
    have hu' : 0 < sgq (u * x2 - x1 * w) (v * x2) d := hu
    have : sgq (u * x2 - x1 * w) (v * x2) d = 1 := by rcases sgq_cases (u * x2 - x1 * w) (v * x2) d with z | z | z <;> omega
    rw [this]; omega
  · rw [hs x1 x2 hx a b]
    have hu' : ¬ 0 < sgq (u * x2 - x1 * w) (v * x2) d := hu
    rcases sgq_cases (u * x2 - x1 * w) (v * x2) d with z | z | z
    · omega
    · rw [z]; exact .inr (by omega)
    · rw [z]; exact .inl (by omega)
  · have hu' : ¬ 0 < sgq (u * x2 - x1 * w) (v * x2) d := hu
    rw [hs y1 y2 hy (low_tr l2p hx hy a hlt) b, up_less hw hx hy hlt (by omega)]
    omega
  · have hu' : 0 < sgq (u * x2 - x1 * w) (v * x2) d := hu
    show 0 < sgq (u * y2 - y1 * w) (v * y2) d
    rw [← up_cross hx hy e]; exact hu'
def lowN (u v d m : Int) : Int := if 0 < v then u else if v < 0 then u + v * d - m else u - 1 - m
def highN (u v d m : Int) : Int := if 0 < v then u + v * d + m else if v < 0 then u else u + m / 3
structure SpE (u v w d m l1 l2 h1 h2 : Int) : Prop where
  l2p : 0 < l2
  h2p : 0 < h2
  bl1 : Bits 40 l1
  bl2 : Bits 40 l2
  bh1 : Bits 40 h1
  bh2 : Bits 40 h2
  gl : Nat.gcd l1.natAbs l2.natAbs = 1
  gh : Nat.gcd h1.natAbs h2.natAbs = 1
  el : l1 * w = lowN u v d m * l2
  eh : h1 * w = highN u v d m * h2
theorem sq_more {v d m : Int} (hv : 0 < v) (hd : 2 ≤ d) (hm : 0 ≤ m) : d * v * v < (v * d + m) * (v * d + m) := by
  have h1 : 0 < v * v := Int.mul_pos hv hv
  have h2 : d * (v * v) < d * (d * (v * v)) := by
    have : 1 * (d * (v * v)) < d * (d * (v * v)) := Int.mul_lt_mul_of_pos_right (by omega) (Int.mul_pos (by omega) h1)
    omega
  have h3 : 0 ≤ v * d := Int.mul_nonneg (by omega) (by omega)
  have h4 : v * d * (v * d) ≤ (v * d + m) * (v * d + m) := by
    have := Int.mul_nonneg h3 hm
    have := Int.mul_nonneg hm hm
    have e : (v * d + m) * (v * d + m) = v * d * (v * d) + (v * d * m) + (v * d * m) + m * m := by grind
    omega
  have e1 : d * v * v = d * (v * v) := by grind
  have e2 : v * d * (v * d) = d * (d * (v * v)) := by grind
  omega
theorem worth_num {u v w d m l1 l2 h1 h2 : Int} (hW : WOk u v w d) (hm0 : 0 ≤ m) (hm : m < 60) (hE : SpE u v w d m l1 l2 h1 h2) : EndsG 40 l1 l2 h1 h2 ∧ (0 < v → u * l2 ≤ l1 * w) ∧ (v < 0 → h1 * w ≤ u * h2) ∧ ∃ (ε : Int) (n1 n2 : Nat) (xss : List (List Int)), NumS (leastL u v w d) l1 l2 h1 h2 ε (UpW u v w d) n1 n2 xss := by
  have hw := hW.w1
  have hd2 := hW.d2
  obtain ⟨l2p, h2p, bl1, bl2, bh1, bh2, gl, gh, el, eh⟩ := hE
  -- the two ends by the worth
  have Al : u * l2 - l1 * w = (u - lowN u v d m) * l2 := by rw [el]; grind
  have Ah : u * h2 - h1 * w = (u - highN u v d m) * h2 := by rw [eh]; grind
  have lo_sg : sgq (u * l2 - l1 * w) (v * l2) d = sgq (u - lowN u v d m) v d := by
    rw [Al, Int.mul_comm _ l2, Int.mul_comm v l2, sgq_scale l2p]
  have hi_sg : sgq (u * h2 - h1 * w) (v * h2) d = sgq (u - highN u v d m) v d := by
    rw [Ah, Int.mul_comm _ h2, Int.mul_comm v h2, sgq_scale h2p]
  have lt_N : lowN u v d m < highN u v d m := by
    unfold lowN highN
    rcases Int.lt_trichotomy v 0 with z | z | z
    · rw [if_neg (show ¬ 0 < v by omega), if_pos z, if_neg (show ¬ 0 < v by omega), if_pos z]
      have : v * d < 0 := Int.mul_neg_of_neg_of_pos z (by omega)
      omega
    · subst z
      rw [if_neg (by decide), if_neg (by decide), if_neg (by decide), if_neg (by decide)]
      omega
    · rw [if_pos z, if_pos z]
      have : 0 < v * d := Int.mul_pos z (by omega)
      omega
  have lt : l1 * h2 < h1 * l2 := by
    refine cancel_lt hw ?_
    have e1 : l1 * h2 * w = lowN u v d m * (l2 * h2) := by rw [show l1 * h2 * w = l1 * w * h2 by grind, el]; grind
    have e2 : h1 * l2 * w = highN u v d m * (l2 * h2) := by rw [show h1 * l2 * w = h1 * w * l2 by grind, eh]; grind
    rw [e1, e2]
    exact Int.mul_lt_mul_of_pos_right lt_N (Int.mul_pos l2p h2p)
  have en : EndsG 40 l1 l2 h1 h2 := ⟨l2p, h2p, bl1, bl2, bh1, bh2, lt, gl, gh⟩
  refine ⟨en, fun hv => ?_, fun hv => ?_, ?_⟩
  · have : lowN u v d m = u := by unfold lowN; rw [if_pos hv]
    rw [el, this]; exact Int.le_refl _
  · have : highN u v d m = u := by unfold highN; rw [if_neg (by omega), if_pos hv]
    rw [eh, this]; exact Int.le_refl _
  have gt_low : ∀ x1 x2 : Int, 0 < x2 → l1 * x2 < x1 * l2 → lowN u v d m * x2 < x1 * w := fun x1 x2 hx h => by
    refine cancel_lt l2p ?_
    have h3 := Int.mul_lt_mul_of_pos_right h hw
    have e1 : lowN u v d m * x2 * l2 = l1 * x2 * w := by rw [show lowN u v d m * x2 * l2 = lowN u v d m * l2 * x2 by grind, ← el]; grind
    have e2 : x1 * w * l2 = x1 * l2 * w := by grind
    omega
  have le_high : ∀ x1 x2 : Int, 0 < x2 → x1 * h2 ≤ h1 * x2 → x1 * w ≤ highN u v d m * x2 := fun x1 x2 hx h => by
    refine cancel_le h2p ?_
    have h3 := Int.mul_le_mul_of_nonneg_right h (Int.le_of_lt hw)
    have e1 : highN u v d m * x2 * h2 = h1 * x2 * w := by rw [show highN u v d m * x2 * h2 = highN u v d m * h2 * x2 by grind, ← eh]; grind
    have e2 : x1 * w * h2 = x1 * h2 * w := by grind
    omega
  by_cases hv0 : v = 0
  · -- a fraction
    subst hv0
    have eL : lowN u 0 d m = u - 1 - m := by unfold lowN; rw [if_neg (by decide), if_neg (by decide)]
    have eH : highN u 0 d m = u + m / 3 := by unfold highN; rw [if_neg (by decide), if_neg (by decide)]
    have eN : leastL u 0 w d = plainL [-u, w] := by unfold leastL; rw [if_pos rfl]
    obtain ⟨g, c0, c1, gp, ep, e0, e1, cp, hP⟩ := plain_pair (r0 := -u) (r1 := w) hw
    have bW : AllB 250 [c0, c1] := fun x hx => by
      simp only [List.mem_cons, List.not_mem_nil, or_false] at hx
      rcases hx with rfl | rfl
      · exact (gp_le gp e0 hW.bu.neg).mono (by decide)
      · exact (gp_le gp e1 hW.bw).mono (by decide)
    have sgv : ∀ x1 x2 : Int, 0 < x2 → sg (hv x1 x2 [c0, c1]) = -sg (u * x2 - x1 * w) := fun x1 x2 hx => by
      have e2 : g * hv x1 x2 [c0, c1] = x2 * -(u * x2 - x1 * w) := by
        rw [hv_pair, e1]
        have : g * ((c0 * x2 + c1 * x1) * x2) = ((g * c0) * x2 + (g * c1) * x1) * x2 := by grind
        rw [this, ← e0]; grind
      rw [← sg_pos_mul gp, e2, sg_pos_mul hx, sg_neg]
    have sgz : ∀ a b : Int, sgq a (0 * b) d = sg a := fun a b => by
      rw [Int.zero_mul]
      rcases Int.lt_trichotomy a 0 with z | z | z
      · rw [sgq_nn (by omega) (Int.le_refl _) (.inl z), sg_neg1 z]
      · subst z; rfl
      · rw [sgq_pp (by omega) (Int.le_refl _) (.inl z), sg_pos1 z]
    have lA : 0 < u * l2 - l1 * w := by rw [Al, eL]; exact Int.mul_pos (by omega) l2p
    have hA : u * h2 - h1 * w ≤ 0 := by
      rw [Ah, eH]
      exact Int.mul_nonpos_of_nonpos_of_nonneg (by omega) (Int.le_of_lt h2p)
    have lU : UpW u 0 w d l1 l2 := by show 0 < sgq _ _ _; rw [sgz, sg_pos1 lA]; decide
    have hU : ¬ UpW u 0 w d h1 h2 := by
      show ¬ 0 < sgq _ _ _
      rw [sgz]
      have := sg_cases (u * h2 - h1 * w)
      omega
    have s1 : sg (hv l1 l2 [c0, c1]) = -1 := by rw [sgv l1 l2 l2p, sg_pos1 lA]
    have o1 : ∀ x y : Int, 0 < y → sg (hv x y [1]) = 1 := fun x y hy => by rw [hv_one, Int.one_mul]; exact sg_pos1 hy
    refine ⟨1, 1, 2, [[c0, c1], [1]], ?_, ?_, ?_, ?_, ?_⟩
    · rw [eN, ep]; exact sr_pair hP bW
    · exact en.mono (by decide)
    · rw [eN, ep]
      refine rootU_of hw l2p (.inl rfl) (fun x1 x2 hx _ _ => ?_) lU hU h2p
      rw [sgv x1 x2 hx, sgz]; omega
    · have a1 : (chS (sgs l1 l2 [[c0, c1], [1]])).1 = 1 := by
        show (chS [sg (hv l1 l2 [c0, c1]), sg (hv l1 l2 [1])]).1 = 1
        rw [s1, o1 _ _ l2p]; decide
      have a2 : (chS (sgs h1 h2 [[c0, c1], [1]])).1 = 0 := by
        show (chS [sg (hv h1 h2 [c0, c1]), sg (hv h1 h2 [1])]).1 = 0
        rw [sgv h1 h2 h2p, o1 _ _ h2p]
        rcases sg_cases (u * h2 - h1 * w) with ⟨_, z⟩ | ⟨_, z⟩ | ⟨z, _⟩
        · rw [z]; decide
        · rw [z]; decide
        · omega
      rw [a1, a2]; decide
    · rw [eN, ep, s1]; decide
  · -- no fraction
    have eN : leastL u v w d = plainL [u * u - d * v * v, -2 * u * w, w * w] := by unfold leastL; rw [if_neg hv0]
    have ww : 0 < w * w := Int.mul_pos hw hw
    obtain ⟨g, c0, c1, c2, gp, ep, e0, e1, e2, cp, hP⟩ := plain_three (r0 := u * u - d * v * v) (r1 := -2 * u * w) (r2 := w * w) ww
    have dv : 0 < d * v * v := by
      rw [Int.mul_assoc]
      refine Int.mul_pos (by omega) ?_
      rcases Int.lt_or_gt_of_ne hv0 with z | z
      · exact Int.mul_pos_of_neg_of_neg z z
      · exact Int.mul_pos z z
    have b0 : Bits 250 (u * u - d * v * v) := Bits.mono (Bits.sub (k := 60) ((hW.bu.mul hW.bu).mono (by decide)) (((hW.bd.mul hW.bv).mul hW.bv).mono (by decide))) (by decide)
    have b2 : Bits 2 (-2 : Int) := by show (-2 : Int).natAbs < 2 ^ 2; decide
    have bb1 : Bits 250 (-2 * u * w) := ((b2.mul hW.bu).mul hW.bw).mono (by decide)
    have bb2 : Bits 250 (w * w) := (hW.bw.mul hW.bw).mono (by decide)
    have bW : AllB 250 [c0, c1, c2] := fun x hx => by
      simp only [List.mem_cons, List.not_mem_nil, or_false] at hx
      rcases hx with rfl | rfl | rfl
      · exact gp_le gp e0 b0
      · exact gp_le gp e1 bb1
      · exact gp_le gp e2 bb2
    have val : ∀ x1 x2 : Int, g * hv x1 x2 [c0, c1, c2] = x2 * ((u * x2 - x1 * w) * (u * x2 - x1 * w) - d * (v * x2) * (v * x2)) := fun x1 x2 => by
      rw [hv_three]
      have : g * ((c0 * (x2 * x2) + c1 * (x1 * x2) + c2 * (x1 * x1)) * x2) = ((g * c0) * (x2 * x2) + (g * c1) * (x1 * x2) + (g * c2) * (x1 * x1)) * x2 := by grind
      rw [this, ← e0, ← e1, ← e2]
      grind
    have sgv : ∀ x1 x2 : Int, 0 < x2 → sg (hv x1 x2 [c0, c1, c2]) = sgq (u * x2 - x1 * w) (v * x2) d * sgq (u * x2 - x1 * w) (-(v * x2)) d := fun x1 x2 hx => by
      rw [← sg_pos_mul gp, val, sg_pos_mul hx, sgq_prod hW.ns]
    have irr : ∀ t b, 0 < b → hv t b [c0, c1, c2] ≠ 0 := fun t b hb z => by
      have h3 := val t b
      rw [z, Int.mul_zero] at h3
      have h4 : (u * b - t * w) * (u * b - t * w) - d * (v * b) * (v * b) = 0 := by
        rcases Int.mul_eq_zero.mp h3.symm with y | y
        · omega
        · exact y
      exact hW.ns.2 (u * b - t * w) (v * b) (Int.mul_ne_zero hv0 (by omega)) (by omega)
    have hD : 4 * c0 * c2 < c1 * c1 := by
      refine cancel_lt (c := g * g) (Int.mul_pos gp gp) ?_
      have a1 : 4 * c0 * c2 * (g * g) = 4 * ((g * c0) * (g * c2)) := by grind
      have a2 : c1 * c1 * (g * g) = (g * c1) * (g * c1) := by grind
      rw [a1, a2, ← e0, ← e1, ← e2]
      have a3 : (-2 * u * w) * (-2 * u * w) - 4 * ((u * u - d * v * v) * (w * w)) = 4 * (d * v * v * (w * w)) := by grind
      have := Int.mul_pos dv ww
      omega
    obtain ⟨a0, a1, G, hG, f0, f1, ha1, hSR⟩ := sr_three hP bW hD irr
    have sga : ∀ x1 x2 : Int, 0 < x2 → sg (hv x1 x2 [a0, a1]) = -sg (u * x2 - x1 * w) := fun x1 x2 hx => by
      have h3 : (g * G) * hv x1 x2 [a0, a1] = (x2 * (2 * w)) * -(u * x2 - x1 * w) := by
        rw [hv_pair]
        have : (g * G) * ((a0 * x2 + a1 * x1) * x2) = ((g * (G * a0)) * x2 + (g * (G * a1)) * x1) * x2 := by grind
        rw [this, ← f0, ← f1]
        have : g * (2 * c2) = 2 * (g * c2) := by grind
        rw [this, ← e1, ← e2]
        grind
      rw [← sg_pos_mul (Int.mul_pos gp hG), h3, sg_pos_mul (Int.mul_pos hx (by omega)), sg_neg]
    have o1 : ∀ x y : Int, 0 < y → sg (hv x y [1]) = 1 := fun x y hy => by rw [hv_one, Int.one_mul]; exact sg_pos1 hy
    have chE : ∀ x y : Int, (chS (sgs x y [[c0, c1, c2], [a0, a1], [1]])).1 = (chS [sg (hv x y [c0, c1, c2]), sg (hv x y [a0, a1]), sg (hv x y [1])]).1 := fun _ _ => rfl
    rcases Int.lt_or_gt_of_ne hv0 with vn | vn
    · -- below the middle
      have eL : lowN u v d m = u + v * d - m := by unfold lowN; rw [if_neg (by omega), if_pos vn]
      have eH : highN u v d m = u := by unfold highN; rw [if_neg (by omega), if_pos vn]
      have nv : 0 < -v := by omega
      have vd : v * d < 0 := Int.mul_neg_of_neg_of_pos vn (by omega)
      have sqm := sq_more nv hd2 hm0
      have lo1 : sgq (u - lowN u v d m) v d = 1 := by
        rw [eL, sgq_pn (by omega) vn]
        have q1 : (u - (u + v * d - m)) * (u - (u + v * d - m)) = (-v * d + m) * (-v * d + m) := by grind
        have q2 : d * -v * -v = d * v * v := by grind
        rw [q2] at sqm
        rw [q1, if_neg (by omega)]
      have hi1 : sgq (u - highN u v d m) v d = -1 := by rw [eH, Int.sub_self]; exact sgq_nn (Int.le_refl _) (by omega) (.inr vn)
      have lA : 0 < u * l2 - l1 * w := by rw [Al, eL]; exact Int.mul_pos (by omega) l2p
      have hA : u * h2 - h1 * w = 0 := by rw [Ah, eH, Int.sub_self, Int.zero_mul]
      have lU : UpW u v w d l1 l2 := by show 0 < sgq _ _ _; rw [lo_sg, lo1]; decide
      have hU : ¬ UpW u v w d h1 h2 := by show ¬ 0 < sgq _ _ _; rw [hi_sg, hi1]; decide
      have sl : sg (hv l1 l2 [c0, c1, c2]) = 1 := by
        rw [sgv l1 l2 l2p, lo_sg, lo1, sgq_pp (by omega) (by have := Int.mul_neg_of_neg_of_pos vn l2p; omega) (.inl lA)]; rfl
      have sh : sg (hv h1 h2 [c0, c1, c2]) = -1 := by
        have := Int.mul_neg_of_neg_of_pos vn h2p
        rw [sgv h1 h2 h2p, hi_sg, hi1, hA, sgq_pp (Int.le_refl _) (by omega) (.inr (by omega))]; rfl
      refine ⟨-1, 2, 3, [[c0, c1, c2], [a0, a1], [1]], ?_, ?_, ?_, ?_, ?_⟩
      · rw [eN, ep]; exact hSR
      · exact en.mono (by decide)
      · rw [eN, ep]
        refine rootU_of hw l2p (.inr rfl) (fun x1 x2 hx a b => ?_) lU hU h2p
        have h3 := le_high x1 x2 hx b
        rw [eH] at h3
        have h4 := Int.mul_neg_of_neg_of_pos vn hx
        rw [sgv x1 x2 hx, sgq_pp (u := u * x2 - x1 * w) (v := -(v * x2)) (by omega) (by omega) (.inr (by omega))]; omega
      · rw [chE, chE, sl, sh, sga l1 l2 l2p, sga h1 h2 h2p, o1 _ _ l2p, o1 _ _ h2p, sg_pos1 lA, hA]; decide
      · rw [eN, ep, sl]; decide
    · -- above it
      have eL : lowN u v d m = u := by unfold lowN; rw [if_pos vn]
      have eH : highN u v d m = u + v * d + m := by unfold highN; rw [if_pos vn]
      have vd : 0 < v * d := Int.mul_pos vn (by omega)
      have sqm := sq_more vn hd2 hm0
      have lo1 : sgq (u - lowN u v d m) v d = 1 := by rw [eL, Int.sub_self]; exact sgq_pp (Int.le_refl _) (by omega) (.inr vn)
      have hi1 : sgq (u - highN u v d m) v d = -1 := by
        rw [eH, sgq_np (by omega) vn]
        have q1 : (u - (u + v * d + m)) * (u - (u + v * d + m)) = (v * d + m) * (v * d + m) := by grind
        rw [q1, if_pos (by omega)]
      have lA : u * l2 - l1 * w = 0 := by rw [Al, eL, Int.sub_self, Int.zero_mul]
      have hA : u * h2 - h1 * w < 0 := by rw [Ah, eH]; exact Int.mul_neg_of_neg_of_pos (by omega) h2p
      have lU : UpW u v w d l1 l2 := by show 0 < sgq _ _ _; rw [lo_sg, lo1]; decide
      have hU : ¬ UpW u v w d h1 h2 := by show ¬ 0 < sgq _ _ _; rw [hi_sg, hi1]; decide
      have sl : sg (hv l1 l2 [c0, c1, c2]) = -1 := by
        have := Int.mul_pos vn l2p
        rw [sgv l1 l2 l2p, lo_sg, lo1, lA, sgq_nn (Int.le_refl _) (by omega) (.inr (by omega))]; rfl
      have sh : sg (hv h1 h2 [c0, c1, c2]) = 1 := by
        have := Int.mul_pos vn h2p
        rw [sgv h1 h2 h2p, hi_sg, hi1, sgq_nn (by omega) (by omega) (.inl hA)]; rfl
      refine ⟨1, 2, 3, [[c0, c1, c2], [a0, a1], [1]], ?_, ?_, ?_, ?_, ?_⟩
      · rw [eN, ep]; exact hSR
      · exact en.mono (by decide)
      · rw [eN, ep]
        refine rootU_of hw l2p (.inl rfl) (fun x1 x2 hx a b => ?_) lU hU h2p
        have h3 := gt_low x1 x2 hx a
        rw [eL] at h3
        have h4 := Int.mul_pos vn hx
        rw [sgv x1 x2 hx, sgq_nn (u := u * x2 - x1 * w) (v := -(v * x2)) (by omega) (by omega) (.inl (by omega))]; omega
      · rw [chE, chE, sl, sh, sga l1 l2 l2p, sga h1 h2 h2p, o1 _ _ l2p, o1 _ _ h2p, lA, sg_neg1 hA]; decide
      · rw [eN, ep, sl]; decide
--SPLIT
def spRa (C : Addr) : Sp := fun vs H Q _ => ∃ (r : Addr) (t b : Int), vs = [.ref r] ∧ RA C H r t b ∧ 0 < b ∧ Nat.gcd t.natAbs b.natAbs = 1 ∧ Q (.bl true) H
theorem ok__law_ratio {C f : Addr} {fd : FuncData} (F : Fun K "_law_ratio" "_law_ratio" s__law_ratio f fd) (T : Txt K mg) (R : RCI K mg C) {f__law_whole : Addr} {fd__law_whole : FuncData} (C__law_whole : Cal P w K mg base 1 "_law_whole" ["_law_found"] spWhole f__law_whole fd__law_whole) {f__law_divisor : Addr} {fd__law_divisor : FuncData} (C__law_divisor : Cal P w K mg base 1 "_law_divisor" ["_law_one", "_law_other"] spDvs f__law_divisor fd__law_divisor) : FnOk P w K mg base CX0 2 f fd ["_law_found"] (spRa C) := by
  obtain ⟨G__law_whole, m__law_whole, k__law_whole, b__law_whole⟩ := C__law_whole
  obtain ⟨G__law_divisor, m__law_divisor, k__law_divisor, b__law_divisor⟩ := C__law_divisor
  refine F.ok sc__law_ratio (fun vs H Q E h => ?_) (fun cdv A outer s H vs Q E hr h => ?_)
  · obtain ⟨r, t, b, rfl, _⟩ := h
    rfl
  · obtain ⟨p, t, b, rfl, ⟨dx, hp⟩, hb, hg, k⟩ := h
    refine ⟨_, (pss_cons (ps_if (PW.pt (pw_or (pt_not (pt_val (pe_callB (call_isinstK (K := K) rfl) (by rfl) T.isinstance_ PyProof.Rows.boot_isinstance (pa_cons (pv 0) (pa_cons (pe_glob (v := .ref C) rfl R.mg rfl) pa_nil))))) (pw_or (pt_not (pt_val (pe_call G__law_whole (hr.mono (by decide)) rfl m__law_whole k__law_whole b__law_whole .nil pass0 (pa_cons (pe_fldK (K := K) rfl (pv 0) rfl) pa_nil)))) (pw_or1 (pt_not (pt_val (pe_call G__law_whole (hr.mono (by decide)) rfl m__law_whole k__law_whole b__law_whole .nil pass0 (pa_cons (pe_fldK (K := K) rfl (pv 0) rfl) pa_nil))))))))
        (pss_one (ps_ret pe_bl))
        pss_nil)
      (pss_one (ps_ret (pe_and (pe_cmpR op_gt (pe_fldK (K := K) rfl (pv 0) rfl) pe_int (nomark _)) (pe_one (pe_cmpR op_eqI (pe_call G__law_divisor (hr.mono (by decide)) rfl m__law_divisor k__law_divisor b__law_divisor .nil pass0 (pa_cons (pe_callB call_abs (by rfl) T.abs_ PyProof.Rows.boot_abs (pa_cons (pe_fldK (K := K) rfl (pv 0) rfl) pa_nil)) (pa_cons (pe_fldK (K := K) rfl (pv 0) rfl) pa_nil))) pe_int (nomark _))))))), ?_⟩
    refine rd_sr (rd_or (rd_not (rd_B (rd_isI ⟨_, rfl, isI_ref (.ins hp R.cl R.ha R.hn R.ht R.hm) (k := true) (by unfold PySem.W.kitOne; rw [if_pos (by simp)]) ⟨_, rfl, rd_false ?_⟩⟩))))
    refine rd_or (rd_not ⟨_, rfl, p, C, dx, _, _, rfl, hp, R.cl, R.nT, flds_top _ _, _, rfl, _, rfl, rd_false ?_⟩)
    refine rd_not ⟨_, rfl, p, C, dx, _, _, rfl, hp, R.cl, R.nB, flds_bottom _ _, _, rfl, _, rfl, rd_false ?_⟩
    refine rd_ret (rd_andV ⟨_, rfl, p, C, dx, _, _, rfl, hp, R.cl, R.nB, flds_bottom _ _, _, _, rfl, rfl, _, rfl, ?_⟩)
    rw [decide_eq_true (show b > 0 from hb)]
    refine rd_true ⟨_, rfl, p, C, dx, _, _, rfl, hp, R.cl, R.nT, flds_top _ _, _, rfl, _, rfl, p, C, dx, _, _, rfl, hp, R.cl, R.nB, flds_bottom _ _, _, b, rfl, by split <;> omega, Int.le_of_lt hb, ?_⟩
    have e : Nat.gcd (if t < 0 then -t else t).natAbs b.natAbs = 1 := by
      have : (if t < 0 then -t else t).natAbs = t.natAbs := by split <;> omega
      rw [this]; exact hg
    rw [e]
    exact ⟨_, _, rfl, rfl, k⟩
def spPo : Sp := fun vs H Q _ => ∃ (a : Addr) (ns : List Int), vs = [.ref a] ∧ H a = some (.lst (ns.map V.int)) ∧ Q (.bl true) H
theorem ok__law_poly {f : Addr} {fd : FuncData} (F : Fun K "_law_poly" "_law_poly" s__law_poly f fd) (T : Txt K mg) {f__law_whole : Addr} {fd__law_whole : FuncData} (C__law_whole : Cal P w K mg base 1 "_law_whole" ["_law_found"] spWhole f__law_whole fd__law_whole) : FnOk P w K mg base CX0 2 f fd ["_law_found"] spPo := by
  obtain ⟨G__law_whole, m__law_whole, k__law_whole, b__law_whole⟩ := C__law_whole
  refine F.ok sc__law_poly (fun vs H Q E h => ?_) (fun cdv A outer s H vs Q E hr h => ?_)
  · obtain ⟨a, ns, rfl, _⟩ := h
    rfl
  · obtain ⟨a, ns, rfl, hA, k⟩ := h
    refine ⟨_, (pss_cons (ps_if (pt_not (pt_val (pe_callB (call_isinstK (K := K) rfl) (by rfl) T.isinstance_ PyProof.Rows.boot_isinstance (pa_cons (pv 0) (pa_cons (pe_bltn (v := .ty "list") (by rfl) T.list_ PyProof.Rows.boot_list (by rfl)) pa_nil)))))
        (pss_one (ps_ret pe_bl))
        pss_nil)
      (pss_cons (ps_for PassesOwn.never rfl (pi_listK (K := K) rfl (pv 0)) (pg_name (i := 1) sc__law_poly.nd rfl (Or.inl rfl))
        (pss_one (ps_if (pt_not (pt_val (pe_call G__law_whole (hr.mono (by decide)) rfl m__law_whole k__law_whole b__law_whole .nil pass0 (pa_cons (pv 1) pa_nil))))
            (pss_one (ps_ret pe_bl))
            pss_nil)))
      (pss_one (ps_ret pe_bl)))), ?_⟩
    refine rd_sr (rd_not (rd_B (rd_isI ⟨_, rfl, isI_ty (.lst hA) (k := true) (by rfl) ⟨_, rfl, rd_false ?_⟩⟩)))
    refine ⟨_, rfl, a, rfl, ⟨_, SqL.of hA⟩, for_list (K := K) (a := a) (xs := ns.map V.int) (fun i σ' H' => ∃ z : Option V, σ' = [some (.ref a), z] ∧ H = H') ⟨none, rfl, rfl⟩ ?_ ?_ ?_⟩
    · rintro i σ' H' _ ⟨z, rfl, rfl⟩
      exact SqL.of hA
    · rintro i x σ' H' hi ⟨z, rfl, rfl⟩
      obtain ⟨y, _, rfl, _, _⟩ := get_int hi
      exact ⟨_, rfl, _, rfl, _, rfl, rd_false ⟨_, rfl, rfl⟩⟩
    · rintro σ' H' ⟨z, rfl, rfl⟩
      exact k
def spLeast : Sp := fun vs H Q _ => ∃ (p : Addr) (u v w d : Int), vs = [.ref p] ∧ WT H p u v w d ∧ WOk u v w d ∧ mkL H Q (leastL u v w d)
theorem ok__law_least {f : Addr} {fd : FuncData} (F : Fun K "_law_least" "_law_least" s__law_least f fd) (T : Txt K mg) {f__law_plain : Addr} {fd__law_plain : FuncData} (C__law_plain : Cal P w K mg base 2 "_law_plain" ["_law_row"] spPlq f__law_plain fd__law_plain) : FnOk P w K mg base CX0 3 f fd ["_law_worth_here"] spLeast := by
  obtain ⟨G__law_plain, m__law_plain, k__law_plain, b__law_plain⟩ := C__law_plain
  refine F.ok sc__law_least (fun vs H Q E h => ?_) (fun cdv A outer s H vs Q E hr h => ?_)
  · obtain ⟨p, u, v, w, d, rfl, _⟩ := h
    rfl
  · obtain ⟨p, u, v, w, d, rfl, hp, hW, k⟩ := h
    have hw := hW.w1
    refine ⟨_, (pss_cons (ps_asg (pv 0) (pg_tup rfl (pgs_cons (pg_name (i := 1) sc__law_least.nd rfl (Or.inl rfl)) (pgs_cons (pg_name (i := 2) sc__law_least.nd rfl (Or.inl rfl)) (pgs_cons (pg_name (i := 3) sc__law_least.nd rfl (Or.inl rfl)) (pgs_cons (pg_name (i := 4) sc__law_least.nd rfl (Or.inl rfl)) pgs_nil))))))
      (pss_cons (ps_if (pt_cmpR op_eqI (pv 2) pe_int (nomark _))
        (pss_one (ps_ret (pe_call G__law_plain (hr.mono (by decide)) rfl m__law_plain k__law_plain b__law_plain .nil pass0 (pa_cons (pe_lst (pa_cons (pe_un un_neg (pv 1)) (pa_cons (pv 3) pa_nil))) pa_nil))))
        pss_nil)
      (pss_one (ps_ret (pe_call G__law_plain (hr.mono (by decide)) rfl m__law_plain k__law_plain b__law_plain .nil pass0 (pa_cons (pe_lst (pa_cons (pe_op op_sub (pe_op op_mulB (pv 1) (pv 1)) (pe_op op_mulB (pe_op op_mulB (pv 4) (pv 2)) (pv 2))) (pa_cons (pe_op op_mulB (pe_op op_mulB (pe_un un_neg pe_int) (pv 1)) (pv 3)) (pa_cons (pe_op op_mulB (pv 3) (pv 3)) pa_nil)))) pa_nil)))))), ?_⟩
    refine ⟨_, rfl, p, _, rfl, SqT.of hp, rfl, _, _, rfl, _, _, rfl, _, _, rfl, _, _, rfl, rfl, ?_⟩
    dsimp only
    refine rd_gen (fun σ' H' => σ' = [some (.ref p), some (.int u), some (.int v), some (.int w), some (.int d)] ∧ H = H') ⟨rfl, rfl⟩ ?_
    rintro σ' H' ⟨rfl, rfl⟩
    refine rd_sr ⟨_, rfl, _, _, rfl, rfl, _, rfl, rd_dec (fun h0 => ?_) (fun h0 => ?_)⟩
    · have h0' : v = 0 := h0
      refine rd_ret ⟨_, rfl, _, rfl, _, rfl, by show 2 ≤ sizeLine; decide, fun q hq => ?_⟩
      have s1 : Same H (upd H q (.lst [V.int (-u), V.int w])) := Same.upd_new hq
      refine ⟨q, [-u, w], rfl, upd_same, tr_pair (by omega), by simp, hw, by show 2 ≤ 100; decide, fun x hx => ?_, fun y H' s' hy e => ?_⟩
      · simp only [List.mem_cons, List.not_mem_nil, or_false] at hx
        rcases hx with rfl | rfl
        · exact hW.bu.neg.mono (by decide)
        · exact hW.bw.mono (by decide)
      · refine k y H' (s1.trans s') (s1.free hy) ?_
        unfold leastL
        rw [if_pos h0']; exact e
    · have h0' : ¬ v = 0 := h0
      have b2 : Bits 1000000 (-2 : Int) := Bits.mono (j := 2) (by show (-2 : Int).natAbs < 2 ^ 2; decide) (by decide)
      have bdv : Bits 30 (d * v) := (hW.bd.mul hW.bv).mono (by decide)
      have b2u : Bits 30 (-2 * u) := by
        have : Bits 2 (-2 : Int) := by show (-2 : Int).natAbs < 2 ^ 2; decide
        exact (this.mul hW.bu).mono (by decide)
      have ww : 0 < w * w := Int.mul_pos hw hw
      refine rd_ret ⟨_, rfl, _, rfl, _, _, rfl, rfl, ⟨hW.bu.mono (by decide), hW.bu.mono (by decide)⟩, _, rfl, _, rfl, _, _, rfl, rfl, ⟨hW.bd.mono (by decide), hW.bv.mono (by decide)⟩, _, rfl, _, _, rfl, rfl, ⟨bdv.mono (by decide), hW.bv.mono (by decide)⟩, _, _, rfl, rfl, ?_⟩
      refine ⟨_, rfl, _, rfl, _, _, rfl, rfl, ⟨b2, hW.bu.mono (by decide)⟩, _, rfl, _, _, rfl, rfl, ⟨b2u.mono (by decide), hW.bw.mono (by decide)⟩, ?_⟩
      refine ⟨_, rfl, _, rfl, _, _, rfl, rfl, ⟨hW.bw.mono (by decide), hW.bw.mono (by decide)⟩, by show 3 ≤ sizeLine; decide, fun q hq => ?_⟩
      have s1 : Same H (upd H q (.lst [V.int (u * u - d * v * v), V.int (-2 * u * w), V.int (w * w)])) := Same.upd_new hq
      refine ⟨q, [u * u - d * v * v, -2 * u * w, w * w], rfl, upd_same, tr_three (by omega), by simp, ww, by show 3 ≤ 100; decide, fun x hx => ?_, fun y H' s' hy e => ?_⟩
      · simp only [List.mem_cons, List.not_mem_nil, or_false] at hx
        rcases hx with rfl | rfl | rfl
        · exact Bits.mono (Bits.sub (k := 60) ((hW.bu.mul hW.bu).mono (by decide)) ((bdv.mul hW.bv).mono (by decide))) (by decide)
        · exact (b2u.mul hW.bw).mono (by decide)
        · exact (hW.bw.mul hW.bw).mono (by decide)
      · refine k y H' (s1.trans s') (s1.free hy) ?_
        unfold leastL
        rw [if_neg h0']; exact e
theorem mod3 {x m : Int} (h : 0 < m) : 0 ≤ x % m ∧ x % m < m := ⟨Int.emod_nonneg _ (Int.ne_of_gt h), Int.emod_lt_of_pos _ h⟩
theorem small9 {k : Int} (h0 : 0 ≤ k) (h : k < 2 ^ 12) : Bits 9000 k := Bits.mono (j := 12) (by show k.natAbs < 2 ^ 12; omega) (by decide)
def spAmt : Sp := fun vs H Q _ => ∃ c : Int, vs = [.int c] ∧ ∀ z : Int, Bits 21 z → Q (.int z) H
theorem ok__law_amount {f : Addr} {fd : FuncData} (F : Fun K "_law_amount" "_law_amount" s__law_amount f fd) (T : Txt K mg) : FnOk P w K mg base CX0 1 f fd ["_law_cell"] spAmt := by
  refine F.ok sc__law_amount (fun vs H Q E h => ?_) (fun cdv A outer s H vs Q E hr h => ?_)
  · obtain ⟨c, rfl, _⟩ := h
    rfl
  · obtain ⟨c, rfl, k⟩ := h
    refine ⟨_, (pss_cons (ps_if (pt_cmpR op_eqI (pe_op op_modP (pv 0) pe_int) pe_int (nomark _))
        (pss_one (ps_ret (pe_op op_sub (pe_op op_modP (pe_op op_fdivP (pv 0) pe_int) (pe_op op_add (pe_op op_mulB pe_int (pe_op op_pow pe_int pe_int)) pe_int)) (pe_op op_pow pe_int pe_int))))
        pss_nil)
      (pss_one (ps_ret (pe_op op_sub (pe_op op_modP (pe_op op_fdivP (pv 0) pe_int) pe_int) pe_int)))), ?_⟩
    refine rd_sr ⟨_, rfl, _, _, rfl, rfl, (by show (0 : Int) < 4; decide), _, _, rfl, rfl, _, rfl, rd_dec (fun _ => ?_) (fun _ => ?_)⟩
    · have b6 : Bits 1000000 ((10 : Int) ^ 6) := Bits.mono (j := 21) (by show ((10 : Int) ^ 6).natAbs < 2 ^ 21; decide) (by decide)
      refine rd_ret ⟨_, rfl, _, _, rfl, rfl, ⟨by show (0 : Int) < 4; decide, small9 (by decide) (by decide)⟩, _, _, rfl, rfl, ⟨by decide, by decide, by decide⟩, _, _, rfl, rfl, ⟨two6, b6⟩, _, _, rfl, rfl, _, _, rfl, rfl, (by show (0 : Int) < 2 * 10 ^ 6 + 1; decide), _, _, rfl, rfl, ⟨by decide, by decide, by decide⟩, _, _, rfl, rfl, k _ ?_⟩
      obtain ⟨m0, m1⟩ := mod3 (x := c / 4) (m := 2 * 10 ^ 6 + 1) (by decide)
      show (c / 4 % (2 * 10 ^ 6 + 1) - 10 ^ 6).natAbs < 2 ^ 21
      omega
    · refine rd_ret ⟨_, rfl, _, _, rfl, rfl, ⟨by show (0 : Int) < 4; decide, small9 (by decide) (by decide)⟩, _, _, rfl, rfl, (by show (0 : Int) < 21; decide), _, _, rfl, rfl, k _ ?_⟩
      obtain ⟨m0, m1⟩ := mod3 (x := c / 4) (m := 21) (by decide)
      show (c / 4 % 21 - 10).natAbs < 2 ^ 21
      omega
def spWorth (K : PySem.W.Frag) : Sp := fun vs H Q _ => ∃ (a : Addr) (ns : List Int), vs = [.ref a, .int 0] ∧ SqL K H a (ns.map V.int) ∧ ∀ (p : Addr) (H' : Hp) (u v w d : Int), Same H H' → H p = none → WT H' p u v w d → WOk u v w d → Q (.ref p) H'
theorem root_d {v : V} (h : v ∈ [V.int 2, V.int 3, V.int 5, V.int 6, V.int 7, V.int 10, V.int 11, V.int 13]) : ∃ d : Int, v = .int d ∧ 2 ≤ d ∧ d ≤ 13 ∧ NSq d := by
  simp only [List.mem_cons, List.not_mem_nil, or_false] at h
  rcases h with rfl | rfl | rfl | rfl | rfl | rfl | rfl | rfl
  · exact ⟨_, rfl, by decide, by decide, nsq_of (n := 1) (d := 2) (by decide) (by decide)⟩
  · exact ⟨_, rfl, by decide, by decide, nsq_of (n := 1) (d := 3) (by decide) (by decide)⟩
  · exact ⟨_, rfl, by decide, by decide, nsq_of (n := 2) (d := 5) (by decide) (by decide)⟩
  · exact ⟨_, rfl, by decide, by decide, nsq_of (n := 2) (d := 6) (by decide) (by decide)⟩
  · exact ⟨_, rfl, by decide, by decide, nsq_of (n := 2) (d := 7) (by decide) (by decide)⟩
  · exact ⟨_, rfl, by decide, by decide, nsq_of (n := 3) (d := 10) (by decide) (by decide)⟩
  · exact ⟨_, rfl, by decide, by decide, nsq_of (n := 3) (d := 11) (by decide) (by decide)⟩
  · exact ⟨_, rfl, by decide, by decide, nsq_of (n := 3) (d := 13) (by decide) (by decide)⟩
theorem ok__law_worth {f : Addr} {fd : FuncData} (F : Fun K "_law_worth" "_law_worth" s__law_worth f fd) (T : Txt K mg) {f__law_amount : Addr} {fd__law_amount : FuncData} (C__law_amount : Cal P w K mg base 1 "_law_amount" ["_law_cell"] spAmt f__law_amount fd__law_amount) {f__law_cell_at : Addr} {fd__law_cell_at : FuncData} (C__law_cell_at : Cal P w K mg base 1 "_law_cell_at" ["_law_script", "_law_k"] (spCell K) f__law_cell_at fd__law_cell_at) : FnOk P w K mg base CX0 2 f fd ["_law_script", "_law_k"] (spWorth K) := by
  obtain ⟨G__law_amount, m__law_amount, k__law_amount, b__law_amount⟩ := C__law_amount
  obtain ⟨G__law_cell_at, m__law_cell_at, k__law_cell_at, b__law_cell_at⟩ := C__law_cell_at
  refine F.ok sc__law_worth (fun vs H Q E h => ?_) (fun cdv A outer s H vs Q E hr h => ?_)
  · obtain ⟨a, ns, rfl, _⟩ := h
    rfl
  · obtain ⟨a, ns, rfl, hS, k⟩ := h
    refine ⟨_, (pss_cons (ps_set (i := 2) sc__law_worth.nd rfl (Or.inl rfl) (pe_op op_mulB (pe_call G__law_amount (hr.mono (by decide)) rfl m__law_amount k__law_amount b__law_amount .nil pass0 (pa_cons (pe_call G__law_cell_at (hr.mono (by decide)) rfl m__law_cell_at k__law_cell_at b__law_cell_at .nil pass0 (pa_cons (pv 0) (pa_cons (pe_op op_add (pv 1) pe_int) pa_nil))) pa_nil)) (pe_callTy call_int1 (by rfl) T.int_ PyProof.Rows.boot_int (pa_cons (pe_cmpR op_gt (pe_op op_modP (pe_call G__law_cell_at (hr.mono (by decide)) rfl m__law_cell_at k__law_cell_at b__law_cell_at .nil pass0 (pa_cons (pv 0) (pa_cons (pe_op op_add (pv 1) pe_int) pa_nil))) pe_int) pe_int (nomark _)) pa_nil))))
      (pss_cons (ps_set (i := 3) sc__law_worth.nd rfl (Or.inl rfl) (pe_call G__law_cell_at (hr.mono (by decide)) rfl m__law_cell_at k__law_cell_at b__law_cell_at .nil pass0 (pa_cons (pv 0) (pa_cons (pe_op op_add (pv 1) pe_int) pa_nil))))
      (pss_one (ps_ret (pe_tup (pa_cons (pe_call G__law_amount (hr.mono (by decide)) rfl m__law_amount k__law_amount b__law_amount .nil pass0 (pa_cons (pe_call G__law_cell_at (hr.mono (by decide)) rfl m__law_cell_at k__law_cell_at b__law_cell_at .nil pass0 (pa_cons (pv 0) (pa_cons (pv 1) pa_nil))) pa_nil)) (pa_cons (pv 2) (pa_cons (pe_op op_add pe_int (pe_op op_modP (pe_op op_fdivP (pv 3) pe_int) pe_int)) (pa_cons (pe_ix (ix_listK (K := K) rfl) (pe_lst (pa_cons pe_int (pa_cons pe_int (pa_cons pe_int (pa_cons pe_int (pa_cons pe_int (pa_cons pe_int (pa_cons pe_int (pa_cons pe_int pa_nil))))))))) (pe_op op_modP (pv 3) pe_int) (fun _ _ => rfl)) pa_nil))))))))), ?_⟩
    refine rd_sa ⟨_, rfl, _, rfl, _, _, rfl, rfl, a, ns, 1, rfl, hS, _, rfl, fun z hz => ?_⟩
    have b1 : Bits 1000000 (if decide (ns.getD 1 0 % 5 > 0) = true then (1 : Int) else 0) := by split; exact one6; exact Bits.zero
    refine ⟨_, rfl, _, rfl, _, _, rfl, rfl, a, ns, 1, rfl, hS, _, _, rfl, rfl, (by show (0 : Int) < 5; decide), _, _, rfl, rfl, .inr ⟨_, rfl, _, _, rfl, rfl, ⟨hz.mono (by decide), b1⟩, ?_⟩⟩
    have bv : Bits 21 (z * (if decide (ns.getD 1 0 % 5 > 0) = true then (1 : Int) else 0)) := by
      split
      · rw [Int.mul_one]; exact hz
      · rw [Int.mul_zero]; exact Bits.zero
    show tSeq _ _ _ _ _
    generalize z * (if decide (ns.getD 1 0 % 5 > 0) = true then (1 : Int) else 0) = v at bv
    refine rd_gen (fun σ' H' => ∃ v : Int, σ' = [some (.ref a), some (.int 0), some (.int v), none] ∧ H = H' ∧ Bits 21 v) ⟨_, rfl, rfl, ?_⟩ ?_
    · split
      · rw [Int.mul_one]; exact hz
      · rw [Int.mul_zero]; exact Bits.zero
    rintro σ' H' ⟨v, rfl, rfl, bv⟩
    refine rd_sa ⟨_, rfl, _, rfl, _, _, rfl, rfl, a, ns, 2, rfl, hS, ?_⟩
    refine rd_ret ⟨_, rfl, _, rfl, a, ns, 0, rfl, hS, _, rfl, fun u bu => ?_⟩
    refine ⟨_, rfl, _, rfl, _, _, rfl, rfl, ⟨by show (0 : Int) < 8; decide, small9 (by decide) (by decide)⟩, _, _, rfl, rfl, (by show (0 : Int) < 12; decide), _, _, rfl, rfl, by show 8 ≤ sizeLine; decide, fun p hp => ?_⟩
    obtain ⟨x, hx, ex⟩ := atI_mod (xs := [V.int 2, V.int 3, V.int 5, V.int 6, V.int 7, V.int 10, V.int 11, V.int 13]) (n := 8) rfl (by decide) (ns.getD 2 0)
    obtain ⟨d, rfl, hd2, hd13, hns⟩ := root_d hx
    have s1 : Same H (upd H p (.lst [V.int 2, V.int 3, V.int 5, V.int 6, V.int 7, V.int 10, V.int 11, V.int 13])) := Same.upd_new hp
    refine ⟨_, rfl, _, _, rfl, rfl, (by show (0 : Int) < 8; decide), p, _, _, _, rfl, rfl, SqL.of upd_same, ex, by show 4 ≤ sizeLine; decide, fun q hq => ?_⟩
    obtain ⟨m0, m1⟩ := mod3 (x := ns.getD 2 0 / 8) (m := 12) (by decide)
    exact k q _ u v _ d (s1.then_new hq) (s1.free hq) upd_same ⟨bu, bv, by omega, by omega, hd2, hd13, hns⟩
def spSpn (C : Addr) : Sp := fun vs H Q _ => ∃ (p : Addr) (u v w d m : Int), vs = [.ref p, .int m] ∧ WT H p u v w d ∧ WOk u v w d ∧ 0 ≤ m ∧ m < 60 ∧ ∀ (t l h : Addr) (H' : Hp) (l1 l2 h1 h2 : Int), Same H H' → H t = none → H' t = some (.tup [.ref l, .ref h]) → RA C H' l l1 l2 → RA C H' h h1 h2 → SpE u v w d m l1 l2 h1 h2 → Q (.ref t) H'
theorem ok__law_span {C f : Addr} {fd : FuncData} (F : Fun K "_law_span" "_law_span" s__law_span f fd) (T : Txt K mg) (R : RCI K mg C) {f_Ratio : Addr} {fd_Ratio : FuncData} {ds_Ratio : List Value} (C_Ratio : KCal P w K mg base 2 C "Ratio" ["self", "top", "bottom"] (spInit C) f_Ratio fd_Ratio ds_Ratio [.int 1]) : FnOk P w K mg base CX0 4 f fd ["_law_worth_here", "_law_more"] (spSpn C) := by
  obtain ⟨G_Ratio, M_Ratio, m_Ratio, b_Ratio, bD_Ratio, d_Ratio⟩ := C_Ratio
  refine F.ok sc__law_span (fun vs H Q E h => ?_) (fun cdv A outer s H vs Q E hr h => ?_)
  · obtain ⟨p, u, v, w, d, m, rfl, _⟩ := h
    rfl
  · obtain ⟨p, u, v, w, d, m, rfl, hp, hW, hm0, hm, k⟩ := h
    have hw := hW.w1
    have w0 : w ≠ 0 := by omega
    refine ⟨_, (pss_cons (ps_asg (pv 0) (pg_tup rfl (pgs_cons (pg_name (i := 2) sc__law_span.nd rfl (Or.inl rfl)) (pgs_cons (pg_name (i := 3) sc__law_span.nd rfl (Or.inl rfl)) (pgs_cons (pg_name (i := 4) sc__law_span.nd rfl (Or.inl rfl)) (pgs_cons (pg_name (i := 5) sc__law_span.nd rfl (Or.inl rfl)) pgs_nil))))))
      (pss_cons (ps_if (pt_cmpR op_gt (pv 3) pe_int (nomark _))
        (pss_one (ps_ret (pe_tup (pa_cons (pe_make M_Ratio G_Ratio (hr.mono (by decide)) rfl m_Ratio b_Ratio .nil pass0 (pa_cons (pv 2) (pa_cons (pv 4) pa_nil))) (pa_cons (pe_make M_Ratio G_Ratio (hr.mono (by decide)) rfl m_Ratio b_Ratio .nil pass0 (pa_cons (pe_op op_add (pe_op op_add (pv 2) (pe_op op_mulB (pv 3) (pv 5))) (pv 1)) (pa_cons (pv 4) pa_nil))) pa_nil)))))
        pss_nil)
      (pss_cons (ps_if (pt_cmpR op_lt (pv 3) pe_int (nomark _))
        (pss_one (ps_ret (pe_tup (pa_cons (pe_make M_Ratio G_Ratio (hr.mono (by decide)) rfl m_Ratio b_Ratio .nil pass0 (pa_cons (pe_op op_sub (pe_op op_add (pv 2) (pe_op op_mulB (pv 3) (pv 5))) (pv 1)) (pa_cons (pv 4) pa_nil))) (pa_cons (pe_make M_Ratio G_Ratio (hr.mono (by decide)) rfl m_Ratio b_Ratio .nil pass0 (pa_cons (pv 2) (pa_cons (pv 4) pa_nil))) pa_nil)))))
        pss_nil)
      (pss_one (ps_ret (pe_tup (pa_cons (pe_make M_Ratio G_Ratio (hr.mono (by decide)) rfl m_Ratio b_Ratio .nil pass0 (pa_cons (pe_op op_sub (pe_op op_sub (pv 2) pe_int) (pv 1)) (pa_cons (pv 4) pa_nil))) (pa_cons (pe_make M_Ratio G_Ratio (hr.mono (by decide)) rfl m_Ratio b_Ratio .nil pass0 (pa_cons (pe_op op_add (pv 2) (pe_op op_fdivP (pv 1) pe_int)) (pa_cons (pv 4) pa_nil))) pa_nil)))))))), ?_⟩
    refine ⟨_, rfl, p, _, rfl, SqT.of hp, rfl, _, _, rfl, _, _, rfl, _, _, rfl, _, _, rfl, rfl, ?_⟩
    dsimp only
    refine rd_gen (fun σ' H' => σ' = [some (.ref p), some (.int m), some (.int u), some (.int v), some (.int w), some (.int d)] ∧ H = H') ⟨rfl, rfl⟩ ?_
    rintro σ' H' ⟨rfl, rfl⟩
    have bw9 : Bits 9000 w := hW.bw.mono (by decide)
    have bvd : Bits 30 (v * d) := (hW.bv.mul hW.bd).mono (by decide)
    have bN : ∀ x : Int, Bits 35 x → Bits 40 (rt x w) ∧ Bits 40 (rb x w) := fun x hx => ⟨(rt_bits w0 hx).mono (by decide), (rb_bits w0 hW.bw).mono (by decide)⟩
    have fin : ∀ (x y : Int), x = lowN u v d m → y = highN u v d m → Bits 35 x → Bits 35 y → SpE u v w d m (rt x w) (rb x w) (rt y w) (rb y w) := fun x y ex ey bx by' => ⟨rb_pos w0, rb_pos w0, (bN x bx).1, (bN x bx).2, (bN y by').1, (bN y by').2, r_gcd w0, r_gcd w0, by rw [← ex]; exact r_cross w0, by rw [← ey]; exact r_cross w0⟩
    have b60 : Bits 30 m := by show m.natAbs < 2 ^ 30; omega
    have bu30 : Bits 30 u := hW.bu.mono (by decide)
    have bs1 : Bits 35 (u + v * d + m) := Bits.mono (Bits.add (k := 31) (Bits.add bu30 bvd) (b60.mono (by decide))) (by decide)
    have bs2 : Bits 35 (u + v * d - m) := Bits.mono (Bits.sub (k := 31) (Bits.add bu30 bvd) (b60.mono (by decide))) (by decide)
    have bs3 : Bits 35 (u - 1 - m) := Bits.mono (Bits.sub (k := 31) (Bits.sub bu30 (b1k (by decide))) (b60.mono (by decide))) (by decide)
    have b3 : Bits 30 (m / 3) := by show (m / 3).natAbs < 2 ^ 30; omega
    have bs4 : Bits 35 (u + m / 3) := Bits.mono (Bits.add bu30 b3) (by decide)
    have bu35 : Bits 35 u := hW.bu.mono (by decide)
    refine rd_sr ⟨_, rfl, _, _, rfl, rfl, _, rfl, rd_dec (fun h0 => ?_) (fun h0 => ?_)⟩
    · have h0' : 0 < v := h0
      refine rd_ret ⟨_, rfl, _, rfl, make_R (t := u) w0 bw9 fun l H1 s1 hl hRl => ?_⟩
      refine ⟨_, rfl, _, rfl, _, rfl, _, _, rfl, rfl, ⟨hW.bv.mono (by decide), hW.bd.mono (by decide)⟩, _, _, rfl, rfl, _, rfl, _, _, rfl, rfl, _, rfl, make_R (t := u + v * d + m) w0 bw9 fun h H2 s2 hh hRh => ?_⟩
      refine ⟨by show 2 ≤ sizeLine; decide, fun q hq => ?_⟩
      have sq := Same.upd_new (o := .tup [V.ref l, V.ref h]) hq
      have t2 := s1.trans s2
      exact k q l h _ _ _ _ _ (t2.then_new hq) (t2.free hq) upd_same ((hRl.same s2).same sq) (hRh.same sq) (fin _ _ (by unfold lowN; rw [if_pos h0']) (by unfold highN; rw [if_pos h0']) bu35 bs1)
    have h0' : ¬ 0 < v := h0
    refine rd_sr ⟨_, rfl, _, _, rfl, rfl, _, rfl, rd_dec (fun h1 => ?_) (fun h1 => ?_)⟩
    · have h1' : v < 0 := h1
      refine rd_ret ⟨_, rfl, _, rfl, _, rfl, _, _, rfl, rfl, ⟨hW.bv.mono (by decide), hW.bd.mono (by decide)⟩, _, _, rfl, rfl, _, rfl, _, _, rfl, rfl, _, rfl, make_R (t := u + v * d - m) w0 bw9 fun l H1 s1 hl hRl => ?_⟩
      refine ⟨_, rfl, _, rfl, make_R (t := u) w0 bw9 fun h H2 s2 hh hRh => ?_⟩
      refine ⟨by show 2 ≤ sizeLine; decide, fun q hq => ?_⟩
      have sq := Same.upd_new (o := .tup [V.ref l, V.ref h]) hq
      have t2 := s1.trans s2
      exact k q l h _ _ _ _ _ (t2.then_new hq) (t2.free hq) upd_same ((hRl.same s2).same sq) (hRh.same sq) (fin _ _ (by unfold lowN; rw [if_neg h0', if_pos h1']) (by unfold highN; rw [if_neg h0', if_pos h1']) bs2 bu35)
    have h1' : ¬ v < 0 := h1
    refine rd_ret ⟨_, rfl, _, _, rfl, rfl, _, rfl, _, _, rfl, rfl, _, rfl, make_R (t := u - 1 - m) w0 bw9 fun l H1 s1 hl hRl => ?_⟩
    refine ⟨_, rfl, _, rfl, _, _, rfl, rfl, ⟨by show (0 : Int) < 3; decide, small9 (by decide) (by decide)⟩, _, _, rfl, rfl, _, rfl, make_R (t := u + m / 3) w0 bw9 fun h H2 s2 hh hRh => ?_⟩
    refine ⟨by show 2 ≤ sizeLine; decide, fun q hq => ?_⟩
    have sq := Same.upd_new (o := .tup [V.ref l, V.ref h]) hq
    have t2 := s1.trans s2
    exact k q l h _ _ _ _ _ (t2.then_new hq) (t2.free hq) upd_same ((hRl.same s2).same sq) (hRh.same sq) (fin _ _ (by unfold lowN; rw [if_neg h0', if_neg h1']) (by unfold highN; rw [if_neg h0', if_neg h1']) bs3 bs4)
def spUnder (C : Addr) : Sp := fun vs H Q _ => ∃ (p q : Addr) (t b u d : Int), vs = [.ref p, .ref q] ∧ RA C H p t b ∧ RA C H q u d ∧ Bits 10000 t ∧ Bits 10000 b ∧ Bits 10000 u ∧ Bits 10000 d ∧ Q (.bl (decide (t * d < u * b))) H
theorem ok__law_under {C f : Addr} {fd : FuncData} (F : Fun K "_law_under" "_law_under" s__law_under f fd) (T : Txt K mg) (R : RCI K mg C) : FnOk P w K mg base CX0 1 f fd ["_law_one", "_law_other"] (spUnder C) := by
  refine F.ok sc__law_under (fun vs H Q E h => ?_) (fun cdv A outer s H vs Q E hr h => ?_)
  · obtain ⟨p, q, t, b, u, d, rfl, _⟩ := h
    rfl
  · obtain ⟨p, q, t, b, u, d, rfl, ⟨dx, hp⟩, ⟨dy, hq⟩, bt, bb, bu, bd, k⟩ := h
    refine ⟨_, (pss_one (ps_ret (pe_cmpR op_lt (pe_op op_mulB (pe_fldK (K := K) rfl (pv 0) rfl) (pe_fldK (K := K) rfl (pv 1) rfl)) (pe_op op_mulB (pe_fldK (K := K) rfl (pv 1) rfl) (pe_fldK (K := K) rfl (pv 0) rfl)) (nomark _)))), ?_⟩
    exact ⟨_, rfl, p, C, dx, _, _, rfl, hp, R.cl, R.nT, flds_top _ _, _, rfl, q, C, dy, _, _, rfl, hq, R.cl, R.nB, flds_bottom _ _, _, _, rfl, rfl, ⟨bt.mono (by decide), bd.mono (by decide)⟩, _, rfl, q, C, dy, _, _, rfl, hq, R.cl, R.nT, flds_top _ _, _, rfl, p, C, dx, _, _, rfl, hp, R.cl, R.nB, flds_bottom _ _, _, _, rfl, rfl, ⟨bu.mono (by decide), bb.mono (by decide)⟩, _, _, rfl, rfl, k⟩
--SPLIT
/-- a Number that the law takes for the worth -/
structure IsN (C CN : Addr) (H : Hp) (x q l h : Addr) (ns : List Int) (l1 l2 h1 h2 : Int) (u v w d : Int) : Prop where
  na : NA CN H x q l h
  po : H q = some (.lst (ns.map V.int))
  rl : RA C H l l1 l2
  rh : RA C H h h1 h2
  en : EndsG 3000 l1 l2 h1 h2
  lo : UpW u v w d l1 l2
  hi : ¬ UpW u v w d h1 h2
  ol : 0 < v → u * l2 ≤ l1 * w
  oh : v < 0 → h1 * w ≤ u * h2
theorem IsN.same {C CN : Addr} {H H' : Hp} {x q l h : Addr} {ns : List Int} {l1 l2 h1 h2 u v w d : Int} (i : IsN C CN H x q l h ns l1 l2 h1 h2 u v w d) (s : Same H H') : IsN C CN H' x q l h ns l1 l2 h1 h2 u v w d := ⟨i.na.same s, s _ _ i.po, i.rl.same s, i.rh.same s, i.en, i.lo, i.hi, i.ol, i.oh⟩
def spIs (C CN : Addr) : Sp := fun vs H Q _ => ∃ (x q l h p b : Addr) (ns : List Int) (l1 l2 h1 h2 u v w d : Int), vs = [.ref x, .ref p, .ref b] ∧ IsN C CN H x q l h ns l1 l2 h1 h2 u v w d ∧ WT H p u v w d ∧ WOk u v w d ∧ H b = some (.lst (ns.map V.int)) ∧ ns.length ≤ 100 ∧ ∀ H', Same H H' → Q (.bl true) H'
theorem ok__law_is {C CN f : Addr} {fd : FuncData} (F : Fun K "_law_is" "_law_is" s__law_is f fd) (T : Txt K mg) (R : RCI K mg C) (RN : NCI K mg CN) {f__law_poly : Addr} {fd__law_poly : FuncData} (C__law_poly : Cal P w K mg base 2 "_law_poly" ["_law_found"] spPo f__law_poly fd__law_poly) {f__law_ratio : Addr} {fd__law_ratio : FuncData} (C__law_ratio : Cal P w K mg base 2 "_law_ratio" ["_law_found"] (spRa C) f__law_ratio fd__law_ratio) {f__law_beside : Addr} {fd__law_beside : FuncData} (C__law_beside : Cal P w K mg base 2 "_law_beside" ["_law_worth_here", "_law_r"] (spBeside C) f__law_beside fd__law_beside) : FnOk P w K mg base CX0 3 f fd ["_law_found", "_law_worth_here", "_law_due"] (spIs C CN) := by
  obtain ⟨G__law_poly, m__law_poly, k__law_poly, b__law_poly⟩ := C__law_poly
  obtain ⟨G__law_ratio, m__law_ratio, k__law_ratio, b__law_ratio⟩ := C__law_ratio
  obtain ⟨G__law_beside, m__law_beside, k__law_beside, b__law_beside⟩ := C__law_beside
  refine F.ok sc__law_is (fun vs H Q E h => ?_) (fun cdv A outer s H vs Q E hr h => ?_)
  · obtain ⟨x, q, l, h, p, b, ns, l1, l2, h1, h2, u, v, w, d, rfl, _⟩ := h
    rfl
  · obtain ⟨x, q, l, h, p, b, ns, l1, l2, h1, h2, u, v, w, d, rfl, ⟨⟨dx, hx⟩, hq, hl, hh, en, lo, hi, ol, oh⟩, hp, hW, hb, hlen, k⟩ := h
    have hu := hr.units
    have hw := hW.w1
    have hup : 0 < sgq (u * l2 - l1 * w) (v * l2) d := lo
    have hdn : ¬ 0 < sgq (u * h2 - h1 * w) (v * h2) d := hi
    refine ⟨_, (pss_cons (ps_if (PW.pt (pw_or (pt_not (pt_val (pe_callB (call_isinstK (K := K) rfl) (by rfl) T.isinstance_ PyProof.Rows.boot_isinstance (pa_cons (pv 0) (pa_cons (pe_glob (v := .ref CN) rfl RN.mg rfl) pa_nil))))) (pw_or (pt_not (pt_val (pe_call G__law_poly (hr.mono (by decide)) rfl m__law_poly k__law_poly b__law_poly .nil pass0 (pa_cons (pe_fldK (K := K) rfl (pv 0) rfl) pa_nil)))) (pw_or1 (pt_cmpR (op_neLK (K := K) rfl hu) (pe_fldK (K := K) rfl (pv 0) rfl) (pv 2) (nomark _))))))
        (pss_one (ps_ret pe_bl))
        pss_nil)
      (pss_cons (ps_if (PW.pt (pw_or (pt_not (pt_val (pe_call G__law_ratio (hr.mono (by decide)) rfl m__law_ratio k__law_ratio b__law_ratio .nil pass0 (pa_cons (pe_fldK (K := K) rfl (pv 0) rfl) pa_nil)))) (pw_or1 (pt_not (pt_val (pe_call G__law_ratio (hr.mono (by decide)) rfl m__law_ratio k__law_ratio b__law_ratio .nil pass0 (pa_cons (pe_fldK (K := K) rfl (pv 0) rfl) pa_nil)))))))
        (pss_one (ps_ret pe_bl))
        pss_nil)
      (pss_cons (ps_asg (pv 1) (pg_tup rfl (pgs_cons (pg_name (i := 3) sc__law_is.nd rfl (Or.inl rfl)) (pgs_cons (pg_name (i := 4) sc__law_is.nd rfl (Or.inl rfl)) (pgs_cons (pg_name (i := 5) sc__law_is.nd rfl (Or.inl rfl)) (pgs_cons (pg_name (i := 6) sc__law_is.nd rfl (Or.inl rfl)) pgs_nil))))))
      (pss_cons (ps_if (PW.pt (pw_or (pt_cmpR op_le (pe_call G__law_beside (hr.mono (by decide)) rfl m__law_beside k__law_beside b__law_beside .nil pass0 (pa_cons (pv 1) (pa_cons (pe_fldK (K := K) rfl (pv 0) rfl) pa_nil))) pe_int (nomark _)) (pw_or1 (pt_cmpR op_gt (pe_call G__law_beside (hr.mono (by decide)) rfl m__law_beside k__law_beside b__law_beside .nil pass0 (pa_cons (pv 1) (pa_cons (pe_fldK (K := K) rfl (pv 0) rfl) pa_nil))) pe_int (nomark _)))))
        (pss_one (ps_ret pe_bl))
        pss_nil)
      (pss_cons (ps_set (i := 7) sc__law_is.nd rfl (Or.inl rfl) (pe_tup (pa_cons (pv 3) (pa_cons (pe_un un_neg (pv 4)) (pa_cons (pv 5) (pa_cons (pv 6) pa_nil))))))
      (pss_one (ps_ret (pe_or (pe_cmpR op_eqI (pv 4) pe_int (nomark _)) (pe_or (pe_cmpR op_lt (pe_call G__law_beside (hr.mono (by decide)) rfl m__law_beside k__law_beside b__law_beside .nil pass0 (pa_cons (pv 7) (pa_cons (pe_fldK (K := K) rfl (pv 0) rfl) pa_nil))) pe_int (nomark _)) (pe_one (pe_cmpR op_gt (pe_call G__law_beside (hr.mono (by decide)) rfl m__law_beside k__law_beside b__law_beside .nil pass0 (pa_cons (pv 7) (pa_cons (pe_fldK (K := K) rfl (pv 0) rfl) pa_nil))) pe_int (nomark _)))))))))))), ?_⟩
    refine rd_sr (rd_or (rd_not (rd_B (rd_isI ⟨_, rfl, isI_ref (.ins hx RN.cl RN.ha RN.hn RN.ht RN.hm) (k := true) (by unfold PySem.W.kitOne; rw [if_pos (by simp)]) ⟨_, rfl, rd_false ?_⟩⟩))))
    refine rd_or (rd_not ⟨_, rfl, x, CN, dx, _, _, rfl, hx, RN.cl, RN.nP, fldsN_poly _ _ _, q, ns, rfl, hq, _, rfl, rd_false ?_⟩)
    refine ⟨_, rfl, x, CN, dx, _, _, rfl, hx, RN.cl, RN.nP, fldsN_poly _ _ _, _, rfl, q, b, ns, ns, rfl, rfl, SqL.of hq, SqL.of hb, _, rfl, rd_ndec (fun z => absurd rfl z) (fun _ => ?_)⟩
    refine rd_sr (rd_or (rd_not ⟨_, rfl, x, CN, dx, _, _, rfl, hx, RN.cl, RN.nL, fldsN_low _ _ _, l, l1, l2, rfl, hl, en.l2p, en.gl, _, rfl, rd_false ?_⟩))
    refine rd_not ⟨_, rfl, x, CN, dx, _, _, rfl, hx, RN.cl, RN.nH, fldsN_high _ _ _, h, h1, h2, rfl, hh, en.h2p, en.gh, _, rfl, rd_false ?_⟩
    refine ⟨_, rfl, p, _, rfl, SqT.of hp, rfl, _, _, rfl, _, _, rfl, _, _, rfl, _, _, rfl, rfl, ?_⟩
    dsimp only
    refine rd_gen (fun σ' H' => σ' = [some (.ref x), some (.ref p), some (.ref b), some (.int u), some (.int v), some (.int w), some (.int d), none] ∧ H = H') ⟨rfl, rfl⟩ ?_
    rintro σ' H' ⟨rfl, rfl⟩
    refine rd_sr (rd_or ⟨_, rfl, _, rfl, x, CN, dx, _, _, rfl, hx, RN.cl, RN.nL, fldsN_low _ _ _, p, l, u, v, w, d, l1, l2, rfl, hp, hW, hl, en.bl1, en.bl2, _, _, rfl, rfl, _, rfl, rd_dec (fun z => absurd (show sgq (u * l2 - l1 * w) (v * l2) d ≤ 0 from z) (by omega)) (fun _ => ?_)⟩)
    refine ⟨_, rfl, _, rfl, x, CN, dx, _, _, rfl, hx, RN.cl, RN.nH, fldsN_high _ _ _, p, h, u, v, w, d, h1, h2, rfl, hp, hW, hh, en.bh1, en.bh2, _, _, rfl, rfl, _, rfl, rd_dec (fun z => absurd (show sgq (u * h2 - h1 * w) (v * h2) d > 0 from z) hdn) (fun _ => ?_)⟩
    refine rd_sa ⟨_, rfl, _, rfl, _, rfl, _, rfl, _, rfl, by show 4 ≤ sizeLine; decide, fun po hpo => ?_⟩
    have s1 : Same H (upd H po (.tup [V.int u, V.int (-v), V.int w, V.int d])) := Same.upd_new hpo
    have ho : WT (upd H po (.tup [V.int u, V.int (-v), V.int w, V.int d])) po u (-v) w d := upd_same
    have hWo : WOk u (-v) w d := ⟨hW.bu, hW.bv.neg, hW.w1, hW.w12, hW.d2, hW.d13, hW.ns⟩
    generalize upd H po (.tup [V.int u, V.int (-v), V.int w, V.int d]) = H1 at s1 ho ⊢
    have hx1 := s1 _ _ hx
    refine rd_ret (rd_orV ⟨_, rfl, _, _, rfl, rfl, _, rfl, rd_dec (fun _ => k H1 s1) (fun h0 => ?_)⟩)
    have h0' : ¬ v = 0 := h0
    refine rd_orV ⟨_, rfl, _, rfl, x, CN, dx, _, _, rfl, hx1, RN.cl, RN.nL, fldsN_low _ _ _, po, l, u, -v, w, d, l1, l2, rfl, ho, hWo, hl.same s1, en.bl1, en.bl2, _, _, rfl, rfl, _, rfl, rd_dec (fun _ => k H1 s1) (fun h3 => ?_)⟩
    have h3' : ¬ sgq (u * l2 - l1 * w) (-v * l2) d < 0 := h3
    refine ⟨_, rfl, _, rfl, x, CN, dx, _, _, rfl, hx1, RN.cl, RN.nH, fldsN_high _ _ _, po, h, u, -v, w, d, h1, h2, rfl, ho, hWo, hh.same s1, en.bh1, en.bh2, _, _, rfl, rfl, ?_⟩
    have vn : v < 0 := by
      refine Classical.byContradiction fun z => ?_
      have vp : 0 < v := by omega
      have h4 := ol vp
      have h5 := Int.mul_pos vp en.l2p
      have h6 : -v * l2 = -(v * l2) := by grind
      rw [sgq_nn (by omega) (by omega) (.inr (by omega))] at h3'
      exact h3' (by decide)
    have h4 := oh vn
    have h5 := Int.mul_neg_of_neg_of_pos vn en.h2p
    have h6 : -v * h2 = -(v * h2) := by grind
    have e1 : sgq (u * h2 - h1 * w) (-v * h2) d = 1 := sgq_pp (by omega) (by omega) (.inr (by omega))
    rw [e1]
    exact k H1 s1
def spFits (C CN : Addr) : Sp := fun vs H Q _ => ∃ (x q l h p po ol oh wd : Addr) (l1 l2 h1 h2 u v w d o1 o2 p1 p2 w1 w2 : Int), vs = [.ref x, .ref p, .ref po, .ref wd] ∧ IsN C CN H x q l h (leastL u v w d) l1 l2 h1 h2 u v w d ∧ WT H p u v w d ∧ WOk u v w d ∧ H po = some (.tup [.ref ol, .ref oh]) ∧ RA C H ol o1 o2 ∧ RA C H oh p1 p2 ∧ RA C H wd w1 w2 ∧ Bits 3000 o1 ∧ Bits 3000 o2 ∧ Bits 3000 p1 ∧ Bits 3000 p2 ∧ Bits 3000 w1 ∧ Bits 3000 w2 ∧ o1 * l2 ≤ l1 * o2 ∧ h1 * p2 ≤ p1 * h2 ∧ (h1 * l2 - l1 * h2) * w2 ≤ w1 * (l2 * h2) ∧ ∀ H', Same H H' → Q (.bl true) H'
theorem least_len {u v w d : Int} : (leastL u v w d).length ≤ 3 := by
  unfold leastL
  split <;> (rw [RM.plain_len]; simp)
theorem ok__law_fits {C CN f : Addr} {fd : FuncData} (F : Fun K "_law_fits" "_law_fits" s__law_fits f fd) (T : Txt K mg) (R : RCI K mg C) (RN : NCI K mg CN) {f__law_is : Addr} {fd__law_is : FuncData} (C__law_is : Cal P w K mg base 3 "_law_is" ["_law_found", "_law_worth_here", "_law_due"] (spIs C CN) f__law_is fd__law_is) {f__law_least : Addr} {fd__law_least : FuncData} (C__law_least : Cal P w K mg base 3 "_law_least" ["_law_worth_here"] spLeast f__law_least fd__law_least) {f__law_under : Addr} {fd__law_under : FuncData} (C__law_under : Cal P w K mg base 1 "_law_under" ["_law_one", "_law_other"] (spUnder C) f__law_under fd__law_under) : FnOk P w K mg base CX0 4 f fd ["_law_found", "_law_worth_here", "_law_outer", "_law_width"] (spFits C CN) := by
  obtain ⟨G__law_is, m__law_is, k__law_is, b__law_is⟩ := C__law_is
  obtain ⟨G__law_least, m__law_least, k__law_least, b__law_least⟩ := C__law_least
  obtain ⟨G__law_under, m__law_under, k__law_under, b__law_under⟩ := C__law_under
  refine F.ok sc__law_fits (fun vs H Q E h => ?_) (fun cdv A outer s H vs Q E hr h => ?_)
  · obtain ⟨x, q, l, h, p, po, ol, oh, wd, l1, l2, h1, h2, u, v, w, d, o1, o2, p1, p2, w1, w2, rfl, _⟩ := h
    rfl
  · obtain ⟨x, q, l, h, p, po, ol, oh, wd, l1, l2, h1, h2, u, v, w, d, o1, o2, p1, p2, w1, w2, rfl, hI, hp, hW, hpo, hol, hoh, hwd, b1, b2, b3, b4, b5, b6, c1, c2, c3, k⟩ := h
    refine ⟨_, (pss_cons (ps_if (pt_not (pt_val (pe_call G__law_is (hr.mono (by decide)) rfl m__law_is k__law_is b__law_is .nil pass0 (pa_cons (pv 0) (pa_cons (pv 1) (pa_cons (pe_call G__law_least (hr.mono (by decide)) rfl m__law_least k__law_least b__law_least .nil pass0 (pa_cons (pv 1) pa_nil)) pa_nil))))))
        (pss_one (ps_ret pe_bl))
        pss_nil)
      (pss_cons (ps_if (PW.pt (pw_or (pt_val (pe_call G__law_under (hr.mono (by decide)) rfl m__law_under k__law_under b__law_under .nil pass0 (pa_cons (pe_fldK (K := K) rfl (pv 0) rfl) (pa_cons (pe_ix (ix_tupK (K := K) rfl) (pv 2) pe_int (fun _ _ => rfl)) pa_nil)))) (pw_or1 (pt_val (pe_call G__law_under (hr.mono (by decide)) rfl m__law_under k__law_under b__law_under .nil pass0 (pa_cons (pe_ix (ix_tupK (K := K) rfl) (pv 2) pe_int (fun _ _ => rfl)) (pa_cons (pe_fldK (K := K) rfl (pv 0) rfl) pa_nil)))))))
        (pss_one (ps_ret pe_bl))
        pss_nil)
      (pss_cons (ps_set (i := 4) sc__law_fits.nd rfl (Or.inl rfl) (pe_op op_sub (pe_op op_mulB (pe_fldK (K := K) rfl (pe_fldK (K := K) rfl (pv 0) rfl) rfl) (pe_fldK (K := K) rfl (pe_fldK (K := K) rfl (pv 0) rfl) rfl)) (pe_op op_mulB (pe_fldK (K := K) rfl (pe_fldK (K := K) rfl (pv 0) rfl) rfl) (pe_fldK (K := K) rfl (pe_fldK (K := K) rfl (pv 0) rfl) rfl))))
      (pss_one (ps_ret (pe_cmpR op_le (pe_op op_mulB (pv 4) (pe_fldK (K := K) rfl (pv 3) rfl)) (pe_op op_mulB (pe_op op_mulB (pe_fldK (K := K) rfl (pv 3) rfl) (pe_fldK (K := K) rfl (pe_fldK (K := K) rfl (pv 0) rfl) rfl)) (pe_fldK (K := K) rfl (pe_fldK (K := K) rfl (pv 0) rfl) rfl)) (nomark _))))))), ?_⟩
    have ll := least_len (u := u) (v := v) (w := w) (d := d)
    refine rd_sr (rd_not ⟨_, rfl, _, rfl, _, rfl, p, u, v, w, d, rfl, hp, hW, fun b H1 s1 hb eb => ?_⟩)
    refine ⟨x, q, l, h, p, b, _, l1, l2, h1, h2, u, v, w, d, rfl, hI.same s1, s1 _ _ hp, hW, eb, by omega, fun H2 s2 => ⟨_, rfl, rd_false ?_⟩⟩
    have t2 := s1.trans s2
    obtain ⟨⟨dx, hx⟩, hq, hl, hh, en, _, _, _, _⟩ := hI.same t2
    obtain ⟨dl, hl'⟩ := id hl
    obtain ⟨dh, hh'⟩ := id hh
    obtain ⟨dw, hw'⟩ := hwd.same t2
    have hpo2 := t2 _ _ hpo
    refine rd_sr (rd_or ⟨_, rfl, x, CN, dx, _, _, rfl, hx, RN.cl, RN.nL, fldsN_low _ _ _, _, rfl, po, _, _, _, rfl, rfl, SqT.of hpo2, rfl, l, ol, l1, l2, o1, o2, rfl, hl, hol.same t2, en.bl1.mono (by decide), en.bl2.mono (by decide), b1.mono (by decide), b2.mono (by decide), _, rfl, rd_dec (fun z => absurd (show l1 * o2 < o1 * l2 from z) (by omega)) (fun _ => ?_)⟩)
    refine ⟨_, rfl, po, _, _, _, rfl, rfl, SqT.of hpo2, rfl, _, rfl, x, CN, dx, _, _, rfl, hx, RN.cl, RN.nH, fldsN_high _ _ _, oh, h, p1, p2, h1, h2, rfl, hoh.same t2, hh, b3.mono (by decide), b4.mono (by decide), en.bh1.mono (by decide), en.bh2.mono (by decide), _, rfl, rd_dec (fun z => absurd (show p1 * h2 < h1 * p2 from z) (by omega)) (fun _ => ?_)⟩
    have bA : Bits 6001 (h1 * l2 - l1 * h2) := Bits.sub (k := 6000) (en.bh1.mul en.bl2) (en.bl1.mul en.bh2)
    refine rd_sa ⟨_, rfl, x, CN, dx, _, _, rfl, hx, RN.cl, RN.nH, fldsN_high _ _ _, h, C, dh, _, _, rfl, hh', R.cl, R.nT, flds_top _ _, _, rfl, x, CN, dx, _, _, rfl, hx, RN.cl, RN.nL, fldsN_low _ _ _, l, C, dl, _, _, rfl, hl', R.cl, R.nB, flds_bottom _ _, _, _, rfl, rfl, ⟨en.bh1.mono (by decide), en.bl2.mono (by decide)⟩, _, rfl, x, CN, dx, _, _, rfl, hx, RN.cl, RN.nL, fldsN_low _ _ _, l, C, dl, _, _, rfl, hl', R.cl, R.nT, flds_top _ _, _, rfl, x, CN, dx, _, _, rfl, hx, RN.cl, RN.nH, fldsN_high _ _ _, h, C, dh, _, _, rfl, hh', R.cl, R.nB, flds_bottom _ _, _, _, rfl, rfl, ⟨en.bl1.mono (by decide), en.bh2.mono (by decide)⟩, _, _, rfl, rfl, ?_⟩
    refine rd_ret ⟨_, rfl, _, rfl, wd, C, dw, _, _, rfl, hw', R.cl, R.nB, flds_bottom _ _, _, _, rfl, rfl, ⟨bA.mono (by decide), b6.mono (by decide)⟩, _, rfl, wd, C, dw, _, _, rfl, hw', R.cl, R.nT, flds_top _ _, _, rfl, x, CN, dx, _, _, rfl, hx, RN.cl, RN.nL, fldsN_low _ _ _, l, C, dl, _, _, rfl, hl', R.cl, R.nB, flds_bottom _ _, _, _, rfl, rfl, ⟨b5.mono (by decide), en.bl2.mono (by decide)⟩, _, rfl, x, CN, dx, _, _, rfl, hx, RN.cl, RN.nH, fldsN_high _ _ _, h, C, dh, _, _, rfl, hh', R.cl, R.nB, flds_bottom _ _, _, _, rfl, rfl, ⟨(b5.mul en.bl2).mono (by decide), en.bh2.mono (by decide)⟩, _, _, rfl, rfl, ?_⟩
    dsimp only
    have e : (h1 * l2 - l1 * h2) * w2 ≤ w1 * l2 * h2 := by rw [Int.mul_assoc w1]; exact c3
    rw [decide_eq_true e]
    exact k H2 t2
--SPLIT
theorem isN_of {kb : Nat} {C CN : Addr} {H : Hp} {x : Addr} {l1 l2 h1 h2 u v w d ε : Int} (hk : kb ≤ 3000) (n : NU kb C CN H x (leastL u v w d) l1 l2 h1 h2 ε (UpW u v w d)) (ol : 0 < v → u * l2 ≤ l1 * w) (oh : v < 0 → h1 * w ≤ u * h2) : ∃ q l h, IsN C CN H x q l h (leastL u v w d) l1 l2 h1 h2 u v w d := by
  obtain ⟨q, l, h, hN, hq, hl, hh, en, ru⟩ := n
  exact ⟨q, l, h, hN, hq, hl, hh, en.mono hk, ru.low, ru.top, ol, oh⟩
/-- what lies within keeps to the side -/
theorem side_low {u w l1 l2 x1 x2 : Int} (hw : 0 < w) (l2p : 0 < l2) (x2p : 0 < x2) (h : u * l2 ≤ l1 * w) (lo : l1 * x2 ≤ x1 * l2) : u * x2 ≤ x1 * w := by
  refine cancel_le l2p ?_
  have h1 := Int.mul_le_mul_of_nonneg_right h (Int.le_of_lt x2p)
  have h2 := Int.mul_le_mul_of_nonneg_right lo (Int.le_of_lt hw)
  have e1 : u * l2 * x2 = u * x2 * l2 := by grind
  have e2 : l1 * w * x2 = l1 * x2 * w := by grind
  have e3 : x1 * l2 * w = x1 * w * l2 := by grind
  omega
theorem side_high {u w h1 h2 y1 y2 : Int} (hw : 0 < w) (h2p : 0 < h2) (y2p : 0 < y2) (h : h1 * w ≤ u * h2) (hi : y1 * h2 ≤ h1 * y2) : y1 * w ≤ u * y2 := by
  refine cancel_le h2p ?_
  have a1 := Int.mul_le_mul_of_nonneg_right h (Int.le_of_lt y2p)
  have a2 := Int.mul_le_mul_of_nonneg_right hi (Int.le_of_lt hw)
  have e1 : u * h2 * y2 = u * y2 * h2 := by grind
  have e2 : h1 * w * y2 = h1 * y2 * w := by grind
  have e3 : y1 * h2 * w = y1 * w * h2 := by grind
  omega
theorem least_ok {u v w d l1 l2 h1 h2 ε : Int} {n1 n2 : Nat} {xss : List (List Int)} (h : NumS (leastL u v w d) l1 l2 h1 h2 ε (UpW u v w d) n1 n2 xss) : Tr (leastL u v w d) ∧ leastL u v w d ≠ [] ∧ (leastL u v w d).length ≤ 12 ∧ AllB 1000 (leastL u v w d) := ⟨h.sr.pln.tr, h.sr.pln.ne, by have := h.sr.l3; omega, h.sr.bits.mono (by decide)⟩
theorem ok_law {C CN f : Addr} {fd : FuncData} (F : Fun K "law" "law" s_law f fd) (T : Txt K mg) (R : RCI K mg C) (RN : NCI K mg CN) {f__law_worth : Addr} {fd__law_worth : FuncData} (C__law_worth : Cal P w K mg base 2 "_law_worth" ["_law_script", "_law_k"] (spWorth K) f__law_worth fd__law_worth) {f__law_span : Addr} {fd__law_span : FuncData} (C__law_span : Cal P w K mg base 4 "_law_span" ["_law_worth_here", "_law_more"] (spSpn C) f__law_span fd__law_span) {f__law_cell_at : Addr} {fd__law_cell_at : FuncData} (C__law_cell_at : Cal P w K mg base 1 "_law_cell_at" ["_law_script", "_law_k"] (spCell K) f__law_cell_at fd__law_cell_at) {f_number : Addr} {fd_number : FuncData} {ds_number : List Value} (C_number : CalE P w K mg base 38 "number" ["row", "low", "high"] (spNb C CN) f_number fd_number ds_number [.non, .non]) {f__law_least : Addr} {fd__law_least : FuncData} (C__law_least : Cal P w K mg base 3 "_law_least" ["_law_worth_here"] spLeast f__law_least fd__law_least) {f_Number : Addr} {fd_Number : FuncData} {ds_Number : List Value} (C_Number : KCal P w K mg base 1 CN "Number" ["self", "row", "low", "high"] (spInitN CN) f_Number fd_Number ds_Number []) {f_Ratio : Addr} {fd_Ratio : FuncData} {ds_Ratio : List Value} (C_Ratio : KCal P w K mg base 2 C "Ratio" ["self", "top", "bottom"] (spInit C) f_Ratio fd_Ratio ds_Ratio [.int 1]) {f_narrow : Addr} {fd_narrow : FuncData} (C_narrow : Cal P w K mg base 8 "narrow" ["one", "width"] (spNrw C CN) f_narrow fd_narrow) {f__law_fits : Addr} {fd__law_fits : FuncData} (C__law_fits : Cal P w K mg base 4 "_law_fits" ["_law_found", "_law_worth_here", "_law_outer", "_law_width"] (spFits C CN) f__law_fits fd__law_fits) {f__law_is : Addr} {fd__law_is : FuncData} (C__law_is : Cal P w K mg base 3 "_law_is" ["_law_found", "_law_worth_here", "_law_due"] (spIs C CN) f__law_is fd__law_is) : FnOk P w K mg base CX0 39 f fd ["_law_script"] (spLaw K) := by
  obtain ⟨G__law_worth, m__law_worth, k__law_worth, b__law_worth⟩ := C__law_worth
  obtain ⟨G__law_span, m__law_span, k__law_span, b__law_span⟩ := C__law_span
  obtain ⟨G__law_cell_at, m__law_cell_at, k__law_cell_at, b__law_cell_at⟩ := C__law_cell_at
  obtain ⟨G_number, m_number, k_number, b_number, bD_number, d_number⟩ := C_number
  obtain ⟨G__law_least, m__law_least, k__law_least, b__law_least⟩ := C__law_least
  obtain ⟨G_Number, M_Number, m_Number, b_Number, bD_Number, d_Number⟩ := C_Number
  obtain ⟨G_Ratio, M_Ratio, m_Ratio, b_Ratio, bD_Ratio, d_Ratio⟩ := C_Ratio
  obtain ⟨G_narrow, m_narrow, k_narrow, b_narrow⟩ := C_narrow
  obtain ⟨G__law_fits, m__law_fits, k__law_fits, b__law_fits⟩ := C__law_fits
  obtain ⟨G__law_is, m__law_is, k__law_is, b__law_is⟩ := C__law_is
  refine F.ok sc_law (fun vs H Q E h => ?_) (fun cdv A outer s H vs Q E hr h => ?_)
  · obtain ⟨a, ns, rfl, _⟩ := h
    rfl
  · obtain ⟨a, ns, rfl, hS, hlen, k⟩ := h
    have big := sizeLine_eq
    have hu2 : (A.deeper (PyProof.Rows.envOfC (Str.ofString "law") (defScope s_law) s.heap.objs.size f cdv)).units + 66 < cLine := by have := hr.un; omega
    refine ⟨_, (pss_cons (ps_set (i := 1) sc_law.nd rfl (Or.inl rfl) (pe_call G__law_worth (hr.mono (by decide)) rfl m__law_worth k__law_worth b__law_worth .nil pass0 (pa_cons (pv 0) (pa_cons pe_int pa_nil))))
      (pss_cons (ps_set (i := 2) sc_law.nd rfl (Or.inl rfl) (pe_call G__law_span (hr.mono (by decide)) rfl m__law_span k__law_span b__law_span .nil pass0 (pa_cons (pv 1) (pa_cons (pe_op op_modP (pe_call G__law_cell_at (hr.mono (by decide)) rfl m__law_cell_at k__law_cell_at b__law_cell_at .nil pass0 (pa_cons (pv 0) (pa_cons pe_int pa_nil))) pe_int) pa_nil))))
      (pss_cons (ps_set (i := 3) sc_law.nd rfl (Or.inl rfl) (pe_call G_number (hr.mono (by decide)) rfl m_number k_number b_number .nil pass0 (pa_cons (pe_call G__law_least (hr.mono (by decide)) rfl m__law_least k__law_least b__law_least .nil pass0 (pa_cons (pv 1) pa_nil)) (pa_cons (pe_ix (ix_tupK (K := K) rfl) (pv 2) pe_int (fun _ _ => rfl)) (pa_cons (pe_ix (ix_tupK (K := K) rfl) (pv 2) pe_int (fun _ _ => rfl)) pa_nil)))))
      (pss_cons (ps_if (pt_cmpR op_eqI (pe_op op_modP (pe_call G__law_cell_at (hr.mono (by decide)) rfl m__law_cell_at k__law_cell_at b__law_cell_at .nil pass0 (pa_cons (pv 0) (pa_cons pe_int pa_nil))) pe_int) pe_int (nomark _))
        (pss_cons (ps_set (i := 4) sc_law.nd rfl (Or.inl rfl) (pe_call G__law_least (hr.mono (by decide)) rfl m__law_least k__law_least b__law_least .nil pass0 (pa_cons (pv 1) pa_nil)))
          (pss_cons (ps_set (i := 3) sc_law.nd rfl (Or.inl rfl) (pe_make M_Number G_Number (hr.mono (by decide)) rfl m_Number b_Number .nil pass0 (pa_cons (pv 4) (pa_cons (pe_ix (ix_tupK (K := K) rfl) (pv 2) pe_int (fun _ _ => rfl)) (pa_cons (pe_ix (ix_tupK (K := K) rfl) (pv 2) pe_int (fun _ _ => rfl)) pa_nil)))))
          (pss_cons (ps_expr (pe_bm PySem.F.plainAttrs_list PySem.F.slot_list_append PySem.F.type_list_append mt_append (pv 4) (pa_cons pe_int pa_nil)))
          (pss_one (ps_asg (pe_op op_add (pe_ix (ix_listK (K := K) rfl) (pv 4) pe_int (fun _ _ => rfl)) pe_int) (pg_sub (pv 4) pe_int set_list))))))
        pss_nil)
      (pss_cons (ps_set (i := 5) sc_law.nd rfl (Or.inl rfl) (pe_tup (pa_cons (pe_fldK (K := K) rfl (pv 3) rfl) (pa_cons (pe_fldK (K := K) rfl (pv 3) rfl) pa_nil))))
      (pss_cons (ps_set (i := 6) sc_law.nd rfl (Or.inl rfl) (pe_call G__law_cell_at (hr.mono (by decide)) rfl m__law_cell_at k__law_cell_at b__law_cell_at .nil pass0 (pa_cons (pv 0) (pa_cons pe_int pa_nil))))
      (pss_cons (ps_set (i := 7) sc_law.nd rfl (Or.inl rfl) (pe_make M_Ratio G_Ratio (hr.mono (by decide)) rfl m_Ratio b_Ratio .nil pass0 (pa_cons (pe_op op_add pe_int (pe_op op_modP (pe_op op_fdivP (pv 6) pe_int) pe_int)) (pa_cons (pe_op op_add pe_int (pe_op op_modP (pe_call G__law_cell_at (hr.mono (by decide)) rfl m__law_cell_at k__law_cell_at b__law_cell_at .nil pass0 (pa_cons (pv 0) (pa_cons pe_int pa_nil))) (pe_ix (ix_listK (K := K) rfl) (pe_lst (pa_cons pe_int (pa_cons (pe_op op_pow pe_int pe_int) (pa_cons (pe_op op_pow pe_int pe_int) pa_nil)))) (pe_op op_modP (pv 6) pe_int) (fun _ _ => rfl)))) pa_nil))))
      (pss_cons (ps_if (pt_cmpR op_eqI (pe_op op_modP (pe_op op_fdivP (pv 6) pe_int) pe_int) pe_int (nomark _))
        (pss_one (ps_set (i := 7) sc_law.nd rfl (Or.inl rfl) (pe_make M_Ratio G_Ratio (hr.mono (by decide)) rfl m_Ratio bD_Ratio d_Ratio pass0 (pa_cons (pe_op op_add pe_int (pe_op op_modP (pv 6) (pe_op op_pow pe_int pe_int))) pa_nil))))
        pss_nil)
      (pss_cons (ps_set (i := 8) sc_law.nd rfl (Or.inl rfl) (pe_make M_Ratio G_Ratio (hr.mono (by decide)) rfl m_Ratio b_Ratio .nil pass0 (pa_cons (pe_fldK (K := K) rfl (pv 7) rfl) (pa_cons (pe_op op_mulB (pe_fldK (K := K) rfl (pv 7) rfl) pe_int) pa_nil))))
      (pss_cons (ps_set (i := 9) sc_law.nd rfl (Or.inl rfl) (pe_call G_narrow (hr.mono (by decide)) rfl m_narrow k_narrow b_narrow .nil pass0 (pa_cons (pv 3) (pa_cons (pv 7) pa_nil))))
      (pss_cons (ps_if (pt_not (pt_val (pe_call G__law_fits (hr.mono (by decide)) rfl m__law_fits k__law_fits b__law_fits .nil pass0 (pa_cons (pv 9) (pa_cons (pv 1) (pa_cons (pv 5) (pa_cons (pv 7) pa_nil)))))))
        (pss_one (ps_ret pe_bl))
        pss_nil)
      (pss_cons (ps_if (pt_not (pt_val (pe_call G__law_fits (hr.mono (by decide)) rfl m__law_fits k__law_fits b__law_fits .nil pass0 (pa_cons (pe_call G_narrow (hr.mono (by decide)) rfl m_narrow k_narrow b_narrow .nil pass0 (pa_cons (pv 9) (pa_cons (pv 8) pa_nil))) (pa_cons (pv 1) (pa_cons (pe_tup (pa_cons (pe_fldK (K := K) rfl (pv 9) rfl) (pa_cons (pe_fldK (K := K) rfl (pv 9) rfl) pa_nil))) (pa_cons (pv 8) pa_nil)))))))
        (pss_one (ps_ret pe_bl))
        pss_nil)
      (pss_cons (ps_if (pt_cmpR (op_neT4K (K := K) rfl hu2) (pe_tup (pa_cons (pe_fldK (K := K) rfl (pe_fldK (K := K) rfl (pv 3) rfl) rfl) (pa_cons (pe_fldK (K := K) rfl (pe_fldK (K := K) rfl (pv 3) rfl) rfl) (pa_cons (pe_fldK (K := K) rfl (pe_fldK (K := K) rfl (pv 3) rfl) rfl) (pa_cons (pe_fldK (K := K) rfl (pe_fldK (K := K) rfl (pv 3) rfl) rfl) pa_nil))))) (pe_tup (pa_cons (pe_fldK (K := K) rfl (pe_ix (ix_tupK (K := K) rfl) (pv 5) pe_int (fun _ _ => rfl)) rfl) (pa_cons (pe_fldK (K := K) rfl (pe_ix (ix_tupK (K := K) rfl) (pv 5) pe_int (fun _ _ => rfl)) rfl) (pa_cons (pe_fldK (K := K) rfl (pe_ix (ix_tupK (K := K) rfl) (pv 5) pe_int (fun _ _ => rfl)) rfl) (pa_cons (pe_fldK (K := K) rfl (pe_ix (ix_tupK (K := K) rfl) (pv 5) pe_int (fun _ _ => rfl)) rfl) pa_nil))))) (nomark _))
        (pss_one (ps_ret pe_bl))
        pss_nil)
      (pss_one (ps_ret (pe_and (pe_call G__law_is (hr.mono (by decide)) rfl m__law_is k__law_is b__law_is .nil pass0 (pa_cons (pv 3) (pa_cons (pv 1) (pa_cons (pe_call G__law_least (hr.mono (by decide)) rfl m__law_least k__law_least b__law_least .nil pass0 (pa_cons (pv 1) pa_nil)) pa_nil)))) (pe_one (pe_call G__law_fits (hr.mono (by decide)) rfl m__law_fits k__law_fits b__law_fits .nil pass0 (pa_cons (pe_call G_narrow (hr.mono (by decide)) rfl m_narrow k_narrow b_narrow .nil pass0 (pa_cons (pv 3) (pa_cons (pv 8) pa_nil))) (pa_cons (pv 1) (pa_cons (pv 5) (pa_cons (pv 8) pa_nil)))))))))))))))))))))), ?_⟩
    refine rd_sa ⟨_, rfl, a, ns, rfl, hS, fun p H1 u v w d s1 hp1 hp hW => ?_⟩
    have hw := hW.w1
    obtain ⟨m0, m1⟩ := mod3 (x := ns.getD 3 0) (m := 60) (by decide)
    refine rd_sa ⟨_, rfl, _, rfl, a, ns, 3, rfl, s1.seq hS, _, _, rfl, rfl, (by show (0 : Int) < 60; decide), p, u, v, w, d, _, rfl, hp, hW, m0, m1, fun t l h H2 l1 l2 h1 h2 s2 ht et hl hh hE => ?_⟩
    have t2 := s1.trans s2
    have hp2 := s2 _ _ hp
    obtain ⟨en, ol, oh, ε, n1, n2, xss, hNS⟩ := worth_num hW m0 m1 hE
    obtain ⟨lT, lne, llen, lbits⟩ := least_ok hNS
    -- the number by number
    refine rd_sa ⟨_, rfl, p, u, v, w, d, rfl, hp2, hW, fun b H3 s3 hb eb => ?_⟩
    have et3 := s3 _ _ et
    refine ⟨_, rfl, t, _, _, _, rfl, rfl, SqT.of et3, rfl, _, rfl, t, _, _, _, rfl, rfl, SqT.of et3, rfl, b, l, h, _, l1, l2, h1, h2, ε, _, n1, n2, xss, rfl, eb, hl.same s3, hh.same s3, hNS, fun x q H4 s4 hx hNA hq hqn => ?_⟩
    have t4 := t2.trans (s3.trans s4)
    have u4 := s3.trans s4
    have et4 := s4 _ _ et3
    have hNU : NU 40 C CN H4 x (leastL u v w d) l1 l2 h1 h2 ε (UpW u v w d) := ⟨q, l, h, hNA, hq, hl.same u4, hh.same u4, en, hNS.ru⟩
    show tSeq _ _ _ _ _
    -- or by hand
    refine rd_cutIf (fun σ' H' => ∃ (z4 : Option V) (x q : Addr), σ' = [some (.ref a), some (.ref p), some (.ref t), some (.ref x), z4, none, none, none, none, none] ∧ Same H2 H' ∧ NA CN H' x q l h ∧ H' q = some (.lst ((leastL u v w d).map V.int))) ?_ ?_
    case refine_2 =>
      intro rest
      refine ⟨_, rfl, a, ns, 4, rfl, t4.seq hS, _, _, rfl, rfl, (by show (0 : Int) < 2; decide), _, _, rfl, rfl, _, rfl, rd_dec (fun _ => ?_) (fun _ => ?_)⟩
      · refine rd_sa ⟨_, rfl, p, u, v, w, d, rfl, u4 _ _ hp2, hW, fun b2 H5 s5 hb2 eb2 => ?_⟩
        have et5 := s5 _ _ et4
        refine rd_sa ⟨_, rfl, _, rfl, t, _, _, _, rfl, rfl, SqT.of et5, rfl, _, rfl, t, _, _, _, rfl, rfl, SqT.of et5, rfl, make_N eb2 fun x2 q2 H6 s6 hx2 hNA2 hq2 hqn2 => ?_⟩
        have eb6 := s6 _ _ eb2
        have f2 : H2 b2 = none := u4.free hb2
        have nq : q2 ≠ b2 := fun z => by rw [z, eb2] at hqn2; cases hqn2
        have nx : x2 ≠ b2 := fun z => by rw [z, eb2] at hx2; cases hx2
        have u6 : Same H2 H6 := u4.trans (s5.trans s6)
        obtain ⟨c0, cs, ec⟩ : ∃ c0 cs, leastL u v w d = c0 :: cs := by
          cases hc : leastL u v w d with
          | nil => exact absurd hc lne
          | cons c0 cs => exact ⟨c0, cs, rfl⟩
        refine rd_sd ⟨_, rfl, .inl ⟨rfl, _, SqL.of eb6⟩, b2, _, _, rfl, rfl, eb6, by rw [List.length_map]; omega, ?_⟩
        have e7 : upd H6 b2 (.lst ((leastL u v w d).map V.int ++ [V.int 1])) b2 = some (.lst (((leastL u v w d) ++ [1]).map V.int)) := by rw [upd_same, List.map_append]; rfl
        have q7 : upd H6 b2 (.lst ((leastL u v w d).map V.int ++ [V.int 1])) q2 = some (.lst ((leastL u v w d).map V.int)) := by rw [upd_ne nq]; exact hq2
        have x7 : NA CN (upd H6 b2 (.lst ((leastL u v w d).map V.int ++ [V.int 1]))) x2 q2 l h := by
          obtain ⟨dx, e⟩ := hNA2
          exact ⟨dx, by rw [upd_ne nx]; exact e⟩
        have s7 : Same H2 (upd H6 b2 (.lst ((leastL u v w d).map V.int ++ [V.int 1]))) := mut_same u6 f2
        generalize upd H6 b2 (.lst ((leastL u v w d).map V.int ++ [V.int 1])) = H7 at e7 q7 x7 s7 ⊢
        have at0 : atI (((leastL u v w d) ++ [1]).map V.int) 0 = some (.int (cf ((leastL u v w d) ++ [1]) 0)) := at_cf (k := 0) rfl (by rw [List.length_append]; show 0 < _ + 1; omega)
        refine ⟨_, rfl, b2, _, _, _, rfl, rfl, SqL.of e7, at0, _, _, rfl, rfl, _, rfl, b2, _, _, 0, rfl, rfl, e7, ixN_nat rfl (by rw [List.length_map, List.length_append]; show 0 < _ + 1; omega), ?_⟩
        refine rest _ _ ⟨some (.ref b2), x2, q2, rfl, mut_same s7 f2, ?_, ?_⟩
        · obtain ⟨dx, e⟩ := x7
          exact ⟨dx, by rw [upd_ne nx]; exact e⟩
        · rw [upd_ne nq]; exact q7
      · exact rest _ _ ⟨none, x, q, rfl, u4, hNA, hq⟩
    clear hNU hq hNA hqn hx et4 u4 t4 s4 et3 s3 eb hb
    rintro σ' H5 ⟨z4, x, q, rfl, u5, hNA, hq⟩
    have t5 := t2.trans u5
    obtain ⟨dx, hx5⟩ := id hNA
    have hNU : NU 40 C CN H5 x (leastL u v w d) l1 l2 h1 h2 ε (UpW u v w d) := ⟨q, l, h, hNA, hq, hl.same u5, hh.same u5, en, hNS.ru⟩
    refine rd_sa ⟨_, rfl, x, CN, dx, _, _, rfl, hx5, RN.cl, RN.nL, fldsN_low _ _ _, _, rfl, x, CN, dx, _, _, rfl, hx5, RN.cl, RN.nH, fldsN_high _ _ _, by show 2 ≤ sizeLine; decide, fun po hpo => ?_⟩
    have s6 : Same H5 (upd H5 po (.tup [V.ref l, V.ref h])) := Same.upd_new hpo
    have eo : upd H5 po (.tup [V.ref l, V.ref h]) po = some (.tup [V.ref l, V.ref h]) := upd_same
    generalize upd H5 po (.tup [V.ref l, V.ref h]) = H6 at s6 eo ⊢
    have t6 := t5.trans s6
    refine rd_sa ⟨_, rfl, a, ns, 5, rfl, t6.seq hS, ?_⟩
    generalize ns.getD 5 0 = c
    -- the width
    refine rd_sa ⟨_, rfl, _, _, rfl, rfl, ⟨by show (0 : Int) < 3; decide, small9 (by decide) (by decide)⟩, _, _, rfl, rfl, (by show (0 : Int) < 99; decide), _, _, rfl, rfl, _, rfl, a, ns, 6, rfl, t6.seq hS, _, _, rfl, rfl, ⟨by decide, by decide, by decide⟩, _, _, rfl, rfl, ⟨by decide, by decide, by decide⟩, by show 3 ≤ sizeLine; decide, fun pw hpw => ?_⟩
    obtain ⟨vz, hvz, evz⟩ := atI_mod (xs := [V.int 10, V.int (10 ^ 9), V.int (10 ^ 58)]) (n := 3) rfl (by decide) c
    obtain ⟨z, rfl, hz0, hz1⟩ : ∃ z : Int, vz = .int z ∧ 10 ≤ z ∧ z ≤ 10 ^ 58 := by
      simp only [List.mem_cons, List.not_mem_nil, or_false] at hvz
      rcases hvz with rfl | rfl | rfl
      · exact ⟨_, rfl, by decide, by decide +kernel⟩
      · exact ⟨_, rfl, by decide +kernel, by decide +kernel⟩
      · exact ⟨_, rfl, by decide +kernel, Int.le_refl _⟩
    have s7 : Same H6 (upd H6 pw (.lst [V.int 10, V.int (10 ^ 9), V.int (10 ^ 58)])) := Same.upd_new hpw
    obtain ⟨r0, r1⟩ := mod3 (x := ns.getD 6 0) (m := z) (by omega)
    obtain ⟨q0, q1⟩ := mod3 (x := c / 3) (m := 99) (by decide)
    have b58 : Bits 200 ((10 : Int) ^ 58) := by show ((10 : Int) ^ 58).natAbs < 2 ^ 200; decide +kernel
    have bB : Bits 201 (1 + ns.getD 6 0 % z) := by
      refine (b58.mono (k := 201) (by decide)).of_le ?_
      omega
    refine ⟨_, rfl, _, _, rfl, rfl, (by show (0 : Int) < 3; decide), pw, _, _, _, rfl, rfl, SqL.of upd_same, evz, _, _, rfl, rfl, (by show (0 : Int) < z; omega), _, _, rfl, rfl, make_R (t := 1 + c / 3 % 99) (b := 1 + ns.getD 6 0 % z) (by omega) (bB.mono (by decide)) fun wd H8 s8 hwd hRW => ?_⟩
    have d0 : 1 + ns.getD 6 0 % z ≠ 0 := by omega
    have hD : 0 < 1 + ns.getD 6 0 % z := by omega
    have hN0 : 0 < 1 + c / 3 % 99 := by omega
    have rtp : ∀ {t b : Int}, 0 < t → 0 < b → 0 < rt t b := fun {t b} ht hb => by
      have := r_cross (t := t) (b := b) (by omega)
      refine cancel_lt hb ?_
      rw [Int.zero_mul, this]; exact Int.mul_pos ht (rb_pos (by omega))
    have bN : Bits 201 (1 + c / 3 % 99) := by
      have : Bits 10 (1 + c / 3 % 99) := by show (1 + c / 3 % 99).natAbs < 2 ^ 10; omega
      exact this.mono (by decide)
    show tSeq _ _ _ _ _
    refine rd_cutIf (fun σ' H' => ∃ (wd : Addr) (w1 w2 : Int), σ' = [some (.ref a), some (.ref p), some (.ref t), some (.ref x), z4, some (.ref po), some (.int c), some (.ref wd), none, none] ∧ Same H6 H' ∧ RA C H' wd w1 w2 ∧ 0 < w1 ∧ 0 < w2 ∧ Bits 201 w1 ∧ Bits 201 w2) ?_ ?_
    case refine_2 =>
      intro rest
      refine ⟨_, rfl, _, _, rfl, rfl, ⟨by show (0 : Int) < 297; decide, small9 (by decide) (by decide)⟩, _, _, rfl, rfl, (by show (0 : Int) < 7; decide), _, _, rfl, rfl, _, rfl, rd_dec (fun _ => ?_) (fun _ => ?_)⟩
      · obtain ⟨e0, e1⟩ := mod3 (x := c) (m := 10 ^ 6) (by decide)
        have bE : Bits 201 (1 + c % 10 ^ 6) := by
          have : Bits 30 (1 + c % 10 ^ 6) := by show (1 + c % 10 ^ 6).natAbs < 2 ^ 30; omega
          exact this.mono (by decide)
        refine rd_asg ⟨_, rfl, _, _, rfl, rfl, ⟨by decide, by decide, by decide⟩, _, _, rfl, rfl, (by show (0 : Int) < 10 ^ 6; decide), _, _, rfl, rfl, make_R (t := 1 + c % 10 ^ 6) (b := 1) (by decide) (b1k (by decide)) fun wd2 H9 s9 hwd2 hRW2 => rest _ _ ⟨wd2, _, _, rfl, (s7.trans s8).trans s9, hRW2, rtp (by omega) (by decide), rb_pos (by decide), rt_bits (by decide) bE, rb_bits (by decide) (b1k (by decide))⟩⟩
      · exact rest _ _ ⟨wd, _, _, rfl, s7.trans s8, hRW, rtp hN0 hD, rb_pos d0, rt_bits d0 bN, rb_bits d0 bB⟩
    clear bN rtp hN0 hD d0 hRW hwd s8 H8 wd bB b58 q0 q1 r0 r1 s7 hz0 hz1 evz hvz hpw
    rintro σ' H8 ⟨wd, w1, w2, rfl, s8, hRW, w1p, w2p, bw1, bw2⟩
    obtain ⟨dw, hw8⟩ := id hRW
    -- the finer width
    have b100 : Bits 7 (100 : Int) := by show (100 : Int).natAbs < 2 ^ 7; decide
    have bf : Bits 208 (w2 * 100) := bw2.mul b100
    have f0 : w2 * 100 ≠ 0 := by omega
    refine rd_sa ⟨_, rfl, wd, C, dw, _, _, rfl, hw8, R.cl, R.nT, flds_top _ _, _, rfl, wd, C, dw, _, _, rfl, hw8, R.cl, R.nB, flds_bottom _ _, _, _, rfl, rfl, ⟨bw2.mono (by decide), b100.mono (by decide)⟩, make_R (t := w1) f0 (bf.mono (by decide)) fun fi H9 s9 hfi hRF => ?_⟩
    have f1p : 0 < rt w1 (w2 * 100) := by
      have := r_cross (t := w1) f0
      refine cancel_lt (c := w2 * 100) (by omega) ?_
      rw [Int.zero_mul, this]; exact Int.mul_pos w1p (rb_pos f0)
    have f2p : 0 < rb w1 (w2 * 100) := rb_pos f0
    have bf1 : Bits 208 (rt w1 (w2 * 100)) := rt_bits f0 (bw1.mono (by decide))
    have bf2 : Bits 208 (rb w1 (w2 * 100)) := rb_bits f0 bf
    generalize rt w1 (w2 * 100) = g1 at *
    generalize rb w1 (w2 * 100) = g2 at *
    have u9 := s6.trans (s8.trans s9)
    have v9 := s8.trans s9
    have t9 := t5.trans u9
    have hp9 := (u5.trans u9) _ _ hp2
    have eo9 := v9 _ _ eo
    have hl9 := hl.same (u5.trans u9)
    have hh9 := hh.same (u5.trans u9)
    have nar0 : ∀ {Hx : Hp} {wx : Addr} {y1 y2 : Int} {kw : Nat}, Same H5 Hx → RA C Hx wx y1 y2 → 0 < y1 → 0 < y2 → Bits kw y1 → Bits kw y2 → kw ≤ 300 → Nrw C CN Hx [.ref x, .ref wx] x wx (leastL u v w d) l1 l2 h1 h2 ε (UpW u v w d) y1 y2 40 kw := fun {Hx wx y1 y2 kw} sx hR p1 p2 c1 c2 hk => ⟨rfl, hNU.same sx, lT, lne, llen, lbits, hR, p1, p2, c1, c2, by decide, by omega, by omega⟩
    refine rd_sa ⟨_, rfl, _, rfl, x, wd, _, l1, l2, h1, h2, ε, _, w1, w2, 40, 201, nar0 u9 (hRW.same s9) w1p w2p bw1 bw2 (by decide), fun y H10 n pl x1 x2 y1 y2 s10 hy hNUy nar => ?_⟩
    have olx : 0 < v → u * x2 ≤ x1 * w := fun vp => side_low hw en.l2p nar.ends.l2p (ol vp) nar.lo
    have ohy : v < 0 → y1 * w ≤ u * y2 := fun vn => side_high hw en.h2p nar.ends.h2p (oh vn) nar.hi
    obtain ⟨qy, ly, hy', iy⟩ := isN_of (by decide) hNUy olx ohy
    have t10 := t9.trans s10
    refine rd_sr (rd_not ⟨_, rfl, _, rfl, _, rfl, _, rfl, y, qy, ly, hy', p, po, l, h, wd, x1, x2, y1, y2, u, v, w, d, l1, l2, h1, h2, w1, w2, rfl, iy, s10 _ _ hp9, hW, s10 _ _ eo9, hl9.same s10, hh9.same s10, (hRW.same s9).same s10, en.bl1.mono (by decide), en.bl2.mono (by decide), en.bh1.mono (by decide), en.bh2.mono (by decide), bw1.mono (by decide), bw2.mono (by decide), nar.lo, nar.hi, nar.wide, fun H11 s11 => ⟨_, rfl, rd_false ?_⟩⟩)
    have w11 := s10.trans s11
    have hNUy11 := hNUy.same s11
    -- narrower still
    refine rd_sr (rd_not ⟨_, rfl, _, rfl, y, fi, _, x1, x2, y1, y2, ε, _, g1, g2, _, 208, ⟨rfl, hNUy11, lT, lne, llen, lbits, hRF.same w11, f1p, f2p, bf1, bf2, by decide, by decide, by decide⟩, fun yy H12 n' pl' x1' x2' y1' y2' s12 hyy hNUz nar' => ?_⟩)
    have w12 := w11.trans s12
    obtain ⟨dy, hy12⟩ := (iy.same (s11.trans s12)).na
    refine ⟨_, rfl, _, rfl, y, CN, dy, _, _, rfl, hy12, RN.cl, RN.nL, fldsN_low _ _ _, _, rfl, y, CN, dy, _, _, rfl, hy12, RN.cl, RN.nH, fldsN_high _ _ _, by show 2 ≤ sizeLine; decide, fun pq hpq => ?_⟩
    have s13 : Same H12 (upd H12 pq (.tup [V.ref ly, V.ref hy'])) := Same.upd_new hpq
    have eq13 : upd H12 pq (.tup [V.ref ly, V.ref hy']) pq = some (.tup [V.ref ly, V.ref hy']) := upd_same
    generalize upd H12 pq (.tup [V.ref ly, V.ref hy']) = H13 at s13 eq13 ⊢
    have w13 := w12.trans s13
    have olz : 0 < v → u * x2' ≤ x1' * w := fun vp => side_low hw nar.ends.l2p nar'.ends.l2p (olx vp) nar'.lo
    have ohz : v < 0 → y1' * w ≤ u * y2' := fun vn => side_high hw nar.ends.h2p nar'.ends.h2p (ohy vn) nar'.hi
    obtain ⟨qz, lz, hz', iz⟩ := isN_of (by decide) (hNUz.same s13) olz ohz
    have iy13 := iy.same ((s11.trans s12).trans s13)
    refine ⟨_, rfl, yy, qz, lz, hz', p, pq, ly, hy', fi, x1', x2', y1', y2', u, v, w, d, x1, x2, y1, y2, g1, g2, rfl, iz, w13 _ _ hp9, hW, eq13, iy13.rl, iy13.rh, hRF.same w13, nar.ends.bl1.mono (by decide), nar.ends.bl2.mono (by decide), nar.ends.bh1.mono (by decide), nar.ends.bh2.mono (by decide), bf1.mono (by decide), bf2.mono (by decide), nar'.lo, nar'.hi, nar'.wide, fun H14 s14 => ⟨_, rfl, rd_false ?_⟩⟩
    have w14 := w13.trans s14
    have hx14 := (u9.trans w14) _ _ hx5
    obtain ⟨dl, hl14⟩ := hl9.same w14
    obtain ⟨dh, hh14⟩ := hh9.same w14
    have eo14 := w14 _ _ eo9
    -- what was handed in is as it was
    refine rd_sr ⟨_, rfl, x, CN, dx, _, _, rfl, hx14, RN.cl, RN.nL, fldsN_low _ _ _, l, C, dl, _, _, rfl, hl14, R.cl, R.nT, flds_top _ _, _, rfl, x, CN, dx, _, _, rfl, hx14, RN.cl, RN.nL, fldsN_low _ _ _, l, C, dl, _, _, rfl, hl14, R.cl, R.nB, flds_bottom _ _, _, rfl, x, CN, dx, _, _, rfl, hx14, RN.cl, RN.nH, fldsN_high _ _ _, h, C, dh, _, _, rfl, hh14, R.cl, R.nT, flds_top _ _, _, rfl, x, CN, dx, _, _, rfl, hx14, RN.cl, RN.nH, fldsN_high _ _ _, h, C, dh, _, _, rfl, hh14, R.cl, R.nB, flds_bottom _ _, by show 4 ≤ sizeLine; decide, fun pa hpa => ?_⟩
    have s15 : Same H14 (upd H14 pa (.tup [V.int l1, V.int l2, V.int h1, V.int h2])) := Same.upd_new hpa
    have ea : upd H14 pa (.tup [V.int l1, V.int l2, V.int h1, V.int h2]) pa = some (.tup [V.int l1, V.int l2, V.int h1, V.int h2]) := upd_same
    generalize upd H14 pa (.tup [V.int l1, V.int l2, V.int h1, V.int h2]) = H15 at s15 ea ⊢
    have eo15 := s15 _ _ eo14
    have hl15 := s15 _ _ hl14
    have hh15 := s15 _ _ hh14
    refine ⟨_, rfl, po, _, _, _, rfl, rfl, SqT.of eo15, rfl, l, C, dl, _, _, rfl, hl15, R.cl, R.nT, flds_top _ _, _, rfl, po, _, _, _, rfl, rfl, SqT.of eo15, rfl, l, C, dl, _, _, rfl, hl15, R.cl, R.nB, flds_bottom _ _, _, rfl, po, _, _, _, rfl, rfl, SqT.of eo15, rfl, h, C, dh, _, _, rfl, hh15, R.cl, R.nT, flds_top _ _, _, rfl, po, _, _, _, rfl, rfl, SqT.of eo15, rfl, h, C, dh, _, _, rfl, hh15, R.cl, R.nB, flds_bottom _ _, by show 4 ≤ sizeLine; decide, fun pb hpb => ?_⟩
    have s16 : Same H15 (upd H15 pb (.tup [V.int l1, V.int l2, V.int h1, V.int h2])) := Same.upd_new hpb
    refine ⟨pa, pb, l1, l2, h1, h2, rfl, rfl, SqT.of (s16 _ _ ea), SqT.of upd_same, _, rfl, rd_false ?_⟩
    generalize upd H15 pb (.tup [V.int l1, V.int l2, V.int h1, V.int h2]) = H16 at s16 ⊢
    have w16 := w14.trans (s15.trans s16)
    have x16 := u9.trans w16
    obtain ⟨qn, ln, hn, iN⟩ := isN_of (by decide) (hNU.same x16) ol oh
    have ll := least_len (u := u) (v := v) (w := w) (d := d)
    refine rd_ret (rd_andV ⟨_, rfl, _, rfl, _, rfl, p, u, v, w, d, rfl, w16 _ _ hp9, hW, fun b H17 s17 hb eb => ?_⟩)
    refine ⟨x, qn, ln, hn, p, b, _, l1, l2, h1, h2, u, v, w, d, rfl, iN.same s17, (w16.trans s17) _ _ hp9, hW, eb, by omega, fun H18 s18 => ⟨_, rfl, rd_true ?_⟩⟩
    have w18 := w16.trans (s17.trans s18)
    refine ⟨_, rfl, _, rfl, x, fi, _, l1, l2, h1, h2, ε, _, g1, g2, 40, 208, nar0 (u9.trans w18) (hRF.same w18) f1p f2p bf1 bf2 (by decide), fun y3 H19 n3 pl3 a1 a2 b1 b2 s19 hy3 hNU3 nar3 => ?_⟩
    have w19 := w18.trans s19
    have ol3 : 0 < v → u * a2 ≤ a1 * w := fun vp => side_low hw en.l2p nar3.ends.l2p (ol vp) nar3.lo
    have oh3 : v < 0 → b1 * w ≤ u * b2 := fun vn => side_high hw en.h2p nar3.ends.h2p (oh vn) nar3.hi
    obtain ⟨q3, ly3, hy3', i3⟩ := isN_of (by decide) hNU3 ol3 oh3
    exact ⟨_, rfl, _, rfl, _, rfl, y3, q3, ly3, hy3', p, po, l, h, fi, a1, a2, b1, b2, u, v, w, d, l1, l2, h1, h2, g1, g2, rfl, i3, w19 _ _ hp9, hW, w19 _ _ eo9, hl9.same w19, hh9.same w19, hRF.same w19, en.bl1.mono (by decide), en.bl2.mono (by decide), en.bh1.mono (by decide), en.bh2.mono (by decide), bf1.mono (by decide), bf2.mono (by decide), nar3.lo, nar3.hi, nar3.wide, fun H20 _ => k _⟩
--SPLIT
end
theorem all_mk {l : PySem.W.OpenLaw} {w : World} {K : PySem.W.Frag} {h : Heap} {mg : Str → Option Value} {fa CC1 CC2 f1 f2 f3 f4 dt4 f5 f6 f7 f8 f9 f10 f11 f12 f13 f14 f15 f16 f17 f18 f19 f20 f21 f22 f23 f24 f25 f26 f27 f28 f29 f30 f31 f32 f33 f34 f35 f36 f37 f38 f39 f40 f41 f42 f43 f44 f45 f46 f47 f48 f49 f50 f51 dt51 f52 f53 f54 f55 f56 f57 f58 f59 f60 f61 f62 f63 f64 f65 f66 f67 f68 f69 : Addr} (X : K.In h) (G : h.Ns mainGlobals mg) (hfa : mg "law" = some (.ref fa))
    {od1 an1 od2 an2 od3 an3 od4 an4 odt4 od5 an5 od6 an6 od7 an7 od8 an8 od9 an9 od10 an10 od11 an11 od12 an12 od13 an13 od14 an14 od15 an15 od16 an16 od17 an17 od18 an18 od19 an19 od20 an20 od21 an21 od22 an22 od23 an23 od24 an24 od25 an25 od26 an26 od27 an27 od28 an28 od29 an29 od30 an30 od31 an31 od32 an32 od33 an33 od34 an34 od35 an35 od36 an36 od37 an37 od38 an38 od39 an39 od40 an40 od41 an41 od42 an42 od43 an43 od44 an44 od45 an45 od46 an46 od47 an47 od48 an48 od49 an49 od50 an50 od51 an51 odt51 od52 an52 od53 an53 od54 an54 od55 an55 od56 an56 od57 an57 od58 an58 od59 an59 od60 an60 od61 an61 od62 an62 od63 an63 od64 an64 od65 an65 od66 an66 od67 an67 od68 an68 od69 an69 : Option Addr} {sl1 sl2 sl3 sl4 slt4 sl5 sl6 sl7 sl8 sl9 sl10 sl11 sl12 sl13 sl14 sl15 sl16 sl17 sl18 sl19 sl20 sl21 sl22 sl23 sl24 sl25 sl26 sl27 sl28 sl29 sl30 sl31 sl32 sl33 sl34 sl35 sl36 sl37 sl38 sl39 sl40 sl41 sl42 sl43 sl44 sl45 sl46 sl47 sl48 sl49 sl50 sl51 slt51 sl52 sl53 sl54 sl55 sl56 sl57 sl58 sl59 sl60 sl61 sl62 sl63 sl64 sl65 sl66 sl67 sl68 sl69 : Array (Option Value)} {oc1 kV1 dc1 pm1 cd1 ct1 oc2 kV2 dc2 pm2 cd2 ct2 oc3 kV3 dc3 pm3 cd3 ct3 oc4 kV4 dc4 pm4 cd4 ct4 oct4 oc5 kV5 dc5 pm5 cd5 ct5 oc6 kV6 dc6 pm6 cd6 ct6 oc7 kV7 dc7 pm7 cd7 ct7 oc8 kV8 dc8 pm8 cd8 ct8 oc9 kV9 dc9 pm9 cd9 ct9 oc10 kV10 dc10 pm10 cd10 ct10 oc11 kV11 dc11 pm11 cd11 ct11 oc12 kV12 dc12 pm12 cd12 ct12 oc13 kV13 dc13 pm13 cd13 ct13 oc14 kV14 dc14 pm14 cd14 ct14 oc15 kV15 dc15 pm15 cd15 ct15 oc16 kV16 dc16 pm16 cd16 ct16 oc17 kV17 dc17 pm17 cd17 ct17 oc18 kV18 dc18 pm18 cd18 ct18 oc19 kV19 dc19 pm19 cd19 ct19 oc20 kV20 dc20 pm20 cd20 ct20 oc21 kV21 dc21 pm21 cd21 ct21 oc22 kV22 dc22 pm22 cd22 ct22 oc23 kV23 dc23 pm23 cd23 ct23 oc24 kV24 dc24 pm24 cd24 ct24 oc25 kV25 dc25 pm25 cd25 ct25 oc26 kV26 dc26 pm26 cd26 ct26 oc27 kV27 dc27 pm27 cd27 ct27 oc28 kV28 dc28 pm28 cd28 ct28 oc29 kV29 dc29 pm29 cd29 ct29 oc30 kV30 dc30 pm30 cd30 ct30 oc31 kV31 dc31 pm31 cd31 ct31 oc32 kV32 dc32 pm32 cd32 ct32 oc33 kV33 dc33 pm33 cd33 ct33 oc34 kV34 dc34 pm34 cd34 ct34 oc35 kV35 dc35 pm35 cd35 ct35 oc36 kV36 dc36 pm36 cd36 ct36 oc37 kV37 dc37 pm37 cd37 ct37 oc38 kV38 dc38 pm38 cd38 ct38 oc39 kV39 dc39 pm39 cd39 ct39 oc40 kV40 dc40 pm40 cd40 ct40 oc41 kV41 dc41 pm41 cd41 ct41 oc42 kV42 dc42 pm42 cd42 ct42 oc43 kV43 dc43 pm43 cd43 ct43 oc44 kV44 dc44 pm44 cd44 ct44 oc45 kV45 dc45 pm45 cd45 ct45 oc46 kV46 dc46 pm46 cd46 ct46 oc47 kV47 dc47 pm47 cd47 ct47 oc48 kV48 dc48 pm48 cd48 ct48 oc49 kV49 dc49 pm49 cd49 ct49 oc50 kV50 dc50 pm50 cd50 ct50 oc51 kV51 dc51 pm51 cd51 ct51 oct51 oc52 kV52 dc52 pm52 cd52 ct52 oc53 kV53 dc53 pm53 cd53 ct53 oc54 kV54 dc54 pm54 cd54 ct54 oc55 kV55 dc55 pm55 cd55 ct55 oc56 kV56 dc56 pm56 cd56 ct56 oc57 kV57 dc57 pm57 cd57 ct57 oc58 kV58 dc58 pm58 cd58 ct58 oc59 kV59 dc59 pm59 cd59 ct59 oc60 kV60 dc60 pm60 cd60 ct60 oc61 kV61 dc61 pm61 cd61 ct61 oc62 kV62 dc62 pm62 cd62 ct62 oc63 kV63 dc63 pm63 cd63 ct63 oc64 kV64 dc64 pm64 cd64 ct64 oc65 kV65 dc65 pm65 cd65 ct65 oc66 kV66 dc66 pm66 cd66 ct66 oc67 kV67 dc67 pm67 cd67 ct67 oc68 kV68 dc68 pm68 cd68 ct68 oc69 kV69 dc69 pm69 cd69 ct69 : Value} {nt4 : Nat} {tk4_0 : Tok} {nt51 : Nat} {tk_HIGHEST : Tok}
    (aC1 : PySem.W.nsIn K mainGlobals "Ratio" = some (some (.ref CC1)))
    (pg1 : PySem.W.plainGet K CC1 Str.empty = true)
    (hd1 : PySem.W.hasDictIn K CC1 = true)
    (po1 : PySem.W.plainOver K CC1 = true)
    (sa1 : PySem.W.findIn K (.ref CC1) "__setattr__" = some (some (.builtin "object.__setattr__")))
    (mk1 : PySem.W.makesIn K CC1 = true)
    (kc1 : PySem.W.keepIn K (.ref CC1) = true)
    (n1_top : PySem.W.findIn K (.ref CC1) "top" = some none)
    (n1_bottom : PySem.W.findIn K (.ref CC1) "bottom" = some none)
    (ha1 : PySem.W.findIn K (.ref CC1) "__class__" = some (some (.builtin "object.__class__")))
    (hn1 : PySem.W.specialIn K (.builtin "object.__class__") "__get__" = some (some (.builtin "getset_descriptor.__get__")))
    (ht1 : PySem.W.takesIn K (.builtin "object.__class__") = some true)
    (hm1 : PySem.W.mroIn K CC1 (.type "object") = some true)
    (aC2 : PySem.W.nsIn K mainGlobals "Number" = some (some (.ref CC2)))
    (pg2 : PySem.W.plainGet K CC2 Str.empty = true)
    (hd2 : PySem.W.hasDictIn K CC2 = true)
    (po2 : PySem.W.plainOver K CC2 = true)
    (sa2 : PySem.W.findIn K (.ref CC2) "__setattr__" = some (some (.builtin "object.__setattr__")))
    (mk2 : PySem.W.makesIn K CC2 = true)
    (kc2 : PySem.W.keepIn K (.ref CC2) = true)
    (n2_poly : PySem.W.findIn K (.ref CC2) "poly" = some none)
    (n2_low : PySem.W.findIn K (.ref CC2) "low" = some none)
    (n2_high : PySem.W.findIn K (.ref CC2) "high" = some none)
    (ha2 : PySem.W.findIn K (.ref CC2) "__class__" = some (some (.builtin "object.__class__")))
    (hn2 : PySem.W.specialIn K (.builtin "object.__class__") "__get__" = some (some (.builtin "getset_descriptor.__get__")))
    (ht2 : PySem.W.takesIn K (.builtin "object.__class__") = some true)
    (hm2 : PySem.W.mroIn K CC2 (.type "object") = some true)
    (a1 : PySem.W.nsIn K mainGlobals "shared_by_two" = some (some (.ref f1)))
    (l1 : K.lookup f1 = some ⟨oc1, od1, .func (PySem.W.fnOf "shared_by_two" "shared_by_two" (defArgs s_shared_by_two) (defBody s_shared_by_two) (defScope s_shared_by_two) .none kV1 dc1 pm1 an1 cd1 ct1), sl1⟩) (c1 : PySem.W.codeIn K cd1 "shared_by_two" = true) (k1 : PySem.W.keepIn K (.ref f1) = true)
    (a2 : PySem.W.nsIn K mainGlobals "shared" = some (some (.ref f2)))
    (l2 : K.lookup f2 = some ⟨oc2, od2, .func (PySem.W.fnOf "shared" "shared" (defArgs s_shared) (defBody s_shared) (defScope s_shared) .none kV2 dc2 pm2 an2 cd2 ct2), sl2⟩) (c2 : PySem.W.codeIn K cd2 "shared" = true) (k2 : PySem.W.keepIn K (.ref f2) = true)
    (a3 : PySem.W.nsIn K mainGlobals "whole_sign" = some (some (.ref f3)))
    (l3 : K.lookup f3 = some ⟨oc3, od3, .func (PySem.W.fnOf "whole_sign" "whole_sign" (defArgs s_whole_sign) (defBody s_whole_sign) (defScope s_whole_sign) .none kV3 dc3 pm3 an3 cd3 ct3), sl3⟩) (c3 : PySem.W.codeIn K cd3 "whole_sign" = true) (k3 : PySem.W.keepIn K (.ref f3) = true)
    (a4 : PySem.W.findIn K (.ref CC1) "__init__" = some (some (.ref f4))) (i4 : PySem.W.isFn K (.ref f4) = true)
    (l4 : K.lookup f4 = some ⟨oc4, od4, .func (PySem.W.fnOf "__init__" "Ratio.__init__" (defArgs s_Ratio___init__) (defBody s_Ratio___init__) (defScope s_Ratio___init__) (.ref dt4) kV4 dc4 pm4 an4 cd4 ct4), sl4⟩) (c4 : PySem.W.codeIn K cd4 "Ratio.__init__" = true) (k4 : PySem.W.keepIn K (.ref f4) = true)
    (t4 : K.lookup dt4 = some ⟨oct4, odt4, .seq #[.int 1 tk4_0] nt4, slt4⟩)
    (a5 : PySem.W.findIn K (.ref CC1) "against" = some (some (.ref f5))) (i5 : PySem.W.isFn K (.ref f5) = true)
    (l5 : K.lookup f5 = some ⟨oc5, od5, .func (PySem.W.fnOf "against" "Ratio.against" (defArgs s_Ratio_against) (defBody s_Ratio_against) (defScope s_Ratio_against) .none kV5 dc5 pm5 an5 cd5 ct5), sl5⟩) (c5 : PySem.W.codeIn K cd5 "Ratio.against" = true) (k5 : PySem.W.keepIn K (.ref f5) = true)
    (a6 : PySem.W.nsIn K mainGlobals "poly" = some (some (.ref f6)))
    (l6 : K.lookup f6 = some ⟨oc6, od6, .func (PySem.W.fnOf "poly" "poly" (defArgs s_poly) (defBody s_poly) (defScope s_poly) .none kV6 dc6 pm6 an6 cd6 ct6), sl6⟩) (c6 : PySem.W.codeIn K cd6 "poly" = true) (k6 : PySem.W.keepIn K (.ref f6) = true)
    (a7 : PySem.W.nsIn K mainGlobals "degree" = some (some (.ref f7)))
    (l7 : K.lookup f7 = some ⟨oc7, od7, .func (PySem.W.fnOf "degree" "degree" (defArgs s_degree) (defBody s_degree) (defScope s_degree) .none kV7 dc7 pm7 an7 cd7 ct7), sl7⟩) (c7 : PySem.W.codeIn K cd7 "degree" = true) (k7 : PySem.W.keepIn K (.ref f7) = true)
    (a8 : PySem.W.nsIn K mainGlobals "coefficient" = some (some (.ref f8)))
    (l8 : K.lookup f8 = some ⟨oc8, od8, .func (PySem.W.fnOf "coefficient" "coefficient" (defArgs s_coefficient) (defBody s_coefficient) (defScope s_coefficient) .none kV8 dc8 pm8 an8 cd8 ct8), sl8⟩) (c8 : PySem.W.codeIn K cd8 "coefficient" = true) (k8 : PySem.W.keepIn K (.ref f8) = true)
    (a9 : PySem.W.nsIn K mainGlobals "taken" = some (some (.ref f9)))
    (l9 : K.lookup f9 = some ⟨oc9, od9, .func (PySem.W.fnOf "taken" "taken" (defArgs s_taken) (defBody s_taken) (defScope s_taken) .none kV9 dc9 pm9 an9 cd9 ct9), sl9⟩) (c9 : PySem.W.codeIn K cd9 "taken" = true) (k9 : PySem.W.keepIn K (.ref f9) = true)
    (a10 : PySem.W.nsIn K mainGlobals "slope" = some (some (.ref f10)))
    (l10 : K.lookup f10 = some ⟨oc10, od10, .func (PySem.W.fnOf "slope" "slope" (defArgs s_slope) (defBody s_slope) (defScope s_slope) .none kV10 dc10 pm10 an10 cd10 ct10), sl10⟩) (c10 : PySem.W.codeIn K cd10 "slope" = true) (k10 : PySem.W.keepIn K (.ref f10) = true)
    (a11 : PySem.W.nsIn K mainGlobals "shrunk" = some (some (.ref f11)))
    (l11 : K.lookup f11 = some ⟨oc11, od11, .func (PySem.W.fnOf "shrunk" "shrunk" (defArgs s_shrunk) (defBody s_shrunk) (defScope s_shrunk) .none kV11 dc11 pm11 an11 cd11 ct11), sl11⟩) (c11 : PySem.W.codeIn K cd11 "shrunk" = true) (k11 : PySem.W.keepIn K (.ref f11) = true)
    (a12 : PySem.W.nsIn K mainGlobals "plain" = some (some (.ref f12)))
    (l12 : K.lookup f12 = some ⟨oc12, od12, .func (PySem.W.fnOf "plain" "plain" (defArgs s_plain) (defBody s_plain) (defScope s_plain) .none kV12 dc12 pm12 an12 cd12 ct12), sl12⟩) (c12 : PySem.W.codeIn K cd12 "plain" = true) (k12 : PySem.W.keepIn K (.ref f12) = true)
    (a13 : PySem.W.nsIn K mainGlobals "scaled" = some (some (.ref f13)))
    (l13 : K.lookup f13 = some ⟨oc13, od13, .func (PySem.W.fnOf "scaled" "scaled" (defArgs s_scaled) (defBody s_scaled) (defScope s_scaled) .none kV13 dc13 pm13 an13 cd13 ct13), sl13⟩) (c13 : PySem.W.codeIn K cd13 "scaled" = true) (k13 : PySem.W.keepIn K (.ref f13) = true)
    (a14 : PySem.W.nsIn K mainGlobals "lowered" = some (some (.ref f14)))
    (l14 : K.lookup f14 = some ⟨oc14, od14, .func (PySem.W.fnOf "lowered" "lowered" (defArgs s_lowered) (defBody s_lowered) (defScope s_lowered) .none kV14 dc14 pm14 an14 cd14 ct14), sl14⟩) (c14 : PySem.W.codeIn K cd14 "lowered" = true) (k14 : PySem.W.keepIn K (.ref f14) = true)
    (a15 : PySem.W.nsIn K mainGlobals "divided" = some (some (.ref f15)))
    (l15 : K.lookup f15 = some ⟨oc15, od15, .func (PySem.W.fnOf "divided" "divided" (defArgs s_divided) (defBody s_divided) (defScope s_divided) .none kV15 dc15 pm15 an15 cd15 ct15), sl15⟩) (c15 : PySem.W.codeIn K cd15 "divided" = true) (k15 : PySem.W.keepIn K (.ref f15) = true)
    (a16 : PySem.W.nsIn K mainGlobals "value_parts" = some (some (.ref f16)))
    (l16 : K.lookup f16 = some ⟨oc16, od16, .func (PySem.W.fnOf "value_parts" "value_parts" (defArgs s_value_parts) (defBody s_value_parts) (defScope s_value_parts) .none kV16 dc16 pm16 an16 cd16 ct16), sl16⟩) (c16 : PySem.W.codeIn K cd16 "value_parts" = true) (k16 : PySem.W.keepIn K (.ref f16) = true)
    (a17 : PySem.W.nsIn K mainGlobals "sign_at" = some (some (.ref f17)))
    (l17 : K.lookup f17 = some ⟨oc17, od17, .func (PySem.W.fnOf "sign_at" "sign_at" (defArgs s_sign_at) (defBody s_sign_at) (defScope s_sign_at) .none kV17 dc17 pm17 an17 cd17 ct17), sl17⟩) (c17 : PySem.W.codeIn K cd17 "sign_at" = true) (k17 : PySem.W.keepIn K (.ref f17) = true)
    (a18 : PySem.W.nsIn K mainGlobals "row_from" = some (some (.ref f18)))
    (l18 : K.lookup f18 = some ⟨oc18, od18, .func (PySem.W.fnOf "row_from" "row_from" (defArgs s_row_from) (defBody s_row_from) (defScope s_row_from) .none kV18 dc18 pm18 an18 cd18 ct18), sl18⟩) (c18 : PySem.W.codeIn K cd18 "row_from" = true) (k18 : PySem.W.keepIn K (.ref f18) = true)
    (a19 : PySem.W.nsIn K mainGlobals "row_of" = some (some (.ref f19)))
    (l19 : K.lookup f19 = some ⟨oc19, od19, .func (PySem.W.fnOf "row_of" "row_of" (defArgs s_row_of) (defBody s_row_of) (defScope s_row_of) .none kV19 dc19 pm19 an19 cd19 ct19), sl19⟩) (c19 : PySem.W.codeIn K cd19 "row_of" = true) (k19 : PySem.W.keepIn K (.ref f19) = true)
    (a20 : PySem.W.nsIn K mainGlobals "changes" = some (some (.ref f20)))
    (l20 : K.lookup f20 = some ⟨oc20, od20, .func (PySem.W.fnOf "changes" "changes" (defArgs s_changes) (defBody s_changes) (defScope s_changes) .none kV20 dc20 pm20 an20 cd20 ct20), sl20⟩) (c20 : PySem.W.codeIn K cd20 "changes" = true) (k20 : PySem.W.keepIn K (.ref f20) = true)
    (a21 : PySem.W.nsIn K mainGlobals "count" = some (some (.ref f21)))
    (l21 : K.lookup f21 = some ⟨oc21, od21, .func (PySem.W.fnOf "count" "count" (defArgs s_count) (defBody s_count) (defScope s_count) .none kV21 dc21 pm21 an21 cd21 ct21), sl21⟩) (c21 : PySem.W.codeIn K cd21 "count" = true) (k21 : PySem.W.keepIn K (.ref f21) = true)
    (a22 : PySem.W.nsIn K mainGlobals "bound" = some (some (.ref f22)))
    (l22 : K.lookup f22 = some ⟨oc22, od22, .func (PySem.W.fnOf "bound" "bound" (defArgs s_bound) (defBody s_bound) (defScope s_bound) .none kV22 dc22 pm22 an22 cd22 ct22), sl22⟩) (c22 : PySem.W.codeIn K cd22 "bound" = true) (k22 : PySem.W.keepIn K (.ref f22) = true)
    (a23 : PySem.W.nsIn K mainGlobals "common" = some (some (.ref f23)))
    (l23 : K.lookup f23 = some ⟨oc23, od23, .func (PySem.W.fnOf "common" "common" (defArgs s_common) (defBody s_common) (defScope s_common) .none kV23 dc23 pm23 an23 cd23 ct23), sl23⟩) (c23 : PySem.W.codeIn K cd23 "common" = true) (k23 : PySem.W.keepIn K (.ref f23) = true)
    (a24 : PySem.W.nsIn K mainGlobals "part" = some (some (.ref f24)))
    (l24 : K.lookup f24 = some ⟨oc24, od24, .func (PySem.W.fnOf "part" "part" (defArgs s_part) (defBody s_part) (defScope s_part) .none kV24 dc24 pm24 an24 cd24 ct24), sl24⟩) (c24 : PySem.W.codeIn K cd24 "part" = true) (k24 : PySem.W.keepIn K (.ref f24) = true)
    (a25 : PySem.W.nsIn K mainGlobals "refuse_high" = some (some (.ref f25)))
    (l25 : K.lookup f25 = some ⟨oc25, od25, .func (PySem.W.fnOf "refuse_high" "refuse_high" (defArgs s_refuse_high) (defBody s_refuse_high) (defScope s_refuse_high) .none kV25 dc25 pm25 an25 cd25 ct25), sl25⟩) (c25 : PySem.W.codeIn K cd25 "refuse_high" = true) (k25 : PySem.W.keepIn K (.ref f25) = true)
    (a26 : PySem.W.nsIn K mainGlobals "without_squares" = some (some (.ref f26)))
    (l26 : K.lookup f26 = some ⟨oc26, od26, .func (PySem.W.fnOf "without_squares" "without_squares" (defArgs s_without_squares) (defBody s_without_squares) (defScope s_without_squares) .none kV26 dc26 pm26 an26 cd26 ct26), sl26⟩) (c26 : PySem.W.codeIn K cd26 "without_squares" = true) (k26 : PySem.W.keepIn K (.ref f26) = true)
    (a27 : PySem.W.findIn K (.ref CC2) "__init__" = some (some (.ref f27))) (i27 : PySem.W.isFn K (.ref f27) = true)
    (l27 : K.lookup f27 = some ⟨oc27, od27, .func (PySem.W.fnOf "__init__" "Number.__init__" (defArgs s_Number___init__) (defBody s_Number___init__) (defScope s_Number___init__) .none kV27 dc27 pm27 an27 cd27 ct27), sl27⟩) (c27 : PySem.W.codeIn K cd27 "Number.__init__" = true) (k27 : PySem.W.keepIn K (.ref f27) = true)
    (a28 : PySem.W.nsIn K mainGlobals "fine_width" = some (some (.ref f28)))
    (l28 : K.lookup f28 = some ⟨oc28, od28, .func (PySem.W.fnOf "fine_width" "fine_width" (defArgs s_fine_width) (defBody s_fine_width) (defScope s_fine_width) .none kV28 dc28 pm28 an28 cd28 ct28), sl28⟩) (c28 : PySem.W.codeIn K cd28 "fine_width" = true) (k28 : PySem.W.keepIn K (.ref f28) = true)
    (a29 : PySem.W.findIn K (.ref CC1) "floor" = some (some (.ref f29))) (i29 : PySem.W.isFn K (.ref f29) = true)
    (l29 : K.lookup f29 = some ⟨oc29, od29, .func (PySem.W.fnOf "floor" "Ratio.floor" (defArgs s_Ratio_floor) (defBody s_Ratio_floor) (defScope s_Ratio_floor) .none kV29 dc29 pm29 an29 cd29 ct29), sl29⟩) (c29 : PySem.W.codeIn K cd29 "Ratio.floor" = true) (k29 : PySem.W.keepIn K (.ref f29) = true)
    (a30 : PySem.W.nsIn K mainGlobals "cells" = some (some (.ref f30)))
    (l30 : K.lookup f30 = some ⟨oc30, od30, .func (PySem.W.fnOf "cells" "cells" (defArgs s_cells) (defBody s_cells) (defScope s_cells) .none kV30 dc30 pm30 an30 cd30 ct30), sl30⟩) (c30 : PySem.W.codeIn K cd30 "cells" = true) (k30 : PySem.W.keepIn K (.ref f30) = true)
    (a31 : PySem.W.nsIn K mainGlobals "square_of" = some (some (.ref f31)))
    (l31 : K.lookup f31 = some ⟨oc31, od31, .func (PySem.W.fnOf "square_of" "square_of" (defArgs s_square_of) (defBody s_square_of) (defScope s_square_of) .none kV31 dc31 pm31 an31 cd31 ct31), sl31⟩) (c31 : PySem.W.codeIn K cd31 "square_of" = true) (k31 : PySem.W.keepIn K (.ref f31) = true)
    (a32 : PySem.W.nsIn K mainGlobals "divides" = some (some (.ref f32)))
    (l32 : K.lookup f32 = some ⟨oc32, od32, .func (PySem.W.fnOf "divides" "divides" (defArgs s_divides) (defBody s_divides) (defScope s_divides) .none kV32 dc32 pm32 an32 cd32 ct32), sl32⟩) (c32 : PySem.W.codeIn K cd32 "divides" = true) (k32 : PySem.W.keepIn K (.ref f32) = true)
    (a33 : PySem.W.nsIn K mainGlobals "added" = some (some (.ref f33)))
    (l33 : K.lookup f33 = some ⟨oc33, od33, .func (PySem.W.fnOf "added" "added" (defArgs s_added) (defBody s_added) (defScope s_added) .none kV33 dc33 pm33 an33 cd33 ct33), sl33⟩) (c33 : PySem.W.codeIn K cd33 "added" = true) (k33 : PySem.W.keepIn K (.ref f33) = true)
    (a34 : PySem.W.nsIn K mainGlobals "multiplied" = some (some (.ref f34)))
    (l34 : K.lookup f34 = some ⟨oc34, od34, .func (PySem.W.fnOf "multiplied" "multiplied" (defArgs s_multiplied) (defBody s_multiplied) (defScope s_multiplied) .none kV34 dc34 pm34 an34 cd34 ct34), sl34⟩) (c34 : PySem.W.codeIn K cd34 "multiplied" = true) (k34 : PySem.W.keepIn K (.ref f34) = true)
    (a35 : PySem.W.findIn K (.ref CC1) "plus" = some (some (.ref f35))) (i35 : PySem.W.isFn K (.ref f35) = true)
    (l35 : K.lookup f35 = some ⟨oc35, od35, .func (PySem.W.fnOf "plus" "Ratio.plus" (defArgs s_Ratio_plus) (defBody s_Ratio_plus) (defScope s_Ratio_plus) .none kV35 dc35 pm35 an35 cd35 ct35), sl35⟩) (c35 : PySem.W.codeIn K cd35 "Ratio.plus" = true) (k35 : PySem.W.keepIn K (.ref f35) = true)
    (a36 : PySem.W.findIn K (.ref CC1) "minus" = some (some (.ref f36))) (i36 : PySem.W.isFn K (.ref f36) = true)
    (l36 : K.lookup f36 = some ⟨oc36, od36, .func (PySem.W.fnOf "minus" "Ratio.minus" (defArgs s_Ratio_minus) (defBody s_Ratio_minus) (defScope s_Ratio_minus) .none kV36 dc36 pm36 an36 cd36 ct36), sl36⟩) (c36 : PySem.W.codeIn K cd36 "Ratio.minus" = true) (k36 : PySem.W.keepIn K (.ref f36) = true)
    (a37 : PySem.W.findIn K (.ref CC1) "times" = some (some (.ref f37))) (i37 : PySem.W.isFn K (.ref f37) = true)
    (l37 : K.lookup f37 = some ⟨oc37, od37, .func (PySem.W.fnOf "times" "Ratio.times" (defArgs s_Ratio_times) (defBody s_Ratio_times) (defScope s_Ratio_times) .none kV37 dc37 pm37 an37 cd37 ct37), sl37⟩) (c37 : PySem.W.codeIn K cd37 "Ratio.times" = true) (k37 : PySem.W.keepIn K (.ref f37) = true)
    (a38 : PySem.W.nsIn K mainGlobals "times_floor" = some (some (.ref f38)))
    (l38 : K.lookup f38 = some ⟨oc38, od38, .func (PySem.W.fnOf "times_floor" "times_floor" (defArgs s_times_floor) (defBody s_times_floor) (defScope s_times_floor) .none kV38 dc38 pm38 an38 cd38 ct38), sl38⟩) (c38 : PySem.W.codeIn K cd38 "times_floor" = true) (k38 : PySem.W.keepIn K (.ref f38) = true)
    (a39 : PySem.W.nsIn K mainGlobals "line_of" = some (some (.ref f39)))
    (l39 : K.lookup f39 = some ⟨oc39, od39, .func (PySem.W.fnOf "line_of" "line_of" (defArgs s_line_of) (defBody s_line_of) (defScope s_line_of) .none kV39 dc39 pm39 an39 cd39 ct39), sl39⟩) (c39 : PySem.W.codeIn K cd39 "line_of" = true) (k39 : PySem.W.keepIn K (.ref f39) = true)
    (a40 : PySem.W.nsIn K mainGlobals "halvings" = some (some (.ref f40)))
    (l40 : K.lookup f40 = some ⟨oc40, od40, .func (PySem.W.fnOf "halvings" "halvings" (defArgs s_halvings) (defBody s_halvings) (defScope s_halvings) .none kV40 dc40 pm40 an40 cd40 ct40), sl40⟩) (c40 : PySem.W.codeIn K cd40 "halvings" = true) (k40 : PySem.W.keepIn K (.ref f40) = true)
    (a41 : PySem.W.nsIn K mainGlobals "stretched" = some (some (.ref f41)))
    (l41 : K.lookup f41 = some ⟨oc41, od41, .func (PySem.W.fnOf "stretched" "stretched" (defArgs s_stretched) (defBody s_stretched) (defScope s_stretched) .none kV41 dc41 pm41 an41 cd41 ct41), sl41⟩) (c41 : PySem.W.codeIn K cd41 "stretched" = true) (k41 : PySem.W.keepIn K (.ref f41) = true)
    (a42 : PySem.W.nsIn K mainGlobals "spread" = some (some (.ref f42)))
    (l42 : K.lookup f42 = some ⟨oc42, od42, .func (PySem.W.fnOf "spread" "spread" (defArgs s_spread) (defBody s_spread) (defScope s_spread) .none kV42 dc42 pm42 an42 cd42 ct42), sl42⟩) (c42 : PySem.W.codeIn K cd42 "spread" = true) (k42 : PySem.W.keepIn K (.ref f42) = true)
    (a43 : PySem.W.nsIn K mainGlobals "moved" = some (some (.ref f43)))
    (l43 : K.lookup f43 = some ⟨oc43, od43, .func (PySem.W.fnOf "moved" "moved" (defArgs s_moved) (defBody s_moved) (defScope s_moved) .none kV43 dc43 pm43 an43 cd43 ct43), sl43⟩) (c43 : PySem.W.codeIn K cd43 "moved" = true) (k43 : PySem.W.keepIn K (.ref f43) = true)
    (a44 : PySem.W.nsIn K mainGlobals "halved" = some (some (.ref f44)))
    (l44 : K.lookup f44 = some ⟨oc44, od44, .func (PySem.W.fnOf "halved" "halved" (defArgs s_halved) (defBody s_halved) (defScope s_halved) .none kV44 dc44 pm44 an44 cd44 ct44), sl44⟩) (c44 : PySem.W.codeIn K cd44 "halved" = true) (k44 : PySem.W.keepIn K (.ref f44) = true)
    (a45 : PySem.W.nsIn K mainGlobals "along" = some (some (.ref f45)))
    (l45 : K.lookup f45 = some ⟨oc45, od45, .func (PySem.W.fnOf "along" "along" (defArgs s_along) (defBody s_along) (defScope s_along) .none kV45 dc45 pm45 an45 cd45 ct45), sl45⟩) (c45 : PySem.W.codeIn K cd45 "along" = true) (k45 : PySem.W.keepIn K (.ref f45) = true)
    (a46 : PySem.W.nsIn K mainGlobals "narrowed" = some (some (.ref f46)))
    (l46 : K.lookup f46 = some ⟨oc46, od46, .func (PySem.W.fnOf "narrowed" "narrowed" (defArgs s_narrowed) (defBody s_narrowed) (defScope s_narrowed) .none kV46 dc46 pm46 an46 cd46 ct46), sl46⟩) (c46 : PySem.W.codeIn K cd46 "narrowed" = true) (k46 : PySem.W.keepIn K (.ref f46) = true)
    (a47 : PySem.W.nsIn K mainGlobals "many_within" = some (some (.ref f47)))
    (l47 : K.lookup f47 = some ⟨oc47, od47, .func (PySem.W.fnOf "many_within" "many_within" (defArgs s_many_within) (defBody s_many_within) (defScope s_many_within) .none kV47 dc47 pm47 an47 cd47 ct47), sl47⟩) (c47 : PySem.W.codeIn K cd47 "many_within" = true) (k47 : PySem.W.keepIn K (.ref f47) = true)
    (a48 : PySem.W.nsIn K mainGlobals "refuse_great" = some (some (.ref f48)))
    (l48 : K.lookup f48 = some ⟨oc48, od48, .func (PySem.W.fnOf "refuse_great" "refuse_great" (defArgs s_refuse_great) (defBody s_refuse_great) (defScope s_refuse_great) .none kV48 dc48 pm48 an48 cd48 ct48), sl48⟩) (c48 : PySem.W.codeIn K cd48 "refuse_great" = true) (k48 : PySem.W.keepIn K (.ref f48) = true)
    (a49 : PySem.W.nsIn K mainGlobals "least" = some (some (.ref f49)))
    (l49 : K.lookup f49 = some ⟨oc49, od49, .func (PySem.W.fnOf "least" "least" (defArgs s_least) (defBody s_least) (defScope s_least) .none kV49 dc49 pm49 an49 cd49 ct49), sl49⟩) (c49 : PySem.W.codeIn K cd49 "least" = true) (k49 : PySem.W.keepIn K (.ref f49) = true)
    (a50 : PySem.W.nsIn K mainGlobals "number_in" = some (some (.ref f50)))
    (l50 : K.lookup f50 = some ⟨oc50, od50, .func (PySem.W.fnOf "number_in" "number_in" (defArgs s_number_in) (defBody s_number_in) (defScope s_number_in) .none kV50 dc50 pm50 an50 cd50 ct50), sl50⟩) (c50 : PySem.W.codeIn K cd50 "number_in" = true) (k50 : PySem.W.keepIn K (.ref f50) = true)
    (a51 : PySem.W.nsIn K mainGlobals "number" = some (some (.ref f51)))
    (l51 : K.lookup f51 = some ⟨oc51, od51, .func (PySem.W.fnOf "number" "number" (defArgs s_number) (defBody s_number) (defScope s_number) (.ref dt51) kV51 dc51 pm51 an51 cd51 ct51), sl51⟩) (c51 : PySem.W.codeIn K cd51 "number" = true) (k51 : PySem.W.keepIn K (.ref f51) = true)
    (t51 : K.lookup dt51 = some ⟨oct51, odt51, .seq #[.none, .none] nt51, slt51⟩)
    (a52 : PySem.W.nsIn K mainGlobals "span_of" = some (some (.ref f52)))
    (l52 : K.lookup f52 = some ⟨oc52, od52, .func (PySem.W.fnOf "span_of" "span_of" (defArgs s_span_of) (defBody s_span_of) (defScope s_span_of) .none kV52 dc52 pm52 an52 cd52 ct52), sl52⟩) (c52 : PySem.W.codeIn K cd52 "span_of" = true) (k52 : PySem.W.keepIn K (.ref f52) = true)
    (a53 : PySem.W.nsIn K mainGlobals "narrow" = some (some (.ref f53)))
    (l53 : K.lookup f53 = some ⟨oc53, od53, .func (PySem.W.fnOf "narrow" "narrow" (defArgs s_narrow) (defBody s_narrow) (defScope s_narrow) .none kV53 dc53 pm53 an53 cd53 ct53), sl53⟩) (c53 : PySem.W.codeIn K cd53 "narrow" = true) (k53 : PySem.W.keepIn K (.ref f53) = true)
    (a54 : PySem.W.nsIn K mainGlobals "_law_cell_at" = some (some (.ref f54)))
    (l54 : K.lookup f54 = some ⟨oc54, od54, .func (PySem.W.fnOf "_law_cell_at" "_law_cell_at" (defArgs s__law_cell_at) (defBody s__law_cell_at) (defScope s__law_cell_at) .none kV54 dc54 pm54 an54 cd54 ct54), sl54⟩) (c54 : PySem.W.codeIn K cd54 "_law_cell_at" = true) (k54 : PySem.W.keepIn K (.ref f54) = true)
    (a55 : PySem.W.nsIn K mainGlobals "_law_whole" = some (some (.ref f55)))
    (l55 : K.lookup f55 = some ⟨oc55, od55, .func (PySem.W.fnOf "_law_whole" "_law_whole" (defArgs s__law_whole) (defBody s__law_whole) (defScope s__law_whole) .none kV55 dc55 pm55 an55 cd55 ct55), sl55⟩) (c55 : PySem.W.codeIn K cd55 "_law_whole" = true) (k55 : PySem.W.keepIn K (.ref f55) = true)
    (a56 : PySem.W.nsIn K mainGlobals "_law_divisor" = some (some (.ref f56)))
    (l56 : K.lookup f56 = some ⟨oc56, od56, .func (PySem.W.fnOf "_law_divisor" "_law_divisor" (defArgs s__law_divisor) (defBody s__law_divisor) (defScope s__law_divisor) .none kV56 dc56 pm56 an56 cd56 ct56), sl56⟩) (c56 : PySem.W.codeIn K cd56 "_law_divisor" = true) (k56 : PySem.W.keepIn K (.ref f56) = true)
    (a57 : PySem.W.nsIn K mainGlobals "_law_sign" = some (some (.ref f57)))
    (l57 : K.lookup f57 = some ⟨oc57, od57, .func (PySem.W.fnOf "_law_sign" "_law_sign" (defArgs s__law_sign) (defBody s__law_sign) (defScope s__law_sign) .none kV57 dc57 pm57 an57 cd57 ct57), sl57⟩) (c57 : PySem.W.codeIn K cd57 "_law_sign" = true) (k57 : PySem.W.keepIn K (.ref f57) = true)
    (a58 : PySem.W.nsIn K mainGlobals "_law_beside" = some (some (.ref f58)))
    (l58 : K.lookup f58 = some ⟨oc58, od58, .func (PySem.W.fnOf "_law_beside" "_law_beside" (defArgs s__law_beside) (defBody s__law_beside) (defScope s__law_beside) .none kV58 dc58 pm58 an58 cd58 ct58), sl58⟩) (c58 : PySem.W.codeIn K cd58 "_law_beside" = true) (k58 : PySem.W.keepIn K (.ref f58) = true)
    (a59 : PySem.W.nsIn K mainGlobals "_law_plain" = some (some (.ref f59)))
    (l59 : K.lookup f59 = some ⟨oc59, od59, .func (PySem.W.fnOf "_law_plain" "_law_plain" (defArgs s__law_plain) (defBody s__law_plain) (defScope s__law_plain) .none kV59 dc59 pm59 an59 cd59 ct59), sl59⟩) (c59 : PySem.W.codeIn K cd59 "_law_plain" = true) (k59 : PySem.W.keepIn K (.ref f59) = true)
    (a60 : PySem.W.nsIn K mainGlobals "_law_ratio" = some (some (.ref f60)))
    (l60 : K.lookup f60 = some ⟨oc60, od60, .func (PySem.W.fnOf "_law_ratio" "_law_ratio" (defArgs s__law_ratio) (defBody s__law_ratio) (defScope s__law_ratio) .none kV60 dc60 pm60 an60 cd60 ct60), sl60⟩) (c60 : PySem.W.codeIn K cd60 "_law_ratio" = true) (k60 : PySem.W.keepIn K (.ref f60) = true)
    (a61 : PySem.W.nsIn K mainGlobals "_law_poly" = some (some (.ref f61)))
    (l61 : K.lookup f61 = some ⟨oc61, od61, .func (PySem.W.fnOf "_law_poly" "_law_poly" (defArgs s__law_poly) (defBody s__law_poly) (defScope s__law_poly) .none kV61 dc61 pm61 an61 cd61 ct61), sl61⟩) (c61 : PySem.W.codeIn K cd61 "_law_poly" = true) (k61 : PySem.W.keepIn K (.ref f61) = true)
    (a62 : PySem.W.nsIn K mainGlobals "_law_least" = some (some (.ref f62)))
    (l62 : K.lookup f62 = some ⟨oc62, od62, .func (PySem.W.fnOf "_law_least" "_law_least" (defArgs s__law_least) (defBody s__law_least) (defScope s__law_least) .none kV62 dc62 pm62 an62 cd62 ct62), sl62⟩) (c62 : PySem.W.codeIn K cd62 "_law_least" = true) (k62 : PySem.W.keepIn K (.ref f62) = true)
    (a63 : PySem.W.nsIn K mainGlobals "_law_amount" = some (some (.ref f63)))
    (l63 : K.lookup f63 = some ⟨oc63, od63, .func (PySem.W.fnOf "_law_amount" "_law_amount" (defArgs s__law_amount) (defBody s__law_amount) (defScope s__law_amount) .none kV63 dc63 pm63 an63 cd63 ct63), sl63⟩) (c63 : PySem.W.codeIn K cd63 "_law_amount" = true) (k63 : PySem.W.keepIn K (.ref f63) = true)
    (a64 : PySem.W.nsIn K mainGlobals "_law_worth" = some (some (.ref f64)))
    (l64 : K.lookup f64 = some ⟨oc64, od64, .func (PySem.W.fnOf "_law_worth" "_law_worth" (defArgs s__law_worth) (defBody s__law_worth) (defScope s__law_worth) .none kV64 dc64 pm64 an64 cd64 ct64), sl64⟩) (c64 : PySem.W.codeIn K cd64 "_law_worth" = true) (k64 : PySem.W.keepIn K (.ref f64) = true)
    (a65 : PySem.W.nsIn K mainGlobals "_law_span" = some (some (.ref f65)))
    (l65 : K.lookup f65 = some ⟨oc65, od65, .func (PySem.W.fnOf "_law_span" "_law_span" (defArgs s__law_span) (defBody s__law_span) (defScope s__law_span) .none kV65 dc65 pm65 an65 cd65 ct65), sl65⟩) (c65 : PySem.W.codeIn K cd65 "_law_span" = true) (k65 : PySem.W.keepIn K (.ref f65) = true)
    (a66 : PySem.W.nsIn K mainGlobals "_law_under" = some (some (.ref f66)))
    (l66 : K.lookup f66 = some ⟨oc66, od66, .func (PySem.W.fnOf "_law_under" "_law_under" (defArgs s__law_under) (defBody s__law_under) (defScope s__law_under) .none kV66 dc66 pm66 an66 cd66 ct66), sl66⟩) (c66 : PySem.W.codeIn K cd66 "_law_under" = true) (k66 : PySem.W.keepIn K (.ref f66) = true)
    (a67 : PySem.W.nsIn K mainGlobals "_law_is" = some (some (.ref f67)))
    (l67 : K.lookup f67 = some ⟨oc67, od67, .func (PySem.W.fnOf "_law_is" "_law_is" (defArgs s__law_is) (defBody s__law_is) (defScope s__law_is) .none kV67 dc67 pm67 an67 cd67 ct67), sl67⟩) (c67 : PySem.W.codeIn K cd67 "_law_is" = true) (k67 : PySem.W.keepIn K (.ref f67) = true)
    (a68 : PySem.W.nsIn K mainGlobals "_law_fits" = some (some (.ref f68)))
    (l68 : K.lookup f68 = some ⟨oc68, od68, .func (PySem.W.fnOf "_law_fits" "_law_fits" (defArgs s__law_fits) (defBody s__law_fits) (defScope s__law_fits) .none kV68 dc68 pm68 an68 cd68 ct68), sl68⟩) (c68 : PySem.W.codeIn K cd68 "_law_fits" = true) (k68 : PySem.W.keepIn K (.ref f68) = true)
    (a69 : PySem.W.nsIn K mainGlobals "law" = some (some (.ref f69)))
    (l69 : K.lookup f69 = some ⟨oc69, od69, .func (PySem.W.fnOf "law" "law" (defArgs s_law) (defBody s_law) (defScope s_law) .none kV69 dc69 pm69 an69 cd69 ct69), sl69⟩) (c69 : PySem.W.codeIn K cd69 "law" = true) (k69 : PySem.W.keepIn K (.ref f69) = true)
    (z0 : PySem.W.nsIn K mainGlobals "abs" = some none)
    (z1 : PySem.W.nsIn K mainGlobals "len" = some none)
    (z2 : PySem.W.nsIn K mainGlobals "max" = some none)
    (z3 : PySem.W.nsIn K mainGlobals "range" = some none)
    (z4 : PySem.W.nsIn K mainGlobals "enumerate" = some none)
    (z5 : PySem.W.nsIn K mainGlobals "reversed" = some none)
    (z6 : PySem.W.nsIn K mainGlobals "list" = some none)
    (z7 : PySem.W.nsIn K mainGlobals "sum" = some none)
    (z8 : PySem.W.nsIn K mainGlobals "any" = some none)
    (z9 : PySem.W.nsIn K mainGlobals "isinstance" = some none)
    (z10 : PySem.W.nsIn K mainGlobals "int" = some none)
    (z11 : PySem.W.nsIn K mainGlobals "bool" = some none)
    (aI_HIGHEST : PySem.W.nsIn K mainGlobals "HIGHEST" = some (some (.int 8 tk_HIGHEST)))
    (hTr : l.prog.given.tree = none)
    : ∃ fd : FuncData, (∀ (s : Shared) (v : Value), BindsTo s fd ⟨[v], []⟩ [("_law_script", v)]) ∧ ∀ base : Heap, K.In base → base.Ns mainGlobals mg → base.NoSeer → FnOk l.prog w K mg base CX0 39 fa fd ["_law_script"] (spLaw K) := by
  have e := hfa.symm.trans (PySem.W.mg_of X G a69)
  cases e
  have T : Txt K mg := ⟨PySem.W.mg_none_of X G z0, PySem.W.mg_none_of X G z1, PySem.W.mg_none_of X G z2, PySem.W.mg_none_of X G z3, PySem.W.mg_none_of X G z4, PySem.W.mg_none_of X G z5, PySem.W.mg_none_of X G z6, PySem.W.mg_none_of X G z7, PySem.W.mg_none_of X G z8, PySem.W.mg_none_of X G z9, PySem.W.mg_none_of X G z10, PySem.W.mg_none_of X G z11, ⟨_, PySem.W.mg_of X G aI_HIGHEST⟩⟩
  have R1 : RCI K mg CC1 := ⟨⟨pg1, hd1, po1, sa1⟩, n1_top, n1_bottom, PySem.W.mg_of X G aC1, ha1, hn1, ht1, hm1⟩
  have R2 : NCI K mg CC2 := ⟨⟨pg2, hd2, po2, sa2⟩, n2_poly, n2_low, n2_high, PySem.W.mg_of X G aC2, ha2, hn2, ht2, hm2⟩
  have F1 := fun_mk (st := s_shared_by_two) l1 c1 k1
  have b1 := F1.binds (ps := ["one", "other"]) fun _ _ _ _ _ _ us hl => match us, hl with | [_, _], _ => rfl
  have F2 := fun_mk (st := s_shared) l2 c2 k2
  have b2 := F2.binds (ps := ["row"]) fun _ _ _ _ _ _ us hl => match us, hl with | [_], _ => rfl
  have F3 := fun_mk (st := s_whole_sign) l3 c3 k3
  have b3 := F3.binds (ps := ["value"]) fun _ _ _ _ _ _ us hl => match us, hl with | [_], _ => rfl
  have F4 := funD_mk (st := s_Ratio___init__) l4 c4 k4
  have b4 := FunD.bindsD (ps := ["self", "top", "bottom"]) (ds := []) (tup := [.int 1 tk4_0]) 3 F4 t4 rfl rfl fun _ _ _ _ _ _ us hl => match us, hl with | [_, _, _], _ => ⟨_, rfl, rfl⟩
  have bD4 := FunD.bindsD (ps := ["self", "top", "bottom"]) (ds := [.int 1 tk4_0]) (tup := [.int 1 tk4_0]) 2 F4 t4 rfl rfl fun _ _ _ _ _ _ us hl => match us, hl with | [_, _], _ => ⟨_, rfl, rfl⟩
  have F5 := fun_mk (st := s_Ratio_against) l5 c5 k5
  have b5 := F5.binds (ps := ["self", "other"]) fun _ _ _ _ _ _ us hl => match us, hl with | [_, _], _ => rfl
  have F6 := fun_mk (st := s_poly) l6 c6 k6
  have b6 := F6.binds (ps := ["row"]) fun _ _ _ _ _ _ us hl => match us, hl with | [_], _ => rfl
  have F7 := fun_mk (st := s_degree) l7 c7 k7
  have b7 := F7.binds (ps := ["row"]) fun _ _ _ _ _ _ us hl => match us, hl with | [_], _ => rfl
  have F8 := fun_mk (st := s_coefficient) l8 c8 k8
  have b8 := F8.binds (ps := ["row", "place"]) fun _ _ _ _ _ _ us hl => match us, hl with | [_, _], _ => rfl
  have F9 := fun_mk (st := s_taken) l9 c9 k9
  have b9 := F9.binds (ps := ["first", "second"]) fun _ _ _ _ _ _ us hl => match us, hl with | [_, _], _ => rfl
  have F10 := fun_mk (st := s_slope) l10 c10 k10
  have b10 := F10.binds (ps := ["row"]) fun _ _ _ _ _ _ us hl => match us, hl with | [_], _ => rfl
  have F11 := fun_mk (st := s_shrunk) l11 c11 k11
  have b11 := F11.binds (ps := ["row"]) fun _ _ _ _ _ _ us hl => match us, hl with | [_], _ => rfl
  have F12 := fun_mk (st := s_plain) l12 c12 k12
  have b12 := F12.binds (ps := ["row"]) fun _ _ _ _ _ _ us hl => match us, hl with | [_], _ => rfl
  have F13 := fun_mk (st := s_scaled) l13 c13 k13
  have b13 := F13.binds (ps := ["row", "factor"]) fun _ _ _ _ _ _ us hl => match us, hl with | [_, _], _ => rfl
  have F14 := fun_mk (st := s_lowered) l14 c14 k14
  have b14 := F14.binds (ps := ["row", "second", "place", "lead"]) fun _ _ _ _ _ _ us hl => match us, hl with | [_, _, _, _], _ => rfl
  have F15 := fun_mk (st := s_divided) l15 c15 k15
  have b15 := F15.binds (ps := ["first", "second"]) fun _ _ _ _ _ _ us hl => match us, hl with | [_, _], _ => rfl
  have F16 := fun_mk (st := s_value_parts) l16 c16 k16
  have b16 := F16.binds (ps := ["row", "top", "bottom"]) fun _ _ _ _ _ _ us hl => match us, hl with | [_, _, _], _ => rfl
  have F17 := fun_mk (st := s_sign_at) l17 c17 k17
  have b17 := F17.binds (ps := ["row", "ratio"]) fun _ _ _ _ _ _ us hl => match us, hl with | [_, _], _ => rfl
  have F18 := fun_mk (st := s_row_from) l18 c18 k18
  have b18 := F18.binds (ps := ["first", "second"]) fun _ _ _ _ _ _ us hl => match us, hl with | [_, _], _ => rfl
  have F19 := fun_mk (st := s_row_of) l19 c19 k19
  have b19 := F19.binds (ps := ["polynomial"]) fun _ _ _ _ _ _ us hl => match us, hl with | [_], _ => rfl
  have F20 := fun_mk (st := s_changes) l20 c20 k20
  have b20 := F20.binds (ps := ["row", "ratio"]) fun _ _ _ _ _ _ us hl => match us, hl with | [_, _], _ => rfl
  have F21 := fun_mk (st := s_count) l21 c21 k21
  have b21 := F21.binds (ps := ["row", "low", "high"]) fun _ _ _ _ _ _ us hl => match us, hl with | [_, _, _], _ => rfl
  have F22 := fun_mk (st := s_bound) l22 c22 k22
  have b22 := F22.binds (ps := ["row"]) fun _ _ _ _ _ _ us hl => match us, hl with | [_], _ => rfl
  have F23 := fun_mk (st := s_common) l23 c23 k23
  have b23 := F23.binds (ps := ["first", "second"]) fun _ _ _ _ _ _ us hl => match us, hl with | [_, _], _ => rfl
  have F24 := fun_mk (st := s_part) l24 c24 k24
  have b24 := F24.binds (ps := ["row", "divisor"]) fun _ _ _ _ _ _ us hl => match us, hl with | [_, _], _ => rfl
  have F25 := fun_mk (st := s_refuse_high) l25 c25 k25
  have b25 := F25.binds (ps := ["height"]) fun _ _ _ _ _ _ us hl => match us, hl with | [_], _ => rfl
  have F26 := fun_mk (st := s_without_squares) l26 c26 k26
  have b26 := F26.binds (ps := ["row"]) fun _ _ _ _ _ _ us hl => match us, hl with | [_], _ => rfl
  have F27 := fun_mk (st := s_Number___init__) l27 c27 k27
  have b27 := F27.binds (ps := ["self", "row", "low", "high"]) fun _ _ _ _ _ _ us hl => match us, hl with | [_, _, _, _], _ => rfl
  have F28 := fun_mk (st := s_fine_width) l28 c28 k28
  have b28 := F28.binds (ps := ["whole"]) fun _ _ _ _ _ _ us hl => match us, hl with | [_], _ => rfl
  have F29 := fun_mk (st := s_Ratio_floor) l29 c29 k29
  have b29 := F29.binds (ps := ["self"]) fun _ _ _ _ _ _ us hl => match us, hl with | [_], _ => rfl
  have F30 := fun_mk (st := s_cells) l30 c30 k30
  have b30 := F30.binds (ps := ["row"]) fun _ _ _ _ _ _ us hl => match us, hl with | [_], _ => rfl
  have F31 := fun_mk (st := s_square_of) l31 c31 k31
  have b31 := F31.binds (ps := ["whole", "span", "other"]) fun _ _ _ _ _ _ us hl => match us, hl with | [_, _, _], _ => rfl
  have F32 := fun_mk (st := s_divides) l32 c32 k32
  have b32 := F32.binds (ps := ["divisor", "row"]) fun _ _ _ _ _ _ us hl => match us, hl with | [_, _], _ => rfl
  have F33 := fun_mk (st := s_added) l33 c33 k33
  have b33 := F33.binds (ps := ["first", "second"]) fun _ _ _ _ _ _ us hl => match us, hl with | [_, _], _ => rfl
  have F34 := fun_mk (st := s_multiplied) l34 c34 k34
  have b34 := F34.binds (ps := ["first", "second"]) fun _ _ _ _ _ _ us hl => match us, hl with | [_, _], _ => rfl
  have F35 := fun_mk (st := s_Ratio_plus) l35 c35 k35
  have b35 := F35.binds (ps := ["self", "other"]) fun _ _ _ _ _ _ us hl => match us, hl with | [_, _], _ => rfl
  have F36 := fun_mk (st := s_Ratio_minus) l36 c36 k36
  have b36 := F36.binds (ps := ["self", "other"]) fun _ _ _ _ _ _ us hl => match us, hl with | [_, _], _ => rfl
  have F37 := fun_mk (st := s_Ratio_times) l37 c37 k37
  have b37 := F37.binds (ps := ["self", "other"]) fun _ _ _ _ _ _ us hl => match us, hl with | [_, _], _ => rfl
  have F38 := fun_mk (st := s_times_floor) l38 c38 k38
  have b38 := F38.binds (ps := ["factor", "ratio"]) fun _ _ _ _ _ _ us hl => match us, hl with | [_, _], _ => rfl
  have F39 := fun_mk (st := s_line_of) l39 c39 k39
  have b39 := F39.binds (ps := ["whole", "span"]) fun _ _ _ _ _ _ us hl => match us, hl with | [_, _], _ => rfl
  have F40 := fun_mk (st := s_halvings) l40 c40 k40
  have b40 := F40.binds (ps := ["reach", "width"]) fun _ _ _ _ _ _ us hl => match us, hl with | [_, _], _ => rfl
  have F41 := fun_mk (st := s_stretched) l41 c41 k41
  have b41 := F41.binds (ps := ["row", "low", "reach"]) fun _ _ _ _ _ _ us hl => match us, hl with | [_, _, _], _ => rfl
  have F42 := fun_mk (st := s_spread) l42 c42 k42
  have b42 := F42.binds (ps := ["row"]) fun _ _ _ _ _ _ us hl => match us, hl with | [_], _ => rfl
  have F43 := fun_mk (st := s_moved) l43 c43 k43
  have b43 := F43.binds (ps := ["row"]) fun _ _ _ _ _ _ us hl => match us, hl with | [_], _ => rfl
  have F44 := fun_mk (st := s_halved) l44 c44 k44
  have b44 := F44.binds (ps := ["row", "end", "steps"]) fun _ _ _ _ _ _ us hl => match us, hl with | [_, _, _], _ => rfl
  have F45 := fun_mk (st := s_along) l45 c45 k45
  have b45 := F45.binds (ps := ["low", "reach", "place", "pieces"]) fun _ _ _ _ _ _ us hl => match us, hl with | [_, _, _, _], _ => rfl
  have F46 := fun_mk (st := s_narrowed) l46 c46 k46
  have b46 := F46.binds (ps := ["row", "low", "high", "width"]) fun _ _ _ _ _ _ us hl => match us, hl with | [_, _, _, _], _ => rfl
  have F47 := fun_mk (st := s_many_within) l47 c47 k47
  have b47 := F47.binds (ps := ["simple", "low", "high"]) fun _ _ _ _ _ _ us hl => match us, hl with | [_, _, _], _ => rfl
  have F48 := fun_mk (st := s_refuse_great) l48 c48 k48
  have b48 := F48.binds (ps := ["row"]) fun _ _ _ _ _ _ us hl => match us, hl with | [_], _ => rfl
  have F49 := fun_mk (st := s_least) l49 c49 k49
  have b49 := F49.binds (ps := ["row", "low", "high"]) fun _ _ _ _ _ _ us hl => match us, hl with | [_, _, _], _ => rfl
  have F50 := fun_mk (st := s_number_in) l50 c50 k50
  have b50 := F50.binds (ps := ["simple", "low", "high"]) fun _ _ _ _ _ _ us hl => match us, hl with | [_, _, _], _ => rfl
  have F51 := funD_mk (st := s_number) l51 c51 k51
  have b51 := FunD.bindsD (ps := ["row", "low", "high"]) (ds := []) (tup := [.none, .none]) 3 F51 t51 rfl rfl fun _ _ _ _ _ _ us hl => match us, hl with | [_, _, _], _ => ⟨_, rfl, rfl⟩
  have bD51 := FunD.bindsD (ps := ["row", "low", "high"]) (ds := [.none, .none]) (tup := [.none, .none]) 1 F51 t51 rfl rfl fun _ _ _ _ _ _ us hl => match us, hl with | [_], _ => ⟨_, rfl, rfl⟩
  have F52 := fun_mk (st := s_span_of) l52 c52 k52
  have b52 := F52.binds (ps := ["one", "width"]) fun _ _ _ _ _ _ us hl => match us, hl with | [_, _], _ => rfl
  have F53 := fun_mk (st := s_narrow) l53 c53 k53
  have b53 := F53.binds (ps := ["one", "width"]) fun _ _ _ _ _ _ us hl => match us, hl with | [_, _], _ => rfl
  have F54 := fun_mk (st := s__law_cell_at) l54 c54 k54
  have b54 := F54.binds (ps := ["_law_script", "_law_k"]) fun _ _ _ _ _ _ us hl => match us, hl with | [_, _], _ => rfl
  have F55 := fun_mk (st := s__law_whole) l55 c55 k55
  have b55 := F55.binds (ps := ["_law_found"]) fun _ _ _ _ _ _ us hl => match us, hl with | [_], _ => rfl
  have F56 := fun_mk (st := s__law_divisor) l56 c56 k56
  have b56 := F56.binds (ps := ["_law_one", "_law_other"]) fun _ _ _ _ _ _ us hl => match us, hl with | [_, _], _ => rfl
  have F57 := fun_mk (st := s__law_sign) l57 c57 k57
  have b57 := F57.binds (ps := ["_law_u", "_law_v", "_law_d"]) fun _ _ _ _ _ _ us hl => match us, hl with | [_, _, _], _ => rfl
  have F58 := fun_mk (st := s__law_beside) l58 c58 k58
  have b58 := F58.binds (ps := ["_law_worth_here", "_law_r"]) fun _ _ _ _ _ _ us hl => match us, hl with | [_, _], _ => rfl
  have F59 := fun_mk (st := s__law_plain) l59 c59 k59
  have b59 := F59.binds (ps := ["_law_row"]) fun _ _ _ _ _ _ us hl => match us, hl with | [_], _ => rfl
  have F60 := fun_mk (st := s__law_ratio) l60 c60 k60
  have b60 := F60.binds (ps := ["_law_found"]) fun _ _ _ _ _ _ us hl => match us, hl with | [_], _ => rfl
  have F61 := fun_mk (st := s__law_poly) l61 c61 k61
  have b61 := F61.binds (ps := ["_law_found"]) fun _ _ _ _ _ _ us hl => match us, hl with | [_], _ => rfl
  have F62 := fun_mk (st := s__law_least) l62 c62 k62
  have b62 := F62.binds (ps := ["_law_worth_here"]) fun _ _ _ _ _ _ us hl => match us, hl with | [_], _ => rfl
  have F63 := fun_mk (st := s__law_amount) l63 c63 k63
  have b63 := F63.binds (ps := ["_law_cell"]) fun _ _ _ _ _ _ us hl => match us, hl with | [_], _ => rfl
  have F64 := fun_mk (st := s__law_worth) l64 c64 k64
  have b64 := F64.binds (ps := ["_law_script", "_law_k"]) fun _ _ _ _ _ _ us hl => match us, hl with | [_, _], _ => rfl
  have F65 := fun_mk (st := s__law_span) l65 c65 k65
  have b65 := F65.binds (ps := ["_law_worth_here", "_law_more"]) fun _ _ _ _ _ _ us hl => match us, hl with | [_, _], _ => rfl
  have F66 := fun_mk (st := s__law_under) l66 c66 k66
  have b66 := F66.binds (ps := ["_law_one", "_law_other"]) fun _ _ _ _ _ _ us hl => match us, hl with | [_, _], _ => rfl
  have F67 := fun_mk (st := s__law_is) l67 c67 k67
  have b67 := F67.binds (ps := ["_law_found", "_law_worth_here", "_law_due"]) fun _ _ _ _ _ _ us hl => match us, hl with | [_, _, _], _ => rfl
  have F68 := fun_mk (st := s__law_fits) l68 c68 k68
  have b68 := F68.binds (ps := ["_law_found", "_law_worth_here", "_law_outer", "_law_width"]) fun _ _ _ _ _ _ us hl => match us, hl with | [_, _, _, _], _ => rfl
  have F69 := fun_mk (st := s_law) l69 c69 k69
  have b69 := F69.binds (ps := ["_law_script"]) fun _ _ _ _ _ _ us hl => match us, hl with | [_], _ => rfl
  refine ⟨PySem.W.fnOf "law" "law" (defArgs s_law) (defBody s_law) (defScope s_law) .none kV69 dc69 pm69 an69 cd69 ct69, fun s v => .of_eq rfl, fun base KB GB hNS => ?_⟩
  have C1 : Cal l.prog w K mg base 1 "shared_by_two" ["one", "other"] sp2 _ _ := ⟨ok_shared_by_two F1 T  , PySem.W.mg_of X G a1, k1, b1⟩
  have C2 : Cal l.prog w K mg base 2 "shared" ["row"] (spShared K) _ _ := ⟨ok_shared F2 T  C1, PySem.W.mg_of X G a2, k2, b2⟩
  have C3 : Cal l.prog w K mg base 1 "whole_sign" ["value"] spSg _ _ := ⟨ok_whole_sign F3 T  , PySem.W.mg_of X G a3, k3, b3⟩
  have K1 : KCal l.prog w K mg base 2 CC1 "Ratio" ["self", "top", "bottom"] (spInit CC1) _ _ _ [.int 1] := ⟨ok_Ratio___init__ F4 T R1 C1, ⟨mk1, a4, i4, kc1⟩, PySem.W.mg_of X G aC1, b4, bD4, .cons ⟨_, rfl⟩ .nil⟩
  have C5 : MCal l.prog w K mg base 2 CC1 "against" ["self", "other"] (spAgainst CC1) _ _ := ⟨ok_Ratio_against F5 T R1 C3, ⟨a5, i5, k5⟩, b5⟩
  have C6 : Cal l.prog w K mg base 1 "poly" ["row"] (spTrim K) _ _ := ⟨ok_poly F6 T  , PySem.W.mg_of X G a6, k6, b6⟩
  have C7 : Cal l.prog w K mg base 1 "degree" ["row"] spDeg _ _ := ⟨ok_degree F7 T  , PySem.W.mg_of X G a7, k7, b7⟩
  have C8 : Cal l.prog w K mg base 1 "coefficient" ["row", "place"] (spCell K) _ _ := ⟨ok_coefficient F8 T  , PySem.W.mg_of X G a8, k8, b8⟩
  have C9 : Cal l.prog w K mg base 2 "taken" ["first", "second"] (sp2L K subL) _ _ := ⟨ok_taken F9 T  C6 C8, PySem.W.mg_of X G a9, k9, b9⟩
  have C10 : Cal l.prog w K mg base 1 "slope" ["row"] (sp1 slopeL) _ _ := ⟨ok_slope F10 T  , PySem.W.mg_of X G a10, k10, b10⟩
  have C11 : Cal l.prog w K mg base 33 "shrunk" ["row"] spShr _ _ := ⟨ok_shrunk F11 T  hNS hTr C2, PySem.W.mg_of X G a11, k11, b11⟩
  have C12 : Cal l.prog w K mg base 34 "plain" ["row"] spPlain _ _ := ⟨ok_plain F12 T  C11, PySem.W.mg_of X G a12, k12, b12⟩
  have C13 : Cal l.prog w K mg base 1 "scaled" ["row", "factor"] spSc _ _ := ⟨ok_scaled F13 T  , PySem.W.mg_of X G a13, k13, b13⟩
  have C14 : Cal l.prog w K mg base 1 "lowered" ["row", "second", "place", "lead"] spLow _ _ := ⟨ok_lowered F14 T  , PySem.W.mg_of X G a14, k14, b14⟩
  have C15 : Cal l.prog w K mg base 2 "divided" ["first", "second"] spDiv _ _ := ⟨ok_divided F15 T  C3 C7 C13 C14 C6, PySem.W.mg_of X G a15, k15, b15⟩
  have C16 : Cal l.prog w K mg base 1 "value_parts" ["row", "top", "bottom"] spVp _ _ := ⟨ok_value_parts F16 T  , PySem.W.mg_of X G a16, k16, b16⟩
  have C17 : Cal l.prog w K mg base 2 "sign_at" ["row", "ratio"] (spSa CC1) _ _ := ⟨ok_sign_at F17 T R1 C16 C3, PySem.W.mg_of X G a17, k17, b17⟩
  have C18 : Cal l.prog w K mg base 34 "row_from" ["first", "second"] spRowF _ _ := ⟨ok_row_from F18 T  C11 C15 C9, PySem.W.mg_of X G a18, k18, b18⟩
  have C19 : Cal l.prog w K mg base 35 "row_of" ["polynomial"] spRowOf _ _ := ⟨ok_row_of F19 T  C18 C10, PySem.W.mg_of X G a19, k19, b19⟩
  have C20 : Cal l.prog w K mg base 3 "changes" ["row", "ratio"] (spChg CC1) _ _ := ⟨ok_changes F20 T R1 C17, PySem.W.mg_of X G a20, k20, b20⟩
  have C21 : Cal l.prog w K mg base 4 "count" ["row", "low", "high"] (spCnt CC1) _ _ := ⟨ok_count F21 T R1 C20, PySem.W.mg_of X G a21, k21, b21⟩
  have C22 : Cal l.prog w K mg base 1 "bound" ["row"] (spBound K) _ _ := ⟨ok_bound F22 T  , PySem.W.mg_of X G a22, k22, b22⟩
  have C23 : Cal l.prog w K mg base 35 "common" ["first", "second"] spCom _ _ := ⟨ok_common F23 T  C12 C15, PySem.W.mg_of X G a23, k23, b23⟩
  have C24 : Cal l.prog w K mg base 35 "part" ["row", "divisor"] spPart _ _ := ⟨ok_part F24 T  C15 C12, PySem.W.mg_of X G a24, k24, b24⟩
  have C25 : Cal l.prog w K mg base 1 "refuse_high" ["height"] (fun vs H Q _ => ∃ i : Int, vs = [.int i] ∧ i ≤ 8 ∧ Q .non H) _ _ := ⟨ok_refuse_high F25 T  , PySem.W.mg_of X G a25, k25, b25⟩
  have C26 : Cal l.prog w K mg base 36 "without_squares" ["row"] spWsq _ _ := ⟨ok_without_squares F26 T  C24 C23 C10, PySem.W.mg_of X G a26, k26, b26⟩
  have K2 : KCal l.prog w K mg base 1 CC2 "Number" ["self", "row", "low", "high"] (spInitN CC2) _ _ _ [] := ⟨ok_Number___init__ F27 T R2 , ⟨mk2, a27, i27, kc2⟩, PySem.W.mg_of X G aC2, b27, b27, .nil⟩
  have C28 : Cal l.prog w K mg base 4 "fine_width" ["whole"] (spFw CC1) _ _ := ⟨ok_fine_width F28 T R1 K1 C22, PySem.W.mg_of X G a28, k28, b28⟩
  have C29 : MCal l.prog w K mg base 1 CC1 "floor" ["self"] (spFloor CC1) _ _ := ⟨ok_Ratio_floor F29 T R1 , ⟨a29, i29, k29⟩, b29⟩
  have C30 : Cal l.prog w K mg base 1 "cells" ["row"] spNo _ _ := ⟨ok_cells F30 T  , PySem.W.mg_of X G a30, k30, b30⟩
  have C31 : Cal l.prog w K mg base 1 "square_of" ["whole", "span", "other"] spNo _ _ := ⟨ok_square_of F31 T  , PySem.W.mg_of X G a31, k31, b31⟩
  have C32 : Cal l.prog w K mg base 1 "divides" ["divisor", "row"] spNo _ _ := ⟨ok_divides F32 T  , PySem.W.mg_of X G a32, k32, b32⟩
  have C33 : Cal l.prog w K mg base 2 "added" ["first", "second"] (sp2L K addL) _ _ := ⟨ok_added F33 T  C6 C8, PySem.W.mg_of X G a33, k33, b33⟩
  have C34 : Cal l.prog w K mg base 1 "multiplied" ["first", "second"] spMul _ _ := ⟨ok_multiplied F34 T  , PySem.W.mg_of X G a34, k34, b34⟩
  have C35 : MCal l.prog w K mg base 4 CC1 "plus" ["self", "other"] (spPlus CC1) _ _ := ⟨ok_Ratio_plus F35 T R1 K1, ⟨a35, i35, k35⟩, b35⟩
  have C36 : MCal l.prog w K mg base 4 CC1 "minus" ["self", "other"] (spMinus CC1) _ _ := ⟨ok_Ratio_minus F36 T R1 K1, ⟨a36, i36, k36⟩, b36⟩
  have C37 : MCal l.prog w K mg base 4 CC1 "times" ["self", "other"] (spTimes CC1) _ _ := ⟨ok_Ratio_times F37 T R1 K1, ⟨a37, i37, k37⟩, b37⟩
  have C38 : Cal l.prog w K mg base 5 "times_floor" ["factor", "ratio"] (spTf CC1) _ _ := ⟨ok_times_floor F38 T R1 K1 C37 C29, PySem.W.mg_of X G a38, k38, b38⟩
  have C39 : Cal l.prog w K mg base 6 "line_of" ["whole", "span"] (spLine CC1) _ _ := ⟨ok_line_of F39 T R1 K1 C38 C5 C17, PySem.W.mg_of X G a39, k39, b39⟩
  have C40 : Cal l.prog w K mg base 1 "halvings" ["reach", "width"] (spHvs CC1) _ _ := ⟨ok_halvings F40 T R1 , PySem.W.mg_of X G a40, k40, b40⟩
  have C41 : Cal l.prog w K mg base 3 "stretched" ["row", "low", "reach"] (spStr CC1) _ _ := ⟨ok_stretched F41 T R1 C2 C33 C34 C6, PySem.W.mg_of X G a41, k41, b41⟩
  have C42 : Cal l.prog w K mg base 1 "spread" ["row"] spSpr _ _ := ⟨ok_spread F42 T  , PySem.W.mg_of X G a42, k42, b42⟩
  have C43 : Cal l.prog w K mg base 2 "moved" ["row"] spMov _ _ := ⟨ok_moved F43 T  C7, PySem.W.mg_of X G a43, k43, b43⟩
  have C44 : Cal l.prog w K mg base 3 "halved" ["row", "end", "steps"] spHlv _ _ := ⟨ok_halved F44 T  C42 C3 C43, PySem.W.mg_of X G a44, k44, b44⟩
  have C45 : Cal l.prog w K mg base 5 "along" ["low", "reach", "place", "pieces"] (spAlo CC1) _ _ := ⟨ok_along F45 T R1 C35 C37 K1, PySem.W.mg_of X G a45, k45, b45⟩
  have C46 : Cal l.prog w K mg base 6 "narrowed" ["row", "low", "high", "width"] (spNar CC1) _ _ := ⟨ok_narrowed F46 T R1 C36 C40 C44 C41 C17 C45, PySem.W.mg_of X G a46, k46, b46⟩
  have C47 : Cal l.prog w K mg base 36 "many_within" ["simple", "low", "high"] (spMw CC1) _ _ := ⟨ok_many_within F47 T R1 C5 C21 C19, PySem.W.mg_of X G a47, k47, b47⟩
  have C48 : Cal l.prog w K mg base 1 "refuse_great" ["row"] spRg _ _ := ⟨ok_refuse_great F48 T  , PySem.W.mg_of X G a48, k48, b48⟩
  have C49 : Cal l.prog w K mg base 36 "least" ["row", "low", "high"] (spLst CC1) _ _ := ⟨ok_least F49 T  C12 C7 C28 C46 C39 C30 C31 C32 C21 C19, PySem.W.mg_of X G a49, k49, b49⟩
  have C50 : Cal l.prog w K mg base 37 "number_in" ["simple", "low", "high"] (spNin CC1 CC2) _ _ := ⟨ok_number_in F50 T R1 C49 C17 C46 C36 C37 K1 K2, PySem.W.mg_of X G a50, k50, b50⟩
  have C51 : CalE l.prog w K mg base 38 "number" ["row", "low", "high"] (spNb CC1 CC2) _ _ _ [.non, .non] := ⟨ok_number F51 T R1 C25 C7 K1 C22 C26 C47 C48 C50, PySem.W.mg_of X G a51, k51, b51, bD51, .cons rfl (.cons rfl (.nil))⟩
  have C52 : Cal l.prog w K mg base 7 "span_of" ["one", "width"] (spSpan CC1 CC2) _ _ := ⟨ok_span_of F52 T R1 R2 C46, PySem.W.mg_of X G a52, k52, b52⟩
  have C53 : Cal l.prog w K mg base 8 "narrow" ["one", "width"] (spNrw CC1 CC2) _ _ := ⟨ok_narrow F53 T R1 R2 C52 K2, PySem.W.mg_of X G a53, k53, b53⟩
  have C54 : Cal l.prog w K mg base 1 "_law_cell_at" ["_law_script", "_law_k"] (spCell K) _ _ := ⟨ok__law_cell_at F54 T  , PySem.W.mg_of X G a54, k54, b54⟩
  have C55 : Cal l.prog w K mg base 1 "_law_whole" ["_law_found"] spWhole _ _ := ⟨ok__law_whole F55 T  , PySem.W.mg_of X G a55, k55, b55⟩
  have C56 : Cal l.prog w K mg base 1 "_law_divisor" ["_law_one", "_law_other"] spDvs _ _ := ⟨ok__law_divisor F56 T  , PySem.W.mg_of X G a56, k56, b56⟩
  have C57 : Cal l.prog w K mg base 1 "_law_sign" ["_law_u", "_law_v", "_law_d"] spSign _ _ := ⟨ok__law_sign F57 T  , PySem.W.mg_of X G a57, k57, b57⟩
  have C58 : Cal l.prog w K mg base 2 "_law_beside" ["_law_worth_here", "_law_r"] (spBeside CC1) _ _ := ⟨ok__law_beside F58 T R1 C57, PySem.W.mg_of X G a58, k58, b58⟩
  have C59 : Cal l.prog w K mg base 2 "_law_plain" ["_law_row"] spPlq _ _ := ⟨ok__law_plain F59 T  C56, PySem.W.mg_of X G a59, k59, b59⟩
  have C60 : Cal l.prog w K mg base 2 "_law_ratio" ["_law_found"] (spRa CC1) _ _ := ⟨ok__law_ratio F60 T R1 C55 C56, PySem.W.mg_of X G a60, k60, b60⟩
  have C61 : Cal l.prog w K mg base 2 "_law_poly" ["_law_found"] spPo _ _ := ⟨ok__law_poly F61 T  C55, PySem.W.mg_of X G a61, k61, b61⟩
  have C62 : Cal l.prog w K mg base 3 "_law_least" ["_law_worth_here"] spLeast _ _ := ⟨ok__law_least F62 T  C59, PySem.W.mg_of X G a62, k62, b62⟩
  have C63 : Cal l.prog w K mg base 1 "_law_amount" ["_law_cell"] spAmt _ _ := ⟨ok__law_amount F63 T  , PySem.W.mg_of X G a63, k63, b63⟩
  have C64 : Cal l.prog w K mg base 2 "_law_worth" ["_law_script", "_law_k"] (spWorth K) _ _ := ⟨ok__law_worth F64 T  C63 C54, PySem.W.mg_of X G a64, k64, b64⟩
  have C65 : Cal l.prog w K mg base 4 "_law_span" ["_law_worth_here", "_law_more"] (spSpn CC1) _ _ := ⟨ok__law_span F65 T R1 K1, PySem.W.mg_of X G a65, k65, b65⟩
  have C66 : Cal l.prog w K mg base 1 "_law_under" ["_law_one", "_law_other"] (spUnder CC1) _ _ := ⟨ok__law_under F66 T R1 , PySem.W.mg_of X G a66, k66, b66⟩
  have C67 : Cal l.prog w K mg base 3 "_law_is" ["_law_found", "_law_worth_here", "_law_due"] (spIs CC1 CC2) _ _ := ⟨ok__law_is F67 T R1 R2 C61 C60 C58, PySem.W.mg_of X G a67, k67, b67⟩
  have C68 : Cal l.prog w K mg base 4 "_law_fits" ["_law_found", "_law_worth_here", "_law_outer", "_law_width"] (spFits CC1 CC2) _ _ := ⟨ok__law_fits F68 T R1 R2 C67 C62 C66, PySem.W.mg_of X G a68, k68, b68⟩
  exact ok_law F69 T R1 R2 C64 C65 C54 C51 C62 K2 K1 C53 C68 C67
theorem walk {l : PySem.W.OpenLaw} {q : Program} {loose : List Str} {XP : (Str → Option Value) → Heap → Prop} {YP : World → Heap → Prop} {d : DefRec} {K : Params → PySem.W.Frag} (hi : PyProof.Rows.importsNone q = true) (hn : l.most = some 63) (hdf : d.params.defaults = [])
    (hY : ∀ (w : World) (h : Heap), YP w h → (K w.params).In h)
    (F : ∀ (w : World) (mg : Str → Option Value) (fa : Addr) (h : Heap), (K w.params).In h → h.Ns mainGlobals mg → mg d.name = some (.ref fa) →
      ∃ fd : FuncData, (∀ (s : Shared) (u : Value), BindsTo s fd ⟨[u], []⟩ [("_law_script", u)]) ∧ ∀ base : Heap, (K w.params).In base → base.Ns mainGlobals mg → base.NoSeer → FnOk l.prog w (K w.params) mg base CX0 39 fa fd ["_law_script"] (spLaw (K w.params))) :
    PySem.W.WalkO q loose XP YP l.row.toRowW d [] (fun f vs => PySem.call f vs) :=
  L2.walk_ofS (n := 63) (k := 39) (x := "_law_script") (CX := fun _ => CX0) (sp := fun w => spLaw (K w.params)) hi hn (by decide) hdf ⟨rfl, by decide, by decide⟩ hY F (fun _ _ a ns hl _ hS => ⟨a, ns, rfl, hS, hl, fun _ => rfl⟩) fun _ _ _ _ _ z => z
end R46
open PySem PySem.W PyProof.Rows
set_option maxRecDepth 100000 in
set_option maxHeartbeats 0 in
theorem PySem.Challenge.cw_rootspan_k46_narrow_spans_holds : PySem.Challenge.rw_rootspan_k46_narrow_spans.Holds := by
  w_on; o_law; k_head; (case hw => w_witness2)
  k_fill
  refine R46.walk (l := PySem.Challenge.rw_rootspan_k46_narrow_spans) (by decide +kernel) rfl rfl (fun w h Y => PySem.W.kIn_of Y) ?F
  case F =>
    intro w mg fa h KX G hmg
    refine' R46.all_mk KX G hmg ?aC1 ?pg1 ?hd1 ?po1 ?sa1 ?mk1 ?kc1 ?n1_top ?n1_bottom ?ha1 ?hn1 ?ht1 ?hm1 ?aC2 ?pg2 ?hd2 ?po2 ?sa2 ?mk2 ?kc2 ?n2_poly ?n2_low ?n2_high ?ha2 ?hn2 ?ht2 ?hm2 ?a1 ?l1 ?c1 ?k1 ?a2 ?l2 ?c2 ?k2 ?a3 ?l3 ?c3 ?k3 ?a4 ?i4 ?l4 ?c4 ?k4 ?t4 ?a5 ?i5 ?l5 ?c5 ?k5 ?a6 ?l6 ?c6 ?k6 ?a7 ?l7 ?c7 ?k7 ?a8 ?l8 ?c8 ?k8 ?a9 ?l9 ?c9 ?k9 ?a10 ?l10 ?c10 ?k10 ?a11 ?l11 ?c11 ?k11 ?a12 ?l12 ?c12 ?k12 ?a13 ?l13 ?c13 ?k13 ?a14 ?l14 ?c14 ?k14 ?a15 ?l15 ?c15 ?k15 ?a16 ?l16 ?c16 ?k16 ?a17 ?l17 ?c17 ?k17 ?a18 ?l18 ?c18 ?k18 ?a19 ?l19 ?c19 ?k19 ?a20 ?l20 ?c20 ?k20 ?a21 ?l21 ?c21 ?k21 ?a22 ?l22 ?c22 ?k22 ?a23 ?l23 ?c23 ?k23 ?a24 ?l24 ?c24 ?k24 ?a25 ?l25 ?c25 ?k25 ?a26 ?l26 ?c26 ?k26 ?a27 ?i27 ?l27 ?c27 ?k27 ?a28 ?l28 ?c28 ?k28 ?a29 ?i29 ?l29 ?c29 ?k29 ?a30 ?l30 ?c30 ?k30 ?a31 ?l31 ?c31 ?k31 ?a32 ?l32 ?c32 ?k32 ?a33 ?l33 ?c33 ?k33 ?a34 ?l34 ?c34 ?k34 ?a35 ?i35 ?l35 ?c35 ?k35 ?a36 ?i36 ?l36 ?c36 ?k36 ?a37 ?i37 ?l37 ?c37 ?k37 ?a38 ?l38 ?c38 ?k38 ?a39 ?l39 ?c39 ?k39 ?a40 ?l40 ?c40 ?k40 ?a41 ?l41 ?c41 ?k41 ?a42 ?l42 ?c42 ?k42 ?a43 ?l43 ?c43 ?k43 ?a44 ?l44 ?c44 ?k44 ?a45 ?l45 ?c45 ?k45 ?a46 ?l46 ?c46 ?k46 ?a47 ?l47 ?c47 ?k47 ?a48 ?l48 ?c48 ?k48 ?a49 ?l49 ?c49 ?k49 ?a50 ?l50 ?c50 ?k50 ?a51 ?l51 ?c51 ?k51 ?t51 ?a52 ?l52 ?c52 ?k52 ?a53 ?l53 ?c53 ?k53 ?a54 ?l54 ?c54 ?k54 ?a55 ?l55 ?c55 ?k55 ?a56 ?l56 ?c56 ?k56 ?a57 ?l57 ?c57 ?k57 ?a58 ?l58 ?c58 ?k58 ?a59 ?l59 ?c59 ?k59 ?a60 ?l60 ?c60 ?k60 ?a61 ?l61 ?c61 ?k61 ?a62 ?l62 ?c62 ?k62 ?a63 ?l63 ?c63 ?k63 ?a64 ?l64 ?c64 ?k64 ?a65 ?l65 ?c65 ?k65 ?a66 ?l66 ?c66 ?k66 ?a67 ?l67 ?c67 ?k67 ?a68 ?l68 ?c68 ?k68 ?a69 ?l69 ?c69 ?k69 ?z0 ?z1 ?z2 ?z3 ?z4 ?z5 ?z6 ?z7 ?z8 ?z9 ?z10 ?z11 ?aI_HIGHEST rfl
    (case aC1 => k_is)
    (case pg1 => k_is)
    (case hd1 => k_is)
    (case po1 => k_is)
    (case sa1 => k_is)
    (case mk1 => k_is)
    (case kc1 => k_is)
    (case n1_top => k_is)
    (case n1_bottom => k_is)
    (case ha1 => k_is)
    (case hn1 => k_is)
    (case ht1 => k_is)
    (case hm1 => k_is)
    (case aC2 => k_is)
    (case pg2 => k_is)
    (case hd2 => k_is)
    (case po2 => k_is)
    (case sa2 => k_is)
    (case mk2 => k_is)
    (case kc2 => k_is)
    (case n2_poly => k_is)
    (case n2_low => k_is)
    (case n2_high => k_is)
    (case ha2 => k_is)
    (case hn2 => k_is)
    (case ht2 => k_is)
    (case hm2 => k_is)
    (case a1 => k_is)
    (case l1 => k_is)
    (case c1 => k_is)
    (case k1 => k_is)
    (case a2 => k_is)
    (case l2 => k_is)
    (case c2 => k_is)
    (case k2 => k_is)
    (case a3 => k_is)
    (case l3 => k_is)
    (case c3 => k_is)
    (case k3 => k_is)
    (case a4 => k_is)
    (case i4 => k_is)
    (case l4 => k_is)
    (case c4 => k_is)
    (case k4 => k_is)
    (case t4 => k_is)
    (case a5 => k_is)
    (case i5 => k_is)
    (case l5 => k_is)
    (case c5 => k_is)
    (case k5 => k_is)
    (case a6 => k_is)
    (case l6 => k_is)
    (case c6 => k_is)
    (case k6 => k_is)
    (case a7 => k_is)
    (case l7 => k_is)
    (case c7 => k_is)
    (case k7 => k_is)
    (case a8 => k_is)
    (case l8 => k_is)
    (case c8 => k_is)
    (case k8 => k_is)
    (case a9 => k_is)
    (case l9 => k_is)
    (case c9 => k_is)
    (case k9 => k_is)
    (case a10 => k_is)
    (case l10 => k_is)
    (case c10 => k_is)
    (case k10 => k_is)
    (case a11 => k_is)
    (case l11 => k_is)
    (case c11 => k_is)
    (case k11 => k_is)
    (case a12 => k_is)
    (case l12 => k_is)
    (case c12 => k_is)
    (case k12 => k_is)
    (case a13 => k_is)
    (case l13 => k_is)
    (case c13 => k_is)
    (case k13 => k_is)
    (case a14 => k_is)
    (case l14 => k_is)
    (case c14 => k_is)
    (case k14 => k_is)
    (case a15 => k_is)
    (case l15 => k_is)
    (case c15 => k_is)
    (case k15 => k_is)
    (case a16 => k_is)
    (case l16 => k_is)
    (case c16 => k_is)
    (case k16 => k_is)
    (case a17 => k_is)
    (case l17 => k_is)
    (case c17 => k_is)
    (case k17 => k_is)
    (case a18 => k_is)
    (case l18 => k_is)
    (case c18 => k_is)
    (case k18 => k_is)
    (case a19 => k_is)
    (case l19 => k_is)
    (case c19 => k_is)
    (case k19 => k_is)
    (case a20 => k_is)
    (case l20 => k_is)
    (case c20 => k_is)
    (case k20 => k_is)
    (case a21 => k_is)
    (case l21 => k_is)
    (case c21 => k_is)
    (case k21 => k_is)
    (case a22 => k_is)
    (case l22 => k_is)
    (case c22 => k_is)
    (case k22 => k_is)
    (case a23 => k_is)
    (case l23 => k_is)
    (case c23 => k_is)
    (case k23 => k_is)
    (case a24 => k_is)
    (case l24 => k_is)
    (case c24 => k_is)
    (case k24 => k_is)
    (case a25 => k_is)
    (case l25 => k_is)
    (case c25 => k_is)
    (case k25 => k_is)
    (case a26 => k_is)
    (case l26 => k_is)
    (case c26 => k_is)
    (case k26 => k_is)
    (case a27 => k_is)
    (case i27 => k_is)
    (case l27 => k_is)
    (case c27 => k_is)
    (case k27 => k_is)
    (case a28 => k_is)
    (case l28 => k_is)
    (case c28 => k_is)
    (case k28 => k_is)
    (case a29 => k_is)
    (case i29 => k_is)
    (case l29 => k_is)
    (case c29 => k_is)
    (case k29 => k_is)
    (case a30 => k_is)
    (case l30 => k_is)
    (case c30 => k_is)
    (case k30 => k_is)
    (case a31 => k_is)
    (case l31 => k_is)
    (case c31 => k_is)
    (case k31 => k_is)
    (case a32 => k_is)
    (case l32 => k_is)
    (case c32 => k_is)
    (case k32 => k_is)
    (case a33 => k_is)
    (case l33 => k_is)
    (case c33 => k_is)
    (case k33 => k_is)
    (case a34 => k_is)
    (case l34 => k_is)
    (case c34 => k_is)
    (case k34 => k_is)
    (case a35 => k_is)
    (case i35 => k_is)
    (case l35 => k_is)
    (case c35 => k_is)
    (case k35 => k_is)
    (case a36 => k_is)
    (case i36 => k_is)
    (case l36 => k_is)
    (case c36 => k_is)
    (case k36 => k_is)
    (case a37 => k_is)
    (case i37 => k_is)
    (case l37 => k_is)
    (case c37 => k_is)
    (case k37 => k_is)
    (case a38 => k_is)
    (case l38 => k_is)
    (case c38 => k_is)
    (case k38 => k_is)
    (case a39 => k_is)
    (case l39 => k_is)
    (case c39 => k_is)
    (case k39 => k_is)
    (case a40 => k_is)
    (case l40 => k_is)
    (case c40 => k_is)
    (case k40 => k_is)
    (case a41 => k_is)
    (case l41 => k_is)
    (case c41 => k_is)
    (case k41 => k_is)
    (case a42 => k_is)
    (case l42 => k_is)
    (case c42 => k_is)
    (case k42 => k_is)
    (case a43 => k_is)
    (case l43 => k_is)
    (case c43 => k_is)
    (case k43 => k_is)
    (case a44 => k_is)
    (case l44 => k_is)
    (case c44 => k_is)
    (case k44 => k_is)
    (case a45 => k_is)
    (case l45 => k_is)
    (case c45 => k_is)
    (case k45 => k_is)
    (case a46 => k_is)
    (case l46 => k_is)
    (case c46 => k_is)
    (case k46 => k_is)
    (case a47 => k_is)
    (case l47 => k_is)
    (case c47 => k_is)
    (case k47 => k_is)
    (case a48 => k_is)
    (case l48 => k_is)
    (case c48 => k_is)
    (case k48 => k_is)
    (case a49 => k_is)
    (case l49 => k_is)
    (case c49 => k_is)
    (case k49 => k_is)
    (case a50 => k_is)
    (case l50 => k_is)
    (case c50 => k_is)
    (case k50 => k_is)
    (case a51 => k_is)
    (case l51 => k_is)
    (case c51 => k_is)
    (case k51 => k_is)
    (case t51 => k_is)
    (case a52 => k_is)
    (case l52 => k_is)
    (case c52 => k_is)
    (case k52 => k_is)
    (case a53 => k_is)
    (case l53 => k_is)
    (case c53 => k_is)
    (case k53 => k_is)
    (case a54 => k_is)
    (case l54 => k_is)
    (case c54 => k_is)
    (case k54 => k_is)
    (case a55 => k_is)
    (case l55 => k_is)
    (case c55 => k_is)
    (case k55 => k_is)
    (case a56 => k_is)
    (case l56 => k_is)
    (case c56 => k_is)
    (case k56 => k_is)
    (case a57 => k_is)
    (case l57 => k_is)
    (case c57 => k_is)
    (case k57 => k_is)
    (case a58 => k_is)
    (case l58 => k_is)
    (case c58 => k_is)
    (case k58 => k_is)
    (case a59 => k_is)
    (case l59 => k_is)
    (case c59 => k_is)
    (case k59 => k_is)
    (case a60 => k_is)
    (case l60 => k_is)
    (case c60 => k_is)
    (case k60 => k_is)
    (case a61 => k_is)
    (case l61 => k_is)
    (case c61 => k_is)
    (case k61 => k_is)
    (case a62 => k_is)
    (case l62 => k_is)
    (case c62 => k_is)
    (case k62 => k_is)
    (case a63 => k_is)
    (case l63 => k_is)
    (case c63 => k_is)
    (case k63 => k_is)
    (case a64 => k_is)
    (case l64 => k_is)
    (case c64 => k_is)
    (case k64 => k_is)
    (case a65 => k_is)
    (case l65 => k_is)
    (case c65 => k_is)
    (case k65 => k_is)
    (case a66 => k_is)
    (case l66 => k_is)
    (case c66 => k_is)
    (case k66 => k_is)
    (case a67 => k_is)
    (case l67 => k_is)
    (case c67 => k_is)
    (case k67 => k_is)
    (case a68 => k_is)
    (case l68 => k_is)
    (case c68 => k_is)
    (case k68 => k_is)
    (case a69 => k_is)
    (case l69 => k_is)
    (case c69 => k_is)
    (case k69 => k_is)
    (case z0 => k_is)
    (case z1 => k_is)
    (case z2 => k_is)
    (case z3 => k_is)
    (case z4 => k_is)
    (case z5 => k_is)
    (case z6 => k_is)
    (case z7 => k_is)
    (case z8 => k_is)
    (case z9 => k_is)
    (case z10 => k_is)
    (case z11 => k_is)
    (case aI_HIGHEST => k_is)
