import PyProof.Rows.All
import Wide.All
import OpenK.AllK
import Wide.FinOn
import Lean
import PyProof.EqAt
import PyProof.EqKinds
import PyProof.TupleCall
import KE.KRevIter
import PyProof.Draws
import PyProof.EnumMake
import PyProof.JoinWalk
import PyProof.MinMaxWalk
import PyProof.NeKinds
import PyProof.SeqI3
import PyProof.SumAny
import PyProof.WalkInts
import PyProof.ZipIter
import PySem.Challenge.RW_boughpress_k34_worth_by_a_tree
set_option Elab.async false
set_option linter.all false
set_option maxRecDepth 100000
/-! THE HAND LAYER, for ints, bools, texts, own classes, LISTS and tuples (index, slices, in, append, pop ..), calls, loops. Paste it whole ahead of your own text; what your proof does not reach may be deleted. -/
namespace L2
open PySem PySem.Spec PyProof.Rows

/-- a key: an int or a str -/
abbrev Key := Sum Int Str
def keyIs : Key → Value → Bool
  | .inl k, v => Value.isInt k v
  | .inr x, v => Value.isStrOf x v
def keyH (w : World) : Key → Int
  | .inl k => hashInt k
  | .inr x => hashStr w x
theorem keyIs_shape : ∀ {k : Key} {v : Value}, keyIs k v = true → (∃ i t, k = Sum.inl i ∧ v = Value.int i t) ∨ (∃ x t, k = Sum.inr x ∧ v = Value.str x t)
  | .inl i, v, h => by
    obtain ⟨t, e⟩ := Value.isInt_shape (k := i) (v := v) h
    exact .inl ⟨i, t, rfl, e⟩
  | .inr x, v, h => by
    obtain ⟨t, e⟩ := Value.isStrOf_shape (x := x) (v := v) h
    exact .inr ⟨x, t, rfl, e⟩
theorem keyIs_int (i : Int) (t : Tok) : keyIs (.inl i) (.int i t) = true := by simp [keyIs, Value.isInt]
theorem keyIs_str (x : Str) (t : Tok) : keyIs (.inr x) (.str x t) = true := by simp [keyIs, Value.isStrOf]
theorem key_ll (a b : Int) : decide ((Sum.inl a : Key) = Sum.inl b) = (a == b) := by
  by_cases e : a = b
  · subst e; simp
  · have h : ¬ (Sum.inl a : Key) = Sum.inl b := fun q => e (Sum.inl.inj q)
    rw [decide_eq_false h]
    exact (beq_eq_false_iff_ne.mpr e).symm
theorem key_rr (a b : Str) : decide ((Sum.inr a : Key) = Sum.inr b) = decide (a = b) := by
  by_cases e : a = b
  · subst e; simp
  · have h : ¬ (Sum.inr a : Key) = Sum.inr b := fun q => e (Sum.inr.inj q)
    rw [decide_eq_false h, decide_eq_false e]
theorem key_lr (a : Int) (b : Str) : decide ((Sum.inl a : Key) = Sum.inr b) = false := decide_eq_false (fun q => nomatch q)
theorem key_rl (a : Str) (b : Int) : decide ((Sum.inr a : Key) = Sum.inl b) = false := decide_eq_false (fun q => nomatch q)

def mixKind (prog : Program) (w : World) : PySem.KeyKind prog w Key where
  is := keyIs
  hash := keyH w
  inj := fun v a b ha hb => by
    rcases keyIs_shape ha with ⟨i, t, rfl, rfl⟩ | ⟨x, t, rfl, rfl⟩
    · rcases keyIs_shape hb with ⟨j, u, rfl, e⟩ | ⟨y, u, rfl, e⟩
      · injection e with e1 _; rw [e1]
      · exact nomatch e
    · rcases keyIs_shape hb with ⟨j, u, rfl, e⟩ | ⟨y, u, rfl, e⟩
      · exact nomatch e
      · injection e with e1 _; rw [e1]
  byValue := fun k v h => by
    rcases keyIs_shape h with ⟨i, t, rfl, rfl⟩ | ⟨x, t, rfl, rfl⟩ <;> rfl
  pyHash := fun hv h => by
    rcases keyIs_shape hv with ⟨i, t, rfl, rfl⟩ | ⟨x, t, rfl, rfl⟩
    · exact wpAny_pyHash_int h
    · exact wpAny_pyHash_str h
  eqBool := fun hu hv h => by
    rcases keyIs_shape hu with ⟨i, t, rfl, rfl⟩ | ⟨x, t, rfl, rfl⟩
    · rcases keyIs_shape hv with ⟨j, u, rfl, rfl⟩ | ⟨y, u, rfl, rfl⟩
      · rw [key_ll] at h; exact wpAny_eqBool_int h
      · rw [key_lr] at h; exact SeqAt.EqAt.int_str i t y u _ _ _ _ h
    · rcases keyIs_shape hv with ⟨j, u, rfl, rfl⟩ | ⟨y, u, rfl, rfl⟩
      · rw [key_rl] at h; exact SeqAt.EqAt.str_int x t j u _ _ _ _ h
      · rw [key_rr] at h; exact wpAny_eqBool_str h
  «strs» := fun k x t v h => by
    rcases keyIs_shape h with ⟨i, u, rfl, e⟩ | ⟨y, u, rfl, e⟩
    · exact nomatch e
    · injection e with e1 _
      subst e1
      cases v <;> rfl

theorem mixKind_int (prog : Program) (w : World) (i : Int) (t : Tok) : (mixKind prog w).is (.inl i) (.int i t) = true := keyIs_int i t
theorem mixKind_str (prog : Program) (w : World) (x : Str) (t : Tok) : (mixKind prog w).is (.inr x) (.str x t) = true := keyIs_str x t
end L2

namespace L2
open PySem PySem.Spec PyProof.Rows

/-- a value, without the heap -/
inductive V where
  | non | bl (b : Bool) | int (i : Int) | str (x : Str) | byt (b : Array UInt8) | flt (b : UInt64) | ref (a : Addr) | ty (n : String)
  deriving DecidableEq

def RelV : V → Value → Prop
  | .non, u => u = Value.none
  | .bl b, u => u = Value.bool b
  | .int i, u => ∃ t, u = Value.int i t
  | .str x, u => ∃ t, u = Value.str x t
  | .byt b, u => ∃ t, u = Value.bytes b t
  | .flt b, u => ∃ t, u = Value.float b t
  | .ref a, u => u = Value.ref a
  | .ty n, u => u = Value.type n

abbrev Vals : List V → List Value → Prop := Paired RelV
theorem Vals.length {xs : List V} {us : List Value} (r : Vals xs us) : xs.length = us.length := Paired.length r
theorem Vals.get : ∀ {xs : List V} {us : List Value} {i : Nat} {x : V}, Vals xs us → xs[i]? = some x → ∃ u, us[i]? = some u ∧ RelV x u
  | _, _, _, _, .nil, e => by simp at e
  | _, _, 0, _, .cons r _, e => by simp at e; subst e; exact ⟨_, rfl, r⟩
  | _, _, i + 1, x, .cons _ t, e => by
    obtain ⟨u, h1, h2⟩ := Vals.get (i := i) (x := x) t (by simpa using e)
    exact ⟨u, by simpa using h1, h2⟩
theorem Vals.set {x : V} {u : Value} (r : RelV x u) : ∀ {xs : List V} {us : List Value} (i : Nat), Vals xs us → Vals (xs.set i x) (us.set i u)
  | _, _, _, .nil => .nil
  | _, _, 0, .cons _ t => .cons r t
  | _, _, i + 1, .cons q t => .cons q (Vals.set r i t)
theorem Vals.append : ∀ {xs ys : List V} {us ws : List Value}, Vals xs us → Vals ys ws → Vals (xs ++ ys) (us ++ ws)
  | _, _, _, _, .nil, s => s
  | _, _, _, _, .cons r t, s => .cons r (Vals.append t s)
theorem Vals.take : ∀ {xs : List V} {us : List Value} (n : Nat), Vals xs us → Vals (xs.take n) (us.take n)
  | _, _, 0, _ => .nil
  | _, _, _ + 1, .nil => .nil
  | _, _, n + 1, .cons r t => .cons r (Vals.take n t)
theorem Vals.drop : ∀ {xs : List V} {us : List Value} (n : Nat), Vals xs us → Vals (xs.drop n) (us.drop n)
  | _, _, 0, r => r
  | _, _, _ + 1, .nil => .nil
  | _, _, n + 1, .cons _ t => Vals.drop n t

def RelO : Option V → Option Value → Prop
  | some v, some u => RelV v u
  | none, none => True
  | _, _ => False
def KV {κ : Type} : List (κ × V) → List (κ × Value) → Prop := Paired fun (p : κ × V) (q : κ × Value) => p.1 = q.1 ∧ RelV p.2 q.2

/-- a key of a dict (00_mix): an int or a text -/
def kV : Key → V
  | .inl i => .int i
  | .inr x => .str x

/-- what stands at a tracked address -/
inductive HO where
  /-- a list -/
  | lst (xs : List V)
  /-- a tuple (never changes) -/
  | tup (xs : List V)
  /-- a dict whose keys are ints and texts; one whose keys are tuples of ints and texts (the empty one is both) -/
  | dK (kvs : List (Key × V)) | dT (kvs : List (List Key × V))
  /-- a set of ints: its members, its size -/
  | set (S : Int → Bool) (n : Nat)
  /-- an instance of the class at C, its dict at dx, its attributes -/
  | ins (C dx : Addr) (fs : List (Str × V))
  /-- the dict of the instance at x -/
  | own (x : Addr)
  /-- the dict of an exception -/
  | xd (fs : List (Str × V))
  /-- a bound method, f of x -/
  | met (f x : Addr)
  /-- a range object lo, lo + 1, .. below hi -/
  | rng (lo hi : Int)
  /-- a thing that is known to the object (the script; a dict while a loop walks it): read, never written while it is so -/
  | frz (o : Obj) (u : HO)
  /-- a code object's table -/
  | tbl (ps : Array Value)
  /-- any other thing, by what is true of its one object (a def of one's own: SetO a S n := HO.ext fun h => ..) -/
  | ext (φ : Heap → Prop)

abbrev Hp := Addr → Option HO
def upd (H : Hp) (a : Addr) (o : HO) : Hp := fun b => if b = a then some o else H b
theorem upd_same {H : Hp} {a : Addr} {o : HO} : upd H a o a = some o := by unfold upd; rw [if_pos rfl]
theorem upd_ne {H : Hp} {a b : Addr} {o : HO} (h : b ≠ a) : upd H a o b = H b := by unfold upd; rw [if_neg h]
theorem upd_upd {H : Hp} {a : Addr} {o u : HO} : upd (upd H a o) a u = upd H a u := by
  funext b; unfold upd; split <;> rfl
/-- two objects of different content stand apart -/
theorem ne_of {H : Hp} {a b : Addr} {o u : HO} (h : H a = some o) (h' : H b = some u) (d : o ≠ u) : a ≠ b := by
  intro e; subst e; rw [h] at h'; exact d (Option.some.inj h')
theorem ne_of_none {H : Hp} {a b : Addr} {o : HO} (h : H a = some o) (h' : H b = none) : a ≠ b := by
  intro e; subst e; rw [h] at h'; cases h'

section
variable (P : Program) (w : World)
def ObjOk (H : Hp) (h : Heap) (a : Addr) : HO → Prop
  | .lst xs => xs.length ≤ sizeLine ∧ ∃ (its : List Value) (n : Nat), Vals xs its ∧ h.get? a = some { cls := .type "list", data := .seq its.toArray n }
  | .tup xs => xs.length ≤ sizeLine ∧ ∃ its : List Value, Vals xs its ∧ IsTup h a its.toArray
  | .dK kvs => kvs.length ≤ sizeLine ∧ (a == sysModules) = false ∧ ∃ vs, KV kvs vs ∧ h.DictOf (mixKind P w) a vs
  | .dT kvs => kvs.length ≤ sizeLine ∧ (a == sysModules) = false ∧ ∃ xs : List (List Key × Addr × Value),
      Paired (fun (p : List Key × V) (q : List Key × Addr × Value) => p.1 = q.1 ∧ H q.2.1 = some (.tup (p.1.map kV)) ∧ RelV p.2 q.2.2) kvs xs ∧
      ∃ o es ep, h.get? a = some o ∧ o.ExactDict ∧ o.data = .dict es ep ∧ es.toList = xs.map (entryOfKey (tupleKind (mixKind P w))) ∧ (xs.map (·.1)).Nodup
  | .set S n => h.SetOf (intKind P w) a S n
  | .ins C dx fs => H dx = some (.own a) ∧ fs.length ≤ 1000 ∧ dx ≠ a ∧ h.get? a = some (PySem.W.instObj C dx) ∧
      ∃ mA, h.Ns1 dx mA ∧ (∀ f, RelO (fs.lookup f) (mA f)) ∧ PySem.Within mA (fs.map (·.1))
  | .own _ => ∃ o, h.get? a = some o
  | .xd fs => ∃ mA, h.Ns1 a mA ∧ ∀ f, RelO (fs.lookup f) (mA f)
  | .rng lo hi => ∃ t u v, h.get? a = some { cls := .type "range", data := .fields #[.int lo t, .int hi u, .int 1 v] }
  | .frz o u => h.get? a = some o ∧ ObjOk H h a u
  | .tbl ps => h.get? a = some { cls := .none, data := .fields ps }
  | .met f x => h.get? a = some (PySem.W.methodObj (.ref f) (.ref x))
  | .ext φ => φ h ∧ (∃ o, h.get? a = some o) ∧ ∀ h1 h2 : Heap, φ h1 → (∀ o, h1.get? a = some o → h2.get? a = some o) → φ h2
/-- the abstract heap is held -/
def HOk (H : Hp) (h : Heap) : Prop := ∀ a o, H a = some o → ObjOk P w H h a o
end

section
variable {P : Program} {w : World} {H H' : Hp} {h h' : Heap} {a : Addr} {o : HO}
theorem ObjOk.lt (x : ObjOk P w H h a o) : a < h.objs.size := by
  cases o with
  | lst xs => obtain ⟨_, _, _, _, e⟩ := x; exact Heap.lt_size e
  | tup xs => obtain ⟨_, _, _, p⟩ := x; exact p.lt
  | dK kvs => obtain ⟨_, _, _, _, o, _, _, e, _⟩ := x; exact Heap.lt_size e
  | dT kvs => obtain ⟨_, _, _, _, o, _, _, e, _⟩ := x; exact Heap.lt_size e
  | set S n => obtain ⟨o, _, _, _, e, _⟩ := x; exact Heap.lt_size e
  | ins C dx fs => obtain ⟨_, _, _, e, _⟩ := x; exact Heap.lt_size e
  | own y => obtain ⟨_, e⟩ := x; exact Heap.lt_size e
  | xd fs => obtain ⟨_, ⟨_, _, _, e, _⟩, _⟩ := x; exact Heap.lt_size e
  | rng lo hi => obtain ⟨_, _, _, e⟩ := x; exact Heap.lt_size e
  | frz ob u => obtain ⟨e, _⟩ := x; exact Heap.lt_size e
  | tbl ps => exact Heap.lt_size (show h.get? a = some _ from x)
  | met f y => exact Heap.lt_size (show h.get? a = some _ from x)
  | ext φ => obtain ⟨_, ⟨_, e⟩, _⟩ := x; exact Heap.lt_size e
theorem Paired.mapP {α β : Type} {F G : α → β → Prop} : ∀ {l₁ : List α} {l₂ : List β}, Paired F l₁ l₂ → (∀ a b, F a b → G a b) → Paired G l₁ l₂
  | _, _, .nil, _ => .nil
  | _, _, .cons r t, f => .cons (f _ _ r) (Paired.mapP t f)
/-- what an object's description leans on: its own object, its own dict, the tuples -/
theorem ObjOk.stay (x : ObjOk P w H h a o) (k : ∀ b u, (b = a ∨ H b = some (.own a)) → h.get? b = some u → h'.get? b = some u)
    (ho : ∀ b, H b = some (.own a) → H' b = some (.own a)) (ht : ∀ b xs, H b = some (.tup xs) → H' b = some (.tup xs)) : ObjOk P w H' h' a o := by
  induction o with
  | lst xs => obtain ⟨z, its, n, r, e⟩ := x; exact ⟨z, its, n, r, k _ _ (.inl rfl) e⟩
  | tup xs => obtain ⟨z, its, r, ob, e, c⟩ := x; exact ⟨z, its, r, ob, k _ _ (.inl rfl) e, c⟩
  | dK kvs => obtain ⟨z, y, vs, r, ob, es, ep, e, c⟩ := x; exact ⟨z, y, vs, r, ob, es, ep, k _ _ (.inl rfl) e, c⟩
  | dT kvs =>
    obtain ⟨z, y, xs, r, ob, es, ep, e, c⟩ := x
    exact ⟨z, y, xs, Paired.mapP r fun p q z => ⟨z.1, ht _ _ z.2.1, z.2.2⟩, ob, es, ep, k _ _ (.inl rfl) e, c⟩
  | set S n => obtain ⟨ob, es, ep, t, e, c⟩ := x; exact ⟨ob, es, ep, t, k _ _ (.inl rfl) e, c⟩
  | ins C dx fs =>
    obtain ⟨d, z, ne, e, mA, ⟨od, es, ep, e2, c⟩, r⟩ := x
    exact ⟨ho _ d, z, ne, k _ _ (.inl rfl) e, mA, ⟨od, es, ep, k _ _ (.inr d) e2, c⟩, r⟩
  | own y => obtain ⟨ob, e⟩ := x; exact ⟨ob, k _ _ (.inl rfl) e⟩
  | xd fs => obtain ⟨mA, ⟨od, es, ep, e, c⟩, r⟩ := x; exact ⟨mA, ⟨od, es, ep, k _ _ (.inl rfl) e, c⟩, r⟩
  | rng lo hi => obtain ⟨t, u, v, e⟩ := x; exact ⟨t, u, v, k _ _ (.inl rfl) e⟩
  | frz ob u ih => obtain ⟨e, q⟩ := x; exact ⟨k _ _ (.inl rfl) e, ih q⟩
  | tbl ps =>
    have e : h.get? a = some { cls := .none, data := .fields ps } := x
    show h'.get? a = some { cls := .none, data := .fields ps }
    exact k a _ (.inl rfl) e
  | met f y =>
    have e : h.get? a = some (PySem.W.methodObj (.ref f) (.ref y)) := x
    show h'.get? a = some (PySem.W.methodObj (.ref f) (.ref y))
    exact k a _ (.inl rfl) e
  | ext φ => obtain ⟨p, ⟨o, e⟩, st⟩ := x; exact ⟨st _ _ p fun o q => k _ _ (.inl rfl) q, ⟨o, k _ _ (.inl rfl) e⟩, st⟩
theorem HOk.lt (x : HOk P w H h) (e : H a = some o) : a < h.objs.size := (x a o e).lt
theorem HOk.fresh (x : HOk P w H h) (e : h.objs.size ≤ a) : H a = none := by
  cases q : H a with
  | none => rfl
  | some u => exact absurd (Nat.lt_of_lt_of_le (x.lt q) e) (Nat.lt_irrefl _)
/-- every object of the heap is kept -/
theorem HOk.kept (x : HOk P w H h) (k : ∀ b u, h.get? b = some u → h'.get? b = some u) : HOk P w H h' := fun a o e =>
  (x a o e).stay (fun b u _ q => k b u q) (fun _ q => q) fun _ _ q => q
/-- a new object is laid and tracked -/
theorem HOk.laid (x : HOk P w H h) (k : ∀ b u, h.get? b = some u → h'.get? b = some u) (hp : h.objs.size ≤ a) (new : ObjOk P w (upd H a o) h' a o) : HOk P w (upd H a o) h' := fun b u e => by
  have hn := x.fresh hp
  by_cases hb : b = a
  · subst hb; rw [upd_same] at e; cases e; exact new
  · rw [upd_ne hb] at e
    exact (x b u e).stay (fun c v _ q => k c v q) (fun c q => by rw [upd_ne (ne_of_none q hn)]; exact q) fun c xs q => by rw [upd_ne (ne_of_none q hn)]; exact q
end

/-- what may be read as u: it is u, or a known u -/
def Rd (H : Hp) (a : Addr) (u : HO) : Prop := H a = some u ∨ ∃ o, H a = some (.frz o u)
theorem Rd.of {H : Hp} {a : Addr} {u : HO} (h : H a = some u) : Rd H a u := .inl h
theorem Rd.ok {P : Program} {w : World} {H : Hp} {h : Heap} {a : Addr} {u : HO} (r : Rd H a u) (x : HOk P w H h) : ObjOk P w H h a u := by
  rcases r with r | ⟨o, r⟩
  · exact x a u r
  · obtain ⟨_, q⟩ := x a _ r
    exact q
/-- what may be written -/
def Mut : Option HO → Prop
  | some (.lst _) => True
  | some (.dK _) => True
  | some (.dT _) => True
  | some (.set _ _) => True
  | some (.ins _ _ _) => True
  | some (.ext _) => True
  | _ => False
section
variable {P : Program} {w : World} {H : Hp} {h h' : Heap} {x e : Addr} {o' : HO}
/-- the object at e is changed: x itself, or the dict of the instance x -/
theorem HOk.write (ok : HOk P w H h) (mu : Mut (H x)) (he : e = x ∨ H e = some (.own x)) (k : ∀ b u, b ≠ e → h.get? b = some u → h'.get? b = some u) (heo : ∃ u, h'.get? e = some u)
    (new : ObjOk P w (upd H x o') h' x o') : HOk P w (upd H x o') h' := fun b u q => by
  have nown : ∀ c y, H c = some (.own y) → c ≠ x := fun c y r z => by subst z; rw [r] at mu; exact mu
  have ntup : ∀ c xs, H c = some (.tup xs) → c ≠ x := fun c xs r z => by subst z; rw [r] at mu; exact mu
  by_cases hb : b = x
  · subst hb; rw [upd_same] at q; cases q; exact new
  · rw [upd_ne hb] at q
    by_cases hbe : b = e
    · have q' : H b = some (.own x) := by
        rcases he with z | z
        · exact absurd (hbe.trans z) hb
        · rw [hbe]; exact z
      rw [q] at q'; cases q'
      obtain ⟨v, hv⟩ := heo
      exact ⟨v, by rw [hbe]; exact hv⟩
    · refine (ok b u q).stay (fun c v hc r => k c v ?_ r) (fun c r => by rw [upd_ne (nown c b r)]; exact r) fun c xs r => by rw [upd_ne (ntup c xs r)]; exact r
      rcases hc with rfl | hc
      · exact hbe
      · rintro rfl
        rcases he with z | z
        · exact nown c b hc z
        · rw [hc] at z; cases z; exact hb rfl
end

/-! ### kept unless tracked; of the frames at fs (the callers') the slots may change (an exception that passes writes there); of the records at ex (iterators) nothing is said -/
structure Un (fs ex : List Addr) (H H' : Hp) (h h' : Heap) : Prop where
  keep : ∀ b o, h.get? b = some o → H b = none → b ∉ fs → b ∉ ex → h'.get? b = some o
  slot : ∀ b o, h.get? b = some o → H b = none → b ∈ fs → b ∉ ex → ∃ sl, h'.get? b = some { o with slots := sl }
  free : ∀ b o, h.get? b = some o → H b = none → b ∉ ex → H' b = none
  there : ∀ b o, h.get? b = some o → b ∉ ex → ∃ o', h'.get? b = some o'
  tups : ∀ b xs, H b = some (.tup xs) → H' b = some (.tup xs)
  frzs : ∀ b o u, H b = some (.frz o u) → H' b = some (.frz o u)
  tbls : ∀ b ps, H b = some (.tbl ps) → ∃ more, H' b = some (.tbl (ps ++ more))
section
variable {fs fs' ex ex' : List Addr} {H H1 H2 : Hp} {h h1 h2 h' : Heap} {a x e : Addr} {o : HO}
theorem Un.any (u : Un fs ex H H1 h h1) {b : Addr} {ob : Obj} (q : h.get? b = some ob) (n : H b = none) (hx : b ∉ ex) : ∃ sl, h1.get? b = some { ob with slots := sl } := by
  by_cases hb : b ∈ fs
  · exact u.slot b ob q n hb hx
  · exact ⟨ob.slots, u.keep b ob q n hb hx⟩
theorem Un.trans (a : Un fs ex H H1 h h1) (b : Un fs ex H1 H2 h1 h2) : Un fs ex H H2 h h2 where
  keep := fun c ob q n hc hx => b.keep c ob (a.keep c ob q n hc hx) (a.free c ob q n hx) hc hx
  slot := fun c ob q n hc hx => by
    obtain ⟨sl, e1⟩ := a.slot c ob q n hc hx
    obtain ⟨sl', e2⟩ := b.slot c _ e1 (a.free c ob q n hx) hc hx
    exact ⟨sl', e2⟩
  free := fun c ob q n hx => by
    obtain ⟨o', e1⟩ := a.there c ob q hx
    exact b.free c o' e1 (a.free c ob q n hx) hx
  there := fun c ob q hx => by
    obtain ⟨o', e1⟩ := a.there c ob q hx
    exact b.there c o' e1 hx
  tups := fun c xs q => b.tups c xs (a.tups c xs q)
  frzs := fun c ob xs q => b.frzs c ob xs (a.frzs c ob xs q)
  tbls := fun c ps q => by
    obtain ⟨m1, e1⟩ := a.tbls c ps q
    obtain ⟨m2, e2⟩ := b.tbls c _ e1
    exact ⟨m1 ++ m2, by rw [e2, Array.append_assoc]⟩
theorem Un.kept (k : ∀ b u, h.get? b = some u → h'.get? b = some u) : Un fs ex H H h h' :=
  ⟨fun b ob q _ _ _ => k b ob q, fun b ob q _ _ _ => ⟨ob.slots, k b ob q⟩, fun _ _ _ n _ => n, fun b ob q _ => ⟨ob, k b ob q⟩, fun _ _ q => q, fun _ _ _ q => q, fun _ ps q => ⟨#[], by rw [q]; simp⟩⟩
theorem Un.refl : Un fs ex H H h h := Un.kept fun _ _ q => q
theorem Un.laid (k : ∀ b u, h.get? b = some u → h'.get? b = some u) (hp : h.objs.size ≤ a) (hn : H a = none) : Un fs ex H (upd H a o) h h' where
  keep := fun b u q _ _ _ => k b u q
  slot := fun b u q _ _ _ => ⟨u.slots, k b u q⟩
  free := fun b u q n _ => by rw [upd_ne (Nat.ne_of_lt (Nat.lt_of_lt_of_le (Heap.lt_size q) hp))]; exact n
  there := fun b u q _ => ⟨u, k b u q⟩
  tups := fun b xs q => by rw [upd_ne (ne_of_none q hn)]; exact q
  frzs := fun b u xs q => by rw [upd_ne (ne_of_none q hn)]; exact q
  tbls := fun b ps q => ⟨#[], by rw [upd_ne (ne_of_none q hn), q]; simp⟩
theorem Un.write (mu : Mut (H x)) (he : e = x ∨ H e = some (.own x)) (k : ∀ b u, b ≠ e → h.get? b = some u → h'.get? b = some u) (heo : ∃ u, h'.get? e = some u) : Un fs ex H (upd H x o) h h' := by
  have hx : ∀ b, H b = none → b ≠ x := fun b n z => by subst z; rw [n] at mu; exact mu
  have hb : ∀ b, H b = none → b ≠ e := fun b n z => by
    subst z
    rcases he with r | r
    · exact hx b n r
    · rw [n] at r; cases r
  have hm : ∀ b u, H b = some u → ¬ Mut (some u) → b ≠ x := fun b u q nm z => by subst z; rw [q] at mu; exact nm mu
  refine ⟨fun b u q n _ _ => k b u (hb b n) q, fun b u q n _ _ => ⟨u.slots, k b u (hb b n) q⟩, fun b u q n _ => by rw [upd_ne (hx b n)]; exact n, fun b u q _ => ?_,
    fun b xs q => by rw [upd_ne (hm b _ q fun z => z)]; exact q, fun b u xs q => by rw [upd_ne (hm b _ q fun z => z)]; exact q, fun b ps q => ⟨#[], by rw [upd_ne (hm b _ q fun z => z), q]; simp⟩⟩
  by_cases hbe : b = e
  · subst hbe; exact heo
  · exact ⟨u, k b u hbe q⟩
theorem Un.mono (u : Un fs ex H H1 h h1) (hs : ∀ b ∈ fs, b ∈ fs') (hx : ∀ b ∈ ex, b ∈ ex') : Un fs' ex' H H1 h h1 :=
  ⟨fun b ob q n hb he => u.keep b ob q n (fun z => hb (hs b z)) fun z => he (hx b z), fun _ _ q n _ he => u.any q n fun z => he (hx _ z), fun b ob q n he => u.free b ob q n fun z => he (hx b z), fun b ob q he => u.there b ob q fun z => he (hx b z), u.tups, u.frzs, u.tbls⟩
end

/-! ### the heap without what is tracked -/
def trk (h : Heap) (H : Hp) : List Addr := (List.range h.objs.size).filter fun a => (H a).isSome
def hidT (h : Heap) (H : Hp) : Heap := PySem.W.hideAll h (trk h H)
theorem hidT_size (h : Heap) (H : Hp) : (hidT h H).objs.size = h.objs.size := PySem.W.hideAll_size _ _
theorem hidT_get {h : Heap} {H : Hp} {b : Addr} {o : Obj} (e : h.get? b = some o) (n : H b = none) : (hidT h H).get? b = some o :=
  PySem.W.hideAll_get _ e fun hm => by
    have q : (H b).isSome = true := (List.mem_filter.mp hm).2
    rw [n] at q; simp at q
theorem of_hidT {h : Heap} {H : Hp} {b : Addr} {o : Obj} (e : (hidT h H).get? b = some o) : h.get? b = some o ∧ H b = none := by
  have e' : h.get? b = some o := PySem.W.of_hideAll (trk h H) e
  refine ⟨e', ?_⟩
  cases q : H b with
  | none => rfl
  | some x =>
    have hm : b ∈ trk h H := List.mem_filter.mpr ⟨List.mem_range.mpr (Heap.lt_size e'), by simp [q]⟩
    have z : (hidT h H).get? b = none := PySem.W.hideAll_none (trk h H) hm
    rw [z] at e; cases e

/-! ### OpenK's ledger, filled with every new object but one -/
def allNews (g h : Heap) (L : Addr) : List (Addr × Obj) := (List.range h.objs.size).filterMap fun a => if a = L ∨ (g.get? a).isSome = true then none else (h.get? a).map fun o => (a, o)
def rest (g h : Heap) (L d : Addr) : List (Addr × Obj) := (allNews g h L).filter fun p => decide (p.1 ≠ d)
end L2

namespace L2
open PySem PySem.Spec PyProof.Rows

/-- the module's facts, over the base: the heap at the law's entry without what is tracked there -/
structure Mod (K : PySem.W.Frag) (mg : Str → Option Value) (base : Heap) : Prop where
  kin : K.In base
  glob : base.Ns mainGlobals mg
  blt : ∃ mb, base.Ns builtinsNs mb ∧ ∀ x : Str, x ≠ "__name__" → mb x = bootBuiltins x
  nolimit : base.NoLimit

/-- the context: a def's body (or a comprehension's block) running. base: fixed through the whole law; s₀, H₀: the entry; outer: the frames whose slots others may change (a def's callers); stack: all frames that run;
   ex: iterators that were made ahead of the entry and are walked here (a comprehension's); fn: the names whose cells were made at the entry (a def: all; a comprehension's block: its own); calm: not within an except suite; pn: pins that every state bears; xe: what is wanted of an exception that leaves the code -/
structure Cx where
  prog : Program
  w : World
  K : PySem.W.Frag
  mg : Str → Option Value
  base : Heap
  A : Around
  N : List Str
  s₀ : Shared
  H₀ : Hp
  env : Env
  outer : List Env
  stack : List Env
  ex : List Addr
  fn : Str → Bool
  calm : Bool
  pn : List (Addr × Obj)
  xe : Value → Shared → Prop
/-- the callers' frames -/
def frs (l : List Env) : List Addr := l.filterMap (·.frame)
abbrev Cx.fs (X : Cx) : List Addr := frs X.outer

def Vis (sc : Scope) (x : Str) : Prop := sc.names.lookup x = some .local ∨ sc.names.lookup x = some .cell ∨ sc.names.lookup x = some .free
def Loc (sc : Scope) (x : Str) : Prop := sc.names.lookup x = some .local ∨ sc.names.lookup x = some .cell
def Look (env : Env) (h : Heap) (m : Str → Option Value) (x : Str) (u : Value) : Prop :=
  (env.kindOf x = some .local ∧ m x = some u) ∨ ((env.kindOf x = some .cell ∨ env.kindOf x = some .free) ∧ ∃ c, env.cells.lookup x = some c ∧ h.IsCell c (some u))

structure Cx.Ok (X : Cx) : Prop where
  mod : Mod X.K X.mg X.base
  kind : X.env.scope.kind = .function
  glob : X.env.globals = mainGlobals
  blt : X.env.builtins = builtinsNs
  above : X.s₀.heap.objs.size ≤ X.env.locals
  inj : ∀ x y c, X.env.cells.lookup x = some c → X.env.cells.lookup y = some c → x = y
  has : ∀ x, (X.env.kindOf x = some .cell ∨ X.env.kindOf x = some .free) → ∃ c, X.env.cells.lookup x = some c
  cab : ∀ x c, X.fn x = true → X.env.cells.lookup x = some c → X.s₀.heap.objs.size ≤ c
  hd : X.calm = true → X.A.handled = none
  frames : X.A.frames = some X.stack
  stk : X.stack = X.outer ∨ (X.stack = X.env :: X.outer ∧ X.env.frame = some X.env.locals)
  exf : ∀ b ∈ X.ex, b ≠ X.env.locals ∧ ∀ x c, X.env.cells.lookup x = some c → c ≠ b
  bs : ∀ b o, X.base.get? b = some o → X.s₀.heap.get? b = some o ∧ X.H₀ b = none
  bsz : X.base.objs.size ≤ X.s₀.heap.objs.size
  noex : ∀ b o, X.base.get? b = some o → b ∉ X.ex
  exfs : ∀ b ∈ X.ex, b ∉ X.fs
  funs : X.s₀.heap.FunFrames X.base X.outer
  frf : ∀ b ∈ X.fs, X.H₀ b = none

structure Inv (X : Cx) (pins : List (Addr × Obj)) (σ : List (Option V)) (H : Hp) (s : Shared) : Prop where
  ok : X.Ok
  os : s.os = X.s₀.os
  bare : AllBare s.gens
  base : Un X.fs X.ex X.H₀ H X.s₀.heap s.heap
  loc : ∃ m, s.heap.Ns X.env.locals m ∧ ∀ (i : Nat) (x : Str) (v : V), X.N[i]? = some x → σ[i]? = some (some v) → Vis X.env.scope x → ∃ u, RelV v u ∧ Look X.env s.heap m x u
  cell : ∀ x c, X.env.cells.lookup x = some c → ∃ v, s.heap.IsCell c v
  free : H X.env.locals = none
  freeC : ∀ x c, X.env.cells.lookup x = some c → H c = none
  pin : ∀ p ∈ X.pn ++ pins, s.heap.get? p.1 = some p.2 ∧ H p.1 = none ∧ p.1 ≠ X.env.locals ∧ p.1 ∉ X.fs ∧ ∀ v, p.2.data ≠ .cell v
  hok : HOk X.prog X.w H s.heap
  len : σ.length = X.N.length

section
variable {X : Cx} {pins : List (Addr × Obj)} {σ : List (Option V)} {H H' : Hp} {s : Shared} {h' : Heap}

theorem Cx.Ok.nofr (ok : X.Ok) {b : Addr} {o : Obj} (e : X.base.get? b = some o) : b ∉ X.fs := fun hb => by
  have := (ok.funs.mem hb).1
  rw [e] at this; cases this
theorem Inv.bs (I : Inv X pins σ H s) : ∀ b o, X.base.get? b = some o → s.heap.get? b = some o ∧ H b = none := fun b o e =>
  ⟨I.base.keep b o (I.ok.bs b o e).1 (I.ok.bs b o e).2 (I.ok.nofr e) (I.ok.noex b o e), I.base.free b o (I.ok.bs b o e).1 (I.ok.bs b o e).2 (I.ok.noex b o e)⟩
theorem Inv.bk (I : Inv X pins σ H s) : ∀ b o, X.base.get? b = some o → s.heap.get? b = some o := fun b o e => (I.bs b o e).1
theorem Inv.mod (I : Inv X pins σ H s) : Mod X.K X.mg X.base := I.ok.mod
theorem Inv.kIn (I : Inv X pins σ H s) : X.K.In s.heap := I.ok.mod.kin.keeps I.bk
theorem Inv.nolimit (I : Inv X pins σ H s) : s.heap.NoLimit := I.ok.mod.nolimit.keeps I.bk
theorem Inv.lt (I : Inv X pins σ H s) : X.env.locals < s.heap.objs.size := let ⟨_, hn, _⟩ := I.loc; hn.lt
theorem Inv.sz (I : Inv X pins σ H s) : X.s₀.heap.objs.size ≤ s.heap.objs.size := Nat.le_trans I.ok.above (Nat.le_of_lt I.lt)
theorem Inv.nofs (I : Inv X pins σ H s) {a : Addr} (h : s.heap.objs.size ≤ a) : a ∉ X.fs := fun hb => by
  obtain ⟨_, o, ho, _⟩ := I.ok.funs.mem hb
  exact absurd (Nat.lt_of_lt_of_le (Heap.lt_size ho) (Nat.le_trans I.sz h)) (Nat.lt_irrefl _)
theorem Inv.cne (I : Inv X pins σ H s) : ∀ x c, X.env.cells.lookup x = some c → c ≠ X.env.locals := fun x c e z => by
  obtain ⟨v, o, ho, hd⟩ := I.cell x c e
  obtain ⟨m, ⟨o', es, ep, ho', hd', _⟩, _⟩ := I.loc
  rw [z, ho'] at ho; cases ho; rw [hd'] at hd; cases hd
theorem Inv.funs (I : Inv X pins σ H s) : s.heap.FunFrames X.base X.outer := by
  have all : ∀ (l : List Env), (∀ b ∈ frs l, b ∈ X.fs) → X.s₀.heap.FunFrames X.base l → s.heap.FunFrames X.base l := by
    intro l
    induction l with
    | nil => intro _ _; trivial
    | cons env r ih =>
      intro hs hl
      obtain ⟨hk, ⟨L, o, hf, hn, ho, hd⟩, hr⟩ := hl
      have hL : L ∈ X.fs := hs L (by unfold frs; rw [List.filterMap_cons, hf]; exact List.mem_cons_self)
      obtain ⟨sl, e⟩ := I.base.slot L o ho (I.ok.frf L hL) hL fun z => I.ok.exfs L z hL
      exact ⟨hk, ⟨L, _, hf, hn, e, hd⟩, ih (fun b hb => hs b (by unfold frs; rw [List.filterMap_cons, hf]; exact List.mem_cons_of_mem _ hb)) hr⟩
  exact all X.outer (fun _ hb => hb) I.ok.funs

/-- the frames that run, for a call -/
theorem Inv.stack (I : Inv X pins σ H s) : s.heap.FunFrames X.base X.stack := by
  rcases I.ok.stk with e | ⟨e, hf⟩
  · rw [e]; exact I.funs
  · rw [e]
    obtain ⟨m, hn, _⟩ := I.loc
    refine .cons (by rw [I.ok.kind]; decide) hf hn ?_ I.funs
    exact Heap.get?_none_of_le (Nat.le_trans I.ok.bsz I.ok.above)
theorem Inv.stkSub (I : Inv X pins σ H s) : ∀ b ∈ frs X.stack, b ∈ X.env.locals :: X.fs := fun b hb => by
  rcases I.ok.stk with e | ⟨e, hf⟩
  · rw [e] at hb; exact List.mem_cons_of_mem _ hb
  · rw [e] at hb
    unfold frs at hb
    rw [List.filterMap_cons, hf] at hb
    exact hb
theorem Inv.stkFree (I : Inv X pins σ H s) : ∀ b ∈ frs X.stack, H b = none := fun b hb => by
  rcases List.mem_cons.mp (I.stkSub b hb) with e | hb
  · rw [e]; exact I.free
  · obtain ⟨_, o, ho, _⟩ := I.ok.funs.mem hb
    exact I.base.free b o ho (I.ok.frf b hb) fun z => I.ok.exfs b z hb

/-- THE STEP: the untracked objects but the frame and the records at ch are kept (the callers' frames up to slots), the frame's map is kept, the new abstract heap is held -/
theorem Inv.step {g' : Array GenState} {t' : Nat} {d' : Drawn} {ch : List Addr} (I : Inv X pins σ H s)
    (hch : ∀ b ∈ ch, (b ∈ X.ex ∨ X.s₀.heap.objs.size ≤ b) ∧ b ≠ X.env.locals ∧ (∀ x c, X.env.cells.lookup x = some c → c ≠ b) ∧ ∀ p ∈ X.pn ++ pins, p.1 ≠ b)
    (keep : ∀ b o, b ≠ X.env.locals → b ∉ X.fs → b ∉ ch → s.heap.get? b = some o → H b = none → h'.get? b = some o)
    (slot : ∀ b o, b ≠ X.env.locals → b ∈ X.fs → b ∉ ch → s.heap.get? b = some o → H b = none → ∃ sl, h'.get? b = some { o with slots := sl }) (free : ∀ b o, b ∉ ch → s.heap.get? b = some o → H b = none → H' b = none)
    (there : ∀ b o, b ∉ ch → s.heap.get? b = some o → ∃ o', h'.get? b = some o')
    (tups : ∀ b xs, H b = some (.tup xs) → H' b = some (.tup xs)) (frzs : ∀ b o u, H b = some (.frz o u) → H' b = some (.frz o u)) (tbls : ∀ b ps, H b = some (.tbl ps) → ∃ more, H' b = some (.tbl (ps ++ more)))
    (ns : ∀ m, s.heap.Ns X.env.locals m → h'.Ns X.env.locals m) (hok : HOk X.prog X.w H' h') (hg : AllBare g') :
    Inv X pins σ H' { s with heap := h', gens := g', drawn := d', toks := t' } := by
  have neL : ∀ b o, X.s₀.heap.get? b = some o → b ≠ X.env.locals := fun b o e => Nat.ne_of_lt (Nat.lt_of_lt_of_le (Heap.lt_size e) I.ok.above)
  have neC : ∀ b o, X.s₀.heap.get? b = some o → b ∉ X.ex → b ∉ ch := fun b o e hx hb => by
    rcases (hch b hb).1 with z | z
    · exact hx z
    · exact absurd (Nat.lt_of_lt_of_le (Heap.lt_size e) z) (Nat.lt_irrefl _)
  have cellK : ∀ x c, X.env.cells.lookup x = some c → ∀ v, s.heap.IsCell c v → h'.IsCell c v := fun x c e v ⟨o, ho, hd⟩ => by
    have nch : c ∉ ch := fun z => (hch c z).2.2.1 x c e rfl
    by_cases hc : c ∈ X.fs
    · obtain ⟨sl, q⟩ := slot c o (I.cne x c e) hc nch ho (I.freeC x c e)
      exact ⟨_, q, hd⟩
    · exact ⟨o, keep c o (I.cne x c e) hc nch ho (I.freeC x c e), hd⟩
  refine ⟨I.ok, I.os, hg, ⟨fun b o e n hb hx => ?_, fun b o e n hb hx => ?_, fun b o e n hx => ?_, fun b o e hx => ?_, fun b xs e => tups b xs (I.base.tups b xs e), fun b o xs e => frzs b o xs (I.base.frzs b o xs e), fun b ps e => ?_⟩, ?_, fun x c e => ?_, ?_, fun x c e => ?_, fun p hp => ?_, hok, I.len⟩
  · exact keep b o (neL b o e) hb (neC b o e hx) (I.base.keep b o e n hb hx) (I.base.free b o e n hx)
  · obtain ⟨sl, e1⟩ := I.base.slot b o e n hb hx
    obtain ⟨sl', e2⟩ := slot b _ (neL b o e) hb (neC b o e hx) e1 (I.base.free b o e n hx)
    exact ⟨sl', e2⟩
  · obtain ⟨o', e1⟩ := I.base.there b o e hx
    exact free b o' (neC b o e hx) e1 (I.base.free b o e n hx)
  · obtain ⟨o', e1⟩ := I.base.there b o e hx
    exact there b o' (neC b o e hx) e1
  · obtain ⟨m1, e1⟩ := I.base.tbls b ps e
    obtain ⟨m2, e2⟩ := tbls b _ e1
    exact ⟨m1 ++ m2, by rw [e2, Array.append_assoc]⟩
  · obtain ⟨m, hn, hl⟩ := I.loc
    refine ⟨m, ns m hn, fun i x v e1 e2 e3 => ?_⟩
    obtain ⟨u, r, l⟩ := hl i x v e1 e2 e3
    refine ⟨u, r, ?_⟩
    rcases l with l | ⟨k, c, e, z⟩
    · exact .inl l
    · exact .inr ⟨k, c, e, cellK x c e _ z⟩
  · obtain ⟨v, z⟩ := I.cell x c e
    exact ⟨v, cellK x c e v z⟩
  · obtain ⟨m, ⟨o, _, _, ho, _⟩, _⟩ := I.loc
    exact free _ o (fun z => (hch _ z).2.1 rfl) ho I.free
  · obtain ⟨v, o, ho, hd⟩ := I.cell x c e
    exact free c o (fun z => (hch c z).2.2.1 x c e rfl) ho (I.freeC x c e)
  · obtain ⟨e, n, ne, nf, d⟩ := I.pin p hp
    have nch : p.1 ∉ ch := fun z => (hch p.1 z).2.2.2 p hp rfl
    exact ⟨keep p.1 p.2 ne nf nch e n, free p.1 p.2 nch e n, ne, nf, d⟩
/-- .. where the frame's own object is kept too -/
theorem Inv.un {t' : Nat} (I : Inv X pins σ H s) (u : Un X.fs [] H H' s.heap h') (hok : HOk X.prog X.w H' h') : Inv X pins σ H' { s with heap := h', toks := t' } := by
  obtain ⟨m, ⟨o, es, ep, ho, r⟩, _⟩ := id I.loc
  obtain ⟨sl, hL⟩ := u.any ho I.free (by simp)
  exact I.step (g' := s.gens) (d' := s.drawn) (ch := []) (fun _ z => nomatch z) (fun b o _ hb _ e n => u.keep b o e n hb (by simp)) (fun b o _ hb _ e n => u.slot b o e n hb (by simp)) (fun b o _ e n => u.free b o e n (by simp)) (fun b o _ e => u.there b o e (by simp)) u.tups u.frzs u.tbls (fun m' hm => by
    obtain ⟨o', es', ep', ho', r'⟩ := hm
    rw [ho] at ho'; cases ho'
    exact ⟨_, es', ep', hL, r'⟩) hok I.bare
/-- behind a call (or a comprehension's block): the slots of this frame may have changed too, the records at ch may have turned -/
theorem Inv.call {g' : Array GenState} {t' : Nat} {d' : Drawn} {ch : List Addr} (I : Inv X pins σ H s) (u : Un (frs X.stack) ch H H' s.heap h') (hok : HOk X.prog X.w H' h') (hg : AllBare g')
    (hch : ∀ b ∈ ch, (b ∈ X.ex ∨ X.s₀.heap.objs.size ≤ b) ∧ b ≠ X.env.locals ∧ (∀ x c, X.env.cells.lookup x = some c → c ≠ b) ∧ ∀ p ∈ X.pn ++ pins, p.1 ≠ b) :
    Inv X pins σ H' { s with heap := h', gens := g', drawn := d', toks := t' } := by
  obtain ⟨m, ⟨o, es, ep, ho, r⟩, _⟩ := id I.loc
  obtain ⟨sl, hL⟩ := u.any ho I.free fun z => (hch _ z).2.1 rfl
  exact I.step (ch := ch) hch (fun b o hL hb hc e n => u.keep b o e n (fun z => (List.mem_cons.mp (I.stkSub b z)).elim hL hb) hc) (fun b o _ _ hc e n => u.any e n hc) (fun b o hc e n => u.free b o e n hc) (fun b o hc e => u.there b o e hc) u.tups u.frzs u.tbls (fun m' hm => by
    obtain ⟨o', es', ep', ho', r'⟩ := hm
    rw [ho] at ho'; cases ho'
    exact ⟨_, es', ep', hL, r'⟩) hok hg
/-- an untracked record of ours (an iterator) has turned -/
theorem Inv.turned {t' : Nat} {it : Addr} (I : Inv X pins σ H s) (k : ∀ b o, b ≠ it → s.heap.get? b = some o → h'.get? b = some o) (hn : H it = none) (hL : it ≠ X.env.locals)
    (h1 : it ∈ X.ex ∨ X.s₀.heap.objs.size ≤ it) (h2 : ∀ x c, X.env.cells.lookup x = some c → c ≠ it) (h3 : ∀ p ∈ X.pn ++ pins, p.1 ≠ it) : Inv X pins σ H { s with heap := h', toks := t' } := by
  have nit : ∀ b u, H b = some u → b ≠ it := fun b u e z => by rw [z, hn] at e; cases e
  refine I.step (g' := s.gens) (d' := s.drawn) (ch := [it]) (fun b hb => ?_) (fun b o _ _ hc e _ => k b o (fun z => hc (by simp [z])) e) (fun b o _ _ hc e _ => ⟨o.slots, k b o (fun z => hc (by simp [z])) e⟩) (fun _ _ _ _ n => n)
    (fun b o hc e => ⟨o, k b o (fun z => hc (by simp [z])) e⟩) (fun _ _ e => e) (fun _ _ _ e => e) (fun b ps e => ⟨#[], by rw [e]; simp⟩) (fun m hm => ?_) (fun b u e => ?_) I.bare
  · have e : b = it := by simpa using hb
    subst e
    exact ⟨h1, hL, h2, h3⟩
  · obtain ⟨o, es, ep, ho, r⟩ := hm
    exact ⟨o, es, ep, k _ o (Ne.symm hL) ho, r⟩
  · refine (I.hok b u e).stay (fun c v hc q => k c v ?_ q) (fun _ q => q) fun _ _ q => q
    rcases hc with z | z
    · rw [z]; exact nit b u e
    · exact nit c _ z
theorem Inv.tok (I : Inv X pins σ H s) (t : Nat) : Inv X pins σ H { s with toks := t } := I.un (h' := s.heap) (t' := t) Un.refl I.hok
/-- all objects kept -/
theorem Inv.kept {t' : Nat} (I : Inv X pins σ H s) (k : ∀ b u, s.heap.get? b = some u → h'.get? b = some u) : Inv X pins σ H { s with heap := h', toks := t' } := I.un (Un.kept k) (I.hok.kept k)
/-- a new object laid and tracked -/
theorem Inv.laid {a : Addr} {o : HO} {t' : Nat} (I : Inv X pins σ H s) (k : ∀ b u, s.heap.get? b = some u → h'.get? b = some u) (hp : s.heap.objs.size ≤ a) (new : ObjOk X.prog X.w (upd H a o) h' a o) :
    Inv X pins σ (upd H a o) { s with heap := h', toks := t' } := I.un (Un.laid k hp (I.hok.fresh hp)) (I.hok.laid k hp new)
/-- an object written -/
theorem Inv.write {x e : Addr} {o : HO} {t' : Nat} (I : Inv X pins σ H s) (mu : Mut (H x)) (he : e = x ∨ H e = some (.own x)) (k : ∀ b u, b ≠ e → s.heap.get? b = some u → h'.get? b = some u) (heo : ∃ u, h'.get? e = some u)
    (new : ObjOk X.prog X.w (upd H x o) h' x o) : Inv X pins σ (upd H x o) { s with heap := h', toks := t' } := I.un (Un.write mu he k heo) (I.hok.write mu he k heo new)
theorem Inv.pins_of {pins' : List (Addr × Obj)} (I : Inv X pins σ H s) (h : ∀ p ∈ pins', s.heap.get? p.1 = some p.2 ∧ H p.1 = none ∧ p.1 ≠ X.env.locals ∧ p.1 ∉ X.fs ∧ ∀ v, p.2.data ≠ .cell v) : Inv X pins' σ H s :=
  ⟨I.ok, I.os, I.bare, I.base, I.loc, I.cell, I.free, I.freeC, fun p hp => (List.mem_append.mp hp).elim (fun z => I.pin p (List.mem_append_left _ z)) (h p), I.hok, I.len⟩

theorem nodup_ix {N : List Str} (hN : N.Nodup) {i j : Nat} {x : Str} (a : N[i]? = some x) (b : N[j]? = some x) : i = j := by
  obtain ⟨h1, e1⟩ := List.getElem?_eq_some_iff.mp a
  obtain ⟨h2, e2⟩ := List.getElem?_eq_some_iff.mp b
  exact (List.getElem_inj hN).mp (e1.trans e2.symm)

/-- a name is stored; what changed -/
theorem store_ok2 {M : Model} {A : Around} {E : Value → Shared → Prop} {i : Nat} {x : Str} {v : V} {u : Value} {Q : Unit → Shared → Prop} (I : Inv X pins σ H s) (hN : X.N.Nodup) (hi : X.N[i]? = some x) (hx : Loc X.env.scope x) (r : RelV v u)
    (h : ∀ s', Inv X pins (σ.set i (some v)) H s' → (∃ a, Heap.SameBut a s.heap s'.heap ∧ (a = X.env.locals ∨ X.env.cells.lookup x = some a)) → Q () s') (hf : X.fn x = true ∨ X.env.scope.names.lookup x = some .local := by first | exact .inl rfl | exact .inr rfl | assumption) : wpAny M A (storeName X.env x u) Q E s := by
  obtain ⟨m, hn, hl⟩ := id I.loc
  have hcls : (X.env.scope.kind == .class || (X.env.scope.kind == .module && X.env.locals != X.env.globals)) = false := by rw [I.ok.kind]; rfl
  have hiσ : i < σ.length := by rw [I.len]; exact (List.getElem?_eq_some_iff.mp hi).1
  have cne := I.cne
  have tracked : ∀ {a : Addr} {h' : Heap}, (∃ o, s.heap.get? a = some o ∧ H a = none) → Heap.SameBut a s.heap h' → HOk X.prog X.w H h' := fun {a h'} ha hs b ob e => by
    obtain ⟨_, _, hfree⟩ := ha
    refine (I.hok b ob e).stay (fun c w' hc q => (hs.2 c ?_).trans q) (fun _ q => q) fun _ _ q => q
    rintro rfl
    rcases hc with rfl | hc
    · rw [hfree] at e; cases e
    · rw [hfree] at hc; cases hc
  rcases hx with hk | hk
  · refine wpAny_storeName_local hk hn (fun h' hn' hs => ?_) hcls
    obtain ⟨oL, _, _, hoL, _⟩ := id hn
    refine h _ ⟨I.ok, I.os, I.bare, ⟨fun b o e n hb hx => ?_, fun b o e n hb hx => ?_, I.base.free, fun b o e hx => ?_, I.base.tups, I.base.frzs, I.base.tbls⟩, ⟨_, hn', fun j y v' e1 e2 e3 => ?_⟩, fun y c e => ?_, I.free, I.freeC, fun p hp => ?_, tracked ⟨oL, hoL, I.free⟩ hs, by simpa using I.len⟩ ⟨_, hs, .inl rfl⟩
    · exact (hs.2 b (Nat.ne_of_lt (Nat.lt_of_lt_of_le (Heap.lt_size e) I.ok.above))).trans (I.base.keep b o e n hb hx)
    · obtain ⟨sl, e1⟩ := I.base.slot b o e n hb hx
      exact ⟨sl, (hs.2 b (Nat.ne_of_lt (Nat.lt_of_lt_of_le (Heap.lt_size e) I.ok.above))).trans e1⟩
    · obtain ⟨o', e1⟩ := I.base.there b o e hx
      exact ⟨o', (hs.2 b (Nat.ne_of_lt (Nat.lt_of_lt_of_le (Heap.lt_size e) I.ok.above))).trans e1⟩
    · by_cases hj : j = i
      · subst hj
        rw [hi] at e1; cases e1
        rw [List.getElem?_set_self hiσ] at e2
        cases e2
        exact ⟨u, r, .inl ⟨hk, by simp⟩⟩
      · rw [List.getElem?_set_ne (Ne.symm hj)] at e2
        obtain ⟨u', r', q⟩ := hl j y v' e1 e2 e3
        refine ⟨u', r', ?_⟩
        rcases q with ⟨k, e⟩ | ⟨k, c, e, z⟩
        · refine .inl ⟨k, ?_⟩
          have : y ≠ x := fun e => hj (nodup_ix hN e1 (e ▸ hi))
          simp [this, e]
        · exact .inr ⟨k, c, e, z.sameBut hs (cne y c e)⟩
    · obtain ⟨w', z⟩ := I.cell y c e
      exact ⟨w', z.sameBut hs (cne y c e)⟩
    · obtain ⟨e, n, ne, nf, d⟩ := I.pin p hp
      exact ⟨(hs.2 p.1 ne).trans e, n, ne, nf, d⟩
  · have hfn : X.fn x = true := by
      rcases hf with z | z
      · exact z
      · rw [z] at hk; cases hk
    obtain ⟨c, hc⟩ := I.ok.has x (.inl hk)
    obtain ⟨w', z⟩ := I.cell x c hc
    refine wpAny_storeName_cell I.ok.kind hk hc z (fun h' hc' hs => ?_)
    obtain ⟨oc, hoc, hocd⟩ := id z
    refine h { s with heap := h' } ⟨I.ok, I.os, I.bare, ⟨fun b o e n hb hx => ?_, fun b o e n hb hx => ?_, I.base.free, fun b o e hx => ?_, I.base.tups, I.base.frzs, I.base.tbls⟩, ⟨m, hn.sameBut hs (Ne.symm (cne x c hc)), fun j y v' e1 e2 e3 => ?_⟩, fun y c' e => ?_, I.free, I.freeC, fun p hp => ?_, tracked ⟨oc, hoc, I.freeC x c hc⟩ hs, by simpa using I.len⟩ ⟨c, hs, .inr hc⟩
    · exact (hs.2 b (Nat.ne_of_lt (Nat.lt_of_lt_of_le (Heap.lt_size e) (I.ok.cab x c hfn hc)))).trans (I.base.keep b o e n hb hx)
    · obtain ⟨sl, e1⟩ := I.base.slot b o e n hb hx
      exact ⟨sl, (hs.2 b (Nat.ne_of_lt (Nat.lt_of_lt_of_le (Heap.lt_size e) (I.ok.cab x c hfn hc)))).trans e1⟩
    · obtain ⟨o', e1⟩ := I.base.there b o e hx
      exact ⟨o', (hs.2 b (Nat.ne_of_lt (Nat.lt_of_lt_of_le (Heap.lt_size e) (I.ok.cab x c hfn hc)))).trans e1⟩
    · by_cases hj : j = i
      · subst hj
        rw [hi] at e1; cases e1
        rw [List.getElem?_set_self hiσ] at e2
        cases e2
        exact ⟨u, r, .inr ⟨.inl hk, c, hc, hc'⟩⟩
      · rw [List.getElem?_set_ne (Ne.symm hj)] at e2
        obtain ⟨u', r', q⟩ := hl j y v' e1 e2 e3
        refine ⟨u', r', ?_⟩
        rcases q with q | ⟨k, c', e, z'⟩
        · exact .inl q
        · refine .inr ⟨k, c', e, z'.sameBut hs ?_⟩
          rintro rfl
          exact hj (nodup_ix hN e1 (I.ok.inj _ _ _ e hc ▸ hi))
    · by_cases hcc : c' = c
      · subst hcc; exact ⟨_, hc'⟩
      · obtain ⟨w2, z2⟩ := I.cell y c' e
        exact ⟨w2, z2.sameBut hs hcc⟩
    · obtain ⟨e, n, ne, nf, d⟩ := I.pin p hp
      refine ⟨(hs.2 p.1 ?_).trans e, n, ne, nf, d⟩
      intro q
      rw [q, hoc] at e
      have q' : oc = p.2 := Option.some.inj e
      exact d w' (by rw [← q']; exact hocd)
theorem store_ok {M : Model} {A : Around} {E : Value → Shared → Prop} {i : Nat} {x : Str} {v : V} {u : Value} {Q : Unit → Shared → Prop} (I : Inv X pins σ H s) (hN : X.N.Nodup) (hi : X.N[i]? = some x) (hx : Loc X.env.scope x) (r : RelV v u)
    (h : ∀ s', Inv X pins (σ.set i (some v)) H s' → Q () s') (hf : X.fn x = true ∨ X.env.scope.names.lookup x = some .local := by first | exact .inl rfl | exact .inr rfl | assumption) : wpAny M A (storeName X.env x u) Q E s :=
  store_ok2 I hN hi hx r (fun s' I' _ => h s' I') hf
/-- behind a call or a block, the state as it is -/
theorem Inv.call' {s' : Shared} {ch : List Addr} (I : Inv X pins σ H s) (ho : s'.os = s.os) (u : Un (frs X.stack) ch H H' s.heap s'.heap) (hok : HOk X.prog X.w H' s'.heap) (hg : AllBare s'.gens)
    (hch : ∀ b ∈ ch, (b ∈ X.ex ∨ X.s₀.heap.objs.size ≤ b) ∧ b ≠ X.env.locals ∧ (∀ x c, X.env.cells.lookup x = some c → c ≠ b) ∧ ∀ p ∈ X.pn ++ pins, p.1 ≠ b) : Inv X pins σ H' s' := by
  obtain ⟨h', g', d', t', o'⟩ := s'
  have e : o' = s.os := ho
  subst e
  exact I.call (g' := g') (t' := t') (d' := d') u hok hg hch
end

/-! ### the judgements -/
/-- an exception: its class, its own dict's address (where it has one), the abstract heap behind it -/
abbrev XK := Value → Option Addr → Hp → Prop
abbrev St := List (Option V)
abbrev VK := V → Hp → Prop
/-- an expression's reading; a test's; an argument list's -/
abbrev TE := St → Hp → VK → Prop
abbrev TT := St → Hp → (Bool → Hp → Prop) → Prop
abbrev TA := St → Hp → (List V → Hp → Prop) → Prop
/-- what is wanted behind a statement -/
structure Ends where
  nx : St → Hp → Prop
  rt : VK
  bk : St → Hp → Prop := fun _ _ => False
  ct : St → Hp → Prop := fun _ _ => False
abbrev TS := Ends → St → Hp → Prop

def EP (X : Cx) (pins : List (Addr × Obj)) (σ : St) (Q : VK) (u : Value) (s' : Shared) : Prop := ∃ v H', Inv X pins σ H' s' ∧ RelV v u ∧ Q v H'
def TP (X : Cx) (pins : List (Addr × Obj)) (σ : St) (Q : Bool → Hp → Prop) (b : Bool) (s' : Shared) : Prop := ∃ H', Inv X pins σ H' s' ∧ Q b H'
def AP (X : Cx) (pins : List (Addr × Obj)) (σ : St) (Q : List V → Hp → Prop) (us : List Value) (s' : Shared) : Prop := ∃ vs H', Inv X pins σ H' s' ∧ Vals vs us ∧ Q vs H'
def SP (X : Cx) (pins : List (Addr × Obj)) (D : Ends) (f : Flow) (s' : Shared) : Prop :=
  match f with
  | .next => ∃ σ' H', Inv X pins σ' H' s' ∧ D.nx σ' H'
  | .brk => ∃ σ' H', Inv X pins σ' H' s' ∧ D.bk σ' H'
  | .cont => ∃ σ' H', Inv X pins σ' H' s' ∧ D.ct σ' H'
  | .ret u => ∃ v σ' H', Inv X pins σ' H' s' ∧ RelV v u ∧ D.rt v H'

def PE (X : Cx) (e : Expr) (t : TE) : Prop :=
  ∀ (pins : List (Addr × Obj)) (s : Shared) (σ : St) (H : Hp) (Q : VK), Inv X pins σ H s → t σ H Q → wpAny (model X.prog X.w) X.A (eval e X.env) (EP X pins σ Q) X.xe s
def PT (X : Cx) (e : Expr) (t : TT) : Prop :=
  ∀ (pins : List (Addr × Obj)) (s : Shared) (σ : St) (H : Hp) (Q : Bool → Hp → Prop), Inv X pins σ H s → t σ H Q → wpAny (model X.prog X.w) X.A (isTrue e X.env (eval e X.env)) (TP X pins σ Q) X.xe s
/-- a test whatever its 'whole' is (and, or) -/
def PW (X : Cx) (e : Expr) (t : TT) : Prop :=
  ∀ (whole : Sem Value) (pins : List (Addr × Obj)) (s : Shared) (σ : St) (H : Hp) (Q : Bool → Hp → Prop), Inv X pins σ H s → t σ H Q → wpAny (model X.prog X.w) X.A (isTrue e X.env whole) (TP X pins σ Q) X.xe s
theorem PW.pt {X : Cx} {e : Expr} {t : TT} (h : PW X e t) : PT X e t := h _
/-- an argument list (no star), from the left -/
def PA (X : Cx) (es : List Expr) (t : TA) : Prop :=
  ∀ (pos : Pos) (pins : List (Addr × Obj)) (s : Shared) (σ : St) (H : Hp) (Q : List V → Hp → Prop), Inv X pins σ H s → t σ H Q → wpAny (model X.prog X.w) X.A (spliced (backTo pos (starEach es X.env))) (AP X pins σ Q) X.xe s
def PS (X : Cx) (st : Stmt) (t : TS) : Prop :=
  ∀ (pins : List (Addr × Obj)) (s : Shared) (σ : St) (H : Hp) (D : Ends), Inv X pins σ H s → t D σ H → wpAny (model X.prog X.w) X.A (exec st X.env) (SP X pins D) X.xe s
def PSs (X : Cx) (st : List Stmt) (t : TS) : Prop :=
  ∀ (pins : List (Addr × Obj)) (s : Shared) (σ : St) (H : Hp) (D : Ends), Inv X pins σ H s → t D σ H → wpAny (model X.prog X.w) X.A (execs st X.env) (SP X pins D) X.xe s
/-- weaken the end -/
theorem thn {α : Type} {t : Sem α} {Q Q' : α → Shared → Prop} {M : Model} {A : Around} {E : Value → Shared → Prop} {s : Shared} (h : wpAny M A t Q E s) (hQ : ∀ a s, Q a s → Q' a s) : wpAny M A t Q' E s := wpAny_mono h hQ fun _ _ x => x
end L2

namespace L2
open PySem PySem.Spec PyProof.Rows
section
variable {X : Cx}

/-- two expressions in a row -/
theorem bin {a b : Expr} {ta tb : TE} (ha : PE X a ta) (hb : PE X b tb) {pins : List (Addr × Obj)} {s : Shared} {σ : St} {H : Hp} {R : V → V → Hp → Prop} (I : Inv X pins σ H s) (h : ta σ H fun x H1 => tb σ H1 fun y H2 => R x y H2)
    {α : Type} {Q : α → Shared → Prop} {f : Value → Value → Sem α}
    (hf : ∀ v u s2 x y H2, Inv X pins σ H2 s2 → RelV x v → RelV y u → R x y H2 → wpAny (model X.prog X.w) X.A (f v u) Q X.xe s2) :
    wpAny (model X.prog X.w) X.A (eval a X.env) (fun v s₁ => wpAny (model X.prog X.w) X.A (eval b X.env) (fun u s₂ => wpAny (model X.prog X.w) X.A (f v u) Q X.xe s₂) X.xe s₁) X.xe s := by
  refine thn (ha pins s σ H _ I h) fun v s1 ⟨x, H1, I1, r1, q1⟩ => ?_
  refine thn (hb pins s1 σ H1 _ I1 q1) fun u s2 ⟨y, H2, I2, r2, q2⟩ => ?_
  exact hf v u s2 x y H2 I2 r1 r2 q2

/-! ### names and constants -/
def tVar (i : Nat) : TE := fun σ H Q => ∃ v, σ[i]? = some (some v) ∧ Q v H
def tC (v : V) : TE := fun _ H Q => Q v H
theorem pe_var {i : Nat} {x : Str} {pos : Pos} (hN : X.N[i]? = some x) (hv : Vis X.env.scope x) (hd : (x == ("__debug__" : Str)) = false := by decide) (hcd : (x == ("__classdict__" : Str)) = false := by decide) : PE X (.Name x pos) (tVar i) := by
  intro pins s σ H Q I h
  obtain ⟨v, e, h⟩ := h
  obtain ⟨m, hn, hl⟩ := I.loc
  obtain ⟨u, r, l⟩ := hl i x v hN e hv
  have fin : EP X pins σ Q u s := ⟨v, H, I, r, h⟩
  rcases l with ⟨hk, hm⟩ | ⟨hk, c, hc, hcell⟩
  · exact wpAny_Name (wpAny_loadName_local I.ok.kind hk hn hm fin) hd
  · rcases hk with hk | hk
    · exact wpAny_Name (wpAny_loadName_cell I.ok.kind hk hc hcell fin) hd
    · exact wpAny_Name (wpAny_loadName_free I.ok.kind hk hc hcell fin hcd) hd
theorem pe_int {i j pos} : PE X (.Constant (.int i) j pos) (tC (.int i)) := fun _ _ _ H _ I h => wpAny_Constant_int ⟨.int i, H, I.tok _, ⟨_, rfl⟩, h⟩
theorem pe_bl {b j pos} : PE X (.Constant (.bool b) j pos) (tC (.bl b)) := fun _ _ _ H _ I h => Constant_bool ⟨.bl b, H, I, rfl, h⟩
theorem pe_non {j pos} : PE X (.Constant .none j pos) (tC .non) := fun _ _ _ H _ I h => Constant_none ⟨.non, H, I, rfl, h⟩
theorem pe_str {x j pos} : PE X (.Constant (.str x) j pos) (tC (.str x)) := fun _ _ _ H _ I h => Calls.Constant_str ⟨.str x, H, I.tok _, ⟨_, rfl⟩, h⟩

/-- a global name of the def -/
def Gl (X : Cx) (x : Str) : Prop := X.env.kindOf x = some .globalImplicit
theorem ld_glob {E : Value → Shared → Prop} {pins : List (Addr × Obj)} {s : Shared} {σ : St} {H : Hp} {x : Str} {u : Value} {pos : Pos} {Q : Value → Shared → Prop} (I : Inv X pins σ H s) (hg : Gl X x) (hm : X.mg x = some u) (h : Q u s)
    (hd : (x == ("__debug__" : Str)) = false := by decide) : wpAny (model X.prog X.w) X.A (eval (.Name x pos) X.env) Q E s :=
  Calls.Name_function_global I.ok.kind hg (Calls.loadGlobal_global (by rw [I.ok.glob]; exact I.mod.glob.keeps I.bk) hm h) hd
theorem ld_blt {E : Value → Shared → Prop} {pins : List (Addr × Obj)} {s : Shared} {σ : St} {H : Hp} {x : Str} {u : Value} {pos : Pos} {Q : Value → Shared → Prop} (I : Inv X pins σ H s) (hg : Gl X x) (hm : X.mg x = none) (hv : bootBuiltins x = some u) (h : Q u s)
    (hn : x ≠ "__name__" := by decide) (hd : (x == ("__debug__" : Str)) = false := by decide) : wpAny (model X.prog X.w) X.A (eval (.Name x pos) X.env) Q E s := by
  obtain ⟨mb, h1, h2⟩ := I.mod.blt
  exact Calls.Name_function_global I.ok.kind hg (Calls.loadGlobal_builtin (by rw [I.ok.glob]; exact I.mod.glob.keeps I.bk) hm (by rw [I.ok.blt]; exact h1.keeps I.bk) ((h2 x hn).trans hv) h) hd
/-- a module's constant, a class, a function, as a value -/
theorem pe_glob {x : Str} {v : V} {u : Value} {pos : Pos} (hg : Gl X x) (hm : X.mg x = some u) (r : RelV v u) (hd : (x == ("__debug__" : Str)) = false := by decide) : PE X (.Name x pos) (tC v) :=
  fun _ _ _ H _ I h => ld_glob I hg hm ⟨v, H, I, r, h⟩ hd
theorem pe_bltn {x : Str} {v : V} {u : Value} {pos : Pos} (hg : Gl X x) (hm : X.mg x = none) (hv : bootBuiltins x = some u) (r : RelV v u) (hn : x ≠ "__name__" := by decide) (hd : (x == ("__debug__" : Str)) = false := by decide) : PE X (.Name x pos) (tC v) :=
  fun _ _ _ H _ I h => ld_blt I hg hm hv ⟨v, H, I, r, h⟩ hn hd

/-! ### arithmetic -/
variable {a b : Expr} {ta tb : TE} {pos : Pos}

/-! ### comparisons -/
def PC (X : Cx) (op : CmpOp) (a b : Expr) (t : TE) : Prop :=
  ∀ (pins : List (Addr × Obj)) (s : Shared) (σ : St) (H : Hp) (Q : VK), Inv X pins σ H s → t σ H Q →
    wpAny (model X.prog X.w) X.A (eval a X.env) (fun v s₁ => wpAny (model X.prog X.w) X.A (eval b X.env) (fun u s₂ => wpAny (model X.prog X.w) X.A (compareOp op v u) (EP X pins σ Q) X.xe s₂) X.xe s₁) X.xe s
theorem nobehind (b : Expr) {op : CmpOp} (h : op ≠ .In) (h2 : op ≠ .NotIn) : behindInMarks op b = false := by
  have e1 : (op == CmpOp.In) = false := by cases op <;> first | rfl | exact absurd rfl h
  have e2 : (op == CmpOp.NotIn) = false := by cases op <;> first | rfl | exact absurd rfl h2
  cases b <;> simp [behindInMarks, e1, e2]
/-- is None -/
def tIsN (ta : TE) : TE := fun σ H Q => ta σ H fun x H1 => Q (.bl (decide (x = .non))) H1
def tNotN (ta : TE) : TE := fun σ H Q => ta σ H fun x H1 => Q (.bl (!decide (x = .non))) H1
theorem RelV.none_iff {x : V} {v : Value} (r : RelV x v) : (v == Value.none) = decide (x = .non) := by
  cases x with
  | non => cases r; rfl
  | bl _ => cases r; rfl
  | int _ => obtain ⟨t, rfl⟩ := r; rfl
  | str _ => obtain ⟨t, rfl⟩ := r; rfl
  | byt _ => obtain ⟨t, rfl⟩ := r; rfl
  | flt _ => obtain ⟨t, rfl⟩ := r; rfl
  | ref _ => cases r; rfl
  | ty _ => cases r; rfl
theorem pc_isN {j pos'} (ha : PE X a ta) : PC X .Is a (.Constant .none j pos') (tIsN ta) := by
  intro pins s σ H Q I h
  refine thn (ha pins s σ H _ I h) fun v s1 ⟨x, H1, I1, r1, q1⟩ => ?_
  exact Constant_none (is_none_gen ⟨.bl _, H1, I1, by rw [r1.none_iff]; rfl, q1⟩)
theorem pc_notN {j pos'} (ha : PE X a ta) : PC X .IsNot a (.Constant .none j pos') (tNotN ta) := by
  intro pins s σ H Q I h
  refine thn (ha pins s σ H _ I h) fun v s1 ⟨x, H1, I1, r1, q1⟩ => ?_
  exact Constant_none (isnot_none_gen ⟨.bl _, H1, I1, by rw [r1.none_iff]; rfl, q1⟩)
/-- a comparison as a value, as a test -/
def tB (t : TE) : TT := fun σ H Q => t σ H fun x H1 => ∃ c, x = .bl c ∧ Q c H1
theorem pt_cmp {op : CmpOp} {t : TE} (h : PC X op a b t) (h1 : behindInMarks op b = false := by first | exact nobehind _ (by decide) (by decide) | rfl) : PT X (.Compare a [op] [b] pos) (tB t) := by
  intro pins s σ H Q I hw
  refine wpAny_isTrue_Compare1 (thn (h pins s σ H _ I hw) fun v s1 h1 => thn h1 fun u s2 h2 => thn h2 fun c s3 ⟨x, H1, I1, r1, q1⟩ => ?_) h1
  obtain ⟨d, rfl, q⟩ := q1
  cases r1
  exact wpAny_truthy_bool ⟨H1, I1, q⟩
/-- an expression whose value is a bool, as a test -/
theorem pt_val {e : Expr} {t : TE} (h : PE X e t) (he : ∀ whole, isTrue e X.env whole = (do let v ← whole; standAt e.pos; holding [v] (truthy v)) := by intro _; rfl) : PT X e (tB t) := by
  intro pins s σ H Q I hw
  refine isTrue_plain (thn (h pins s σ H _ I hw) fun v s1 ⟨x, H1, I1, r1, q1⟩ => ?_) (he _)
  obtain ⟨d, rfl, q⟩ := q1
  cases r1
  exact wpAny_truthy_bool ⟨H1, I1, q⟩

/-! ### and, or, not -/
variable {tA tB' : TT} {rest : List Expr}
def tAnd (t u : TT) : TT := fun σ H Q => t σ H fun c H1 => if c = true then u σ H1 Q else Q false H1
def tOr (t u : TT) : TT := fun σ H Q => t σ H fun c H1 => if c = true then Q true H1 else u σ H1 Q
def tNot (t : TT) : TT := fun σ H Q => t σ H fun c H1 => Q (!c) H1
theorem pw_and1 (ha : PT X a tA) : PW X (.BoolOp .And [a] pos) tA := by
  intro wh pins s σ H Q I h
  refine isTrue_and (thn (ha pins s σ H Q I h) fun c s1 e => ?_)
  cases c with
  | true => exact isTrue_and_nil e
  | false => exact e
theorem pw_or1 (ha : PT X a tA) : PW X (.BoolOp .Or [a] pos) tA := by
  intro wh pins s σ H Q I h
  refine isTrue_or (thn (ha pins s σ H Q I h) fun c s1 e => ?_)
  cases c with
  | false => exact isTrue_or_nil e
  | true => exact e
theorem pw_and (ha : PT X a tA) (hb : PW X (.BoolOp .And (b :: rest) pos) tB') : PW X (.BoolOp .And (a :: b :: rest) pos) (tAnd tA tB') := by
  intro wh pins s σ H Q I h
  refine isTrue_and (thn (ha pins s σ H _ I h) fun c s1 ⟨H1, I1, q1⟩ => ?_)
  cases c with
  | true => exact hb wh pins s1 σ H1 Q I1 q1
  | false => exact ⟨H1, I1, q1⟩
theorem pw_or (ha : PT X a tA) (hb : PW X (.BoolOp .Or (b :: rest) pos) tB') : PW X (.BoolOp .Or (a :: b :: rest) pos) (tOr tA tB') := by
  intro wh pins s σ H Q I h
  refine isTrue_or (thn (ha pins s σ H _ I h) fun c s1 ⟨H1, I1, q1⟩ => ?_)
  cases c with
  | true => exact ⟨H1, I1, q1⟩
  | false => exact hb wh pins s1 σ H1 Q I1 q1
theorem pt_not (ha : PT X a tA) : PT X (.UnaryOp .Not a pos) (tNot tA) := by
  intro pins s σ H Q I h
  exact isTrue_not (ha pins s σ H (fun c H1 => Q (!c) H1) I h)
/-- .. as values (bools) -/
def tAndV (ta tb : TE) : TE := fun σ H Q => ta σ H fun x H1 => ∃ c, x = .bl c ∧ if c = true then tb σ H1 Q else Q (.bl false) H1
def tNotV (ta : TE) : TE := fun σ H Q => ta σ H fun x H1 => ∃ c, x = .bl c ∧ Q (.bl (!c)) H1
theorem pe_one {op} {t : TE} (h : PE X a t) : PE X (.BoolOp op [a] pos) t := fun pins s σ H Q I hw => BoolOp_one (h pins s σ H Q I hw)
theorem pe_and (ha : PE X a ta) (hb : PE X (.BoolOp .And (b :: rest) pos) tb) : PE X (.BoolOp .And (a :: b :: rest) pos) (tAndV ta tb) := by
  intro pins s σ H Q I h
  refine BoolOp_and (thn (ha pins s σ H _ I h) fun v s1 ⟨x, H1, I1, r1, q1⟩ => ?_)
  obtain ⟨c, rfl, q1⟩ := q1
  cases r1
  refine wpAny_truthy_bool ?_
  cases c with
  | true => exact hb pins s1 σ H1 Q I1 q1
  | false => exact ⟨.bl false, H1, I1, rfl, q1⟩
theorem pe_not (ha : PE X a ta) : PE X (.UnaryOp .Not a pos) (tNotV ta) := by
  intro pins s σ H Q I h
  refine UnaryOp_ (thn (ha pins s σ H _ I h) fun v s1 ⟨x, H1, I1, r1, q1⟩ => ?_)
  obtain ⟨c, rfl, q1⟩ := q1
  cases r1
  exact not_of (wpAny_truthy_bool ⟨.bl (!c), H1, I1, rfl, q1⟩)
end
end L2

namespace L2
open PySem PySem.Spec PyProof.Rows

/-! ### a list, a tuple that is read: tracked, frozen, or an object of the module -/
def SqL (K : PySem.W.Frag) (H : Hp) (a : Addr) (xs : List V) : Prop :=
  Rd H a (.lst xs) ∨
    ∃ (o : Obj) (its : Array Value) (n : Nat), K.lookup a = some o ∧ o.cls = .type "list" ∧ o.dict = none ∧ o.data = .seq its n ∧ its.size ≤ sizeLine ∧ Vals xs its.toList
def SqT (K : PySem.W.Frag) (H : Hp) (a : Addr) (xs : List V) : Prop :=
  Rd H a (.tup xs) ∨
    ∃ (o : Obj) (its : Array Value) (n : Nat), K.lookup a = some o ∧ o.cls = .type "tuple" ∧ o.data = .seq its n ∧ its.size ≤ sizeLine ∧ Vals xs its.toList
def absV : Value → Option V
  | .none => some .non
  | .bool b => some (.bl b)
  | .int i _ => some (.int i)
  | .str x _ => some (.str x)
  | .bytes b _ => some (.byt b)
  | .float b _ => some (.flt b)
  | .ref a => some (.ref a)
  | .type n => some (.ty n)
  | _ => none
theorem RelV.abs {x : V} {u : Value} (r : RelV x u) : absV u = some x := by
  cases x with
  | non => cases r; rfl
  | bl _ => cases r; rfl
  | int _ => obtain ⟨t, rfl⟩ := r; rfl
  | str _ => obtain ⟨t, rfl⟩ := r; rfl
  | byt _ => obtain ⟨t, rfl⟩ := r; rfl
  | flt _ => obtain ⟨t, rfl⟩ := r; rfl
  | ref _ => cases r; rfl
  | ty _ => cases r; rfl
theorem RelV.inj {x y : V} {u : Value} (r : RelV x u) (q : RelV y u) : x = y := Option.some.inj (r.abs.symm.trans q.abs)
theorem Vals.inj : ∀ {xs ys : List V} {us : List Value}, Vals xs us → Vals ys us → xs = ys
  | _, _, _, .nil, .nil => rfl
  | _, _, _, .cons r t, .cons r' t' => by rw [r.inj r', Vals.inj t t']
section
variable {X : Cx} {pins : List (Addr × Obj)} {σ : St} {H : Hp} {s : Shared} {a : Addr} {xs ys : List V}
theorem SqL.of {K : PySem.W.Frag} (h : H a = some (.lst xs)) : SqL K H a xs := .inl (.inl h)
theorem SqT.of {K : PySem.W.Frag} (h : H a = some (.tup xs)) : SqT K H a xs := .inl (.inl h)
theorem Inv.list (I : Inv X pins σ H s) (h : SqL X.K H a xs) : ∃ its : List Value, Vals xs its ∧ PlainL s.heap a its.toArray ∧ xs.length ≤ sizeLine := by
  rcases h with h | ⟨o, its, n, hk, hc, hd, hs, hz, r⟩
  · obtain ⟨z, its, n, r, e⟩ := h.ok I.hok
    exact ⟨its, r, ⟨_, n, e, rfl, rfl, rfl⟩, z⟩
  · refine ⟨its.toList, r, ⟨o, n, I.kIn a o hk, hc, hd, by simpa using hs⟩, ?_⟩
    have e := r.length
    simp only [Array.length_toList] at e
    omega
theorem Inv.tuple (I : Inv X pins σ H s) (h : SqT X.K H a xs) : ∃ its : List Value, Vals xs its ∧ IsTup s.heap a its.toArray ∧ xs.length ≤ sizeLine := by
  rcases h with h | ⟨o, its, n, hk, hc, hs, hz, r⟩
  · obtain ⟨z, its, r, p⟩ := h.ok I.hok
    exact ⟨its, r, p, z⟩
  · refine ⟨its.toList, r, ⟨o, I.kIn a o hk, hc, n, by simpa using hs⟩, ?_⟩
    have e := r.length
    simp only [Array.length_toList] at e
    omega
theorem Inv.list_inj (I : Inv X pins σ H s) (h : SqL X.K H a xs) (h' : SqL X.K H a ys) : xs = ys := by
  obtain ⟨its, r, ⟨o, n, e, _, _, d⟩, _⟩ := I.list h
  obtain ⟨its', r', ⟨o', n', e', _, _, d'⟩, _⟩ := I.list h'
  rw [e] at e'; cases e'
  rw [d] at d'
  injection d' with d1 _
  have : its = its' := by simpa using congrArg Array.toList d1
  subst this
  exact r.inj r'
theorem Inv.tuple_inj (I : Inv X pins σ H s) (h : SqT X.K H a xs) (h' : SqT X.K H a ys) : xs = ys := by
  obtain ⟨its, r, ⟨o, e, _, n, d⟩, _⟩ := I.tuple h
  obtain ⟨its', r', ⟨o', e', _, n', d'⟩, _⟩ := I.tuple h'
  rw [e] at e'; cases e'
  rw [d] at d'
  injection d' with d1 _
  have : its = its' := by simpa using congrArg Array.toList d1
  subst this
  exact r.inj r'
end

/-! ### another wish about exceptions -/
abbrev Cx.wish (X : Cx) (E : Value → Shared → Prop) : Cx := { X with xe := E }
/-- no exception leaves -/
abbrev Cx.nox (X : Cx) : Cx := X.wish fun _ _ => False
theorem Cx.Ok.wish {X : Cx} (ok : X.Ok) (E : Value → Shared → Prop) : (X.wish E).Ok :=
  ⟨ok.mod, ok.kind, ok.glob, ok.blt, ok.above, ok.inj, ok.has, ok.cab, ok.hd, ok.frames, ok.stk, ok.exf, ok.bs, ok.bsz, ok.noex, ok.exfs, ok.funs, ok.frf⟩
theorem Cx.Ok.unwish {X : Cx} {E : Value → Shared → Prop} (ok : (X.wish E).Ok) : X.Ok :=
  ⟨ok.mod, ok.kind, ok.glob, ok.blt, ok.above, ok.inj, ok.has, ok.cab, ok.hd, ok.frames, ok.stk, ok.exf, ok.bs, ok.bsz, ok.noex, ok.exfs, ok.funs, ok.frf⟩
section
variable {X : Cx} {pins : List (Addr × Obj)} {σ : St} {H : Hp} {s : Shared} {E : Value → Shared → Prop}
theorem Inv.wish (I : Inv X pins σ H s) (E : Value → Shared → Prop) : Inv (X.wish E) pins σ H s := ⟨I.ok.wish E, I.os, I.bare, I.base, I.loc, I.cell, I.free, I.freeC, I.pin, I.hok, I.len⟩
theorem Inv.unwish (I : Inv (X.wish E) pins σ H s) : Inv X pins σ H s := ⟨I.ok.unwish, I.os, I.bare, I.base, I.loc, I.cell, I.free, I.freeC, I.pin, I.hok, I.len⟩
theorem SP.unwish {D : Ends} {f : Flow} {s' : Shared} (h : SP (X.wish E) pins D f s') : SP X pins D f s' := by
  cases f with
  | next => obtain ⟨σ', H', I, q⟩ := h; exact ⟨σ', H', I.unwish, q⟩
  | brk => obtain ⟨σ', H', I, q⟩ := h; exact ⟨σ', H', I.unwish, q⟩
  | cont => obtain ⟨σ', H', I, q⟩ := h; exact ⟨σ', H', I.unwish, q⟩
  | ret u => obtain ⟨v, σ', H', I, r, q⟩ := h; exact ⟨v, σ', H', I.unwish, r, q⟩
theorem PE.nox {e : Expr} {t : TE} (h : PE X.nox e t) : PE X e t := fun pins s σ H Q I hw =>
  wpAny_mono (h pins s σ H Q (I.wish _) hw) (fun _ _ ⟨v, H', I', r, q⟩ => ⟨v, H', I'.unwish, r, q⟩) fun _ _ z => False.elim z
theorem PT.nox {e : Expr} {t : TT} (h : PT X.nox e t) : PT X e t := fun pins s σ H Q I hw =>
  wpAny_mono (h pins s σ H Q (I.wish _) hw) (fun _ _ ⟨H', I', q⟩ => ⟨H', I'.unwish, q⟩) fun _ _ z => False.elim z
theorem PSs.nox {st : List Stmt} {t : TS} (h : PSs X.nox st t) : PSs X st t := fun pins s σ H D I hw =>
  wpAny_mono (h pins s σ H D (I.wish _) hw) (fun _ _ q => q.unwish) fun _ _ z => False.elim z
end

/-! ### blocks and small statements -/
section
variable {X : Cx} {st : Stmt} {rest : List Stmt} {t u : TS} {e : Expr} {te : TE} {pos : Pos}
def tNext : TS := fun D σ H => D.nx σ H
def tSeq (t u : TS) : TS := fun D σ H => t { D with nx := u D } σ H
theorem pss_nil : PSs X [] tNext := fun _ _ σ H _ I h => wpAny_execs_nil ⟨σ, H, I, h⟩
theorem pss_cons (h1 : PS X st t) (h2 : PSs X rest u) : PSs X (st :: rest) (tSeq t u) := by
  intro pins s σ H D I h
  refine wpAny_execs_cons (thn (h1 pins s σ H { D with nx := u D } I h) fun f s1 q => ?_)
  cases f with
  | next =>
    obtain ⟨σ', H', I', q⟩ := q
    exact h2 pins s1 σ' H' D I' q
  | ret v => exact q
  | brk => exact q
  | cont => exact q
theorem pss_one (h1 : PS X st t) : PSs X [st] t := by
  intro pins s σ H D I h
  refine wpAny_execs_cons (thn (h1 pins s σ H D I h) fun f s1 q => ?_)
  cases f with
  | next => exact wpAny_execs_nil q
  | ret v => exact q
  | brk => exact q
  | cont => exact q
/-- in a def's body nothing is shown -/
theorem Inv.quiet {pins : List (Addr × Obj)} {σ : St} {H : Hp} {s : Shared} (I : Inv X pins σ H s) : interactive X.env = false := by simp [interactive, I.ok.kind]
/-- an expression whose value is dropped -/
def tDrop (te : TE) : TS := fun D σ H => te σ H fun _ H1 => D.nx σ H1
theorem ps_expr (he : PE X e te) (hs : swapsWith e none pos.line X.env = pure false := by rfl) : PS X (.Expr e pos) (tDrop te) := by
  intro pins s σ H D I h
  exact wpAny_Expr_any (thn (he pins s σ H _ I h) fun v s1 ⟨x, H1, I1, r1, q1⟩ => ⟨σ, H1, I1, q1⟩) I.quiet hs
def tRet (te : TE) : TS := fun D σ H => te σ H D.rt
theorem ps_ret (he : PE X e te) : PS X (.Return (some e) pos) (tRet te) := by
  intro pins s σ H D I h
  exact wpAny_Return_some (thn (he pins s σ H _ I h) fun v s1 ⟨x, H1, I1, r1, q1⟩ => ⟨x, σ, H1, I1, r1, q1⟩)
def tIfS (c : TT) (t u : TS) : TS := fun D σ H => c σ H fun b H1 => if b = true then t D σ H1 else u D σ H1
theorem ps_if {c : Expr} {a b : List Stmt} {tc : TT} (hc : PT X c tc) (ha : PSs X a t) (hb : PSs X b u) : PS X (.If c a b pos) (tIfS tc t u) := by
  intro pins s σ H D I h
  refine wpAny_If (thn (hc pins s σ H _ I h) fun d s1 ⟨H1, I1, q1⟩ => ?_)
  cases d with
  | true => exact ha pins s1 σ H1 D I1 q1
  | false => exact hb pins s1 σ H1 D I1 q1
end

/-! ### targets -/
abbrev TG := V → St → Hp → (St → Hp → Prop) → Prop
abbrev TGs := List V → St → Hp → (St → Hp → Prop) → Prop
def PG (X : Cx) (target : Expr) (t : TG) : Prop :=
  ∀ (pins : List (Addr × Obj)) (s : Shared) (σ : St) (H : Hp) (v : V) (u : Value) (Q : St → Hp → Prop), Inv X pins σ H s → RelV v u → t v σ H Q →
    wpAny (model X.prog X.w) X.A (assign target X.env u) (fun _ s' => ∃ σ' H', Inv X pins σ' H' s' ∧ Q σ' H') X.xe s
/-- several targets, one after another -/
def PGs (X : Cx) (ts : List Expr) (t : TGs) : Prop :=
  ∀ (pins : List (Addr × Obj)) (s : Shared) (σ : St) (H : Hp) (vs : List V) (us : List Value) (Q : St → Hp → Prop), Inv X pins σ H s → Vals vs us → t vs σ H Q →
    wpAny (model X.prog X.w) X.A (assignInOrder ((assignEach ts X.env).map (·.2)) us) (fun _ s' => ∃ σ' H', Inv X pins σ' H' s' ∧ Q σ' H') X.xe s
/-- o[i] = v, by values -/
abbrev TSet := V → V → V → Hp → (Hp → Prop) → Prop
def PSet (X : Cx) (t : TSet) : Prop :=
  ∀ (pins : List (Addr × Obj)) (s : Shared) (σ : St) (H : Hp) (o i v : V) (ov iv u : Value) (Q : Hp → Prop), Inv X pins σ H s → RelV o ov → RelV i iv → RelV v u → t o i v H Q →
    wpAny (model X.prog X.w) X.A (setItem ov iv u) (fun _ s' => ∃ H', Inv X pins σ H' s' ∧ Q H') X.xe s
/-- a op= b, by values -/
abbrev TIp := V → V → Hp → VK → Prop
def PIp (X : Cx) (op : Operator) (t : TIp) : Prop :=
  ∀ (pins : List (Addr × Obj)) (s : Shared) (σ : St) (H : Hp) (x y : V) (v u : Value) (Q : VK), Inv X pins σ H s → RelV x v → RelV y u → t x y H Q →
    wpAny (model X.prog X.w) X.A (inplaceOp op v u) (EP X pins σ Q) X.xe s
section
variable {X : Cx} {pos : Pos}
def gName (i : Nat) : TG := fun v σ H Q => Q (σ.set i (some v)) H
theorem pg_name {i : Nat} {x : Str} (hN : X.N.Nodup) (hi : X.N[i]? = some x) (hx : Loc X.env.scope x) (hf : X.fn x = true ∨ X.env.scope.names.lookup x = some .local := by first | exact .inl rfl | exact .inr rfl | assumption) : PG X (.Name x pos) (gName i) := by
  intro pins s σ H v u Q I r h
  exact wpAny_assign_Name (store_ok I hN hi hx r (fun s' I' => ⟨_, H, I', h⟩) hf)
def gNil : TGs := fun vs σ H Q => vs = [] ∧ Q σ H
def gCons (t : TG) (u : TGs) : TGs := fun vs σ H Q => ∃ v r, vs = v :: r ∧ t v σ H fun σ' H' => u r σ' H' Q
theorem pgs_nil : PGs X [] gNil := by
  intro pins s σ H vs us Q I r h
  obtain ⟨e, h⟩ := h
  subst e
  cases r
  exact assignInOrder_nil ⟨σ, H, I, h⟩
theorem pgs_cons {e : Expr} {es : List Expr} {t : TG} {u : TGs} (h1 : PG X e t) (h2 : PGs X es u)
    (hs : (assignEach (e :: es) X.env).map (·.2) = assign e X.env :: (assignEach es X.env).map (·.2) := by rfl) : PGs X (e :: es) (gCons t u) := by
  intro pins s σ H vs us Q I r h
  obtain ⟨v, vr, e1, h⟩ := h
  subst e1
  cases r with
  | cons r rr =>
    rw [hs]
    refine assignInOrder_cons (thn (h1 pins s σ H _ _ _ I r h) fun _ s1 ⟨σ1, H1, I1, q1⟩ => ?_)
    exact h2 pins s1 σ1 H1 _ _ Q I1 rr q1
/-- (a, b, ..) = a tuple of that length -/
def gTup (K : PySem.W.Frag) (n : Nat) (t : TGs) : TG := fun v σ H Q => ∃ a xs, v = .ref a ∧ SqT K H a xs ∧ xs.length = n ∧ t xs σ H Q
theorem pg_tup {es : List Expr} {k : Nat} {t : TGs} {n : Nat} (hc : X.calm = true) (h : PGs X es t)
    (hn : (assignEach es X.env).length = n := by rfl) (hst : (assignEach es X.env).findIdx? (·.1) = none := by rfl) : PG X (.Tuple es k pos) (gTup X.K n t) := by
  intro pins s σ H v u Q I r hw
  obtain ⟨a, xs, e1, hq, hl, hw⟩ := hw
  subst e1
  cases r
  obtain ⟨its, rv, ht, hz⟩ := I.tuple hq
  refine assign_Tuple_tuple (I.ok.hd hc) ht (by simp [hn, ← hl, rv.length]) hst fun h' hx => ?_
  have I1 : Inv X pins σ H { s with heap := h' } := I.kept (t' := s.toks) fun b o e => hx b o (Nat.ne_of_lt (Heap.lt_size e)) e
  exact h pins _ σ H xs _ Q I1 (by simpa using rv) hw
/-- o[i] = .. -/
def gSub (to ti : TE) (t : TSet) : TG := fun v σ H Q => to σ H fun o H1 => ti σ H1 fun i H2 => t o i v H2 fun H3 => Q σ H3
theorem pg_sub {o i : Expr} {to ti : TE} {t : TSet} (ho : PE X o to) (hi : PE X i ti) (hs : PSet X t)
    (ha : ∀ v, assign (.Subscript o i pos) X.env v = (do
      let ov ← holding [v] (eval o X.env)
      let iv ← holding [v, ov] (eval i X.env)
      standAt pos
      holding [v, ov, iv] (setItem ov iv v)
      release [v, ov, iv] []) := by intro _; rfl) : PG X (.Subscript o i pos) (gSub to ti t) := by
  intro pins s σ H v u Q I r h
  rw [ha]
  refine wpAny_bind (wpAny_holding (thn (ho pins s σ H _ I h) fun ov s1 ⟨x, H1, I1, r1, q1⟩ => ?_))
  refine wpAny_bind (wpAny_holding (thn (hi pins s1 σ H1 _ I1 q1) fun iv s2 ⟨y, H2, I2, r2, q2⟩ => ?_))
  refine wpAny_bind (wpAny_standAt (wpAny_bind (wpAny_holding (thn (hs pins s2 σ H2 x y v ov iv u _ I2 r1 r2 r q2) fun _ s3 ⟨H3, I3, q3⟩ => ?_))))
  exact wpAny_release ⟨σ, H3, I3, q3⟩
/-- target = value -/
def tAsg (te : TE) (g : TG) : TS := fun D σ H => te σ H fun x H1 => g x σ H1 D.nx
theorem ps_asg {tg e : Expr} {te : TE} {g : TG} (he : PE X e te) (hg : PG X tg g) (hs : swapsWithSole [tg] e pos.line X.env = pure false := by rfl) (hw : swappedStores [tg] e X.env = pure none := by rfl)
    (h1 : (assignEach [tg] X.env).map (·.2) = [assign tg X.env] := by rfl) : PS X (.Assign [tg] e pos) (tAsg te g) := by
  intro pins s σ H D I h
  refine wpAny_Assign_stores (thn (he pins s σ H _ I h) fun v s1 ⟨x, H1, I1, r1, q1⟩ => ?_) hs hw
  rw [h1]
  exact thn (hg pins s1 σ H1 x v _ I1 r1 q1) fun _ s2 q => q
/-- name = value -/
theorem ps_set {i : Nat} {x : Str} {e : Expr} {te : TE} {pos' : Pos} (hN : X.N.Nodup) (hi : X.N[i]? = some x) (hx : Loc X.env.scope x) (he : PE X e te) (hs : swapsWith e (some (.Name x pos')) pos.line X.env = pure false := by rfl) (hf : X.fn x = true ∨ X.env.scope.names.lookup x = some .local := by first | exact .inl rfl | exact .inr rfl | assumption) :
    PS X (.Assign [.Name x pos'] e pos) (tAsg te (gName i)) := by
  intro pins s σ H D I h
  refine wpAny_Assign_Name (thn (he pins s σ H _ I h) fun v s1 ⟨y, H1, I1, r1, q1⟩ => ?_) hs
  exact store_ok I1 hN hi hx r1 (fun s2 I2 => ⟨_, H1, I2, q1⟩) hf
/-- a, b = x, y with plain local names: stored from the right; the pair itself is not tracked (the opening rows as in PyProof/Rows/TupAssign.lean:23) -/
def tPar (i j : Nat) (ta : TA) : TS := fun D σ H => ta σ H fun vs H1 => ∃ v w, vs = [v, w] ∧ D.nx ((σ.set i (some v)).set j (some w)) H1
theorem ps_par {i j : Nat} {x y : Str} {a b : Expr} {ta : TA} {px py pt : Pos} {kt k2 pt2} (hc : X.calm = true) (hN : X.N.Nodup) (hi : X.N[i]? = some x) (hj : X.N[j]? = some y) (hij : i ≠ j)
    (hx : X.env.scope.names.lookup x = some .local) (hy : X.env.scope.names.lookup y = some .local) (ha : PA X [a, b] ta)
    (hw : swappedStores [.Tuple [.Name x px, .Name y py] kt pt] (.Tuple [a, b] k2 pt2) X.env = pure (some [x, y]))
    (hs : swapsWithSole [.Tuple [.Name x px, .Name y py] kt pt] (.Tuple [a, b] k2 pt2) pos.line X.env = pure false := by rfl) :
    PS X (.Assign [.Tuple [.Name x px, .Name y py] kt pt] (.Tuple [a, b] k2 pt2) pos) (tPar i j ta) := by
  intro pins s σ H D I h
  rw [exec_Assign_arm]
  refine wpAny_bind (wpAny_standAt ?_)
  rw [hs]
  refine wpAny_bind (wpAny_pure ?_)
  rw [if_neg (by decide)]
  refine wpAny_bind (Tuple_ (thn (ha _ pins s σ H _ I h) fun us s1 ⟨vs, H1, I1, r1, q1⟩ => ?_))
  obtain ⟨v, w, e1, q1⟩ := q1
  subst e1
  obtain ⟨u1, u2, rfl, rv, rw'⟩ : ∃ u1 u2, us = [u1, u2] ∧ RelV v u1 ∧ RelV w u2 := by
    cases r1 with
    | cons p q =>
      cases q with
      | cons p' q' =>
        cases q'
        exact ⟨_, _, rfl, p, p'⟩
  refine wpAny_newObj_type ?_ (by show 2 ≤ sizeLine; decide)
  have I2 : Inv X pins σ H1 { s1 with heap := s1.heap.push { cls := .type "tuple", data := .seq [u1, u2].toArray } } := I1.kept (t' := s1.toks) fun b o e => Heap.get?_push_of_some _ e
  rw [hw]
  refine wpAny_bind (wpAny_pure ?_)
  show wpAny (model X.prog X.w) X.A (do rule "assign.swapped-stores"; let items ← unpackItems (.ref s1.heap.objs.size) 2 none; assignInOrder [fun v => bindName X.env y v, fun v => bindName X.env x v] items.reverse; pure Flow.next) _ _ _
  refine wpAny_bind (wpAny_rule (wpAny_bind (unpackItems_tuple (items := #[u1, u2]) (I.ok.hd hc) (IsTup.new s1.heap _) fun h' hx' => ?_)))
  have I3 := I2.kept (h' := h') (t' := s1.toks) fun b o e => hx' b o (Nat.ne_of_lt (Heap.lt_size e)) e
  show wpAny _ _ (assignInOrder [fun v => bindName X.env y v, fun v => bindName X.env x v] [u2, u1] >>= fun _ => pure Flow.next) _ _ _
  refine wpAny_bind (assignInOrder_cons (wpAny_bindName (store_ok I3 hN hj (.inl hy) rw' (fun s2 I4 => ?_) (.inr hy))))
  refine assignInOrder_cons (wpAny_bindName (store_ok I4 hN hi (.inl hx) rv (fun s3 I5 => assignInOrder_nil (wpAny_pure ?_)) (.inr hx)))
  rw [List.set_comm _ _ (Ne.symm hij)] at I5
  exact ⟨_, H1, I5, q1⟩
/-- name op= e -/
def tAug (i : Nat) (te : TE) (ti : TIp) : TS := fun D σ H => ∃ x, σ[i]? = some (some x) ∧ te σ H fun y H1 => ti x y H1 fun z H2 => D.nx (σ.set i (some z)) H2
theorem ps_aug {i : Nat} {x : Str} {e : Expr} {te : TE} {op : Operator} {ti : TIp} {pos' : Pos} (hN : X.N.Nodup) (hi : X.N[i]? = some x) (hx : Loc X.env.scope x) (he : PE X e te) (ho : PIp X op ti) (hf : X.fn x = true ∨ X.env.scope.names.lookup x = some .local := by first | exact .inl rfl | exact .inr rfl | assumption) :
    PS X (.AugAssign (.Name x pos') op e pos) (tAug i te ti) := by
  intro pins s σ H D I h
  obtain ⟨v, e1, h⟩ := h
  obtain ⟨m, hn, hl⟩ := I.loc
  have vis : Vis X.env.scope x := by rcases hx with k | k; exact .inl k; exact .inr (.inl k)
  obtain ⟨u, r, l⟩ := hl i x v hi e1 vis
  refine wpAny_AugAssign_Name ?_
  have go : wpAny (model X.prog X.w) X.A (eval e X.env) (fun w s₂ => wpAny (model X.prog X.w) X.A (inplaceOp op u w) (fun r s₃ => wpAny (model X.prog X.w) X.A (storeName X.env x r) (fun _ => SP X pins D .next) X.xe s₃) X.xe s₂) X.xe s := by
    refine thn (he pins s σ H _ I h) fun w s1 ⟨y, H1, I1, r1, q1⟩ => ?_
    refine thn (ho pins s1 σ H1 v y u w _ I1 r r1 q1) fun z s2 ⟨zv, H2, I2, r2, q2⟩ => ?_
    exact store_ok I2 hN hi hx r2 (fun s3 I3 => ⟨_, H2, I3, q2⟩) hf
  rcases l with ⟨hk, hm⟩ | ⟨hk, c, hc, hcell⟩
  · exact wpAny_loadName_local I.ok.kind hk hn hm go
  · rcases hk with hk | hk
    · exact wpAny_loadName_cell I.ok.kind hk hc hcell go
    · rcases hx with k | k
      · have : X.env.scope.names.lookup x = some .free := hk
        rw [k] at this; cases this
      · have : X.env.scope.names.lookup x = some .free := hk
        rw [k] at this; cases this
/-- o[i] op= e -/
def tAugS (to ti te : TE) (tget : V → V → Hp → VK → Prop) (tip : TIp) (tset : TSet) : TS := fun D σ H => to σ H fun o H1 => ti σ H1 fun i H2 => tget o i H2 fun x H3 => te σ H3 fun y H4 => tip x y H4 fun z H5 => tset o i z H5 fun H6 => D.nx σ H6
/-- o[i], by values -/
def PGet (X : Cx) (t : V → V → Hp → VK → Prop) : Prop :=
  ∀ (pins : List (Addr × Obj)) (s : Shared) (σ : St) (H : Hp) (o i : V) (ov iv : Value) (Q : VK), Inv X pins σ H s → RelV o ov → RelV i iv → t o i H Q →
    wpAny (model X.prog X.w) X.A (getItem ov iv) (EP X pins σ Q) X.xe s
theorem ps_augS {o i e : Expr} {to ti te : TE} {tget : V → V → Hp → VK → Prop} {tip : TIp} {tset : TSet} {op : Operator} {tpos : Pos} (ho : PE X o to) (hi : PE X i ti) (hg : PGet X tget) (he : PE X e te) (hp : PIp X op tip) (hs : PSet X tset)
    (ha : ∀ ov iv new, augStore i ov iv new = (do holding [new, ov, iv] (setItem ov iv new); release [new, ov, iv] []; pure .next) := by intros; rfl) : PS X (.AugAssign (.Subscript o i tpos) op e pos) (tAugS to ti te tget tip tset) := by
  intro pins s σ H D I h
  refine wpAny_AugAssign_SubscriptAny (thn (ho pins s σ H _ I h) fun ov s1 ⟨x1, H1, I1, r1, q1⟩ => ?_) ha
  refine thn (hi pins s1 σ H1 _ I1 q1) fun iv s2 ⟨x2, H2, I2, r2, q2⟩ => ?_
  refine thn (hg pins s2 σ H2 x1 x2 ov iv _ I2 r1 r2 q2) fun old s3 ⟨x3, H3, I3, r3, q3⟩ => ?_
  refine thn (he pins s3 σ H3 _ I3 q3) fun v s4 ⟨x4, H4, I4, r4, q4⟩ => ?_
  refine thn (hp pins s4 σ H4 x3 x4 old v _ I4 r3 r4 q4) fun new s5 ⟨x5, H5, I5, r5, q5⟩ => ?_
  exact thn (hs pins s5 σ H5 x1 x2 x5 ov iv new _ I5 r1 r2 r5 q5) fun _ s6 ⟨H6, I6, q6⟩ => ⟨σ, H6, I6, q6⟩
end

/-! ### while -/
section
variable {X : Cx} {pos : Pos}
/-- the invariant W with its measure -/
def tWhile (c : TT) (tb : TS) : TS := fun D σ H => ∃ W : Nat → St → Hp → Prop, (∃ m, W m σ H) ∧ ∀ m σ H, W m σ H →
  c σ H fun b H1 => if b = true then ∃ N : St → Hp → Prop, (∀ σ' H', N σ' H' → ∃ m', m' < m ∧ W m' σ' H') ∧ tb { D with nx := N, ct := N, bk := D.nx } σ H1 else D.nx σ H1
theorem ps_while {c : Expr} {body : List Stmt} {tc : TT} {tb : TS} (hp : PassesOwn (model X.prog X.w) X.A X.env X.xe) (hc : PT X c tc) (hb : PSs X body tb) : PS X (.While c body [] pos) (tWhile tc tb) := by
  intro pins s σ H D I h
  obtain ⟨W, ⟨m0, w0⟩, turn⟩ := h
  refine wpAny_While (codeAny_whileLoop (fun n s' => ∃ σ' H', Inv X pins σ' H' s' ∧ W n σ' H') ?_ m0 ⟨σ, H, I, w0⟩)
  rintro n s1 ⟨σ1, H1, I1, w1⟩
  refine wpAny_passesOwn hp (thn (hc pins s1 σ1 H1 _ I1 (turn n σ1 H1 w1)) fun b s2 ⟨H2, I2, q2⟩ => ?_)
  cases b with
  | true =>
    obtain ⟨N, hN, q2⟩ := q2
    rw [if_pos rfl]
    refine wpAny_passesOwn hp (thn (hb pins s2 σ1 H2 _ I2 q2) fun f s3 q3 => ?_)
    cases f with
    | next =>
      obtain ⟨σ3, H3, I3, n3⟩ := q3
      obtain ⟨m', hm, w3⟩ := hN σ3 H3 n3
      exact ⟨m', hm, σ3, H3, I3, w3⟩
    | cont =>
      obtain ⟨σ3, H3, I3, n3⟩ := q3
      obtain ⟨m', hm, w3⟩ := hN σ3 H3 n3
      exact ⟨m', hm, σ3, H3, I3, w3⟩
    | brk => exact q3
    | ret v => exact q3
  | false =>
    rw [if_neg Bool.false_ne_true]
    exact wpAny_execs_nil ⟨σ1, H2, I2, q2⟩
end

/-! ### what a loop or a comprehension walks -/
/-- at turn i: it yields x (the heap may grow), or it stops -/
structure It where
  go : Nat → Hp → Prop
  yld : Nat → Hp → V → Hp → Prop
  stop : Nat → Hp → Prop
/-- the iterator's own objects may turn: they are not the frame's, not pinned, younger than the entry (or a comprehension's own) -/
def FpOk (X : Cx) (pins : List (Addr × Obj)) (H : Hp) (b : Addr) : Prop :=
  H b = none ∧ b ≠ X.env.locals ∧ b ∉ X.fs ∧ (b ∈ X.ex ∨ X.s₀.heap.objs.size ≤ b) ∧ (∀ x c, X.env.cells.lookup x = some c → c ≠ b) ∧ ∀ p ∈ X.pn ++ pins, p.1 ≠ b
theorem Inv.fpOk {X : Cx} {pins : List (Addr × Obj)} {σ : St} {H H' : Hp} {s : Shared} {b : Addr} (I : Inv X pins σ H s) (hb : s.heap.objs.size ≤ b) (hn : H' b = none) : FpOk X pins H' b := by
  refine ⟨hn, Nat.ne_of_gt (Nat.lt_of_lt_of_le I.lt hb), I.nofs hb, .inr (Nat.le_trans I.sz hb), fun x c e z => ?_, fun p hp z => ?_⟩
  · obtain ⟨v, q⟩ := I.cell x c e
    exact absurd (Nat.lt_of_lt_of_le q.lt (by rw [z]; exact hb)) (Nat.lt_irrefl _)
  · exact absurd (Nat.lt_of_lt_of_le (Heap.lt_size (I.pin p hp).1) (by rw [z]; exact hb)) (Nat.lt_irrefl _)
structure Turn (P : Program) (w : World) (K : PySem.W.Frag) (tg : Expr) (J : It) (fp : List Addr) (it : Addr) (tn : Nat → Heap → Prop) : Prop where
  mem : it ∈ fp
  obj : ∀ i h, tn i h → ∀ b ∈ fp, ∃ o, h.get? b = some o ∧ ∀ v, o.data ≠ .cell v
  keep : ∀ i h h', tn i h → (∀ b ∈ fp, ∀ o, h.get? b = some o → h'.get? b = some o) → tn i h'
  item : ∀ (X : Cx), X.prog = P → X.w = w → X.K = K → X.calm = true → ∀ (i : Nat) (pins : List (Addr × Obj)) (s : Shared) (σ : St) (H : Hp) (E : Value → Shared → Prop), Inv X pins σ H s → (∀ b ∈ fp, FpOk X pins H b) → tn i s.heap → J.go i H →
    wpAny (model P w) X.A (pyNext (.ref it)) (fun r s1 => ∃ u, r = some u ∧
      wpAny (model P w) X.A (letOwnedTupleGo tg (.ref it) u) (fun _ s2 => ∃ x H', Inv X pins σ H' s2 ∧ RelV x u ∧ J.yld i H x H' ∧ tn (i + 1) s2.heap ∧ ∀ b ∈ fp, H' b = none) E s1) E s
  done : ∀ (X : Cx), X.prog = P → X.w = w → X.K = K → X.calm = true → ∀ (i : Nat) (pins : List (Addr × Obj)) (s : Shared) (σ : St) (H : Hp) (E : Value → Shared → Prop), Inv X pins σ H s → (∀ b ∈ fp, FpOk X pins H b) → tn i s.heap → J.stop i H →
    wpAny (model P w) X.A (pyNext (.ref it)) (fun r s1 => r = none ∧ Inv X pins σ H s1) E s
  self : ∀ (A : Around) (i : Nat) (s : Shared) (Q : Value → Shared → Prop) (E : Value → Shared → Prop), tn i s.heap → Q (.ref it) s → wpAny (model P w) A (pyIter (.ref it)) Q E s
abbrev TI := St → Hp → (It → Hp → Prop) → Prop
/-- an iterator has come -/
def PIE (X : Cx) (pins : List (Addr × Obj)) (σ : St) (tg : Expr) (R : It → Hp → Prop) (itv : Value) (s2 : Shared) : Prop :=
  ∃ (it : Addr) (fp : List Addr) (tn : Nat → Heap → Prop) (J : It) (H' : Hp), itv = .ref it ∧ Inv X pins σ H' s2 ∧ Turn X.prog X.w X.K tg J fp it tn ∧ tn 0 s2.heap ∧ (∀ b ∈ fp, FpOk X pins H' b) ∧ R J H'
def PI (X : Cx) (tg iter : Expr) (wi : TI) : Prop :=
  ∀ (pins : List (Addr × Obj)) (s : Shared) (σ : St) (H : Hp) (R : It → Hp → Prop), Inv X pins σ H s → wi σ H R →
    wpAny (model X.prog X.w) X.A (eval iter X.env) (fun v s1 => wpAny (model X.prog X.w) X.A (pyIter v) (PIE X pins σ tg R) X.xe s1) X.xe s

/-- the step ahead of the store is nothing for an iterator that keeps no tuple -/
theorem go_of {M : Model} {A : Around} {E : Value → Shared → Prop} {s : Shared} {tg : Expr} {it : Addr} {u : Value} {o : Obj} {n : String} {vs : Array Value} {Q : Unit → Shared → Prop} (ho : s.heap.get? it = some o) (hc : o.cls = .type n) (hd : o.data = .fields vs)
    (hn : ["enumerate", "zip", "dict_itemiterator", "dict_reverseitemiterator", "odict_iterator", "itertools.zip_longest", "itertools.pairwise"].contains n = false) (hQ : Q () s) : wpAny M A (letOwnedTupleGo tg (.ref it) u) Q E s := by
  unfold letOwnedTupleGo
  cases tg <;> first
    | exact wpAny_pure hQ
    | (cases u <;> first
        | exact wpAny_pure hQ
        | (refine wpAny_bind (wpAny_load ho ?_)
           rw [hc, hd]
           show wpAny M A (if (["enumerate", "zip", "dict_itemiterator", "dict_reverseitemiterator", "odict_iterator", "itertools.zip_longest", "itertools.pairwise"].contains n && vs[0]? == some (rawInt _)) = true then _ else _) Q E s
           rw [if_neg (by intro h; rw [hn, Bool.false_and] at h; cases h)]
           exact wpAny_pure hQ))

/-- the list at a, as it stands at each turn (a loop may append to it) -/
def Itl (K : PySem.W.Frag) (a : Addr) : It :=
  ⟨fun i H => ∃ xs x, SqL K H a xs ∧ xs[i]? = some x, fun i H x H' => H' = H ∧ ∀ xs, SqL K H a xs → xs[i]? = some x, fun i H => ∃ xs, SqL K H a xs ∧ xs.length ≤ i⟩
def Itt (K : PySem.W.Frag) (a : Addr) : It :=
  ⟨fun i H => ∃ xs x, SqT K H a xs ∧ xs[i]? = some x, fun i H x H' => H' = H ∧ ∀ xs, SqT K H a xs → xs[i]? = some x, fun i H => ∃ xs, SqT K H a xs ∧ xs.length ≤ i⟩
/-- lo, lo + 1, .. (n of them) -/
def Itr (lo : Int) (n : Nat) : It := ⟨fun i _ => i < n, fun i H x H' => H' = H ∧ x = .int (lo + i), fun i _ => n ≤ i⟩
theorem turn_list {P : Program} {w : World} {K : PySem.W.Frag} {tg : Expr} (a it : Addr) : Turn P w K tg (Itl K a) [it] it (fun i h => h.IsListIter it a i) where
  mem := by simp
  obj := fun i h st b hb => by
    have e : b = it := by simpa using hb
    subst e
    obtain ⟨o, e, c, d⟩ := st
    exact ⟨o, e, fun v z => by rw [d] at z; cases z⟩
  keep := fun i h h' st k => st.at fun o e => k it (by simp) o e
  item := by
    intro X hP hw hK hc i pins s σ H E I hf st hg
    subst hP hw hK
    obtain ⟨xs, x, hq, hx⟩ := hg
    obtain ⟨its, rv, p, hz⟩ := I.list hq
    obtain ⟨u, hu, ru⟩ := rv.get hx
    obtain ⟨f0, f1, f2, f3, f4, f5⟩ := hf it (by simp)
    refine wpAny_pyNext_list_item st p.isList (x := u) (by simpa using hu) fun h' st' sb => ?_
    have I1 : Inv X pins σ H { s with heap := h' } := I.turned (t' := s.toks) (fun b o hb e => (sb.2 b hb).trans e) f0 f1 f3 f4 f5
    obtain ⟨o, e, c, d⟩ := id st'
    exact ⟨u, rfl, go_of (s := { s with heap := h' }) e c d (by decide) ⟨x, H, I1, ru, ⟨rfl, fun ys hy => by rw [I.list_inj hy hq]; exact hx⟩, st', fun b hb => (hf b hb).1⟩⟩
  done := by
    intro X hP hw hK hc i pins s σ H E I hf st hg
    subst hP hw hK
    obtain ⟨xs, hq, hx⟩ := hg
    obtain ⟨its, rv, p, hz⟩ := I.list hq
    obtain ⟨f0, f1, f2, f3, f4, f5⟩ := hf it (by simp)
    have hl := rv.length
    exact wpAny_pyNext_list_end (I.ok.hd hc) st p.isList (by simp; omega) fun h' eb => ⟨rfl, I.turned (t' := s.toks) (fun b o hb e => eb b o hb e) f0 f1 f3 f4 f5⟩
  self := fun _ _ _ _ _ st h => wpAny_pyIter_listiter st h
theorem turn_tuple {P : Program} {w : World} {K : PySem.W.Frag} {tg : Expr} (a it : Addr) : Turn P w K tg (Itt K a) [it] it (fun i h => h.IsTupleIter it a i) where
  mem := by simp
  obj := fun i h st b hb => by
    have e : b = it := by simpa using hb
    subst e
    obtain ⟨o, e, c, d⟩ := st
    exact ⟨o, e, fun v z => by rw [d] at z; cases z⟩
  keep := fun i h h' st k => st.at fun o e => k it (by simp) o e
  item := by
    intro X hP hw hK hc i pins s σ H E I hf st hg
    subst hP hw hK
    obtain ⟨xs, x, hq, hx⟩ := hg
    obtain ⟨its, rv, p, hz⟩ := I.tuple hq
    obtain ⟨u, hu, ru⟩ := rv.get hx
    obtain ⟨f0, f1, f2, f3, f4, f5⟩ := hf it (by simp)
    refine wpAny_pyNext_tuple_item st (show s.heap.IsTuple a its.toArray from p) (x := u) (by simpa using hu) fun h' st' sb => ?_
    have I1 : Inv X pins σ H { s with heap := h' } := I.turned (t' := s.toks) (fun b o hb e => (sb.2 b hb).trans e) f0 f1 f3 f4 f5
    obtain ⟨o, e, c, d⟩ := id st'
    exact ⟨u, rfl, go_of (s := { s with heap := h' }) e c d (by decide) ⟨x, H, I1, ru, ⟨rfl, fun ys hy => by rw [I.tuple_inj hy hq]; exact hx⟩, st', fun b hb => (hf b hb).1⟩⟩
  done := by
    intro X hP hw hK hc i pins s σ H E I hf st hg
    subst hP hw hK
    obtain ⟨xs, hq, hx⟩ := hg
    obtain ⟨its, rv, p, hz⟩ := I.tuple hq
    obtain ⟨f0, f1, f2, f3, f4, f5⟩ := hf it (by simp)
    have hl := rv.length
    exact wpAny_pyNext_tuple_end (I.ok.hd hc) st (show s.heap.IsTuple a its.toArray from p) (by simp; omega) fun h' eb => ⟨rfl, I.turned (t' := s.toks) (fun b o hb e => eb b o hb e) f0 f1 f3 f4 f5⟩
  self := fun _ _ _ _ _ st h => wpAny_pyIter_tupleiter st h
theorem turn_range {P : Program} {w : World} {K : PySem.W.Frag} {tg : Expr} (it : Addr) (lo : Int) (n : Nat) : Turn P w K tg (Itr lo n) [it] it (fun i h => IsRangeIter h it (lo + (i : Nat) * 1) ((n : Int) - (i : Nat)) 1) where
  mem := by simp
  obj := fun i h st b hb => by
    have e : b = it := by simpa using hb
    subst e
    exact ⟨_, st, fun v z => by
      have z' : Data.fields _ = Data.cell v := z
      cases z'⟩
  keep := fun i h h' st k => k it (by simp) _ st
  item := by
    intro X hP hw hK hc i pins s σ H E I hf st hg
    subst hP hw hK
    obtain ⟨f0, f1, f2, f3, f4, f5⟩ := hf it (by simp)
    have W := Walks.range (prog := X.prog) (w := X.w) (I.ok.hd hc) it lo 1 n
    refine W.item i s _ _ hg st fun v h' tk hv st' kk => ?_
    obtain ⟨t, rfl⟩ := hv
    have I1 : Inv X pins σ H { s with heap := h', toks := tk } := I.turned (fun b o hb e => kk b o (by simpa using hb) e) f0 f1 f3 f4 f5
    refine ⟨_, rfl, go_of (s := { s with heap := h', toks := tk }) (n := "range_iterator") st' rfl rfl (by decide) ⟨.int (lo + i), H, I1, ⟨t, ?_⟩, ⟨rfl, rfl⟩, st', fun b hb => (hf b hb).1⟩⟩
    rw [Int.mul_one]
  done := by
    intro X hP hw hK hc i pins s σ H E I hf st hg
    subst hP hw hK
    obtain ⟨f0, f1, f2, f3, f4, f5⟩ := hf it (by simp)
    exact wpAny_pyNext_range_end (I.ok.hd hc) st (by have : n ≤ i := hg; omega) fun h' eb => ⟨rfl, I.turned (t' := s.toks) (fun b o hb e => eb b o hb e) f0 f1 f3 f4 f5⟩
  self := fun _ _ _ _ _ st h => wpAny_pyIter_rangeiter st h
end L2

namespace L2
open PySem PySem.Spec PyProof.Rows
section
variable {X : Cx} {tg : Expr}
/-- a range object just made, walked -/
theorem range_it {pins : List (Addr × Obj)} {σ : St} {H : Hp} {s : Shared} {R : It → Hp → Prop} {E : Value → Shared → Prop} {lo hi : Int} {t u v : Tok} {tk : Nat} (I : Inv X pins σ H s) (h1 : -(2 ^ 62) ≤ lo) (h2 : lo < 2 ^ 62) (h3 : -(2 ^ 62) ≤ hi) (h4 : hi < 2 ^ 62)
    (q : R (Itr lo (hi - lo).toNat) H) : wpAny (model X.prog X.w) X.A (pyIter (.ref s.heap.objs.size)) (PIE X pins σ tg R) E { s with heap := s.heap.push { cls := .type "range", data := .fields #[.int lo t, .int hi u, .int 1 v] }, toks := tk } := by
  refine wpAny_pyIter_range (IsRange.new ..) (small_one h1 h2 h3 h4) ?_
  have I1 : Inv X pins σ H { s with heap := s.heap.push { cls := .type "range", data := .fields #[.int lo t, .int hi u, .int 1 v] }, toks := tk } := I.kept fun b o e => Heap.get?_push_of_some _ e
  refine ⟨(s.heap.push { cls := .type "range", data := .fields #[.int lo t, .int hi u, .int 1 v] }).objs.size, [(s.heap.push { cls := .type "range", data := .fields #[.int lo t, .int hi u, .int 1 v] }).objs.size], _, _, H, rfl,
    I1.kept (t' := tk) fun b o e => Heap.get?_push_of_some _ e, turn_range _ lo (hi - lo).toNat, ?_, fun b hb => ?_, q⟩
  · have e1 : lo + ((0 : Nat) : Int) * 1 = lo := by simp
    have e2 : (((hi - lo).toNat : Nat) : Int) - ((0 : Nat) : Int) = Builtin.Range.rangeSize lo hi 1 := by rw [rangeSize_one]; split <;> omega
    show IsRangeIter _ _ (lo + ((0 : Nat) : Int) * 1) ((((hi - lo).toNat : Nat) : Int) - ((0 : Nat) : Int)) 1
    rw [e1, e2]
    exact Heap.get?_push_size _ rfl
  · have e : b = (s.heap.push { cls := .type "range", data := .fields #[.int lo t, .int hi u, .int 1 v] }).objs.size := by simpa using hb
    subst e
    exact I1.fpOk (Nat.le_refl _) (I1.hok.fresh (Nat.le_refl _))
def iRng1 (ta : TA) : TI := fun σ H R => ta σ H fun vs H1 => ∃ j : Int, vs = [.int j] ∧ -(2 ^ 62) ≤ j ∧ j < 2 ^ 62 ∧ R (Itr 0 j.toNat) H1
theorem pi_range1 {a : Expr} {ta : TA} {p pos : Pos} (hg : Gl X "range") (hm : X.mg "range" = none) (ha : PA X [a] ta) (hs : starEach [a] X.env = [(false, eval a X.env)] := by rfl) : PI X tg (.Call (.Name "range" p) [a] [] pos) (iRng1 ta) := by
  intro pins s σ H R I h
  refine Call_ (ld_blt I hg hm boot_range (PyProof.Rows.callWith_type1 (thn (ha pos pins s σ H _ I h) fun us s1 ⟨vs, H1, I1, r1, q1⟩ => ?_) hs rfl))
  obtain ⟨j, e, q1, q2, q⟩ := q1
  subst e
  cases r1 with
  | cons r rr =>
    cases rr
    obtain ⟨t, rfl⟩ := r
    exact call_range_1 (range_it I1 (by omega) (by omega) q1 q2 (by simpa using q))

/-! ### for -/
/-- W: the invariant by the turn and a measure; N: what the body is to reach -/
def tFor (wi : TI) (g : TG) (tb : TS) : TS := fun D σ H => wi σ H fun J H1 => ∃ W : Nat → Nat → St → Hp → Prop, (∃ m, W 0 m σ H1) ∧ ∀ i m σ H, W i m σ H →
  (J.stop i H ∧ D.nx σ H) ∨ (J.go i H ∧ ∃ N : St → Hp → Prop, (∀ σ' H', N σ' H' → ∃ m', m' < m ∧ W (i + 1) m' σ' H') ∧ ∀ x H', J.yld i H x H' → g x σ H' fun σ2 H2 => tb { D with nx := N, ct := N, bk := D.nx } σ2 H2)
/-- the records at fp as they stand -/
def pinsAt (fp : List Addr) (h : Heap) : List (Addr × Obj) := fp.filterMap fun b => (h.get? b).map fun o => (b, o)
theorem mem_pinsAt {fp : List Addr} {h : Heap} {b : Addr} {o : Obj} (hb : b ∈ fp) (e : h.get? b = some o) : (b, o) ∈ pinsAt fp h := List.mem_filterMap.mpr ⟨b, hb, by rw [e]; rfl⟩
theorem of_pinsAt {fp : List Addr} {h : Heap} {p : Addr × Obj} (hp : p ∈ pinsAt fp h) : p.1 ∈ fp ∧ h.get? p.1 = some p.2 := by
  obtain ⟨b, hb, e⟩ := List.mem_filterMap.mp hp
  cases q : h.get? b with
  | none => rw [q] at e; cases e
  | some o =>
    rw [q] at e
    have e' : (b, o) = p := Option.some.inj e
    subst e'
    exact ⟨hb, q⟩
theorem Inv.pinned {pins : List (Addr × Obj)} {σ : St} {H : Hp} {s : Shared} {fp : List Addr} (I : Inv X pins σ H s) (hf : ∀ b ∈ fp, FpOk X pins H b) (ho : ∀ b ∈ fp, ∃ o, s.heap.get? b = some o ∧ ∀ v, o.data ≠ .cell v) : Inv X (pins ++ pinsAt fp s.heap) σ H s :=
  I.pins_of fun p hp => (List.mem_append.mp hp).elim (fun z => I.pin p (List.mem_append_right _ z)) fun z => by
    obtain ⟨hb, e⟩ := of_pinsAt z
    obtain ⟨f0, f1, f2, _⟩ := hf p.1 hb
    obtain ⟨o, e', d⟩ := ho p.1 hb
    rw [e] at e'; cases e'
    exact ⟨e, f0, f1, f2, d⟩
theorem Inv.unpinned {pins pl : List (Addr × Obj)} {σ : St} {H : Hp} {s : Shared} (I : Inv X (pins ++ pl) σ H s) : Inv X pins σ H s := I.pins_of fun p hp => I.pin p (List.mem_append_right _ (List.mem_append_left _ hp))
theorem ps_for {iter : Expr} {body : List Stmt} {wi : TI} {g : TG} {tb : TS} {pos : Pos} (hp : PassesOwn (model X.prog X.w) X.A X.env X.xe) (hc : X.calm = true) (hi : PI X tg iter wi) (hg : PG X tg g) (hb : PSs X body tb)
    (hs : ∀ x, foldedSetIterable iter X.env x = pure x := by intro _; rfl) : PS X (.For tg iter body [] pos) (tFor wi g tb) := by
  intro pins s σ H D I h
  refine wpAny_For (thn (hi pins s σ H _ I h) fun v s1 h1 => thn h1 fun itv s2 h2 => ?_) hs
  obtain ⟨it, fp, tn, J, H2, e, I2, T, st2, f2, W, ⟨m0, w0⟩, turn⟩ := h2
  subst e
  -- what stays true of the iterator's objects through the loop
  have stat : ∀ {H' : Hp}, (∀ b ∈ fp, H' b = none) → ∀ b ∈ fp, FpOk X pins H' b := fun hn b hb => ⟨hn b hb, (f2 b hb).2⟩
  refine codeAny_forLoop_any (fun n s' => ∃ i σ' H', Inv X pins σ' H' s' ∧ tn i s'.heap ∧ (∀ b ∈ fp, H' b = none) ∧ W i n σ' H') ?_ m0 ⟨0, σ, H2, I2, st2, fun b hb => (f2 b hb).1, w0⟩
  rintro n s3 ⟨i, σ3, H3, I3, st3, fr3, w3⟩
  rcases turn i n σ3 H3 w3 with ⟨stop, qn⟩ | ⟨go, N, hN, step⟩
  · refine wpAny_passesOwn hp (thn (T.done X rfl rfl rfl hc i pins s3 σ3 H3 X.xe I3 (stat fr3) st3 stop) fun r s4 ⟨hr, I4⟩ => ?_)
    subst hr
    exact wpAny_execs_nil ⟨σ3, H3, I4, qn⟩
  · refine wpAny_passesOwn hp (thn (T.item X rfl rfl rfl hc i pins s3 σ3 H3 X.xe I3 (stat fr3) st3 go) fun r s4 ⟨u, hr, h4⟩ => ?_)
    subst hr
    refine wpAny_passesOwn hp (thn h4 fun _ s5 ⟨x, H5, I5, r5, y5, st5, fr5⟩ => ?_)
    have I5' := I5.pinned (stat fr5) (T.obj _ _ st5)
    refine wpAny_passesOwn hp (thn (hg _ s5 σ3 H5 x u _ I5' r5 (step x H5 y5)) fun _ s6 ⟨σ6, H6, I6, q6⟩ => ?_)
    refine wpAny_passesOwn hp (thn (hb _ s6 σ6 H6 _ I6 q6) fun f s7 q7 => ?_)
    have again : ∀ {σ7 : St} {H7 : Hp}, Inv X (pins ++ pinsAt fp s5.heap) σ7 H7 s7 → N σ7 H7 → ∃ m, m < n ∧ ∃ i σ' H', Inv X pins σ' H' s7 ∧ tn i s7.heap ∧ (∀ b ∈ fp, H' b = none) ∧ W i m σ' H' := fun {σ7 H7} I7 n7 => by
      obtain ⟨m', hm, w7⟩ := hN σ7 H7 n7
      refine ⟨m', hm, i + 1, σ7, H7, I7.unpinned, T.keep _ _ _ st5 fun b hb o e => (I7.pin (b, o) (List.mem_append_right _ (List.mem_append_right _ (mem_pinsAt hb e)))).1, fun b hb => ?_, w7⟩
      obtain ⟨o, e, d⟩ := T.obj _ _ st5 b hb
      exact (I7.pin (b, o) (List.mem_append_right _ (List.mem_append_right _ (mem_pinsAt hb e)))).2.1
    cases f with
    | next => obtain ⟨σ7, H7, I7, n7⟩ := q7; exact again I7 n7
    | cont => obtain ⟨σ7, H7, I7, n7⟩ := q7; exact again I7 n7
    | brk => obtain ⟨σ7, H7, I7, q7⟩ := q7; exact ⟨σ7, H7, I7.unpinned, q7⟩
    | ret v => obtain ⟨x7, σ7, H7, I7, r7, q7⟩ := q7; exact ⟨x7, σ7, H7, I7.unpinned, r7, q7⟩
end

/-! ### the forms one uses -/
/-- over a list that the body leaves as it is -/
theorem for_list {K : PySem.W.Frag} {a : Addr} {xs : List V} {g : TG} {tb : TS} {D : Ends} {σ : St} {H : Hp} (Pv : Nat → St → Hp → Prop) (h0 : Pv 0 σ H) (hl : ∀ i σ H, i ≤ xs.length → Pv i σ H → SqL K H a xs)
    (hs : ∀ i x σ H, xs[i]? = some x → Pv i σ H → g x σ H fun σ2 H2 => tb { D with nx := Pv (i + 1), ct := Pv (i + 1), bk := D.nx } σ2 H2) (hd : ∀ σ H, Pv xs.length σ H → D.nx σ H) :
    ∃ W : Nat → Nat → St → Hp → Prop, (∃ m, W 0 m σ H) ∧ ∀ i m σ H, W i m σ H →
      ((Itl K a).stop i H ∧ D.nx σ H) ∨ ((Itl K a).go i H ∧ ∃ N : St → Hp → Prop, (∀ σ' H', N σ' H' → ∃ m', m' < m ∧ W (i + 1) m' σ' H') ∧ ∀ x H', (Itl K a).yld i H x H' → g x σ H' fun σ2 H2 => tb { D with nx := N, ct := N, bk := D.nx } σ2 H2) := by
  refine ⟨fun i m σ H => m = xs.length - i ∧ i ≤ xs.length ∧ Pv i σ H, ⟨xs.length, by simp, Nat.zero_le _, h0⟩, ?_⟩
  rintro i m σ H ⟨rfl, hi, p⟩
  have q := hl i σ H hi p
  by_cases hlt : i < xs.length
  · refine .inr ⟨⟨xs, xs[i], q, by simp [hlt]⟩, Pv (i + 1), fun σ' H' p' => ⟨xs.length - (i + 1), by omega, rfl, hlt, p'⟩, fun x H' y => ?_⟩
    obtain ⟨e, y⟩ := y
    subst e
    exact hs i x σ _ (y xs q) p
  · have e : i = xs.length := by omega
    subst e
    exact .inl ⟨⟨xs, q, Nat.le_refl _⟩, hd σ H p⟩
theorem for_range {lo : Int} {n : Nat} {g : TG} {tb : TS} {D : Ends} {σ : St} {H : Hp} (Pv : Nat → St → Hp → Prop) (h0 : Pv 0 σ H)
    (hs : ∀ i σ H, i < n → Pv i σ H → g (.int (lo + i)) σ H fun σ2 H2 => tb { D with nx := Pv (i + 1), ct := Pv (i + 1), bk := D.nx } σ2 H2) (hd : ∀ σ H, Pv n σ H → D.nx σ H) :
    ∃ W : Nat → Nat → St → Hp → Prop, (∃ m, W 0 m σ H) ∧ ∀ i m σ H, W i m σ H →
      ((Itr lo n).stop i H ∧ D.nx σ H) ∨ ((Itr lo n).go i H ∧ ∃ N : St → Hp → Prop, (∀ σ' H', N σ' H' → ∃ m', m' < m ∧ W (i + 1) m' σ' H') ∧ ∀ x H', (Itr lo n).yld i H x H' → g x σ H' fun σ2 H2 => tb { D with nx := N, ct := N, bk := D.nx } σ2 H2) := by
  refine ⟨fun i m σ H => m = n - i ∧ i ≤ n ∧ Pv i σ H, ⟨n, by simp, Nat.zero_le _, h0⟩, ?_⟩
  rintro i m σ H ⟨rfl, hi, p⟩
  by_cases hlt : i < n
  · refine .inr ⟨hlt, Pv (i + 1), fun σ' H' p' => ⟨n - (i + 1), by omega, rfl, hlt, p'⟩, fun x H' y => ?_⟩
    obtain ⟨e, y⟩ := y
    subst e y
    exact hs i σ _ hlt p
  · have e : i = n := by omega
    subst e
    exact .inl ⟨Nat.le_refl _, hd σ H p⟩
/-- while, by a word and a measure of the state -/
theorem while_by {c : TT} {tb : TS} {D : Ends} {σ : St} {H : Hp} (Pv : St → Hp → Prop) (μ : St → Hp → Nat) (h0 : Pv σ H)
    (hs : ∀ σ H, Pv σ H → c σ H fun b H1 => if b = true then tb { D with nx := fun σ' H' => Pv σ' H' ∧ μ σ' H' < μ σ H, ct := fun σ' H' => Pv σ' H' ∧ μ σ' H' < μ σ H, bk := D.nx } σ H1 else D.nx σ H1)
    (mono : ∀ σ H Q Q', (∀ b H1, Q b H1 → Q' b H1) → c σ H Q → c σ H Q') : tWhile c tb D σ H := by
  refine ⟨fun m σ H => m = μ σ H ∧ Pv σ H, ⟨_, rfl, h0⟩, ?_⟩
  rintro m σ H ⟨rfl, p⟩
  refine mono σ H _ _ (fun b H1 q => ?_) (hs σ H p)
  cases b with
  | true => exact ⟨_, fun σ' H' ⟨p', l⟩ => ⟨_, l, rfl, p'⟩, q⟩
  | false => exact q
end L2

namespace L2
open PySem PySem.Spec PyProof.Rows

abbrev R2 := V → V → Hp → VK → Prop
/-- a two-place operation on values: f is binaryOp op, inplaceOp op or compareOp op -/
def OpR (X : Cx) (f : Value → Value → Sem Value) (r : R2) : Prop :=
  ∀ (pins : List (Addr × Obj)) (s : Shared) (σ : St) (H : Hp) (x y : V) (v u : Value) (Q : VK), Inv X pins σ H s → RelV x v → RelV y u → r x y H Q →
    wpAny (model X.prog X.w) X.A (f v u) (EP X pins σ Q) X.xe s
/-- a one-place operation -/
def UnR (X : Cx) (f : Value → Sem Value) (r : V → Hp → VK → Prop) : Prop :=
  ∀ (pins : List (Addr × Obj)) (s : Shared) (σ : St) (H : Hp) (x : V) (v : Value) (Q : VK), Inv X pins σ H s → RelV x v → r x H Q →
    wpAny (model X.prog X.w) X.A (f v) (EP X pins σ Q) X.xe s
/-- a call of a value that is known (a builtin, a type) with values -/
def CallR (X : Cx) (f : Value) (r : List V → Hp → VK → Prop) : Prop :=
  ∀ (pins : List (Addr × Obj)) (s : Shared) (σ : St) (H : Hp) (xs : List V) (us : List Value) (Q : VK), Inv X pins σ H s → Vals xs us → r xs H Q →
    wpAny (model X.prog X.w) X.A (call f us) (EP X pins σ Q) X.xe s
/-- a value's truth -/
def TruR (X : Cx) (r : V → Hp → (Bool → Hp → Prop) → Prop) : Prop :=
  ∀ (pins : List (Addr × Obj)) (s : Shared) (σ : St) (H : Hp) (x : V) (v : Value) (Q : Bool → Hp → Prop), Inv X pins σ H s → RelV x v → r x H Q →
    wpAny (model X.prog X.w) X.A (truthy v) (TP X pins σ Q) X.xe s

def tOp (r : R2) (ta tb : TE) : TE := fun σ H Q => ta σ H fun x H1 => tb σ H1 fun y H2 => r x y H2 Q
def tUn (r : V → Hp → VK → Prop) (ta : TE) : TE := fun σ H Q => ta σ H fun x H1 => r x H1 Q
/-- ints in, under C, and a value out -/
def rI (C : Int → Int → Prop) (g : Int → Int → V) : R2 := fun x y H Q => ∃ i j, x = .int i ∧ y = .int j ∧ C i j ∧ Q (g i j) H
def rI0 (g : Int → Int → V) : R2 := fun x y H Q => ∃ i j, x = .int i ∧ y = .int j ∧ Q (g i j) H
def rU (g : Int → V) : V → Hp → VK → Prop := fun x H Q => ∃ i, x = .int i ∧ Q (g i) H

section
variable {X : Cx} {a b c : Expr} {ta tb tc : TE} {pos : Pos}

theorem binT (ha : PE X a ta) (hb : PE X b tb) {pins : List (Addr × Obj)} {s : Shared} {σ : St} {H : Hp} {R : V → V → Hp → Prop} (I : Inv X pins σ H s)
    (h : ta σ H fun x H1 => tb σ H1 fun y H2 => R x y H2) {Q : Value → Shared → Prop} {f : Value → Value → Sem Value}
    (hf : ∀ v u s2 x y H2, Inv X pins σ H2 s2 → RelV x v → RelV y u → R x y H2 → wpAny (model X.prog X.w) X.A (f v u) Q X.xe s2) :
    wpAny (model X.prog X.w) X.A (eval a X.env) (fun v s₁ => wpAny (model X.prog X.w) X.A (eval b X.env) (fun u s₂ => wpAny (model X.prog X.w) X.A (f v u) Q X.xe s₂) X.xe s₁) X.xe s := by
  refine thn (ha pins s σ H _ I h) fun v s1 ⟨x, H1, I1, r1, q1⟩ => ?_
  refine thn (hb pins s1 σ H1 _ I1 q1) fun u s2 ⟨y, H2, I2, r2, q2⟩ => ?_
  exact hf v u s2 x y H2 I2 r1 r2 q2

theorem pe_op {op : Operator} {r : R2} (ho : OpR X (binaryOp op) r) (ha : PE X a ta) (hb : PE X b tb) : PE X (.BinOp a op b pos) (tOp r ta tb) := by
  intro pins s σ H Q I h
  exact wpAny_BinOp (binT ha hb I h fun v u s2 x y H2 I2 rx ry q => ho pins s2 σ H2 x y v u Q I2 rx ry q)
theorem pe_un {op : UnaryOp} {r : V → Hp → VK → Prop} (ho : UnR X (unaryOp op) r) (ha : PE X a ta) : PE X (.UnaryOp op a pos) (tUn r ta) := by
  intro pins s σ H Q I h
  exact UnaryOp_ (thn (ha pins s σ H _ I h) fun v s1 ⟨x, H1, I1, r1, q1⟩ => ho pins s1 σ H1 x v Q I1 r1 q1)

/-! ### ints -/
theorem opI {f : Value → Value → Sem Value} {C : Int → Int → Prop} {g : Int → Int → Int}
    (rule : ∀ (i j : Int) (t u : Tok) (s : Shared) (Q : Value → Shared → Prop) (E : Value → Shared → Prop), C i j → Q (.int (g i j) s.toks) { s with toks := s.toks + 1 } → wpAny (model X.prog X.w) X.A (f (.int i t) (.int j u)) Q E s) :
    OpR X f (rI C fun i j => .int (g i j)) := by
  intro pins s σ H x y v u Q I rx ry h
  obtain ⟨i, j, rfl, rfl, hc, q⟩ := h
  obtain ⟨t, rfl⟩ := rx
  obtain ⟨t', rfl⟩ := ry
  exact rule i j t t' s _ _ hc ⟨.int (g i j), H, I.tok _, ⟨_, rfl⟩, q⟩
theorem opI0 {f : Value → Value → Sem Value} {g : Int → Int → Int}
    (rule : ∀ (i j : Int) (t u : Tok) (s : Shared) (Q : Value → Shared → Prop) (E : Value → Shared → Prop), Q (.int (g i j) s.toks) { s with toks := s.toks + 1 } → wpAny (model X.prog X.w) X.A (f (.int i t) (.int j u)) Q E s) :
    OpR X f (rI0 fun i j => .int (g i j)) := by
  intro pins s σ H x y v u Q I rx ry h
  obtain ⟨i, j, rfl, rfl, q⟩ := h
  obtain ⟨t, rfl⟩ := rx
  obtain ⟨t', rfl⟩ := ry
  exact rule i j t t' s _ _ ⟨.int (g i j), H, I.tok _, ⟨_, rfl⟩, q⟩
theorem opB0 {f : Value → Value → Sem Value} {g : Int → Int → Bool}
    (rule : ∀ (i j : Int) (t u : Tok) (s : Shared) (Q : Value → Shared → Prop) (E : Value → Shared → Prop), Q (.bool (g i j)) s → wpAny (model X.prog X.w) X.A (f (.int i t) (.int j u)) Q E s) :
    OpR X f (rI0 fun i j => .bl (g i j)) := by
  intro pins s σ H x y v u Q I rx ry h
  obtain ⟨i, j, rfl, rfl, q⟩ := h
  obtain ⟨t, rfl⟩ := rx
  obtain ⟨t', rfl⟩ := ry
  exact rule i j t t' s _ _ ⟨.bl (g i j), H, I, rfl, q⟩

def CPow (i j : Int) : Prop := 0 ≤ j ∧ j ≤ 1000000 ∧ i.natAbs < 2 ^ 64
def CMul (i j : Int) : Prop := (-(2 ^ 64) < i ∧ i < 2 ^ 64) ∨ (-(2 ^ 64) < j ∧ j < 2 ^ 64)
theorem CMul.ok {i j : Int} (h : CMul i j) : IntMulOk i j := by
  rcases h with ⟨h1, h2⟩ | ⟨h1, h2⟩
  · exact .of_left (intBits_le_64 h1 h2)
  · exact .of_right (intBits_le_64 h1 h2)

theorem op_add : OpR X (binaryOp .Add) (rI0 fun i j => .int (i + j)) := opI0 fun _ _ _ _ _ _ _ q => add_int q
theorem op_sub : OpR X (binaryOp .Sub) (rI0 fun i j => .int (i - j)) := opI0 fun _ _ _ _ _ _ _ q => sub_int q
/-- % by a positive divisor of any size -/
theorem op_mod : OpR X (binaryOp .Mod) (rI (fun _ j => 0 < j) fun i j => .int (i % j)) := opI fun i j _ _ _ _ _ hc q => by
  have h1 : (0 : Int) < j := hc
  exact mod_int' (by omega) (by rw [Int.fmod_eq_emod_of_nonneg i (by omega)]; exact q)
theorem op_pow : OpR X (binaryOp .Pow) (rI CPow fun i j => .int (i ^ j.toNat)) := opI fun _ _ _ _ _ _ _ hc q => pow_int_small hc.1 hc.2.1 hc.2.2 q


theorem unI {f : Value → Sem Value} {g : Int → Int}
    (rule : ∀ (i : Int) (t : Tok) (s : Shared) (Q : Value → Shared → Prop) (E : Value → Shared → Prop), Q (.int (g i) s.toks) { s with toks := s.toks + 1 } → wpAny (model X.prog X.w) X.A (f (.int i t)) Q E s) :
    UnR X f (rU fun i => .int (g i)) := by
  intro pins s σ H x v Q I rx h
  obtain ⟨i, rfl, q⟩ := h
  obtain ⟨t, rfl⟩ := rx
  exact rule i t s _ _ ⟨.int (g i), H, I.tok _, ⟨_, rfl⟩, q⟩
theorem un_neg : UnR X (unaryOp .USub) (rU fun i => .int (-i)) := unI fun _ _ _ _ _ q => neg_int q

/-! ### bools among ints: n += (a < b) -/
end

/-! ### comparisons -/
/-- the scalars that == tells apart as data does -/
def scal : V → V → Bool
  | .non, .non => true | .non, .int _ => true | .int _, .non => true | .non, .bl _ => true | .bl _, .non => true | .non, .str _ => true | .str _, .non => true
  | .int _, .int _ => true | .bl _, .bl _ => true | .str _, .str _ => true | .byt _, .byt _ => true
  | .int _, .str _ => true | .str _, .int _ => true | .bl _, .str _ => true | .str _, .bl _ => true
  | _, _ => false
def rEq : R2 := fun x y H Q => scal x y = true ∧ Q (.bl (decide (x = y))) H
def rNe : R2 := fun x y H Q => scal x y = true ∧ Q (.bl (!decide (x = y))) H

theorem dec_int {i j : Int} : decide (V.int i = V.int j) = (i == j) := by
  rw [Bool.eq_iff_iff]
  simp
theorem dec_bl {i j : Bool} : decide (V.bl i = V.bl j) = (i == j) := by
  rw [Bool.eq_iff_iff]
  simp
theorem dec_str {i j : Str} : decide (V.str i = V.str j) = (i == j) := by
  rw [Bool.eq_iff_iff]
  simp
theorem dec_byt {i j : Array UInt8} : decide (V.byt i = V.byt j) = (i.toList == j.toList) := by
  rw [Bool.eq_iff_iff]
  cases i
  cases j
  simp

section
variable {X : Cx} {a b c : Expr} {ta tb tc : TE} {pos : Pos}
theorem fin_bl {pins : List (Addr × Obj)} {σ : St} {H : Hp} {s : Shared} {Q : VK} {k k' : Bool} (I : Inv X pins σ H s) (q : Q (.bl k) H) (e : k = k') : EP X pins σ Q (.bool k') s := by
  subst e
  exact ⟨.bl k, H, I, rfl, q⟩
theorem op_eq : OpR X (compareOp .Eq) rEq := by
  intro pins s σ H x y v u Q I rx ry h
  obtain ⟨hs, q⟩ := h
  cases x with
  | non =>
    cases rx
    cases y with
    | non => cases ry; exact PySem.EqNone.eq_none_none (fin_bl I q (by simp))
    | bl j => cases ry; exact PySem.EqNone.eq_none_bool (fin_bl I q (by simp))
    | int j => obtain ⟨t', rfl⟩ := ry; exact PySem.EqNone.eq_none_int (fin_bl I q (by simp))
    | str j => obtain ⟨t', rfl⟩ := ry; exact PySem.EqNone.eq_none_str (fin_bl I q (by simp))
    | _ => exact absurd (show false = true from hs) Bool.false_ne_true
  | bl i =>
    cases rx
    cases y with
    | non => cases ry; exact PySem.EqNone.eq_bool_none (fin_bl I q (by simp))
    | bl j => cases ry; exact eq_bool (fin_bl I q dec_bl)
    | str j => obtain ⟨t', rfl⟩ := ry; exact PySem.EqMixed.eq_bool_str (fin_bl I q (by simp))
    | _ => exact absurd (show false = true from hs) Bool.false_ne_true
  | int i =>
    obtain ⟨t, rfl⟩ := rx
    cases y with
    | non => cases ry; exact PySem.EqNone.eq_int_none (fin_bl I q (by simp))
    | int j => obtain ⟨t', rfl⟩ := ry; exact eq_int (fin_bl I q dec_int)
    | str j => obtain ⟨t', rfl⟩ := ry; exact PySem.EqMixed.eq_int_str (fin_bl I q (by simp))
    | _ => exact absurd (show false = true from hs) Bool.false_ne_true
  | str i =>
    obtain ⟨t, rfl⟩ := rx
    cases y with
    | non => cases ry; exact PySem.EqNone.eq_str_none (fin_bl I q (by simp))
    | bl j => cases ry; exact PySem.EqMixed.eq_str_bool (fin_bl I q (by simp))
    | int j => obtain ⟨t', rfl⟩ := ry; exact PySem.EqMixed.eq_str_int (fin_bl I q (by simp))
    | str j => obtain ⟨t', rfl⟩ := ry; exact eq_str (fin_bl I q dec_str)
    | _ => exact absurd (show false = true from hs) Bool.false_ne_true
  | byt i =>
    obtain ⟨t, rfl⟩ := rx
    cases y with
    | byt j => obtain ⟨t', rfl⟩ := ry; exact PySem.W.eq_bytes (fin_bl I q dec_byt)
    | _ => exact absurd (show false = true from hs) Bool.false_ne_true
  | _ => cases y <;> exact absurd (show false = true from hs) Bool.false_ne_true
theorem op_ne : OpR X (compareOp .NotEq) rNe := by
  intro pins s σ H x y v u Q I rx ry h
  obtain ⟨hs, q⟩ := h
  cases x with
  | non =>
    cases rx
    cases y with
    | non => cases ry; exact PySem.EqNone.ne_none_none (fin_bl I q (by simp))
    | bl j => cases ry; exact PySem.EqNone.ne_none_bool (fin_bl I q (by simp))
    | int j => obtain ⟨t', rfl⟩ := ry; exact PySem.EqNone.ne_none_int (fin_bl I q (by simp))
    | str j => obtain ⟨t', rfl⟩ := ry; exact PySem.EqNone.ne_none_str (fin_bl I q (by simp))
    | _ => exact absurd (show false = true from hs) Bool.false_ne_true
  | bl i =>
    cases rx
    cases y with
    | non => cases ry; exact PySem.EqNone.ne_bool_none (fin_bl I q (by simp))
    | bl j => cases ry; exact ne_bool (fin_bl I q (congrArg not dec_bl))
    | str j => obtain ⟨t', rfl⟩ := ry; exact PySem.EqMixed.ne_bool_str (fin_bl I q (by simp))
    | _ => exact absurd (show false = true from hs) Bool.false_ne_true
  | int i =>
    obtain ⟨t, rfl⟩ := rx
    cases y with
    | non => cases ry; exact PySem.EqNone.ne_int_none (fin_bl I q (by simp))
    | int j => obtain ⟨t', rfl⟩ := ry; exact ne_int (fin_bl I q (congrArg not dec_int))
    | str j => obtain ⟨t', rfl⟩ := ry; exact PySem.EqMixed.ne_int_str (fin_bl I q (by simp))
    | _ => exact absurd (show false = true from hs) Bool.false_ne_true
  | str i =>
    obtain ⟨t, rfl⟩ := rx
    cases y with
    | non => cases ry; exact PySem.EqNone.ne_str_none (fin_bl I q (by simp))
    | bl j => cases ry; exact PySem.EqMixed.ne_str_bool (fin_bl I q (by simp))
    | int j => obtain ⟨t', rfl⟩ := ry; exact PySem.EqMixed.ne_str_int (fin_bl I q (by simp))
    | str j => obtain ⟨t', rfl⟩ := ry; exact ne_str (fin_bl I q (congrArg not dec_str))
    | _ => exact absurd (show false = true from hs) Bool.false_ne_true
  | byt i =>
    obtain ⟨t, rfl⟩ := rx
    cases y with
    | byt j => obtain ⟨t', rfl⟩ := ry; exact PySem.W.ne_bytes (fin_bl I q (congrArg not dec_byt))
    | _ => exact absurd (show false = true from hs) Bool.false_ne_true
  | _ => cases y <;> exact absurd (show false = true from hs) Bool.false_ne_true

theorem op_lt : OpR X (compareOp .Lt) (rI0 fun i j => .bl (decide (i < j))) := opB0 fun _ _ _ _ _ _ _ q => lt_int q
theorem op_le : OpR X (compareOp .LtE) (rI0 fun i j => .bl (decide (i ≤ j))) := opB0 fun _ _ _ _ _ _ _ q => le_int q
theorem op_gt : OpR X (compareOp .Gt) (rI0 fun i j => .bl (decide (j < i))) := opB0 fun _ _ _ _ _ _ _ q => gt_int q
theorem op_lt_str : OpR X (compareOp .Lt) (fun x y H Q => ∃ i j, x = .str i ∧ y = .str j ∧ Q (.bl (decide (i.cps.toList < j.cps.toList))) H) := by
  intro pins s σ H x y v u Q I rx ry h
  obtain ⟨i, j, rfl, rfl, q⟩ := h
  obtain ⟨t, rfl⟩ := rx
  obtain ⟨t', rfl⟩ := ry
  exact lt_str (fin_bl I q rfl)
/-- the one string within the other -/
theorem op_in_str : OpR X (compareOp .In) (fun x y H Q => ∃ i j, x = .str i ∧ y = .str j ∧ Q (.bl (!(Builtin.Str.occurrences j i 0 j.length 1).isEmpty)) H) := by
  intro pins s σ H x y v u Q I rx ry h
  obtain ⟨i, j, rfl, rfl, q⟩ := h
  obtain ⟨t, rfl⟩ := rx
  obtain ⟨t', rfl⟩ := ry
  exact in_str (fin_bl I q rfl)



/-- two rules for one operation: by cases -/
theorem OpR.or {f : Value → Value → Sem Value} {r r' : R2} (h : OpR X f r) (h' : OpR X f r') : OpR X f (fun x y H Q => r x y H Q ∨ r' x y H Q) := by
  intro pins s σ H x y v u Q I rx ry q
  rcases q with q | q
  · exact h pins s σ H x y v u Q I rx ry q
  · exact h' pins s σ H x y v u Q I rx ry q

theorem nomark (b : Expr) {op : CmpOp} (h : op ≠ .In := by decide) (h2 : op ≠ .NotIn := by decide) : behindInMarks op b = false := by
  have e1 : (op == CmpOp.In) = false := by cases op <;> first | rfl | exact absurd rfl h
  have e2 : (op == CmpOp.NotIn) = false := by cases op <;> first | rfl | exact absurd rfl h2
  cases b <;> simp [behindInMarks, e1, e2]
/-- a comparison as a value; hm: nomark b, or (for in, not in) by with_unfolding_all rfl -/
theorem pe_cmpR {op : CmpOp} {r : R2} (ho : OpR X (compareOp op) r) (ha : PE X a ta) (hb : PE X b tb) (hm : behindInMarks op b = false) : PE X (.Compare a [op] [b] pos) (tOp r ta tb) := by
  intro pins s σ H Q I h
  exact wpAny_Compare1 (binT ha hb I h fun v u s2 x y H2 I2 rx ry q => ho pins s2 σ H2 x y v u Q I2 rx ry q) hm
/-- a reading of a value as a test -/
def tTest (t : TE) : TT := fun σ H Q => t σ H fun x H' => ∃ k, x = .bl k ∧ Q k H'
theorem pt_cmpR {op : CmpOp} {r : R2} (ho : OpR X (compareOp op) r) (ha : PE X a ta) (hb : PE X b tb) (hm : behindInMarks op b = false) : PT X (.Compare a [op] [b] pos) (tTest (tOp r ta tb)) := by
  intro pins s σ H Q I h
  refine wpAny_isTrue_Compare1 (thn (ha pins s σ H _ I h) fun v s1 ⟨x, H1, I1, r1, q1⟩ => thn (hb pins s1 σ H1 _ I1 q1) fun u s2 ⟨y, H2, I2, r2, q2⟩ =>
    thn (ho pins s2 σ H2 x y v u _ I2 r1 r2 q2) fun c s3 ⟨z, H3, I3, r3, k, e, q3⟩ => ?_) hm
  subst e
  cases r3
  exact wpAny_truthy_bool ⟨H3, I3, q3⟩

/-! ### truth -/
/-- a value's truth by the abstract heap -/
def TruV (K : PySem.W.Frag) (x : V) (H : Hp) (k : Bool) : Prop :=
  match x with
  | .non => k = false
  | .bl b => k = b
  | .int i => k = (i != 0)
  | .str y => y.length ≤ sizeLine ∧ k = ((y.length : Int) != 0)
  | .byt y => y.size ≤ sizeLine ∧ k = ((y.size : Int) != 0)
  | .ref p => (∃ xs, SqL K H p xs ∧ k = !xs.isEmpty) ∨ (∃ xs, SqT K H p xs ∧ k = !xs.isEmpty) ∨ ∃ kvs, H p = some (.dK kvs) ∧ k = !kvs.isEmpty
  | _ => False
theorem isEmpty_kv {κ : Type} {kvs : List (κ × V)} {vs : List (κ × Value)} (r : KV kvs vs) : (!vs.isEmpty) = !kvs.isEmpty := by
  cases r <;> rfl
theorem isEmpty_of {xs : List V} {its : List Value} (r : Vals xs its) : (!its.toArray.isEmpty) = !xs.isEmpty := by
  cases r <;> simp
theorem line63 : (sizeLine : Nat) < 2 ^ 63 := by rw [sizeLine_eq]; decide
theorem tru_ok : TruR X (fun x H Q => ∃ k, TruV X.K x H k ∧ Q k H) := by
  intro pins s σ H x v Q I rx h
  obtain ⟨k, e, q⟩ := h
  have hl := line63
  have hs : sizeLine = 16777216 := sizeLine_eq
  cases x with
  | non =>
    cases rx
    have e' : k = false := e
    subst e'
    exact truthy_none ⟨H, I, q⟩
  | bl b =>
    cases rx
    have e' : k = b := e
    subst e'
    exact wpAny_truthy_bool ⟨H, I, q⟩
  | int i =>
    obtain ⟨t, rfl⟩ := rx
    have e' : k = (i != 0) := e
    subst e'
    exact PySem.P.truthy_int ⟨H, I, q⟩
  | str y =>
    obtain ⟨t, rfl⟩ := rx
    obtain ⟨hy, e'⟩ : y.length ≤ sizeLine ∧ k = ((y.length : Int) != 0) := e
    subst e'
    exact PySem.P.truthy_str (by omega) ⟨H, I.tok _, q⟩
  | byt y =>
    obtain ⟨t, rfl⟩ := rx
    obtain ⟨hy, e'⟩ : y.size ≤ sizeLine ∧ k = ((y.size : Int) != 0) := e
    subst e'
    exact PySem.W.truthy_bytes (by omega) ⟨H, I.tok _, q⟩
  | ref p =>
    cases rx
    have e' : (∃ xs, SqL X.K H p xs ∧ k = !xs.isEmpty) ∨ (∃ xs, SqT X.K H p xs ∧ k = !xs.isEmpty) ∨ ∃ kvs, H p = some (.dK kvs) ∧ k = !kvs.isEmpty := e
    rcases e' with ⟨xs, hx, e'⟩ | ⟨xs, hx, e'⟩ | ⟨kvs, hx, e'⟩
    · subst e'
      obtain ⟨its, r, pl, hz⟩ := I.list hx
      have hlen := r.length
      exact wpAny_truthy_list pl.isList (by simp only [List.size_toArray]; omega) ⟨H, I.tok _, by rw [isEmpty_of r]; exact q⟩
    · subst e'
      obtain ⟨its, r, pl, hz⟩ := I.tuple hx
      have hlen := r.length
      exact truthy_tuple pl (by simp only [List.size_toArray]; omega) ⟨H, I.tok _, by rw [isEmpty_of r]; exact q⟩
    · subst e'
      obtain ⟨hz, hS, vs, r, m⟩ : kvs.length ≤ sizeLine ∧ (p == sysModules) = false ∧ ∃ vs, KV kvs vs ∧ s.heap.DictOf (mixKind X.prog X.w) p vs := I.hok p _ hx
      have hlen : kvs.length = vs.length := Paired.length r
      exact wpAny_truthy_dict hS m (by omega) ⟨H, I.tok _, by rw [isEmpty_kv r]; exact q⟩
  | _ => exact (show False from e).elim

/-! ### strs and bytes -/
theorem op_add_str : OpR X (binaryOp .Add) (fun x y H Q => ∃ i j, x = .str i ∧ y = .str j ∧ i.length + j.length ≤ sizeLine ∧ Q (.str (i ++ j)) H) := by
  intro pins s σ H x y v u Q I rx ry h
  obtain ⟨i, j, rfl, rfl, hz, q⟩ := h
  obtain ⟨t, rfl⟩ := rx
  obtain ⟨t', rfl⟩ := ry
  exact add_str (fun t' tk => ⟨.str (i ++ j), H, I.tok _, ⟨_, rfl⟩, q⟩) hz
theorem iop_add_str : OpR X (inplaceOp .Add) (fun x y H Q => ∃ i j, x = .str i ∧ y = .str j ∧ i.length + j.length ≤ sizeLine ∧ Q (.str (i ++ j)) H) := by
  intro pins s σ H x y v u Q I rx ry h
  obtain ⟨i, j, rfl, rfl, hz, q⟩ := h
  obtain ⟨t, rfl⟩ := rx
  obtain ⟨t', rfl⟩ := ry
  exact iadd_str (fun t' tk => ⟨.str (i ++ j), H, I.tok _, ⟨_, rfl⟩, q⟩) hz


/-! ### scalar builtins, by CallR -/
theorem vals1 {x : V} {us : List Value} (r : Vals [x] us) : ∃ u, us = [u] ∧ RelV x u := by
  cases r with
  | cons r1 r2 => cases r2; exact ⟨_, rfl, r1⟩
theorem vals2 {x y : V} {us : List Value} (r : Vals [x, y] us) : ∃ u w', us = [u, w'] ∧ RelV x u ∧ RelV y w' := by
  cases r with
  | cons r1 r2 =>
    cases r2 with
    | cons r3 r4 => cases r4; exact ⟨_, _, rfl, r1, r3⟩
theorem call_abs : CallR X (.builtin "abs") (fun xs H Q => ∃ i, xs = [.int i] ∧ Q (.int (if i < 0 then -i else i)) H) := by
  intro pins s σ H xs us Q I r h
  obtain ⟨i, rfl, q⟩ := h
  obtain ⟨u, rfl, t, rfl⟩ := vals1 r
  exact call_abs_int fun u tk => ⟨.int (if i < 0 then -i else i), H, I.tok _, ⟨_, rfl⟩, q⟩
theorem call_max2 (hc : X.calm = true) : CallR X (.builtin "max") (fun xs H Q => ∃ i j, xs = [.int i, .int j] ∧ Q (.int (if j > i then j else i)) H) := by
  intro pins s σ H xs us Q I r h
  obtain ⟨i, j, rfl, q⟩ := h
  obtain ⟨u, w', rfl, ⟨t, rfl⟩, ⟨t', rfl⟩⟩ := vals2 r
  refine max_two_ints (I.ok.hd hc) fun h' tk k => ⟨_, H, I.kept k, ?_, q⟩
  by_cases hj : j > i
  · rw [if_pos hj, if_pos hj]; exact ⟨_, rfl⟩
  · rw [if_neg hj, if_neg hj]; exact ⟨_, rfl⟩
/-- len of a str, a bytes, a list, a tuple -/
def LenV (K : PySem.W.Frag) (x : V) (H : Hp) (n : Nat) : Prop :=
  match x with
  | .str y => y.length ≤ sizeLine ∧ n = y.length
  | .byt y => y.size ≤ sizeLine ∧ n = y.size
  | .ref p => (∃ xs, SqL K H p xs ∧ n = xs.length) ∨ ∃ xs, SqT K H p xs ∧ n = xs.length
  | _ => False
theorem call_len : CallR X (.builtin "len") (fun xs H Q => ∃ x n, xs = [x] ∧ LenV X.K x H n ∧ Q (.int n) H) := by
  intro pins s σ H xs us Q I r h
  obtain ⟨x, n, rfl, e, q⟩ := h
  obtain ⟨u, rfl, rx⟩ := vals1 r
  have hl := line63
  have hs : sizeLine = 16777216 := sizeLine_eq
  cases x with
  | str y =>
    obtain ⟨t, rfl⟩ := rx
    obtain ⟨hy, e'⟩ : y.length ≤ sizeLine ∧ n = y.length := e
    subst e'
    exact len_str (by omega) ⟨.int _, H, I.tok _, ⟨_, rfl⟩, q⟩
  | byt y =>
    obtain ⟨t, rfl⟩ := rx
    obtain ⟨hy, e'⟩ : y.size ≤ sizeLine ∧ n = y.size := e
    subst e'
    exact PySem.W.len_bytes (by omega) ⟨.int _, H, I.tok _, ⟨_, rfl⟩, q⟩
  | ref p =>
    cases rx
    have e' : (∃ xs, SqL X.K H p xs ∧ n = xs.length) ∨ ∃ xs, SqT X.K H p xs ∧ n = xs.length := e
    rcases e' with ⟨xs, hx, e'⟩ | ⟨xs, hx, e'⟩
    · subst e'
      obtain ⟨its, r', pl, hz⟩ := I.list hx
      have hlen := r'.length
      exact Calls.call_len_list pl.isList (by simp only [List.size_toArray]; omega) ⟨.int xs.length, H, I.tok _, ⟨_, by simp only [List.size_toArray]; rw [hlen]⟩, q⟩
    · subst e'
      obtain ⟨its, r', pl, hz⟩ := I.tuple hx
      have hlen := r'.length
      exact len_tuple pl (by simp only [List.size_toArray]; omega) ⟨.int xs.length, H, I.tok _, ⟨_, by simp only [List.size_toArray]; rw [hlen]⟩, q⟩
  | _ => exact (show False from e).elim
end
end L2

namespace L2
open PySem PySem.Spec PyProof.Rows

/-! ### an instance, its attributes a map -/
structure ObjM (h : Heap) (x dx C : Addr) (mA : Str → Option Value) : Prop where
  obj : h.get? x = some (PySem.W.instObj C dx)
  ns : h.Ns1 dx mA
  ne : dx ≠ x

theorem lookIn_ns {h : Heap} {dx : Addr} {mA : Str → Option Value} (n : h.Ns1 dx mA) : ∃ od, h.get? dx = some od ∧ ∀ name, PySem.W.lookIn name od = some (mA name) := by
  obtain ⟨o, es, ep, ho, hd, hk, _, hm⟩ := n
  refine ⟨o, ho, fun name => ?_⟩
  have e := hm name
  unfold nsFind findBy at e
  rw [← Array.find?_toList] at e
  unfold PySem.W.lookIn
  rw [hd]
  dsimp only
  split
  · rename_i y q
    rw [q] at e
    exact congrArg some e
  · rename_i q
    rw [q] at e
    have a : es.toList.any (·.refKey) = false := by
      rw [List.any_eq_false]
      intro y hy
      obtain ⟨z, t, hkey⟩ := hk y (Array.mem_toList_iff.mp hy)
      simp [DictEntry.refKey, hkey]
    have a' : ¬ es.toList.any (·.refKey) = true := by rw [a]; exact Bool.false_ne_true
    rw [if_neg a']
    exact congrArg some e

theorem ObjM.look {h : Heap} {x dx C : Addr} {mA : Str → Option Value} (I : ObjM h x dx C mA) : ∃ od, PySem.W.InstAt h x (PySem.W.instObj C dx) C (some od) ∧ ∀ name, PySem.W.lookIn name od = some (mA name) :=
  let ⟨od, ho, hl⟩ := lookIn_ns I.ns
  ⟨od, ⟨I.obj, rfl, rfl, ho⟩, hl⟩

section
variable {prog : Program} {w : World} {A : Around} {E : Value → Shared → Prop} {s : Shared} {K : PySem.W.Frag} {x dx C f : Addr} {mA : Str → Option Value} {name : Str} {v : Value}





end

/-! ### the attributes as a list of pairs -/

theorem RelO.some_of {v : V} {o : Option Value} (r : RelO (some v) o) : ∃ u, o = some u ∧ RelV v u := by
  cases o with
  | none => exact (show False from r).elim
  | some u => exact ⟨u, rfl, r⟩

section
variable {P : Program} {w : World} {H H' : Hp} {h h' : Heap} {a C dx : Addr} {fs fs' : List (Str × V)}
theorem ins_get (hok : HOk P w H h) (e : H a = some (.ins C dx fs)) : ∃ mA, ObjM h a dx C mA ∧ (∀ f, RelO (fs.lookup f) (mA f)) ∧ PySem.Within mA (fs.map (·.1)) ∧ fs.length ≤ 1000 ∧ H dx = some (.own a) := by
  obtain ⟨d, z, ne, ob, mA, n, r, q⟩ := (show ObjOk P w H h a (.ins C dx fs) from hok a _ e)
  exact ⟨mA, ⟨ob, n, ne⟩, r, q, z, d⟩
end

/-! ### what of the text a class must have -/
structure Cls (K : PySem.W.Frag) (C : Addr) : Prop where
  pg : PySem.W.plainGet K C Str.empty = true
  hd : PySem.W.hasDictIn K C = true
  po : PySem.W.plainOver K C = true
  sa : PySem.W.findIn K (.ref C) "__setattr__" = some (some (.builtin "object.__setattr__"))
theorem Cls.get {K : PySem.W.Frag} {C : Addr} (c : Cls K C) (f : Str) : PySem.W.plainGet K C f = true := c.pg
/-- a constant of the class -/
structure Con (K : PySem.W.Frag) (C : Addr) (f : Str) (v : V) (u : Value) : Prop where
  at_ : PySem.W.findIn K (.ref C) f = some (some u)
  rel : RelV v u
  get : PySem.W.specialIn K u "__get__" = some none
  cp : PySem.W.copiedNames.contains f = false
/-- a method: a plain def of the class or of one above it -/
structure Meth (K : PySem.W.Frag) (C : Addr) (m : Str) (f : Addr) : Prop where
  at_ : PySem.W.findIn K (.ref C) m = some (some (.ref f))
  fn : PySem.W.isFn K (.ref f) = true
  kp : PySem.W.keepIn K (.ref f) = true

section
variable {X : Cx} {pins : List (Addr × Obj)} {σ : St} {H : Hp} {s : Shared} {a C dx : Addr} {fs : List (Str × V)} {f : Str} {v : V} {A : Around} {E : Value → Shared → Prop}





/-- a new instance, tracked, without attributes -/
theorem Inv.made (I : Inv X pins σ H s) : Inv X pins σ (upd (upd H s.heap.objs.size (.own (s.heap.objs.size + 1))) (s.heap.objs.size + 1) (.ins C s.heap.objs.size []))
    { s with heap := (s.heap.push PySem.W.emptyDict).push (PySem.W.instObj C s.heap.objs.size) } := by
  have e1 : (s.heap.push PySem.W.emptyDict).get? s.heap.objs.size = some PySem.W.emptyDict := Heap.get?_push_size s.heap rfl
  have e2 : ((s.heap.push PySem.W.emptyDict).push (PySem.W.instObj C s.heap.objs.size)).get? (s.heap.objs.size + 1) = some (PySem.W.instObj C s.heap.objs.size) := by
    have := Heap.get?_push_size (s.heap.push PySem.W.emptyDict) (o := PySem.W.instObj C s.heap.objs.size) rfl
    rwa [Heap.size_push] at this
  have e3 : (s.heap.push PySem.W.emptyDict).Ns s.heap.objs.size (fun _ => none) := ⟨PySem.W.emptyDict, #[], _, e1, rfl, (fun e he => absurd he (by simp)), fun _ => rfl⟩
  have I1 := I.laid (a := s.heap.objs.size) (o := .own (s.heap.objs.size + 1)) (h' := s.heap.push PySem.W.emptyDict) (t' := s.toks) (fun b u q => Heap.get?_push_of_some _ q) (Nat.le_refl _) ⟨_, e1⟩
  refine I1.laid (a := s.heap.objs.size + 1) (o := .ins C s.heap.objs.size []) (t' := s.toks) (fun b u q => Heap.get?_push_of_some _ q) (Nat.le_of_eq (Heap.size_push _ _)) ?_
  have ne : s.heap.objs.size ≠ s.heap.objs.size + 1 := Nat.ne_of_lt (Nat.lt_succ_self _)
  refine ⟨by rw [upd_ne ne, upd_same], Nat.zero_le _, ne, e2, fun _ => none, (Heap.Ns1.of_empty e3).at fun o q => Heap.get?_push_of_some _ q, fun _ => True.intro, fun y hy => absurd rfl hy⟩

end

/-! ### readings and rules -/

section
variable {X : Cx} {o e value : Expr} {f : Str} {pos pos' tpos : Pos} {ta tv : TE}

end

/-! ### isinstance -/
section
variable {X : Cx} {pins : List (Addr × Obj)} {σ : St} {H : Hp} {s : Shared} {A : Around} {E : Value → Shared → Prop} {Q : Value → Shared → Prop} {c : Value} {b : Bool}
/-- the type of a value, as the fragment's deciders take it; for an instance its class -/
inductive TyOf (K : PySem.W.Frag) (H : Hp) : V → Value → Prop where
  | non : TyOf K H .non (.type "NoneType")
  | bl (x : Bool) : TyOf K H (.bl x) (.type "bool")
  | int (i : Int) : TyOf K H (.int i) (.type "int")
  | str (x : Str) : TyOf K H (.str x) (.type "str")
  | flt (x : UInt64) : TyOf K H (.flt x) (.type "float")
  | lst {a : Addr} {xs : List V} (e : H a = some (.lst xs)) : TyOf K H (.ref a) (.type "list")
  | frz {a : Addr} {o : Obj} {xs : List V} (e : H a = some (.frz o (.lst xs))) : TyOf K H (.ref a) (.type "list")
  | tup {a : Addr} {xs : List V} (e : H a = some (.tup xs)) : TyOf K H (.ref a) (.type "tuple")
  | dK {a : Addr} {kvs : List (Key × V)} (e : H a = some (.dK kvs)) : TyOf K H (.ref a) (.type "dict")
  | dT {a : Addr} {kvs : List (List Key × V)} (e : H a = some (.dT kvs)) : TyOf K H (.ref a) (.type "dict")
  | ins {a C dx : Addr} {fs : List (Str × V)} (e : H a = some (.ins C dx fs)) (cl : Cls K C) (ha : PySem.W.findIn K (.ref C) "__class__" = some (some (.builtin "object.__class__")))
      (hn : PySem.W.specialIn K (.builtin "object.__class__") "__get__" = some (some (.builtin "getset_descriptor.__get__"))) (htk : PySem.W.takesIn K (.builtin "object.__class__") = some true)
      (hm : PySem.W.mroIn K C (.type "object") = some true) : TyOf K H (.ref a) (.ref C)
/-- isinstance(x, c) for one class c, a built-in or an own one: kitOne's answer -/
theorem isinst_ok {x : V} {u t : Value} (I : Inv X pins σ H s) (rx : RelV x u) (ty : TyOf X.K H x t) (e : PySem.W.kitOne X.K t c = some b) (h : ∀ tk, Q (.bool b) { s with toks := tk }) :
    wpAny (model X.prog X.w) A (call (.builtin "isinstance") [u, c]) Q E s := by
  cases ty with
  | non => cases (show u = Value.none from rx); exact PySem.W.kia_one PySem.W.kitx_none I.kIn True.intro e (fun z => nomatch z) h
  | bl y => cases (show u = Value.bool y from rx); exact PySem.W.kia_one PySem.W.kitx_bool I.kIn True.intro e (fun z => nomatch z) h
  | int i => obtain ⟨t, q⟩ := (show ∃ t, u = Value.int i t from rx); cases q; exact PySem.W.kia_one PySem.W.kitx_int I.kIn True.intro e (fun z => nomatch z) h
  | str y => obtain ⟨t, q⟩ := (show ∃ t, u = Value.str y t from rx); cases q; exact PySem.W.kia_one PySem.W.kitx_str I.kIn True.intro e (fun z => nomatch z) h
  | flt y => obtain ⟨t, q⟩ := (show ∃ t, u = Value.float y t from rx); cases q; exact PySem.W.kia_one PySem.W.kitx_float I.kIn True.intro e (fun z => nomatch z) h
  | @lst a xs ea =>
    cases (show u = Value.ref a from rx)
    obtain ⟨_, _, n, _, h1⟩ := (show ObjOk X.prog X.w H s.heap a (.lst xs) from I.hok a _ ea)
    exact PySem.W.kia_one PySem.W.kitx_list I.kIn ⟨_, h1, rfl⟩ e (fun z => nomatch z) h
  | @frz a ob xs ea =>
    cases (show u = Value.ref a from rx)
    obtain ⟨_, _, _, n, _, h1⟩ := (show ObjOk X.prog X.w H s.heap a (.frz ob (.lst xs)) from I.hok a _ ea)
    exact PySem.W.kia_one PySem.W.kitx_list I.kIn ⟨_, h1, rfl⟩ e (fun z => nomatch z) h
  | @tup a xs ea =>
    cases (show u = Value.ref a from rx)
    obtain ⟨_, _, _, p⟩ := (show ObjOk X.prog X.w H s.heap a (.tup xs) from I.hok a _ ea)
    obtain ⟨o, h1, h2, _⟩ := p
    exact PySem.W.kia_one PySem.W.kitx_tuple I.kIn ⟨o, h1, h2⟩ e (fun z => nomatch z) h
  | @dK a kvs ea =>
    cases (show u = Value.ref a from rx)
    obtain ⟨_, _, vs, _, p⟩ := (show ObjOk X.prog X.w H s.heap a (.dK kvs) from I.hok a _ ea)
    obtain ⟨o, es, ep, h1, h2, _⟩ := p
    exact PySem.W.kia_one PySem.W.kitx_dict I.kIn ⟨o, h1, h2.1⟩ e (fun z => nomatch z) h
  | @dT a kvs ea =>
    cases (show u = Value.ref a from rx)
    obtain ⟨_, _, xs, _, o, es, ep, h1, h2, _⟩ := (show ObjOk X.prog X.w H s.heap a (.dT kvs) from I.hok a _ ea)
    exact PySem.W.kia_one PySem.W.kitx_dict I.kIn ⟨o, h1, h2.1⟩ e (fun z => nomatch z) h
  | @ins a C dx fs ea cl ha hn htk hm =>
    cases (show u = Value.ref a from rx)
    obtain ⟨mA, O, _⟩ := ins_get I.hok ea
    obtain ⟨od, J, _⟩ := O.look
    exact PySem.W.kia_one (PySem.W.kitx_own (cl.get _) cl.hd ha hn htk hm) I.kIn J e (fun z => nomatch z) h
end
end L2

namespace L2
open PySem PySem.Spec PyProof.Rows

/-! ### room -/
structure Room (k : Nat) (A : Around) : Prop where
  hd : A.handled = none
  dp : A.depth + 3 * k + 5 < recursionLimit
  un : A.units + 16 * k + 200 < cLine
theorem Room.mono {j k : Nat} {A : Around} (r : Room k A) (h : j ≤ k) : Room j A := ⟨r.hd, by have := r.dp; omega, by have := r.un; omega⟩
theorem Room.deeper {k : Nat} {A : Around} (r : Room (k + 1) A) (env : Env) : Room k (A.deeper env) :=
  ⟨r.hd, by have := r.dp; show A.depth + 1 + 3 * k + 5 < _; omega, by have := r.un; show A.units + 3 + 16 * k + 200 < _; omega⟩
theorem Room.in1 {k : Nat} {A : Around} (r : Room (k + 1) A) : Room k A.in1 :=
  ⟨r.hd, by have := r.dp; show A.depth + 3 * k + 5 < _; omega, by have := r.un; show A.units + 1 + 16 * k + 200 < _; omega⟩
theorem make_depth {A : Around} {C : Addr} {us : List Value} {kw : List (Str × Value)} : (A.under (.builtin "type.__call__" ⟨.ref C :: us, kw⟩)).depth = A.depth + 1 := by
  first | rfl | simp [Around.under, Code.weight, Code.isCreation, Code.isGuard, Code.isCaller, Code.frames, Code.isFrame, guardIds]
theorem make_units {A : Around} {C : Addr} {us : List Value} {kw : List (Str × Value)} : (A.under (.builtin "type.__call__" ⟨.ref C :: us, kw⟩)).units = A.units + 1 := by
  first | rfl | simp [Around.under, Code.cUnits, Code.frames, Code.isFrame]
theorem Room.make {k : Nat} {A : Around} (r : Room (k + 1) A) (C : Addr) (us : List Value) (kw : List (Str × Value)) : Room k (A.under (.builtin "type.__call__" ⟨.ref C :: us, kw⟩)) :=
  ⟨r.hd, by have := r.dp; rw [make_depth]; omega, by have := r.un; rw [make_units]; omega⟩
theorem Room.depth {k : Nat} {A : Around} (r : Room k A) : A.depth < recursionLimit := by have := r.dp; omega
theorem Room.units {k : Nat} {A : Around} (r : Room k A) : A.units + 64 < cLine := by have := r.un; omega
theorem Room.units0 {k : Nat} {A : Around} (r : Room k A) : A.units < cLine := by have := r.un; omega

/-! ### argument lists and displays -/
def tNil : TA := fun _ H Q => Q [] H
def tCons (ta : TE) (tr : TA) : TA := fun σ H Q => ta σ H fun x H1 => tr σ H1 fun xs H2 => Q (x :: xs) H2
section
variable {X : Cx} {e : Expr} {es : List Expr} {te : TE} {t : TA} {pos : Pos}
theorem pa_nil : PA X [] tNil := fun _ _ _ _ H Q I h => Calls.spliced_nil ⟨[], H, I, .nil, h⟩
theorem pa_cons (ha : PE X e te) (hr : PA X es t) (hs : starEach (e :: es) X.env = (false, eval e X.env) :: starEach es X.env := by rfl) : PA X (e :: es) (tCons te t) := by
  intro pos pins s σ H Q I h
  rw [hs]
  show wpAny _ _ (spliced ((false, eval e X.env) :: backTo pos (starEach es X.env))) _ _ s
  refine Calls.spliced_cons (thn (ha pins s σ H _ I h) fun u s1 ⟨x, H1, I1, r1, q1⟩ => ?_)
  exact thn (hr pos pins s1 σ H1 _ I1 q1) fun us s2 ⟨xs, H2, I2, r2, q2⟩ => ⟨x :: xs, H2, I2, .cons r1 r2, q2⟩

/-- a tuple, a list of written items -/
def tTup (t : TA) : TE := fun σ H Q => t σ H fun xs H1 => xs.length ≤ sizeLine ∧ ∀ p, H1 p = none → Q (.ref p) (upd H1 p (.tup xs))
def tLst (t : TA) : TE := fun σ H Q => t σ H fun xs H1 => xs.length ≤ sizeLine ∧ ∀ p, H1 p = none → Q (.ref p) (upd H1 p (.lst xs))
theorem pe_tup {x1} (h : PA X es t) : PE X (.Tuple es x1 pos) (tTup t) := by
  intro pins s σ H Q I hq
  refine wpAny_Tuple_spliced (thn (h pos pins s σ H _ I hq) fun us s1 ⟨xs, H1, I1, r, z, q⟩ => ⟨by rw [← r.length]; exact z, ?_⟩)
  have hf : H1 s1.heap.objs.size = none := I1.hok.fresh (Nat.le_refl _)
  refine ⟨.ref s1.heap.objs.size, upd H1 s1.heap.objs.size (.tup xs), I1.laid (t' := s1.toks) (fun b u e => Heap.get?_push_of_some _ e) (Nat.le_refl _) ?_, rfl, q _ hf⟩
  exact ⟨z, us, r, ⟨_, Heap.get?_push_size _ rfl, rfl, _, rfl⟩⟩
theorem pe_lst (h : PA X es t) : PE X (.List es pos) (tLst t) := by
  intro pins s σ H Q I hq
  refine wpAny_List_spliced (thn (h pos pins s σ H _ I hq) fun us s1 ⟨xs, H1, I1, r, z, q⟩ => ⟨by rw [← r.length]; exact z, ?_⟩)
  have hf : H1 s1.heap.objs.size = none := I1.hok.fresh (Nat.le_refl _)
  refine ⟨.ref s1.heap.objs.size, upd H1 s1.heap.objs.size (.lst xs), I1.laid (t' := s1.toks) (fun b u e => Heap.get?_push_of_some _ e) (Nat.le_refl _) ?_, rfl, q _ hf⟩
  exact ⟨z, us, 0, r, Heap.get?_push_size _ rfl⟩
end

/-! ### what a def promises -/
/-- a def's promise: the bound arguments in the parameters' order, the heap, the wanted end, the wanted exception -/
abbrev Sp := List V → Hp → VK → XK → Prop
/-- how an exception lies behind a call (file 08 gives it): the callers' frames, abstract heap and state ahead of the call, the wish, the exception, the state -/
abbrev CXT := List Env → Hp → Shared → XK → Value → Shared → Prop

/-- the state at a call -/
structure Env0 (P : Program) (w : World) (K : PySem.W.Frag) (mg : Str → Option Value) (base : Heap) (A : Around) (outer : List Env) (s : Shared) (H : Hp) : Prop where
  frames : A.frames = some outer
  mod : Mod K mg base
  bs : ∀ b o, base.get? b = some o → s.heap.get? b = some o ∧ H b = none
  bsz : base.objs.size ≤ s.heap.objs.size
  funs : s.heap.FunFrames base outer
  frf : ∀ b ∈ frs outer, H b = none
  hok : HOk P w H s.heap
  bare : AllBare s.gens
/-- a call's end -/
def CE (outer : List Env) (P : Program) (w : World) (H : Hp) (s : Shared) (Q : VK) (u : Value) (s' : Shared) : Prop :=
  ∃ v H', s'.os = s.os ∧ AllBare s'.gens ∧ Un (frs outer) [] H H' s.heap s'.heap ∧ HOk P w H' s'.heap ∧ RelV v u ∧ Q v H'
def CR (CX : CXT) (outer : List Env) (P : Program) (w : World) (H : Hp) (s : Shared) (Q : VK) (E : XK) (r : Result) (s' : Shared) : Prop :=
  match r with
  | .ok (.ret u) => CE outer P w H s Q u s'
  | .ok _ => False
  | .error e => CX outer H s E e s'
structure FnOk (P : Program) (w : World) (K : PySem.W.Frag) (mg : Str → Option Value) (base : Heap) (CX : CXT) (k : Nat) (f : Addr) (fd : FuncData) (ps : List Str) (sp : Sp) : Prop where
  len : ∀ vs H Q E, sp vs H Q E → vs.length = ps.length
  run : ∀ (A : Around) (outer : List Env) (s : Shared) (H : Hp) (args : Args) (us : List Value) (vs : List V) (Q : VK) (E : XK), Room k A → Env0 P w K mg base A outer s H → BindsTo s fd args (ps.zip us) → Vals vs us → sp vs H Q E →
    codeAny (model P w) A (.call (.ref f) args) (CR CX outer P w H s Q E) s
theorem FnOk.mono {P : Program} {w : World} {K : PySem.W.Frag} {mg : Str → Option Value} {base : Heap} {CX : CXT} {j k : Nat} {f : Addr} {fd : FuncData} {ps : List Str} {sp : Sp} (F : FnOk P w K mg base CX j f fd ps sp) (h : j ≤ k) :
    FnOk P w K mg base CX k f fd ps sp := ⟨F.len, fun A outer s H args us vs Q E hr => F.run A outer s H args us vs Q E (hr.mono h)⟩
/-- a weaker promise -/
theorem FnOk.imp {P : Program} {w : World} {K : PySem.W.Frag} {mg : Str → Option Value} {base : Heap} {CX : CXT} {k : Nat} {f : Addr} {fd : FuncData} {ps : List Str} {sp sp' : Sp} (F : FnOk P w K mg base CX k f fd ps sp)
    (h : ∀ vs H Q E, sp' vs H Q E → sp vs H Q E) : FnOk P w K mg base CX k f fd ps sp' :=
  ⟨fun vs H Q E q => F.len vs H Q E (h _ _ _ _ q), fun A outer s H args us vs Q E hr he hb hv hs => F.run A outer s H args us vs Q E hr he hb hv (h _ _ _ _ hs)⟩

theorem Env0.make {P : Program} {w : World} {K : PySem.W.Frag} {mg : Str → Option Value} {base : Heap} {A : Around} {outer : List Env} {s : Shared} {H : Hp} (e : Env0 P w K mg base A outer s H) (C : Addr) (us : List Value) (kw : List (Str × Value)) :
    Env0 P w K mg base (A.under (.builtin "type.__call__" ⟨.ref C :: us, kw⟩)) outer s H := ⟨by first | exact e.frames | (simpa [Around.under, Code.envs, Code.isFrame, pushEnvs] using e.frames), e.mod, e.bs, e.bsz, e.funs, e.frf, e.hok, e.bare⟩
theorem Env0.in1 {P : Program} {w : World} {K : PySem.W.Frag} {mg : Str → Option Value} {base : Heap} {A : Around} {outer : List Env} {s : Shared} {H : Hp} (e : Env0 P w K mg base A outer s H) :
    Env0 P w K mg base A.in1 outer s H := ⟨e.frames, e.mod, e.bs, e.bsz, e.funs, e.frf, e.hok, e.bare⟩

section
variable {X : Cx} {pins : List (Addr × Obj)} {σ : St} {H : Hp} {s s' : Shared}
/-- from a body: what a callee wants -/
theorem Inv.env0 (I : Inv X pins σ H s) : Env0 X.prog X.w X.K X.mg X.base X.A X.stack s H :=
  ⟨I.ok.frames, I.ok.mod, I.bs, Nat.le_trans I.ok.bsz I.sz, I.stack, I.stkFree, I.hok, I.bare⟩
/-- behind a call -/
theorem Inv.after {Q : VK} {u : Value} (I : Inv X pins σ H s) (h : CE X.stack X.prog X.w H s Q u s') : EP X pins σ Q u s' := by
  obtain ⟨v, H', os, bare, un, hok, r, q⟩ := h
  obtain ⟨hh, g, d, t, os'⟩ := s'
  obtain rfl : os' = s.os := os
  exact ⟨v, H', I.call (h' := hh) (g' := g) (d' := d) (t' := t) (ch := []) un hok bare (fun b z => absurd z (by simp)), r, q⟩
end

/-! ### calls -/
/-- f(..): the written arguments, then the defaults dvs; E: what is wanted of an exception -/
def tCall (sp : Sp) (dvs : List V) (E : XK) (t : TA) : TE := fun σ H Q => t σ H fun vs H1 => sp (vs ++ dvs) H1 Q E

/-- how the parameters are bound: us the positional arguments, kw the keywords' values by name, ds the defaults that fill up -/
def Binds (K : PySem.W.Frag) (fd : FuncData) (ps : List Str) (ds : List Value) : Prop :=
  ∀ (s : Shared) (us : List Value), K.In s.heap → (us ++ ds).length = ps.length → BindsTo s fd ⟨us, []⟩ (ps.zip (us ++ ds))
/-- every parameter is given -/
theorem Binds.all {K : PySem.W.Frag} {fd : FuncData} {ps : List Str} (h : ∀ us : List Value, us.length = ps.length → bindArgs fd ⟨us, []⟩ = pure (ps.zip us)) : Binds K fd ps [] := fun s us _ hl => by
  rw [List.append_nil] at hl ⊢
  exact .of_eq (h us hl)

/-- an exception of a callee reaches what this body wants of exceptions -/
def Passes (CX : CXT) (X : Cx) (E : XK) : Prop := ∀ (pins : List (Addr × Obj)) (σ : St) (H : Hp) (s : Shared) (e : Value) (s' : Shared), Inv X pins σ H s → CX X.stack H s E e s' → X.xe e s'

section
variable {X : Cx} {CX : CXT} {k : Nat} {f C : Addr} {fd : FuncData} {ps : List Str} {sp : Sp} {dvs : List V} {ds : List Value} {E : XK} {x m : Str} {p pos apos : Pos} {e o : Expr} {es : List Expr} {ta : TE} {t : TA}

/-- the callee runs -/
theorem run_fn {pins : List (Addr × Obj)} {σ : St} {H : Hp} {s : Shared} {Q : VK} {us : List Value} {vs : List V} (F : FnOk X.prog X.w X.K X.mg X.base CX k f fd ps sp) (hr : Room k X.A) (hb : Binds X.K fd ps ds) (hd : Vals dvs ds) (hx : Passes CX X E)
    (I : Inv X pins σ H s) (r : Vals vs us) (h : sp (vs ++ dvs) H Q E) : wpAny (model X.prog X.w) X.A (call (.ref f) us) (EP X pins σ Q) X.xe s := by
  have r2 : Vals (vs ++ dvs) (us ++ ds) := r.append hd
  have hl : (us ++ ds).length = ps.length := by rw [← r2.length]; exact F.len _ _ _ _ h
  refine wpAny_call (codeAny_mono (F.run X.A X.stack s H ⟨us, []⟩ (us ++ ds) (vs ++ dvs) Q E hr I.env0 (hb s us I.kIn hl) r2 h) fun r s' hq => ?_)
  cases r with
  | error e => exact hx pins σ H s e s' I hq
  | ok fl =>
    cases fl with
    | ret u => exact I.after hq
    | next => exact False.elim hq
    | brk => exact False.elim hq
    | cont => exact False.elim hq

theorem pe_call (F : FnOk X.prog X.w X.K X.mg X.base CX k f fd ps sp) (hr : Room k X.A) (hg : Gl X x) (hm : X.mg x = some (.ref f)) (hk : PySem.W.keepIn X.K (.ref f) = true) (hb : Binds X.K fd ps ds) (hd : Vals dvs ds) (hx : Passes CX X E)
    (ha : PA X (e :: es) t) (hdb : (x == ("__debug__" : Str)) = false := by decide) (he : starEach (e :: es) X.env = (false, eval e X.env) :: starEach es X.env := by rfl) (hpl : (backTo pos (starEach es X.env)).any (·.1) = false := by rfl) :
    PE X (.Call (.Name x p) (e :: es) [] pos) (tCall sp dvs E t) := by
  intro pins s σ H Q I h
  refine wpAny_Call_Name_kw (ld_glob I hg hm ?_ hdb)
  refine PySem.W.callWith_K (h₀ := X.base) I.ok.mod.kin hk (thn (ha pos pins s σ H _ I h) fun us s1 ⟨vs, H1, I1, r, q⟩ => ⟨I1.kIn, ?_⟩) he hpl
  exact run_fn F hr hb hd hx I1 r q


/-- what a class must have to be made -/
structure Mk (K : PySem.W.Frag) (C f : Addr) : Prop where
  makes : PySem.W.makesIn K C = true
  init : PySem.W.findIn K (.ref C) "__init__" = some (some (.ref f))
  fn : PySem.W.isFn K (.ref f) = true
  kp : PySem.W.keepIn K (.ref C) = true

end

/-! ### keywords -/
section
variable {X : Cx} {CX : CXT} {k : Nat} {f C : Addr} {fd : FuncData} {ps ks : List Str} {sp : Sp} {E : XK} {x m : Str} {p pos apos kpos : Pos} {e o : Expr} {es : List Expr} {kws : List Keyword} {te ta : TE} {t tk : TA} {nm : Option Str}

/-- how a call with keywords binds: g puts the positional values us and the keywords' values ws (names ks) in the parameters' order, defaults among them -/
structure KBinds (K : PySem.W.Frag) (fd : FuncData) (ps ks : List Str) (g : List Value → List Value → List Value) (gV : List V → List V → List V) : Prop where
  to : ∀ (s : Shared) (us ws : List Value), K.In s.heap → (g us ws).length = ps.length → BindsTo s fd ⟨us, ks.zip ws⟩ (ps.zip (g us ws))
  rel : ∀ {vs : List V} {us : List Value} {zs : List V} {ws : List Value}, Vals vs us → Vals zs ws → Vals (gV vs zs) (g us ws)
variable {g : List Value → List Value → List Value} {gV : List V → List V → List V}
end

/-! ### a def's body keeps its promise -/
/-- names: the parameters first -/
structure FnScope (N P : List Str) (sc : Scope) : Prop where
  kind : sc.kind = .function
  co : sc.isCoroutine = false
  gen : sc.isGenerator = false
  nd : N.Nodup
  pre : N.take P.length = P
  par : ∀ x ∈ P, sc.names.lookup x = some .local ∨ sc.names.lookup x = some .cell
  nofree : ∀ y ∈ sc.names, y.2 ≠ .free

theorem bindL_out {kindOf : Str → Option NameKind} {x : Str} : ∀ {binds : List (Str × Value)} {m : Str → Option Value}, (∀ v, (x, v) ∉ binds) → bindL kindOf binds m x = m x
  | [], _, _ => rfl
  | (n, v) :: r, m, h => by
    unfold bindL
    rw [bindL_out fun w hw => h w (List.mem_cons_of_mem _ hw)]
    split
    · have : x ≠ n := by rintro rfl; exact h v List.mem_cons_self
      simp [this]
    · rfl
theorem bindC_out {kindOf : Str → Option NameKind} {x : Str} : ∀ {binds : List (Str × Value)} {m : Str → Option Value}, (∀ v, (x, v) ∉ binds) → bindC kindOf binds m x = m x
  | [], _, _ => rfl
  | (n, v) :: r, m, h => by
    unfold bindC
    rw [bindC_out fun w hw => h w (List.mem_cons_of_mem _ hw)]
    split
    · rfl
    · have : x ≠ n := by rintro rfl; exact h v List.mem_cons_self
      simp [this]
theorem bindL_get {kindOf : Str → Option NameKind} {x : Str} {v : Value} : ∀ {P : List Str} {vs : List Value} {i : Nat} {m : Str → Option Value}, P.Nodup → P[i]? = some x → vs[i]? = some v → kindOf x = some .local →
    bindL kindOf (P.zip vs) m x = some v
  | [], _, _, _, _, h, _, _ => by simp at h
  | _ :: _, [], _, _, _, _, h, _ => by simp at h
  | p :: P, w :: vs, 0, m, nd, h1, h2, hk => by
    simp at h1 h2; subst h1; subst h2
    show bindL kindOf ((p, w) :: P.zip vs) m p = _
    unfold bindL
    rw [bindL_out fun v hv => (List.nodup_cons.mp nd).1 (List.of_mem_zip hv).1, if_pos hk]
    simp
  | p :: P, w :: vs, i + 1, m, nd, h1, h2, hk => by
    show bindL kindOf ((p, w) :: P.zip vs) m x = _
    unfold bindL
    exact bindL_get (i := i) (List.nodup_cons.mp nd).2 (by simpa using h1) (by simpa using h2) hk
theorem bindC_get {kindOf : Str → Option NameKind} {x : Str} {v : Value} : ∀ {P : List Str} {vs : List Value} {i : Nat} {m : Str → Option Value}, P.Nodup → P[i]? = some x → vs[i]? = some v → kindOf x ≠ some .local →
    bindC kindOf (P.zip vs) m x = some v
  | [], _, _, _, _, h, _, _ => by simp at h
  | _ :: _, [], _, _, _, _, h, _ => by simp at h
  | p :: P, w :: vs, 0, m, nd, h1, h2, hk => by
    simp at h1 h2; subst h1; subst h2
    show bindC kindOf ((p, w) :: P.zip vs) m p = _
    unfold bindC
    rw [bindC_out fun v hv => (List.nodup_cons.mp nd).1 (List.of_mem_zip hv).1, if_neg hk]
    simp
  | p :: P, w :: vs, i + 1, m, nd, h1, h2, hk => by
    show bindC kindOf ((p, w) :: P.zip vs) m x = _
    unfold bindC
    exact bindC_get (i := i) (List.nodup_cons.mp nd).2 (by simpa using h1) (by simpa using h2) hk

/-- the names' values at the entry -/
def start (N : List Str) (vs : List V) : St := vs.map some ++ List.replicate (N.length - vs.length) none

/-- the context of a def's body, at its entry; an exception leaves the frame, then lies as CX says -/
def cxOf (CX : CXT) (P : Program) (w : World) (K : PySem.W.Frag) (mg : Str → Option Value) (base : Heap) (N : List Str) (qual : Str) (scope : Scope) (f : Addr) (cd : Value) (A : Around) (outer : List Env) (s : Shared) (H : Hp) (E : XK) : Cx where
  prog := P
  w := w
  K := K
  mg := mg
  base := base
  A := A.deeper (envOfC qual scope s.heap.objs.size f cd)
  N := N
  s₀ := s
  H₀ := H
  env := envOfC qual scope s.heap.objs.size f cd
  outer := outer
  stack := envOfC qual scope s.heap.objs.size f cd :: outer
  ex := []
  calm := true
  fn := fun _ => true
  pn := []
  xe := fun e s' => wpAny (model P w) (A.deeper (envOfC qual scope s.heap.objs.size f cd)) (leaving (envOfC qual scope s.heap.objs.size f cd) e) (fun _ s'' => CX outer H s E e s'') (fun e' s'' => CX outer H s E e' s'') s'

theorem cell_has {sc : Scope} {n : Nat} {x : Str} (h : sc.names.lookup x = some .cell) : ∃ c, (cellsFrom n sc.names []).lookup x = some c := by
  have q := PySem.W.cellsFrom_some sc.names n [] (.inl h)
  exact Option.isSome_iff_exists.mp q

theorem inv_start {CX : CXT} {P : Program} {w : World} {K : PySem.W.Frag} {mg : Str → Option Value} {base : Heap} {N ps : List Str} {qual : Str} {scope : Scope} {f : Addr} {cd : Value} {A : Around} {outer : List Env} {s s1 : Shared} {H : Hp} {E : XK} {us : List Value} {vs : List V}
    (S : FnScope N ps scope) (hd : A.handled = none) (e0 : Env0 P w K mg base A outer s H) (hl : vs.length = ps.length) (r : Vals vs us)
    (x : InCallC s s.heap.objs.size (bindL (envOfC qual scope s.heap.objs.size f cd).kindOf (ps.zip us) fun _ => none) (cellsFrom (s.heap.objs.size + 1) scope.names []) (bindC (envOfC qual scope s.heap.objs.size f cd).kindOf (ps.zip us) fun _ => none) s1) :
    Inv (cxOf CX P w K mg base N qual scope f cd A outer s H E) [] (start N vs) H s1 := by
  have hpl : ps.length ≤ N.length := by have := congrArg List.length S.pre; rw [List.length_take] at this; omega
  obtain ⟨h1, tk, rfl, hk⟩ := x.done
  have noA : ∀ b : Addr, b ∉ (cxOf CX P w K mg base N qual scope f cd A outer s H E).ex := fun b z => absurd (show b ∈ ([] : List Addr) from z) (by simp)
  refine ⟨⟨e0.mod, S.kind, rfl, rfl, Nat.le_refl _, fun y z c h1 h2 => ?_, fun y hy => ?_, fun y c _ h => ?_, fun _ => hd, Around.frames_deeper e0.frames, .inr ⟨rfl, rfl⟩, fun b z => absurd z (noA b), e0.bs, e0.bsz, fun b _ _ => noA b, fun b z => absurd z (noA b), e0.funs, e0.frf⟩,
    rfl, e0.bare, Un.kept hk, ⟨_, x.toInCall.ns, fun i y v h1 h2 h3 => ?_⟩, fun y c h => ⟨_, x.cell y c h⟩, e0.hok.fresh (Nat.le_refl _), fun y c h => ?_, fun p hp => absurd (show p ∈ ([] : List (Addr × Obj)) from hp) (by simp), e0.hok.kept hk, ?_⟩
  · exact name_of_addr x.apart (PySem.mem_of_lookup h1) (PySem.mem_of_lookup h2)
  · have hy : scope.names.lookup y = some .cell ∨ scope.names.lookup y = some .free := hy
    rcases hy with hy | hy
    · exact cell_has hy
    · exact absurd rfl (S.nofree _ (PySem.mem_of_lookup hy))
  · exact Nat.le_of_lt (x.above y c (PySem.mem_of_lookup h))
  · have hi : i < vs.length := by
      unfold start at h2
      by_cases hi : i < vs.length
      · exact hi
      · rw [List.getElem?_append_right (by simpa using hi)] at h2
        rw [List.getElem?_replicate] at h2
        split at h2 <;> cases h2
    have ha : vs[i]? = some v := by
      unfold start at h2
      rw [List.getElem?_append_left (by simpa using hi), List.getElem?_map] at h2
      cases e : vs[i]? with
      | none => rw [e] at h2; cases h2
      | some a => rw [e] at h2; cases h2; rfl
    obtain ⟨u, hu, rv⟩ := r.get ha
    have hp : ps[i]? = some y := by
      rw [← S.pre, List.getElem?_take_of_lt (by omega)]; exact h1
    have ndP : ps.Nodup := by rw [← S.pre]; exact S.nd.sublist (List.take_sublist _ _)
    refine ⟨u, rv, ?_⟩
    rcases S.par y (List.mem_of_getElem? hp) with k | k
    · exact .inl ⟨k, bindL_get ndP hp hu k⟩
    · obtain ⟨c, e⟩ := cell_has (n := s.heap.objs.size + 1) k
      refine .inr ⟨.inl k, c, e, ?_⟩
      have q := x.cell y c e
      rw [bindC_get ndP hp hu (by show scope.names.lookup y ≠ _; rw [k]; decide)] at q
      exact q
  · exact e0.hok.fresh (Nat.le_of_lt (x.above y c (PySem.mem_of_lookup h)))
  · unfold start
    show _ = N.length
    rw [List.length_append, List.length_map, List.length_replicate]
    omega

/-- THE RULE: a def (or a method) of the text, by its body. The body's reading t is chosen for each entry; it is run at the parameters' values -/
theorem fn_of {CX : CXT} {P : Program} {w : World} {K : PySem.W.Frag} {mg : Str → Option Value} {base : Heap} {k : Nat} {f : Addr} {name qual : Str} {params : Arguments} {body : List Stmt} {scope : Scope} {dV kV doc pm cdv ct oc : Value} {an od : Option Addr}
    {osl : Array (Option Value)} {N ps : List Str} {sp : Sp} (lk : K.lookup f = some ⟨oc, od, .func (PySem.W.fnOf name qual params body scope dV kV doc pm an cdv ct), osl⟩) (hcd : PySem.W.codeIn K cdv qual = true) (S : FnScope N ps scope)
    (len : ∀ vs H Q E, sp vs H Q E → vs.length = ps.length)
    (hbody : ∀ (A : Around) (outer : List Env) (s : Shared) (H : Hp) (vs : List V) (Q : VK) (E : XK), Room k (A.deeper (envOfC qual scope s.heap.objs.size f cdv)) → sp vs H Q E →
      ∃ t, PSs (cxOf CX P w K mg base N qual scope f cdv A outer s H E) body t ∧ t { nx := fun _ H' => Q .non H', rt := Q } (start N vs) H) :
    FnOk P w K mg base CX (k + 1) f (PySem.W.fnOf name qual params body scope dV kV doc pm an cdv ct) ps sp := by
  refine ⟨len, fun A outer s H args us vs Q E hr e0 hb r hsp => ?_⟩
  have hl := len _ _ _ _ hsp
  have KX : K.In s.heap := e0.mod.kin.keeps fun b o e => (e0.bs b o e).1
  have lim : s.heap.NoLimit := e0.mod.nolimit.keeps fun b o e => (e0.bs b o e).1
  have hkind : ∀ y ∈ ps.zip us, scope.names.lookup y.1 = some .local ∨ (scope.names.lookup y.1 = some .cell ∧ ((cellsFrom (s.heap.objs.size + 1) scope.names []).lookup y.1).isSome = true) := fun ⟨n, v⟩ hy => by
    rcases S.par n (List.of_mem_zip hy).1 with q | q
    · exact .inl q
    · exact .inr ⟨q, PySem.W.cellsFrom_some _ _ _ (.inl q)⟩
  refine codeAny_call_function hr.depth (KX _ _ lk) rfl S.co S.gen rfl (PySem.W.codeRec_of KX hcd) (hb _ _ _ _ ?_)
  refine wpAny_newFunctionEnv_cells S.kind hkind fun env he s1 x => ?_
  subst he
  refine ⟨lim.keeps x.toInCall.keep, codeAny_func ?_⟩
  obtain ⟨t, ht, hq⟩ := hbody A outer s H vs Q E (hr.deeper _) hsp
  have I : Inv (cxOf CX P w K mg base N qual scope f cdv A outer s H E) [] (start N vs) H s1 := inv_start S hr.hd e0 hl r x
  refine wpAny_mono (ht [] s1 (start N vs) H _ I hq) (fun fl s' hs => ?_) fun e s' hs => hs
  have fin : ∀ {σ' : St} {H' : Hp} {v : V} {u : Value}, Inv (cxOf CX P w K mg base N qual scope f cdv A outer s H E) [] σ' H' s' → RelV v u → Q v H' → CE outer P w H s Q u s' :=
    fun {σ' H' v u} J rv q => ⟨v, H', J.os, J.bare, J.base, J.hok, rv, q⟩
  cases fl with
  | ret u =>
    obtain ⟨v, σ', H', J, rv, q⟩ := hs
    exact fin J rv q
  | next =>
    obtain ⟨σ', H', J, q⟩ := hs
    exact fin (v := V.non) (u := Value.none) J rfl q
  | brk =>
    obtain ⟨_, _, _, q⟩ := hs
    exact False.elim q
  | cont =>
    obtain ⟨_, _, _, q⟩ := hs
    exact False.elim q
end L2

namespace L2
open PySem PySem.Spec PyProof.Rows
section
variable {X : Cx} {x : Str} {p pos : Pos} {e : Expr} {es : List Expr} {t : TA} {id T : String} {r : List V → Hp → VK → Prop}

def tCB (r : List V → Hp → VK → Prop) (t : TA) : TE := fun σ H Q => t σ H fun vs H1 => r vs H1 Q
/-- f(e, ..), f a built-in function -/
theorem pe_callB (hc : CallR X (.builtin id) r) (hg : Gl X x) (hm : X.mg x = none) (hv : bootBuiltins x = some (.builtin id)) (ha : PA X (e :: es) t) (hn : x ≠ "__name__" := by decide) (hdb : (x == ("__debug__" : Str)) = false := by decide)
    (he : starEach (e :: es) X.env = (false, eval e X.env) :: starEach es X.env := by rfl) (hpl : (backTo pos (starEach es X.env)).any (·.1) = false := by rfl) : PE X (.Call (.Name x p) (e :: es) [] pos) (tCB r t) := by
  intro pins s σ H Q I h
  refine wpAny_Call_Name_kw (ld_blt I hg hm hv ?_ hn hdb)
  exact PyProof.Rows.callWith_builtin1 (thn (ha pos pins s σ H _ I h) fun us s1 ⟨vs, H1, I1, r1, q1⟩ => hc pins s1 σ H1 vs us Q I1 r1 q1) he hpl
/-- T(e, ..), T a built-in type -/
theorem pe_callTy (hc : CallR X (.type T) r) (hg : Gl X x) (hm : X.mg x = none) (hv : bootBuiltins x = some (.type T)) (ha : PA X (e :: es) t) (hn : x ≠ "__name__" := by decide) (hdb : (x == ("__debug__" : Str)) = false := by decide)
    (he : starEach (e :: es) X.env = (false, eval e X.env) :: starEach es X.env := by rfl) (hpl : (backTo pos (starEach es X.env)).any (·.1) = false := by rfl) : PE X (.Call (.Name x p) (e :: es) [] pos) (tCB r t) := by
  intro pins s σ H Q I h
  refine wpAny_Call_Name_kw (ld_blt I hg hm hv ?_ hn hdb)
  exact PyProof.Rows.callWith_type1 (thn (ha pos pins s σ H _ I h) fun us s1 ⟨vs, H1, I1, r1, q1⟩ => hc pins s1 σ H1 vs us Q I1 r1 q1) he hpl
end
end L2

namespace HT
open PySem PyProof.Rows



section
open PySem.SeqAt
open PySem.AutoSeq1 (wpAny_loadPart')
open PySem.MeetsSeq PySem.MeetsSeq2 PySem.MeetsSeq3

end

section
variable {prog : Program} {w : World} {A : Around} {E : Value → Shared → Prop} {s : Shared}


/-- t + u, t not empty -/
theorem cat_tup {t b : Addr} {vs ws : List Value} {Q : Value → Shared → Prop} (ht : IsTup s.heap t vs.toArray) (hb : IsTup s.heap b ws.toArray) (hv : vs ≠ [])
    (h1 : ws = [] → Q (.ref t) s) (h2 : ws ≠ [] → Q (.ref s.heap.objs.size) { s with heap := s.heap.push { cls := .type "tuple", data := .seq (vs ++ ws).toArray } })
    (hsz : vs.length + ws.length ≤ sizeLine) : wpAny (model prog w) A (binaryOp .Add (.ref t) (.ref b)) Q E s := by
  obtain ⟨⟨cls, dd, data, sl⟩, ho, hc, n, hd⟩ := id ht
  obtain ⟨⟨cls2, dd2, data2, sl2⟩, ho2, hc2, n2, hd2⟩ := id hb
  simp only at hc hd hc2 hd2
  subst hc hd hc2 hd2
  have e : vs.toArray ++ ws.toArray = (vs ++ ws).toArray := by simp
  by_cases hw : ws = []
  · exact concat_meets ⟨_, ho, rfl⟩ ⟨_, ho2, rfl⟩ noFill_tuple_add seq_tuple_add PySem.F.slot_tuple_add PySem.F.entry_tuple_add (PySem.F.args_tuple_add_2 _ _)
      (tuple_addW1 t b vs.toArray ws.toArray n n2 dd dd2 sl sl2 (by simpa using hv) (by simp [hw])) ⟨ho, ho2, h1 hw⟩
  · refine concat_meets ⟨_, ho, rfl⟩ ⟨_, ho2, rfl⟩ noFill_tuple_add seq_tuple_add PySem.F.slot_tuple_add PySem.F.entry_tuple_add (PySem.F.args_tuple_add_2 _ _)
      (tuple_addW2 t b vs.toArray ws.toArray n n2 dd dd2 sl sl2 (by simpa using hv) (by simpa using hw) (by rw [List.size_toArray, List.size_toArray]; exact hsz)) ⟨ho, ho2, ?_⟩
    rw [e]
    exact h2 hw

/-! ### t[a:b], not the whole -/
/-- a slice's bound as a place among n (d where it is left out) -/
def sIx (n d : Nat) : Option Int → Nat
  | none => d
  | some v => if v < 0 then (v + (n : Int)).toNat else min v.toNat n
theorem sIx_none (n d : Nat) : sIx n d none = d := rfl
theorem sIx_nat (n d k : Nat) : sIx n d (some (k : Int)) = min k n := by
  show (if (k : Int) < 0 then ((k : Int) + (n : Int)).toNat else min (k : Int).toNat n) = min k n
  rw [if_neg (by omega), Int.toNat_natCast]
theorem sIx_le (n d : Nat) (hd : d ≤ n) (o : Option Int) : sIx n d o ≤ n := by
  cases o with
  | none => exact hd
  | some v =>
    show (if v < 0 then (v + (n : Int)).toNat else min v.toNat n) ≤ n
    by_cases hv : v < 0
    · rw [if_pos hv]; omega
    · rw [if_neg hv]; exact Nat.min_le_right _ _

end
end HT

namespace L2
open PySem PySem.Spec PyProof.Rows

/-! ### the parts of a slice -/
abbrev TO := St → Hp → (Option Int → Hp → Prop) → Prop
/-- a slice's part (left out, or an int) -/
def PO (X : Cx) (e : Option Expr) (t : TO) : Prop :=
  ∀ (pins : List (Addr × Obj)) (s : Shared) (σ : St) (H : Hp) (Q : Option Int → Hp → Prop), Inv X pins σ H s → t σ H Q →
    wpAny (model X.prog X.w) X.A (evalPart e X.env) (fun u s' => ∃ o H', Inv X pins σ H' s' ∧ IsPart u o ∧ Q o H') X.xe s
def tNoPart : TO := fun _ H Q => Q none H
def tPart (t : TE) : TO := fun σ H Q => t σ H fun x H1 => ∃ i, x = .int i ∧ Q (some i) H1


section
variable {X : Cx} {e : Expr} {te : TE} {lo hi : Option Expr} {tl th : TO} {pos p2 : Pos}

theorem po_none : PO X none tNoPart := by
  intro pins s σ H Q I h
  rw [evalPart_none]
  exact wpAny_pure ⟨none, H, I, .none, h⟩
theorem po_some (h : PE X e te) : PO X (some e) (tPart te) := by
  intro pins s σ H Q I hw
  rw [evalPart_some]
  refine thn (h pins s σ H _ I hw) fun u s1 ⟨x, H1, I1, r1, q1⟩ => ?_
  obtain ⟨i, rfl, q⟩ := q1
  obtain ⟨t, rfl⟩ := r1
  exact ⟨some i, H1, I1, .int i t, q⟩

/-- what a slice of a value is, by values: the slice object stands at sl -/
def SlR (X : Cx) (r : V → Option Int → Option Int → Hp → VK → Prop) : Prop :=
  ∀ (pins : List (Addr × Obj)) (s : Shared) (σ : St) (H : Hp) (x : V) (v vl vu : Value) (lo hi : Option Int) (sl : Addr) (Q : VK), Inv X pins σ H s → RelV x v → s.heap.IsSliceOf sl vl vu .none → IsPart vl lo → IsPart vu hi → r x lo hi H Q →
    ∃ T id, typeLookup (.type T) "__getitem__" = pure (some (.builtin id)) ∧ s.TypeIs v T ∧ wpAny (model X.prog X.w) X.A (getItem v (.ref sl)) (EP X pins σ Q) X.xe s
theorem SlR.or {r r' : V → Option Int → Option Int → Hp → VK → Prop} (h : SlR X r) (h' : SlR X r') : SlR X (fun x lo hi H Q => r x lo hi H Q ∨ r' x lo hi H Q) := by
  intro pins s σ H x v vl vu lo hi sl Q I rx hs pl pu q
  rcases q with q | q
  · exact h pins s σ H x v vl vu lo hi sl Q I rx hs pl pu q
  · exact h' pins s σ H x v vl vu lo hi sl Q I rx hs pl pu q
def tSl (r : V → Option Int → Option Int → Hp → VK → Prop) (te : TE) (tl th : TO) : TE := fun σ H Q => te σ H fun x H1 => tl σ H1 fun l H2 => th σ H2 fun u H3 => r x l u H3 Q
/-- a[lo:hi], any a -/
theorem pe_slice {r : V → Option Int → Option Int → Hp → VK → Prop} (hr : SlR X r) (he : PE X e te) (hl : PO X lo tl) (hu : PO X hi th) : PE X (.Subscript e (.Slice lo hi none p2) pos) (tSl r te tl th) := by
  intro pins s σ H Q I h
  refine Subscript_ (thn (he pins s σ H _ I h) fun v s1 ⟨x, H1, I1, r1, q1⟩ => ?_)
  refine wpAny_Slice (thn (hl pins s1 σ H1 _ I1 q1) fun vl s2 ⟨l, H2, I2, pl, q2⟩ => thn (hu pins s2 σ H2 _ I2 q2) fun vu s3 ⟨u, H3, I3, pu, q3⟩ => ?_)
  rw [evalPart_none]
  refine wpAny_pure ?_
  have I4 : Inv X pins σ H3 { s3 with heap := s3.heap.push { cls := .type "slice", data := .fields #[vl, vu, .none] } } := I3.kept (t' := s3.toks) fun b ob q => Heap.get?_push_of_some _ q
  obtain ⟨T, id, hT, ht, hg⟩ := hr pins { s3 with heap := s3.heap.push { cls := .type "slice", data := .fields #[vl, vu, .none] } } σ H3 x v vl vu l u s3.heap.objs.size Q I4 r1 (Heap.IsSliceOf.new ..) pl pu q3
  show wpAny (model X.prog X.w) X.A (subscriptTail e (.Slice lo hi none p2) v (.ref s3.heap.objs.size)) (EP X pins σ Q) X.xe { s3 with heap := s3.heap.push { cls := .type "slice", data := .fields #[vl, vu, .none] } }
  exact tail_any (ops := [.ref s3.heap.objs.size, v]) ht hT hg (by with_unfolding_all rfl)

/-- the items of xs[lo:hi] -/
def cutV (xs : List V) (lo hi : Option Int) : List V := (xs.drop (HT.sIx xs.length 0 lo)).take (HT.sIx xs.length xs.length hi - HT.sIx xs.length 0 lo)
theorem cutV_length (xs : List V) (lo hi : Option Int) : (cutV xs lo hi).length ≤ xs.length := by
  unfold cutV
  rw [List.length_take, List.length_drop]
  omega

/-! ### t < u, t + u -/
/-- t + u, t not empty: u empty gives t itself -/
def rCatT (K : PySem.W.Frag) : R2 := fun x y H Q => ∃ a b xs ys, x = .ref a ∧ y = .ref b ∧ SqT K H a xs ∧ SqT K H b ys ∧ xs ≠ [] ∧ xs.length + ys.length ≤ sizeLine ∧
  (ys = [] → Q (.ref a) H) ∧ (ys ≠ [] → ∀ p, H p = none → Q (.ref p) (upd H p (.tup (xs ++ ys))))
theorem Vals.nil_iff {xs : List V} {us : List Value} (r : Vals xs us) : us = [] ↔ xs = [] := by
  cases r with
  | nil => simp
  | cons _ _ => simp
theorem op_catT : OpR X (binaryOp .Add) (rCatT X.K) := by
  intro pins s σ H x y v u Q I rx ry h
  obtain ⟨a, b, xs, ys, rfl, rfl, ha, hb, hx, hz, q1, q2⟩ := h
  cases rx
  cases ry
  obtain ⟨its, r1, p1, _⟩ := I.tuple ha
  obtain ⟨its2, r2, p2, _⟩ := I.tuple hb
  refine HT.cat_tup p1 p2 (fun z => hx (r1.nil_iff.mp z)) (fun z => ⟨.ref a, H, I, rfl, q1 (r2.nil_iff.mp z)⟩) (fun z => ?_) (by rw [← r1.length, ← r2.length]; exact hz)
  refine ⟨.ref s.heap.objs.size, _, I.laid (t' := s.toks) (o := .tup (xs ++ ys)) (fun b ob q => Heap.get?_push_of_some _ q) (Nat.le_refl _) ?_, rfl, q2 (fun w => z (r2.nil_iff.mpr w)) _ (I.hok.fresh (Nat.le_refl _))⟩
  exact ⟨by rw [List.length_append]; exact hz, _, r1.append r2, IsTup.new _ _⟩
end
end L2

namespace L2
open PySem PySem.Spec PyProof.Rows

/-! ### places -/
/-- the place that an index of any sign means -/
def ixN (n : Nat) (i : Int) : Option Nat := if 0 ≤ i then (if i < n then some i.toNat else none) else if -(n : Int) ≤ i then some (i + n).toNat else none
def atI {α : Type} (xs : List α) (i : Int) : Option α := (ixN xs.length i).bind fun j => xs[j]?
theorem ixN_seq {n : Nat} {i : Int} {j : Nat} (h : ixN n i = some j) : seqIndex? i n = some j ∧ j < n ∧ -(n : Int) ≤ i ∧ i < n := by
  unfold ixN at h
  by_cases h0 : 0 ≤ i
  · rw [if_pos h0] at h
    by_cases h1 : i < n
    · rw [if_pos h1] at h
      have e : i.toNat = j := Option.some.inj h
      exact ⟨by rw [seqIndex_of h0 h1, e], by omega, by omega, h1⟩
    · rw [if_neg h1] at h; cases h
  · rw [if_neg h0] at h
    by_cases h1 : -(n : Int) ≤ i
    · rw [if_pos h1] at h
      have e : (i + n).toNat = j := Option.some.inj h
      exact ⟨by rw [seqIndex_neg (by omega) h1, e], by omega, h1, by omega⟩
    · rw [if_neg h1] at h; cases h
theorem atI_get {α : Type} {xs : List α} {i : Int} {v : α} (h : atI xs i = some v) : ∃ j, seqIndex? i xs.length = some j ∧ xs[j]? = some v ∧ j < xs.length ∧ -(xs.length : Int) ≤ i ∧ i < xs.length := by
  unfold atI at h
  cases e : ixN xs.length i with
  | none => rw [e] at h; cases h
  | some j =>
    rw [e] at h
    obtain ⟨h1, h2, h3, h4⟩ := ixN_seq e
    exact ⟨j, h1, h, h2, h3, h4⟩
theorem atI_nat {α : Type} {xs : List α} {j : Nat} {v : α} (h : xs[j]? = some v) : atI xs (j : Int) = some v := by
  have hj : j < xs.length := (List.getElem?_eq_some_iff.mp h).1
  have e : ixN xs.length (j : Int) = some j := by
    unfold ixN
    rw [if_pos (by omega), if_pos (by omega)]; simp
  unfold atI; rw [e]; exact h

/-! ### what may be subscripted -/
/-- what stands as an index of a plain subscript -/
def PlainIx (b : Expr) : Prop := ∀ o i, subscripted b false o i = operate [o, i] (getItem o i)
/-- a subscript by values -/
def IxR (X : Cx) (r : R2) : Prop :=
  ∀ (value slice : Expr) (pins : List (Addr × Obj)) (s : Shared) (σ : St) (H : Hp) (x y : V) (v u : Value) (Q : VK), Inv X pins σ H s → RelV x v → RelV y u → r x y H Q →
    subscripted slice false v u = operate [v, u] (getItem v u) → wpAny (model X.prog X.w) X.A (subscriptTail value slice v u) (EP X pins σ Q) X.xe s
/-- a call of a builtin's method by values: the receiver, the arguments -/
def MtR (X : Cx) (id : String) (r : V → List V → Hp → VK → Prop) : Prop :=
  ∀ (pins : List (Addr × Obj)) (s : Shared) (σ : St) (H : Hp) (x : V) (xs : List V) (v : Value) (us : List Value) (Q : VK), Inv X pins σ H s → RelV x v → Vals xs us → r x xs H Q →
    wpAny (model X.prog X.w) X.A (call (.builtin id) (v :: us)) (EP X pins σ Q) X.xe s
section
variable {X : Cx} {a b : Expr} {ta tb : TE} {pos : Pos}
theorem IxR.or {r r' : R2} (h : IxR X r) (h' : IxR X r') : IxR X (fun x y H Q => r x y H Q ∨ r' x y H Q) := by
  intro value slice pins s σ H x y v u Q I rx ry q hs
  rcases q with q | q
  · exact h value slice pins s σ H x y v u Q I rx ry q hs
  · exact h' value slice pins s σ H x y v u Q I rx ry q hs
theorem MtR.or {id : String} {r r' : V → List V → Hp → VK → Prop} (h : MtR X id r) (h' : MtR X id r') : MtR X id (fun x xs H Q => r x xs H Q ∨ r' x xs H Q) := by
  intro pins s σ H x xs v us Q I rx rs q
  rcases q with q | q
  · exact h pins s σ H x xs v us Q I rx rs q
  · exact h' pins s σ H x xs v us Q I rx rs q
/-- a[b] -/
theorem pe_ix {r : R2} (hr : IxR X r) (ha : PE X a ta) (hb : PE X b tb) (hs : PlainIx b) : PE X (.Subscript a b pos) (tOp r ta tb) := by
  intro pins s σ H Q I h
  exact Subscript_ (binT ha hb I h fun v u s2 x y H2 I2 rx ry q => hr a b pins s2 σ H2 x y v u Q I2 rx ry q (hs _ _))

def rIxL (K : PySem.W.Frag) : R2 := fun x y H Q => ∃ p xs i v, x = .ref p ∧ y = .int i ∧ SqL K H p xs ∧ atI xs i = some v ∧ Q v H
def rIxT (K : PySem.W.Frag) : R2 := fun x y H Q => ∃ p xs i v, x = .ref p ∧ y = .int i ∧ SqT K H p xs ∧ atI xs i = some v ∧ Q v H
def rIxS : R2 := fun x y H Q => ∃ z i c, x = .str z ∧ y = .int i ∧ z.length ≤ sizeLine ∧ atI z.cps.toList i = some c ∧ Q (.str ⟨#[c]⟩) H
theorem ix_list : IxR X (rIxL X.K) := by
  intro value slice pins s σ H x y v u Q I rx ry h hs
  obtain ⟨p, xs, i, z, rfl, rfl, hq, he, q⟩ := h
  cases rx
  obtain ⟨t, rfl⟩ := ry
  obtain ⟨its, r, pl, hz⟩ := I.list hq
  obtain ⟨j, h1, h2, h3, h4, h5⟩ := atI_get he
  obtain ⟨w, ew, rw'⟩ := r.get h2
  have hl := r.length
  have hn := line63
  have fin : EP X pins σ Q w s := ⟨z, H, I, rw', q⟩
  by_cases h0 : 0 ≤ i
  · have hj : i.toNat = j := by
      rw [seqIndex_of h0 h5] at h1
      exact Option.some.inj h1
    exact item_listR pl.isList h0 (by omega) (by rw [hj]; simpa using ew) fin hs
  · have hj : (i + (its.toArray.size : Int)).toNat = j := by
      rw [seqIndex_neg (by omega) h4] at h1
      rw [List.size_toArray, ← hl]
      exact Option.some.inj h1
    exact subscriptTail_builtinR (x := w) pl.isList.typeIs slot_list_getitem.lookup
      (wpAny_getItem_list_neg (Q := fun r s' => r = w ∧ EP X pins σ Q r s') pl.isList (by omega) (by rw [List.size_toArray] <;> omega) (by omega) (by rw [hj]; simpa using ew) ⟨rfl, fin⟩) hs
theorem ix_tup : IxR X (rIxT X.K) := by
  intro value slice pins s σ H x y v u Q I rx ry h hs
  obtain ⟨p, xs, i, z, rfl, rfl, hq, he, q⟩ := h
  cases rx
  obtain ⟨t, rfl⟩ := ry
  obtain ⟨its, r, pl, hz⟩ := I.tuple hq
  obtain ⟨j, h1, h2, h3, h4, h5⟩ := atI_get he
  obtain ⟨w, ew, rw'⟩ := r.get h2
  have hl := r.length
  have hn := line63
  have fin : EP X pins σ Q w s := ⟨z, H, I, rw', q⟩
  exact subscriptTail_builtinR (x := w) pl.typeIs slot_tuple_getitem.lookup
    (getItem_tuple (j := j) (Q := fun r s' => r = w ∧ EP X pins σ Q r s') pl (by omega) (by omega) (by rw [List.size_toArray, ← hl]; exact h1) (by simpa using ew) ⟨rfl, fin⟩) hs
theorem ix_str : IxR X rIxS := by
  intro value slice pins s σ H x y v u Q I rx ry h hs
  obtain ⟨z, i, c, rfl, rfl, hz, he, q⟩ := h
  obtain ⟨t, rfl⟩ := rx
  obtain ⟨t', rfl⟩ := ry
  obtain ⟨j, h1, h2, h3, h4, h5⟩ := atI_get he
  have hl : z.cps.toList.length = z.length := by simp [Str.length]
  rw [hl] at h1 h4 h5
  have hn := line63
  exact tail_any (typeIs_str s z t) slot_str_getitem.lookup (getItem_str (c := c) (by
    have e1 : decide (i < -(2 ^ 63 : Int)) = false := decide_eq_false (by omega)
    have e2 : decide (i ≥ 2 ^ 63) = false := decide_eq_false (by omega)
    rw [e1, e2, Bool.or_false]) (by rw [h1]; simpa using h2) ⟨.str ⟨#[c]⟩, H, I.tok _, ⟨_, rfl⟩, q⟩) hs
/-- list, tuple or str -/
def rIx (K : PySem.W.Frag) : R2 := fun x y H Q => rIxL K x y H Q ∨ rIxT K x y H Q ∨ rIxS x y H Q
theorem ix_seq : IxR X (rIx X.K) := ix_list.or (ix_tup.or ix_str)

/-! ### xs[i] = v, any sign -/
/-- the list's object behind a store -/
theorem mapSeq_set (its : List Value) (n j : Nat) (u : Value) : Obj.mapSeq (·.setIfInBounds j u) { cls := .type "list", data := .seq its.toArray n } = { cls := .type "list", data := .seq (its.set j u).toArray n } := by
  simp [Obj.mapSeq]
theorem Inv.lst {pins : List (Addr × Obj)} {σ : St} {H : Hp} {s : Shared} {p : Addr} {xs : List V} (I : Inv X pins σ H s) (h : H p = some (.lst xs)) :
    ∃ (its : List Value) (n : Nat), Vals xs its ∧ s.heap.get? p = some { cls := .type "list", data := .seq its.toArray n } ∧ xs.length ≤ sizeLine := by
  obtain ⟨z, its, n, r, e⟩ := I.hok p _ h
  exact ⟨its, n, r, e, z⟩
/-- the list at p is written by an update of its object -/
theorem Inv.lstUpd {pins : List (Addr × Obj)} {σ : St} {H : Hp} {s : Shared} {p : Addr} {xs ys : List V} {its its' : List Value} {n n' : Nat} {f : Obj → Obj} (I : Inv X pins σ H s) (h : H p = some (.lst xs))
    (ho : s.heap.get? p = some { cls := .type "list", data := .seq its.toArray n }) (hf : f { cls := .type "list", data := .seq its.toArray n } = { cls := .type "list", data := .seq its'.toArray n' }) (r : Vals ys its') (hz : ys.length ≤ sizeLine) (t : Nat) :
    Inv X pins σ (upd H p (.lst ys)) { s with heap := s.heap.update p f, toks := t } := by
  have e : (s.heap.update p f).get? p = some { cls := .type "list", data := .seq its'.toArray n' } := by
    rw [Heap.get?_update_self f ho (by rw [hf] <;> rfl), hf]
  refine I.write (x := p) (e := p) (by rw [h]; trivial) (.inl rfl) (fun b u hb q => (Heap.get?_update_other _ _ (Ne.symm hb)).trans q) ⟨_, e⟩ ?_
  exact ⟨hz, its', n', r, e⟩
def rSetL : V → V → V → Hp → (Hp → Prop) → Prop := fun o i v H Q => ∃ p xs k j, o = .ref p ∧ i = .int k ∧ H p = some (.lst xs) ∧ ixN xs.length k = some j ∧ Q (upd H p (.lst (xs.set j v)))
theorem set_list : PSet X rSetL := by
  intro pins s σ H o i v ov iv u Q I ro ri rv h
  obtain ⟨p, xs, k, j, rfl, rfl, hp, hj, q⟩ := h
  cases ro
  obtain ⟨t, rfl⟩ := ri
  obtain ⟨its, n, r, ho, hz⟩ := I.lst hp
  obtain ⟨h1, h2, h3, h4⟩ := ixN_seq hj
  have hl := r.length
  have hn := line63
  have I' : Inv X pins σ (upd H p (.lst (xs.set j v))) { s with heap := s.heap.update p (Obj.mapSeq (·.setIfInBounds j u)) } :=
    I.lstUpd hp ho (mapSeq_set its n j u) (r.set rv j) (by rw [List.length_set]; exact hz) s.toks
  by_cases h0 : 0 ≤ k
  · have hk : k.toNat = j := by
      rw [seqIndex_of h0 h4] at h1
      exact Option.some.inj h1
    exact PySem.W.ki_setAt ho h0 (by omega) (by rw [List.size_toArray, ← hl]; exact h4) (by rw [hk]; exact ⟨_, I', q⟩)
  · have hk : (k + (its.toArray.size : Int)).toNat = j := by
      rw [seqIndex_neg (by omega) h3] at h1
      rw [List.size_toArray, ← hl]
      exact Option.some.inj h1
    exact PySem.W.ki_setBack ho (by omega) (by rw [List.size_toArray, ← hl]; exact h3) (by omega) (by rw [hk]; exact ⟨_, I', q⟩)

/-! ### slices -/
theorem slice_bounds (lo hi : Option Int) (n : Nat) : (sliceBounds lo hi none n).1 = ((HT.sIx n 0 lo : Nat) : Int) ∧ (sliceBounds lo hi none n).2.1 = ((HT.sIx n n hi : Nat) : Int) ∧ (sliceBounds lo hi none n).2.2 = 1 := by
  refine ⟨?_, ?_, rfl⟩
  · cases lo with
    | none => simp [sliceBounds, HT.sIx]
    | some i =>
      simp only [sliceBounds, HT.sIx, Option.getD_none, show (1 : Int) > 0 by decide, if_true]
      by_cases h : i < 0
      · simp only [h, if_true] <;> omega
      · simp only [h, if_false] <;> omega
  · cases hi with
    | none => simp [sliceBounds, HT.sIx]
    | some i =>
      simp only [sliceBounds, HT.sIx, Option.getD_none, show (1 : Int) > 0 by decide, if_true]
      by_cases h : i < 0
      · simp only [h, if_true] <;> omega
      · simp only [h, if_false] <;> omega
theorem slicePick_cut (its : List Value) (lo hi : Option Int) : slicePick its.toArray lo hi none = ((its.drop (HT.sIx its.length 0 lo)).take (HT.sIx its.length its.length hi - HT.sIx its.length 0 lo)).toArray := by
  obtain ⟨h1, h2, h3⟩ := slice_bounds lo hi its.toArray.size
  unfold slicePick
  rw [h1, h2, h3]
  simp only [sliceRange_one, pick_run, List.size_toArray] <;> rfl
/-- xs[lo:hi] of a list: a new list -/
def rSlL (K : PySem.W.Frag) : V → Option Int → Option Int → Hp → VK → Prop := fun x lo hi H Q => ∃ a xs, x = .ref a ∧ SqL K H a xs ∧ ∀ p, H p = none → Q (.ref p) (upd H p (.lst (cutV xs lo hi)))
theorem sl_list : SlR X (rSlL X.K) := by
  intro pins s σ H x v vl vu lo hi sl Q I rx hs pl pu h
  obtain ⟨a, xs, rfl, hx, q⟩ := h
  cases rx
  obtain ⟨its, r, ht, hz⟩ := I.list hx
  have hlen := r.length
  refine ⟨"list", _, slot_list_getitem.lookup, ht.isList.typeIs, ?_⟩
  refine wpAny_getItem_list_slice ht.isList hs pl pu .none (by simp) ?_ (by rw [List.size_toArray] <;> omega)
  rw [slicePick_cut, ← hlen]
  refine ⟨.ref s.heap.objs.size, _, I.laid (t' := s.toks) (o := .lst (cutV xs lo hi)) (fun b ob q => Heap.get?_push_of_some _ q) (Nat.le_refl _) ?_, rfl, q _ (I.hok.fresh (Nat.le_refl _))⟩
  exact ⟨Nat.le_trans (cutV_length xs lo hi) hz, _, 0, (r.drop (HT.sIx xs.length 0 lo)).take (HT.sIx xs.length xs.length hi - HT.sIx xs.length 0 lo), Heap.get?_push_size _ rfl⟩

/-! ### in, not in: flat items -/
def flatV : V → Bool
  | .non => true
  | .bl _ => true
  | .int _ => true
  | .str _ => true
  | _ => false
/-- == of flat values -/
def eqV : V → V → Bool
  | .non, .non => true
  | .bl a, .bl b => a == b
  | .bl a, .int b => (if a then 1 else 0) == b
  | .int a, .bl b => a == (if b then 1 else 0)
  | .int a, .int b => a == b
  | .str a, .str b => a == b
  | _, _ => false
theorem eqAt_V {A : Around} {s : Shared} {y x : V} {u v : Value} (ry : RelV y u) (rx : RelV x v) (fy : flatV y = true) (fx : flatV x = true) : SeqAt.EqAt A s u v (eqV y x) := by
  cases y with
  | non =>
    cases ry
    cases x with
    | non => cases rx; exact SeqAt.EqAt.same _
    | bl b => cases rx; exact SeqAt.EqAt.none_bool b
    | int b => obtain ⟨t, rfl⟩ := rx; exact SeqAt.EqAt.none_int b t
    | str b => obtain ⟨t, rfl⟩ := rx; exact SeqAt.EqAt.none_str b t
    | _ => exact absurd (show false = true from fx) Bool.false_ne_true
  | bl a =>
    cases ry
    cases x with
    | non => cases rx; exact SeqAt.EqAt.bool_none a
    | bl b => cases rx; exact SeqAt.EqAt.bool_bool a b
    | int b => obtain ⟨t, rfl⟩ := rx; exact SeqAt.EqAt.bool_int a b t
    | str b => obtain ⟨t, rfl⟩ := rx; exact SeqAt.EqAt.bool_str a b t
    | _ => exact absurd (show false = true from fx) Bool.false_ne_true
  | int a =>
    obtain ⟨t', rfl⟩ := ry
    cases x with
    | non => cases rx; exact SeqAt.EqAt.int_none a t'
    | bl b => cases rx; exact SeqAt.EqAt.int_bool a t' b
    | int b => obtain ⟨t, rfl⟩ := rx; exact SeqAt.EqAt.int_int a t' b t
    | str b => obtain ⟨t, rfl⟩ := rx; exact SeqAt.EqAt.int_str a t' b t
    | _ => exact absurd (show false = true from fx) Bool.false_ne_true
  | str a =>
    obtain ⟨t', rfl⟩ := ry
    cases x with
    | non => cases rx; exact SeqAt.EqAt.str_none a t'
    | bl b => cases rx; exact SeqAt.EqAt.str_bool a t' b
    | int b => obtain ⟨t, rfl⟩ := rx; exact SeqAt.EqAt.str_int a t' b t
    | str b => obtain ⟨t, rfl⟩ := rx; exact SeqAt.EqAt.str_str a t' b t
    | _ => exact absurd (show false = true from fx) Bool.false_ne_true
  | _ => exact absurd (show false = true from fy) Bool.false_ne_true
/-- the items' answers, read off the values (a value's own answer does not lean on its token) -/
def eqU (x : V) (u : Value) : Bool := match u with
  | .none => eqV .non x
  | .bool b => eqV (.bl b) x
  | .int i _ => eqV (.int i) x
  | .str z _ => eqV (.str z) x
  | _ => false
theorem eqU_of {x y : V} {u : Value} (r : RelV y u) (f : flatV y = true) : eqU x u = eqV y x := by
  cases y with
  | non => cases r; rfl
  | bl b => cases r; rfl
  | int i => obtain ⟨t, rfl⟩ := r; rfl
  | str z => obtain ⟨t, rfl⟩ := r; rfl
  | _ => exact absurd (show false = true from f) Bool.false_ne_true
theorem any_eqU {x : V} : ∀ {xs : List V} {us : List Value}, Vals xs us → xs.all flatV = true → us.any (eqU x) = xs.any fun y => eqV y x
  | _, _, .nil, _ => rfl
  | y :: xs, u :: us, .cons r t, f => by
    rw [List.all_cons, Bool.and_eq_true] at f
    rw [List.any_cons, List.any_cons, eqU_of r f.1, any_eqU t f.2]
theorem mem_eqAt {A : Around} {s : Shared} {x : V} {v : Value} (rx : RelV x v) (fx : flatV x = true) : ∀ {xs : List V} {us : List Value}, Vals xs us → xs.all flatV = true → ∀ u ∈ us, SeqAt.EqAt A s u v (eqU x u)
  | _, _, .nil, _ => fun u hu => by cases hu
  | y :: xs, u :: us, .cons r t, f => fun u' hu => by
    rw [List.all_cons, Bool.and_eq_true] at f
    rcases List.mem_cons.mp hu with rfl | hu
    · rw [eqU_of r f.1]; exact eqAt_V r rx f.1 fx
    · exact mem_eqAt rx fx t f.2 u' hu
def inV (x : V) (xs : List V) : Bool := xs.any fun y => eqV y x
/-- x in a list or tuple of flat items -/
def rIn (K : PySem.W.Frag) (neg : Bool) : R2 := fun x y H Q => ∃ p xs, y = .ref p ∧ (SqL K H p xs ∨ SqT K H p xs) ∧ flatV x = true ∧ xs.all flatV = true ∧ Q (.bl (if neg then !inV x xs else inV x xs)) H
theorem op_in_seq : OpR X (compareOp .In) (rIn X.K false) := by
  intro pins s σ H x y v u Q I rx ry h
  obtain ⟨p, xs, rfl, hq, fx, fs, q⟩ := h
  cases ry
  rcases hq with hq | hq
  · obtain ⟨its, r, pl, hz⟩ := I.list hq
    refine SeqAt.in_listAt (eqU x) pl.isList (fun w hw => mem_eqAt rx fx r fs w (by simpa using hw)) ⟨.bl _, H, I, rfl, ?_⟩
    rw [show its.toArray.any (eqU x) = its.any (eqU x) by simp, any_eqU r fs]
    exact q
  · obtain ⟨its, r, pl, hz⟩ := I.tuple hq
    refine SeqAt.in_tupleAt (eqU x) pl (fun w hw => mem_eqAt rx fx r fs w (by simpa using hw)) ⟨.bl _, H, I, rfl, ?_⟩
    rw [show its.toArray.any (eqU x) = its.any (eqU x) by simp, any_eqU r fs]
    exact q
theorem op_notIn_seq : OpR X (compareOp .NotIn) (rIn X.K true) := by
  intro pins s σ H x y v u Q I rx ry h
  obtain ⟨p, xs, rfl, hq, fx, fs, q⟩ := h
  cases ry
  rcases hq with hq | hq
  · obtain ⟨its, r, pl, hz⟩ := I.list hq
    refine SeqAt.notIn_listAt (eqU x) pl.isList (fun w hw => mem_eqAt rx fx r fs w (by simpa using hw)) ⟨.bl _, H, I, rfl, ?_⟩
    rw [show its.toArray.any (eqU x) = its.any (eqU x) by simp, any_eqU r fs]
    exact q
  · obtain ⟨its, r, pl, hz⟩ := I.tuple hq
    refine SeqAt.notIn_tupleAt (eqU x) pl (fun w hw => mem_eqAt rx fx r fs w (by simpa using hw)) ⟨.bl _, H, I, rfl, ?_⟩
    rw [show its.toArray.any (eqU x) = its.any (eqU x) by simp, any_eqU r fs]
    exact q
theorem op_notIn_str : OpR X (compareOp .NotIn) (fun x y H Q => ∃ i j, x = .str i ∧ y = .str j ∧ Q (.bl (!(!(Builtin.Str.occurrences j i 0 j.length 1).isEmpty))) H) := by
  intro pins s σ H x y v u Q I rx ry h
  obtain ⟨i, j, rfl, rfl, q⟩ := h
  obtain ⟨t, rfl⟩ := rx
  obtain ⟨t', rfl⟩ := ry
  exact notIn_str ⟨.bl _, H, I, rfl, q⟩

/-! ### len, list(x), tuple(x) of any list or tuple that is read -/
theorem CallR.or {f : Value} {r r' : List V → Hp → VK → Prop} (h : CallR X f r) (h' : CallR X f r') : CallR X f (fun xs H Q => r xs H Q ∨ r' xs H Q) := by
  intro pins s σ H xs us Q I rs q
  rcases q with q | q
  · exact h pins s σ H xs us Q I rs q
  · exact h' pins s σ H xs us Q I rs q
theorem call_list_of : CallR X (.type "list") (fun xs H Q => ∃ p ys, xs = [.ref p] ∧ (SqL X.K H p ys ∨ SqT X.K H p ys) ∧ ∀ l, H l = none → Q (.ref l) (upd H l (.lst ys))) := by
  intro pins s σ H xs us Q I r h
  obtain ⟨p, ys, rfl, hq, q⟩ := h
  obtain ⟨u, rfl, rx⟩ := vals1 r
  cases rx
  have fin : ∀ (its : List Value), Vals ys its → ys.length ≤ sizeLine → ∀ (h' : Heap) (c' : Nat), (∀ b o', s.heap.get? b = some o' → h'.get? b = some o') →
      h'.get? s.heap.objs.size = some { cls := .type "list", dict := none, data := .seq its.toArray c', slots := #[] } → EP X pins σ Q (.ref s.heap.objs.size) { s with heap := h' } := fun its r' hz h' c' kp e =>
    ⟨.ref s.heap.objs.size, _, I.laid (t' := s.toks) kp (Nat.le_refl _) (show ObjOk X.prog X.w _ h' _ (.lst ys) from ⟨hz, its, c', r', e⟩), rfl, q _ (I.hok.fresh (Nat.le_refl _))⟩
  rcases hq with hq | hq
  · obtain ⟨its, r', pl, hz⟩ := I.list hq
    have hlen := r'.length
    obtain ⟨o, ho, hc, n, hd⟩ := pl.isList
    exact call_list_seq p (.inl rfl) ho hc hd (fun h' c' kp e => fin its r' hz h' c' kp e) (by simp only [List.size_toArray] <;> omega)
  · obtain ⟨its, r', pl, hz⟩ := I.tuple hq
    have hlen := r'.length
    obtain ⟨o, ho, hc, n, hd⟩ := pl
    exact call_list_seq p (.inr rfl) ho hc hd (fun h' c' kp e => fin its r' hz h' c' kp e) (by simp only [List.size_toArray] <;> omega)
theorem call_tuple_of : CallR X (.type "tuple") (fun xs H Q => ∃ p ys, xs = [.ref p] ∧ ((SqL X.K H p ys ∧ ∀ l, H l = none → Q (.ref l) (upd H l (.tup ys))) ∨ (SqT X.K H p ys ∧ Q (.ref p) H))) := by
  intro pins s σ H xs us Q I r h
  obtain ⟨p, ys, rfl, h⟩ := h
  obtain ⟨u, rfl, rx⟩ := vals1 r
  cases rx
  rcases h with ⟨hq, q⟩ | ⟨hq, q⟩
  · obtain ⟨its, r', pl, hz⟩ := I.list hq
    have hlen := r'.length
    refine call_tuple_list pl.isList (fun h' kp => ?_) (by simp only [List.size_toArray] <;> omega)
    have I1 : Inv X pins σ H { s with heap := h' } := I.kept (t' := s.toks) kp
    have I2 : Inv X pins σ (upd H h'.objs.size (.tup ys)) { s with heap := h'.push { cls := .type "tuple", data := .seq its.toArray } } :=
      I1.laid (t' := s.toks) (fun b o e => Heap.get?_push_of_some _ e) (Nat.le_refl _) (show ObjOk X.prog X.w _ _ _ (.tup ys) from ⟨hz, its, r', IsTup.new _ _⟩)
    exact ⟨.ref h'.objs.size, _, I2, rfl, q _ (I1.hok.fresh (Nat.le_refl _))⟩
  · obtain ⟨its, r', pl, hz⟩ := I.tuple hq
    exact call_tuple_same pl ⟨.ref p, H, I, rfl, q⟩

/-! ### the call of a builtin's method: o.m(..) -/
/-- the value is of that builtin type -/
def tyV (K : PySem.W.Frag) (T : String) (x : V) (H : Hp) : Prop := match x with
  | .str _ => T = "str"
  | .int _ => T = "int"
  | .ref p => (T = "list" ∧ ∃ xs, SqL K H p xs) ∨ (T = "tuple" ∧ ∃ o, K.lookup p = some o ∧ o.cls = .type "tuple" ∧ o.dict = none) ∨
      (T = "dict" ∧ ((∃ kvs, H p = some (.dK kvs)) ∨ ∃ kvs, H p = some (.dT kvs))) ∨ (T = "set" ∧ ∃ S n, H p = some (.set S n))
  | _ => False
theorem tyV_is {pins : List (Addr × Obj)} {σ : St} {H : Hp} {s : Shared} {T : String} {x : V} {v : Value} (I : Inv X pins σ H s) (r : RelV x v) (ty : tyV X.K T x H) :
    s.TypeIs v T ∧ ∀ a, v = .ref a → ∃ ob, s.heap.get? a = some ob ∧ ob.dict = none := by
  cases x with
  | str z =>
    obtain ⟨t, rfl⟩ := r
    cases (show T = "str" from ty)
    exact ⟨typeIs_str s z t, fun _ e => nomatch e⟩
  | int i =>
    obtain ⟨t, rfl⟩ := r
    cases (show T = "int" from ty)
    exact ⟨typeIs_int s i t, fun _ e => nomatch e⟩
  | ref p =>
    cases r
    rcases ty with ⟨rfl, xs, hq⟩ | ⟨rfl, o, hk, hc, hd⟩ | ⟨rfl, hk⟩ | ⟨rfl, S, n, hk⟩
    · obtain ⟨its, _, pl, _⟩ := I.list hq
      refine ⟨pl.isList.typeIs, fun a e => ?_⟩
      cases e
      obtain ⟨o, n, e, c, hd, _⟩ := pl
      exact ⟨o, e, hd⟩
    · refine ⟨⟨o, I.kIn p o hk, hc⟩, fun a e => ?_⟩
      cases e
      exact ⟨o, I.kIn _ o hk, hd⟩
    · have z : ∃ o, s.heap.get? p = some o ∧ o.ExactDict := by
        rcases hk with ⟨kvs, hk⟩ | ⟨kvs, hk⟩
        · obtain ⟨_, _, _, _, o, _, _, e, ex, _⟩ := I.hok p _ hk
          exact ⟨o, e, ex⟩
        · obtain ⟨_, _, _, _, o, _, _, e, ex, _⟩ := I.hok p _ hk
          exact ⟨o, e, ex⟩
      obtain ⟨o, e, ex⟩ := z
      refine ⟨⟨o, e, ex.1⟩, fun a e2 => ?_⟩
      cases e2
      exact ⟨o, e, ex.2.1⟩
    · obtain ⟨o, _, _, _, e, ex, _⟩ := I.hok p _ hk
      refine ⟨⟨o, e, ex.1⟩, fun a e2 => ?_⟩
      cases e2
      exact ⟨o, e, ex.2.1⟩
  | _ => exact False.elim ty
def tBM0 (K : PySem.W.Frag) (T : String) (r : V → List V → Hp → VK → Prop) (to : TE) : TE := fun σ H Q => to σ H fun x H1 => tyV K T x H1 ∧ r x [] H1 Q
def tBM (K : PySem.W.Frag) (T : String) (r : V → List V → Hp → VK → Prop) (to : TE) (t : TA) : TE := fun σ H Q => to σ H fun x H1 => tyV K T x H1 ∧ t σ H1 fun xs H2 => r x xs H2 Q
variable {o e : Expr} {es : List Expr} {to : TE} {t : TA} {name : Str} {apos cpos : Pos} {T id : String} {r : V → List V → Hp → VK → Prop}
theorem pe_bm0 (pa : PlainAttrs T) (slot : Slot T name id) (hty : typeOf (.builtin id) = pure (.type "method_descriptor")) (hm : MtR X id r) (ho : PE X o to)
    (hbase : attributeBase o name X.env (eval o X.env) = eval o X.env := by rfl) (hline : (apos.endLine == cpos.line) = true := by rfl) : PE X (.Call (.Attribute o name apos) [] [] cpos) (tBM0 X.K T r to) := by
  intro pins s σ H Q I h
  refine wpAny_Call_method0_late hbase hline (thn (ho pins s σ H _ I h) fun v s1 ⟨x, H1, I1, r1, ty, q1⟩ => ?_)
  obtain ⟨h1, h2⟩ := tyV_is I1 r1 ty
  exact ⟨T, id, pa, slot, hty, h1, h2, Calls.callWith_builtin rfl (PySem.evalArgs_none (hm pins s1 σ H1 x [] v [] Q I1 r1 .nil q1))⟩
theorem pe_bm (pa : PlainAttrs T) (slot : Slot T name id) (hty : typeOf (.builtin id) = pure (.type "method_descriptor")) (hm : MtR X id r) (ho : PE X o to) (ha : PA X (e :: es) t)
    (hbase : attributeBase o name X.env (eval o X.env) = eval o X.env := by rfl)
    (hfew : ((backTo cpos (starEach (e :: es) X.env)).all (fun x => !x.1) && (backToKw cpos (keywordEach [] X.env)).all (fun x => x.1.isSome)
      && decide ((e :: es).length + ([] : List Keyword).length + (if ([] : List Keyword).isEmpty then 0 else 1) < 30)) = true := by rfl)
    (hline : (apos.endLine == cpos.line) = true := by rfl) (hs : starEach (e :: es) X.env = (false, eval e X.env) :: starEach es X.env := by rfl) (hplain : (backTo cpos (starEach es X.env)).any (·.1) = false := by rfl) :
    PE X (.Call (.Attribute o name apos) (e :: es) [] cpos) (tBM X.K T r to t) := by
  intro pins s σ H Q I h
  refine wpAny_Call_method_late hbase hfew hline rfl (thn (ho pins s σ H _ I h) fun v s1 ⟨x, H1, I1, r1, ty, q1⟩ => ?_)
  obtain ⟨h1, h2⟩ := tyV_is I1 r1 ty
  refine ⟨T, id, pa, slot, hty, h1, h2, ?_⟩
  have hA := ha cpos pins s1 σ H1 _ I1 q1
  rw [hs] at hA ⊢
  refine Calls.callWith_builtin (by show (false || (backTo cpos (starEach es X.env)).any (·.1)) = false; rw [hplain] <;> rfl) (Calls.evalArgs_plain ?_)
  exact thn hA fun us s2 ⟨vs, H2, I2, r2, q2⟩ => hm pins s2 σ H2 x vs v us Q I2 r1 r2 q2
/- xs.append(e), list.index on a module's tuple .. are MtR facts of 06m -/
end
end L2

namespace L2
open PySem PySem.Spec PyProof.Rows

def MtM (X : Cx) (id : String) (r : V → List V → Hp → VK → Prop) : Prop :=
  ∀ (pins : List (Addr × Obj)) (s : Shared) (σ : St) (H : Hp) (x : V) (xs : List V) (v : Value) (us : List Value) (Q : VK), Inv X pins σ H s → RelV x v → Vals xs us → r x xs H Q →
    wpAny (model X.prog X.w) X.A (call (.builtin id) (v :: us)) (EP X pins σ Q) X.xe s

/-! ### lists of values -/
theorem Vals.one : ∀ {x : V} {us : List Value}, Vals [x] us → ∃ u, us = [u] ∧ RelV x u
  | _, _, .cons r .nil => ⟨_, rfl, r⟩
theorem Vals.two : ∀ {x y : V} {us : List Value}, Vals [x, y] us → ∃ u v, us = [u, v] ∧ RelV x u ∧ RelV y v
  | _, _, _, .cons r (.cons q .nil) => ⟨_, _, rfl, r, q⟩
theorem Vals.zero : ∀ {us : List Value}, Vals [] us → us = []
  | _, .nil => rfl
theorem Vals.dropLast {xs : List V} {us : List Value} (h : Vals xs us) : Vals xs.dropLast us.dropLast := by
  induction h with
  | nil => exact .nil
  | cons r t ih =>
    cases t with
    | nil => exact .nil
    | cons q t' => exact .cons r ih
theorem Vals.eraseIdx : ∀ {xs : List V} {us : List Value} (i : Nat), Vals xs us → Vals (xs.eraseIdx i) (us.eraseIdx i)
  | _, _, _, .nil => .nil
  | _, _, 0, .cons _ t => t
  | _, _, i + 1, .cons r t => .cons r (Vals.eraseIdx i t)
theorem Vals.reverse {xs : List V} {us : List Value} (h : Vals xs us) : Vals xs.reverse us.reverse := by
  induction h with
  | nil => exact .nil
  | cons r t ih => rw [List.reverse_cons, List.reverse_cons]; exact Vals.append ih (.cons r .nil)
theorem Vals.rep {xs : List V} {us : List Value} (h : Vals xs us) : ∀ k : Nat, Vals (List.replicate k xs).flatten (List.replicate k us).flatten
  | 0 => .nil
  | k + 1 => by
    rw [List.replicate_succ, List.replicate_succ, List.flatten_cons, List.flatten_cons]
    exact Vals.append h (Vals.rep h k)
theorem erase_last {α : Type} (l : List α) : l.eraseIdx (l.length - 1) = l.dropLast := by
  induction l with
  | nil => rfl
  | cons a r ih =>
    cases r with
    | nil => rfl
    | cons b r =>
      have e : (a :: b :: r).length - 1 = ((b :: r).length - 1) + 1 := by
        have h1 : (a :: b :: r).length = r.length + 2 := rfl
        have h2 : (b :: r).length = r.length + 1 := rfl
        omega
      rw [e, List.eraseIdx_cons_succ, ih]
      all_goals rfl
theorem foldl_rep (its : List Value) : ∀ (k : Nat) (acc : List Value),
    List.foldl (fun x1 x2 => x1 ++ x2) acc.toArray (List.replicate k its.toArray) = (acc ++ (List.replicate k its).flatten).toArray
  | 0, acc => by simp
  | k + 1, acc => by
    have e : acc.toArray ++ its.toArray = (acc ++ its).toArray := by simp
    have e2 : (acc ++ its) ++ (List.replicate k its).flatten = acc ++ (List.replicate (k + 1) its).flatten := by
      rw [List.replicate_succ, List.flatten_cons, List.append_assoc]
    rw [← e2, ← foldl_rep its k (acc ++ its), ← e, List.replicate_succ, List.foldl_cons]

section
variable {X : Cx} {pins : List (Addr × Obj)} {σ : St} {H : Hp} {s : Shared} {l b : Addr} {xs ys zs : List V}

/-! ### the two steps: a tracked list is rewritten, a new list is laid -/
theorem Inv.lset {its its' : List Value} {n : Nat} {f : Array Value → Array Value} {t' : Nat} (I : Inv X pins σ H s) (hH : H l = some (.lst xs))
    (e : s.heap.get? l = some { cls := .type "list", data := .seq its.toArray n }) (hf : f its.toArray = its'.toArray) (hv : Vals ys its') (hz : ys.length ≤ sizeLine) :
    Inv X pins σ (upd H l (.lst ys)) { s with heap := s.heap.update l (Obj.mapSeq f), toks := t' } := by
  have q := PySem.IsL.update e f
  rw [hf] at q
  refine I.write (x := l) (e := l) (by rw [hH]; exact trivial) (.inl rfl) (fun b' u hb hu => (Heap.get?_update_other s.heap (Obj.mapSeq f) (Ne.symm hb)).trans hu) ⟨_, q⟩ ?_
  exact ⟨hz, its', _, hv, q⟩
theorem Inv.lnew {its : List Value} {t' : Nat} (I : Inv X pins σ H s) (hv : Vals ys its) (hz : ys.length ≤ sizeLine) :
    Inv X pins σ (upd H s.heap.objs.size (.lst ys)) { s with heap := s.heap.push { cls := .type "list", data := .seq its.toArray }, toks := t' } :=
  I.laid (fun _ _ q => Heap.get?_push_of_some _ q) (Nat.le_refl _) ⟨hz, its, 0, hv, Heap.get?_push_size _ rfl⟩
theorem Inv.fresh (I : Inv X pins σ H s) : H s.heap.objs.size = none := I.hok.fresh (Nat.le_refl _)
theorem Inv.lstM (I : Inv X pins σ H s) (hH : H l = some (.lst xs)) : xs.length ≤ sizeLine ∧ ∃ (its : List Value) (n : Nat), Vals xs its ∧ xs.length = its.length ∧ s.heap.get? l = some { cls := .type "list", data := .seq its.toArray n } := by
  obtain ⟨z, its, n, r, e⟩ := I.hok l _ hH
  exact ⟨z, its, n, r, r.length, e⟩

theorem notLongL {n : Nat} (h : n ≤ sizeLine) : Builtin.List.listTooLong n = false := by
  unfold Builtin.List.listTooLong
  exact decide_eq_false (by omega)
end

section
variable {X : Cx}

/-! ### methods -/
def rAppend : V → List V → Hp → VK → Prop := fun x vs H Q => ∃ l xs y, x = .ref l ∧ vs = [y] ∧ H l = some (.lst xs) ∧ xs.length < sizeLine ∧ Q .non (upd H l (.lst (xs ++ [y])))
theorem mt_append : MtM X "list.append" rAppend := by
  intro pins s σ H x vs v us Q I rx rv h
  obtain ⟨l, xs, y, rfl, rfl, hH, hz, q⟩ := h
  cases rx
  obtain ⟨u, rfl, ru⟩ := rv.one
  obtain ⟨z, its, n, r, hl, e⟩ := I.lstM hH
  refine call_meets F.slot_list_append ⟨_, e, rfl⟩ F.entry_list_append (F.args_list_append_2 _ _) (PySem.list_append l its.toArray n u (by rw [List.size_toArray]; omega)) ⟨e, ?_⟩
  refine ⟨.non, _, I.lset (its' := its ++ [u]) hH e (by simp) (r.append (.cons ru .nil)) ?_, rfl, q⟩
  rw [List.length_append, List.length_singleton]
  omega

def rExtend : V → List V → Hp → VK → Prop := fun x vs H Q => ∃ l b xs zs, x = .ref l ∧ vs = [.ref b] ∧ H l = some (.lst xs) ∧ H b = some (.lst zs) ∧ xs.length + zs.length ≤ sizeLine ∧ Q .non (upd H l (.lst (xs ++ zs)))
theorem mt_extend : MtM X "list.extend" rExtend := by
  intro pins s σ H x vs v us Q I rx rv h
  obtain ⟨l, b, xs, zs, rfl, rfl, hH, hB, hz, q⟩ := h
  cases rx
  obtain ⟨u, rfl, ru⟩ := rv.one
  cases ru
  obtain ⟨z, its, n, r, hl, e⟩ := I.lstM hH
  obtain ⟨z2, its2, n2, r2, hl2, e2⟩ := I.lstM hB
  have hsz : its.toArray.size + its2.toArray.size ≤ sizeLine := by rw [List.size_toArray, List.size_toArray]; omega
  have hlong : ¬ (!its.toArray.isEmpty && Builtin.List.listTooLong (its.toArray.size + its2.toArray.size)) = true := by
    rw [notLongL hsz, Bool.and_false]
    exact Bool.false_ne_true
  refine call_meets F.slot_list_extend ⟨_, e, rfl⟩ F.entry_list_extend (F.args_list_extend_2 _ _)
    (AutoSeq1.list_extend_list_list_0 l its.toArray n b its2.toArray n2 hlong (by rw [List.size_toArray]; omega) (by omega)) ⟨e, e2, ?_⟩
  refine ⟨.non, _, I.lset (its' := its ++ its2) hH e (by simp) (r.append r2) ?_, rfl, q⟩
  rw [List.length_append]
  omega

def rPop : V → List V → Hp → VK → Prop := fun x vs H Q => ∃ l xs y, x = .ref l ∧ vs = [] ∧ H l = some (.lst xs) ∧ xs[xs.length - 1]? = some y ∧ Q y (upd H l (.lst xs.dropLast))
theorem mt_pop : MtM X "list.pop" rPop := by
  intro pins s σ H x vs v us Q I rx rv h
  obtain ⟨l, xs, y, rfl, rfl, hH, hy, q⟩ := h
  cases rx
  have hus := rv.zero
  subst hus
  obtain ⟨z, its, n, r, hl, e⟩ := I.lstM hH
  obtain ⟨u, hu, ru⟩ := r.get hy
  have hy' : its.toArray[its.toArray.size - 1]? = some u := by
    show its.toArray[its.length - 1]? = some u
    rw [← Array.getElem?_toList, ← hl]
    exact hu
  refine call_meets F.slot_list_pop ⟨_, e, rfl⟩ F.entry_list_pop (F.args_list_pop_1 _) (MeetsSeq.list_pop_last l its.toArray n u hy' (by rw [List.size_toArray]; omega)) ⟨e, ?_⟩
  refine ⟨y, _, I.lset (its' := its.dropLast) hH e ?_ r.dropLast ?_, ru, q⟩
  · show its.toArray.eraseIdxIfInBounds (its.toArray.size - 1) = its.dropLast.toArray
    rw [List.size_toArray, List.eraseIdxIfInBounds_toArray, erase_last]
  · rw [List.length_dropLast]
    omega




/-! ### list + list, list += list, list * int -/
def rCat : R2 := fun x y H Q => ∃ l b xs zs, x = .ref l ∧ y = .ref b ∧ H l = some (.lst xs) ∧ H b = some (.lst zs) ∧ xs.length + zs.length ≤ sizeLine ∧ ∀ p, H p = none → Q (.ref p) (upd H p (.lst (xs ++ zs)))
theorem op_cat : OpR X (binaryOp .Add) rCat := by
  intro pins s σ H x y v u Q I rx ry h
  obtain ⟨l, b, xs, zs, rfl, rfl, hH, hB, hz, q⟩ := h
  cases rx
  cases ry
  obtain ⟨z, its, n, r, hl, e⟩ := I.lstM hH
  obtain ⟨z2, its2, n2, r2, hl2, e2⟩ := I.lstM hB
  refine PySem.P.add_list e e2 ?_ (by rw [List.size_toArray, List.size_toArray]; omega)
  have ea : its.toArray ++ its2.toArray = (its ++ its2).toArray := by simp
  rw [ea]
  exact ⟨.ref _, _, I.lnew (t' := s.toks) (r.append r2) (by rw [List.length_append]; omega), rfl, q _ I.fresh⟩
/-- a list times an int (a negative one is nothing) -/
def rRep : R2 := fun x y H Q => ∃ l k xs, x = .ref l ∧ y = .int k ∧ H l = some (.lst xs) ∧ -(2 ^ 63) ≤ k ∧ k < 2 ^ 63 ∧ xs.length * k.toNat ≤ sizeLine ∧
  ∀ p, H p = none → Q (.ref p) (upd H p (.lst (List.replicate k.toNat xs).flatten))
theorem len_rep {α : Type} (xs : List α) (k : Nat) : (List.replicate k xs).flatten.length = k * xs.length := by
  induction k with
  | zero => simp
  | succ k ih => rw [List.replicate_succ, List.flatten_cons, List.length_append, ih, Nat.succ_mul, Nat.add_comm]
theorem op_rep : OpR X (binaryOp .Mult) rRep := by
  intro pins s σ H x y v u Q I rx ry h
  obtain ⟨l, k, xs, rfl, rfl, hH, h1, h2, hz, q⟩ := h
  cases rx
  obtain ⟨t, rfl⟩ := ry
  obtain ⟨z, its, n, r, hl, e⟩ := I.lstM hH
  have hlen : its.toArray.size * k.toNat ≤ sizeLine := by rw [List.size_toArray, ← hl]; exact hz
  have hcap : ¬ its.toArray.size * k.toNat > (2 ^ 63 - 1) / 8 := by
    have : (sizeLine : Nat) ≤ (2 ^ 63 - 1) / 8 := by decide
    omega
  have hfit : ¬ (!Builtin.List.listFitsIndex k) = true := by
    rw [fitsIndex_both h1 h2]
    exact Bool.false_ne_true
  have hlong : ¬ Builtin.List.listTooLong (its.toArray.size * k.toNat) = true := by
    rw [notLongL hlen]
    exact Bool.false_ne_true
  have hnew : List.foldl (fun x1 x2 => x1 ++ x2) #[] (List.replicate (if its.toArray.isEmpty = true then 0 else k.toNat) its.toArray) = (List.replicate k.toNat its).flatten.toArray := by
    have f0 : ∀ m : Nat, List.foldl (fun x1 x2 => x1 ++ x2) #[] (List.replicate m its.toArray) = (List.replicate m its).flatten.toArray := fun m => by
      have := foldl_rep its m []
      rw [List.nil_append] at this
      exact this
    rw [f0]
    cases its with
    | nil => simp
    | cons a r' => rw [if_neg (by simp)]
  refine wpAny_binaryOp_repeat_ref (T := "list") (U := "int") (by decide) ⟨_, e, rfl⟩ (fun s' => typeIs_int s' k t) noFill_list_mul F.fills_int_mul F.slot_int_rmul repeat_list F.slot_int_index.lookup
    (call_meets F.slot_int_rmul (typeIs_int s k t) F.entry_int_rmul (F.args_int_rmul_2 _ _) (int___rmul___int_list k t l its.toArray n)
      ⟨e, rfl, ⟨_, e, rfl⟩, call_meets F.slot_list_mul ⟨_, e, rfl⟩ F.entry_list_mul (F.args_list_mul_2 _ _) (AutoListH.list___mul___list_int_3 l its.toArray n k t hfit hcap hlong) ⟨e, ?_⟩⟩)
  rw [hnew]
  exact ⟨.ref _, _, I.lnew (t' := s.toks) (r.rep k.toNat) (by rw [len_rep, Nat.mul_comm]; exact hz), rfl, q _ I.fresh⟩

/-! ### del xs[i] -/
end

/-! ### xs[a:b] = ys -/
section
variable {prog : Program} {w : World} {A : Around} {E : Value → Shared → Prop} {s : Shared}
end

section
variable {X : Cx}
end
end L2

namespace Att
open PySem PySem.W PySem.Calls PyProof.Rows

/-! ### the script -/
theorem ints_of_wellAll {P : Params} {h : Heap} : ∀ (ns : List Int) (vs : List Value), WellAll P h vs (ns.map WData.int) → IntsAre vs ns := by
  intro ns
  induction ns with
  | nil =>
    intro vs w
    rw [List.map_nil] at w
    cases w
    exact .nil
  | cons n ns ih =>
    intro vs w
    rw [List.map_cons] at w
    cases w with
    | cons a b =>
      cases a
      exact .cons _ _ (ih _ b)

theorem script_of {l : OpenLaw} {n : Nat} (hn : l.most = some n) {P : Params} {h : Heap} {args : List WData} {vals : List Value}
    (hpre : l.row.toRowW.claim.pre args = true) (hwl : WellAll P h vals args) :
    ∃ a vs ns, vals = [Value.ref a] ∧ args = [WData.list (ns.map WData.int)] ∧ h.get? a = some { cls := .type "list", data := .seq vs.toArray } ∧ IntsAre vs ns ∧ ns.length ≤ n := by
  have hsh : WShape.hasAll [] args [.list .int] = true := (pre_splitW hpre).1
  have hc : l.pre.holds [] { args := args } = true := (pre_splitW hpre).2
  obtain ⟨d, r, rfl, h1, h2⟩ := hasAllW_cons hsh
  obtain rfl := hasAllW_nil h2
  obtain ⟨xs, rfl, h3⟩ := hasW_list h1
  obtain ⟨ns, rfl⟩ := items_int h3
  have hlen : ns.length ≤ n := by
    unfold OpenLaw.pre at hc
    have h4 : (WTm.not (.lt (.lit (.int (n : Int))) (.len (.arg 0)))).holds [] { args := [.list (ns.map .int)] } = true := by
      have h4 := (holds_andW hc).1
      rw [hn] at h4
      exact h4
    have h5 := condW_of h4 (w_not (w_lt w_lit (w_len_list (w_arg rfl))))
    rw [List.length_map] at h5
    refine Nat.le_of_not_lt fun q => ?_
    have q' : (n : Int) < ((ns.length : Nat) : Int) := by omega
    first
      | (rw [decide_eq_true q'] at h5; exact absurd h5 (by decide))
      | (simp at h5; omega)
  cases hwl with
  | cons w1 w2 =>
    cases w2
    cases w1 with
    | list ho hall => exact ⟨_, _, ns, rfl, rfl, ho, ints_of_wellAll ns _ hall, hlen⟩

theorem post_true (l : OpenLaw) (args : List WData) : l.row.toRowW.claim.post args (.bool true) args = true :=
  postW_of (r := l.row.toRowW) (X := (true == true))
    (show WShape.has [] (.bool true) .bool = true by first | rfl | decide | simp [WShape.has, WShape.arms, WShape.armsAll])
    (show (WTm.eq .res (.lit (.bool true))).value [] { args := args, res := some (.bool true), after := args } = some (.bool (true == true)) from w_eq_bool (w_res rfl) w_lit) rfl

/-! ### the attachment: holds_open's last premise (the goal 'hc' behind k_head) from a wpAny of the law's body -/

/-- the same from a codeAny of the CALL (for a layer whose function contracts speak of calls) -/
theorem attach_call {l : OpenLaw} {n : Nat} {q : Program} {loose : List Str} {XP : (Str → Option Value) → Heap → Prop} {YP : World → Heap → Prop} {d : DefRec}
    (hn : l.most = some n) (hdf : d.params.defaults = [])
    (call : ∀ (w : World) (s₀ s₁ : Shared) (mg mb : Str → Option Value) (fa : Addr) (o : Obj) (pm cd doc : Value) (a : Addr) (vs : List Value) (ns : List Int),
      Ground q loose [] XP w s₀ mg mb s₁.heap → YP w s₁.heap →
      s₁.heap.get? fa = some o → o.data = .func (docDef d.name d.params d.body d.scope pm cd doc) → s₁.heap.CodeRec cd d.name → mg d.name = some (.ref fa) →
      s₁.heap.get? a = some { cls := .type "list", data := .seq vs.toArray } → IntsAre vs ns → ns.length ≤ n → s₁.gens = #[] →
      codeAny (model l.prog w) callerA (.call (.ref fa) ⟨[.ref a], []⟩) (fun r s' => r = .ok (.ret (.bool true)) ∧ OldK s₁.heap s'.heap ∧ s'.os = s₁.os ∧ AllBare s'.gens) s₁) :
    WalkO q loose XP YP l.row.toRowW d [] (fun f vs => PySem.call f vs) := by
  intro w s₀ s₁ mg mb G Y fa o pm cd doc dV kV ho hd hcd hD hmg hg args vals as hpre hlay hrd hwl hlo
  obtain rfl : dV = .none := Dflts.none hD hdf
  obtain rfl : kV = .none := Dflts.noKw hD
  obtain ⟨a, vs, ns, rfl, rfl, hobj, hints, hlen⟩ := script_of hn hpre hwl
  refine enter_call (codeAny_mono (call w s₀ s₁ mg mb fa o pm cd doc a vs ns G Y ho (fd_plain hd) hcd hmg hobj hints hlen hg) fun r s' hq => ?_)
  obtain ⟨rfl, h2, h3, h4⟩ := hq
  exact ⟨.inl ⟨.bool true, .bool true, [], rfl, fun _ => rfl, .bool true, post_true l _, fun _ => ⟨List.Pairwise.nil, fun _ hm => (nomatch hm)⟩⟩, h2, h3, h4⟩


/-! ### rules over ANY heap (no ledger) from facts about the written part K: the library's own take a ledger (News) for what they write -/
section
variable {prog : Program} {w : World} {A : Around} {E : Value → Shared → Prop} {s : Shared} {K : Frag}





/-! the whole heap as the ledger: makes every rule that writes through a ledger a rule over any heap -/
def ledger (h : Heap) (L d : Addr) : List (Addr × Obj) := (List.range h.objs.size).filterMap fun a => if a = L ∨ a = d then none else (h.get? a).map fun o => (a, o)

end
end Att

namespace L2
open PySem PySem.Spec PyProof.Rows

theorem vals_ints : ∀ {vs : List Value} {ns : List Int}, IntsAre vs ns → Vals (ns.map V.int) vs
  | _, _, .nil => .nil
  | _, _, .cons n t h => .cons ⟨t, rfl⟩ (vals_ints h)

/-- nothing is tracked but the script, known to the object (or it is an object of the module) -/
def Only (H : Hp) : Prop := ∀ b, H b = none ∨ ∃ o xs, H b = some (.frz o (.lst xs))

/-- THE HEAD: the law's promise, at the heap behind the top. F, the promise of the law's def, may use that base is part of the heap (so K.In base, base.Ns mainGlobals mg stand in Mod) -/
theorem law_call {P : Program} {w : World} {K : PySem.W.Frag} {mg mb : Str → Option Value} {CX : CXT} {k : Nat} {fa a : Addr} {fd : FuncData} {x : Str} {sp : Sp} {s₁ : Shared} {vs : List Value} {ns : List Int}
    (KX : K.In s₁.heap) (hns : s₁.heap.Ns mainGlobals mg) (hb : s₁.heap.Ns builtinsNs mb) (hbb : ∀ x : Str, x ≠ "__name__" → mb x = bootBuiltins x) (hlim : s₁.heap.NoLimit) (hg : s₁.gens = #[])
    (ha : s₁.heap.get? a = some { cls := .type "list", data := .seq vs.toArray }) (hi : IntsAre vs ns) (hl : ns.length ≤ sizeLine) (hr : Room k callerA)
    (F : ∀ base : Heap, K.In base → base.Ns mainGlobals mg → FnOk P w K mg base CX k fa fd [x] sp) (hbind : ∀ (s : Shared) (u : Value), BindsTo s fd ⟨[u], []⟩ [(x, u)])
    (hsp : ∀ H : Hp, Only H → SqL K H a (ns.map V.int) → sp [.ref a] H (fun v _ => v = .bl true) fun _ _ _ => False)
    (hCX : ∀ H e s', CX [] H s₁ (fun _ _ _ => False) e s' → False) :
    codeAny (model P w) callerA (.call (.ref fa) ⟨[.ref a], []⟩) (fun r s' => r = .ok (.ret (.bool true)) ∧ OldK s₁.heap s'.heap ∧ s'.os = s₁.os ∧ AllBare s'.gens) s₁ := by
  have rv := vals_ints hi
  have lenV := hi.length
  -- from an abstract heap in which nothing but the script may be tracked
  have core : ∀ H : Hp, Only H → SqL K H a (ns.map V.int) → HOk P w H s₁.heap → (∀ b, H b ≠ none → b = a) → (H a ≠ none → K.lookup a = none) →
      codeAny (model P w) callerA (.call (.ref fa) ⟨[.ref a], []⟩) (fun r s' => r = .ok (.ret (.bool true)) ∧ OldK s₁.heap s'.heap ∧ s'.os = s₁.os ∧ AllBare s'.gens) s₁ := by
    intro H hO hS hok hA hK
    have base_of : ∀ {b : Addr} {o : Obj}, s₁.heap.get? b = some o → H b = none → (hidT s₁.heap H).get? b = some o := fun e n => hidT_get e n
    have noA : ∀ {b : Addr} {o : Obj} {es : Array DictEntry} {ep : Nat}, s₁.heap.get? b = some o → o.data = .dict es ep → H b = none := fun {b o es ep} e d => by
      cases q : H b with
      | none => rfl
      | some u =>
        have e' : b = a := hA b (by rw [q]; simp)
        subst e'
        rw [ha] at e; cases e
        have d' : Data.seq vs.toArray _ = Data.dict es ep := d
        cases d'
    have nsK : ∀ {b : Addr} {m : Str → Option Value}, s₁.heap.Ns b m → (hidT s₁.heap H).Ns b m := fun {b m} ⟨o, es, ep, e, d, r⟩ => ⟨o, es, ep, base_of e (noA e d), d, r⟩
    have hKb : K.In (hidT s₁.heap H) := fun b o e => base_of (KX b o e) (by
      cases q : H b with
      | none => rfl
      | some u =>
        have e' : b = a := hA b (by rw [q]; simp)
        subst e'
        rw [hK (by rw [q]; simp)] at e; cases e)
    have hM : Mod K mg (hidT s₁.heap H) := ⟨hKb, nsK hns, ⟨mb, nsK hb, hbb⟩, let ⟨mc, h1, h2⟩ := hlim; ⟨mc, nsK h1, h2⟩⟩
    have e0 : Env0 P w K mg (hidT s₁.heap H) callerA [] s₁ H := ⟨rfl, hM, fun b o e => of_hidT e, Nat.le_of_eq (hidT_size _ _), trivial, fun b hb => absurd (show b ∈ ([] : List Addr) from hb) (by simp), hok, .of_eq hg⟩
    refine codeAny_mono ((F _ hKb (nsK hns)).run callerA [] s₁ H ⟨[.ref a], []⟩ [.ref a] [.ref a] _ _ hr e0 (hbind s₁ (.ref a)) (.cons rfl .nil) (hsp H hO hS)) fun r s' h => ?_
    cases r with
    | error e => exact (hCX H e s' h).elim
    | ok fl =>
      cases fl with
      | next => exact False.elim h
      | brk => exact False.elim h
      | cont => exact False.elim h
      | ret u =>
        obtain ⟨v, H', os, bare, un, hok', r', q⟩ := h
        have q' : v = .bl true := q
        subst q'
        obtain rfl : u = Value.bool true := r'
        refine ⟨rfl, OldK.of_keep fun b o e => ?_, os, bare⟩
        cases q : H b with
        | none => exact un.keep b o e q (by intro z; exact absurd (show b ∈ ([] : List Addr) from z) (by simp)) (by simp)
        | some u =>
          rcases hO b with z | ⟨ob, xs, z⟩
          · rw [q] at z; cases z
          · have z2 := un.frzs b ob _ z
            obtain ⟨e1, _⟩ := hok b _ z
            obtain ⟨e2, _⟩ := hok' b _ z2
            rw [e] at e1; cases e1
            exact e2
  cases hk : K.lookup a with
  | some o =>
    -- the script is one of the module's own objects
    have e := KX a o hk
    rw [ha] at e
    cases e
    refine core (fun _ => none) (fun _ => .inl rfl) (.inr ⟨_, vs.toArray, _, hk, rfl, rfl, rfl, by rw [List.size_toArray, lenV]; exact hl, by simpa using rv⟩) (fun b u z => by have z' : (none : Option HO) = some u := z; cases z') (fun b z => absurd rfl z) fun z => absurd rfl z
  | none =>
    refine core (fun b => if b = a then some (.frz { cls := .type "list", data := .seq vs.toArray } (.lst (ns.map V.int))) else none) (fun b => ?_) (.inl (.inr ⟨{ cls := .type "list", data := .seq vs.toArray }, if_pos rfl⟩)) (fun b u z => ?_) (fun b z => ?_) fun _ => hk
    · by_cases hb : b = a
      · exact .inr ⟨_, _, if_pos hb⟩
      · exact .inl (if_neg hb)
    · by_cases hb : b = a
      · have z' := (if_pos hb).symm.trans z
        cases z'
        subst hb
        exact ⟨ha, by rw [List.length_map]; exact hl, vs, _, rv, ha⟩
      · have z' := (if_neg hb).symm.trans z
        cases z'
    · by_cases hb : b = a
      · exact hb
      · exact absurd (if_neg hb) z
end L2

namespace L2
open PySem PySem.Spec PyProof.Rows

abbrev KOf {K : PySem.W.Frag} {h : Heap} (_ : K.In h) : PySem.W.Frag := K

/-- the goal that k_head leaves (case hc), from the law's promise. F gives the function object fd (K's own) once, then the promise over every base -/
theorem walk_of {l : PySem.W.OpenLaw} {n k : Nat} {q : Program} {loose : List Str} {XP : (Str → Option Value) → Heap → Prop} {YP : World → Heap → Prop} {d : DefRec} {K : Params → PySem.W.Frag} {CX : World → CXT} {sp : World → Sp} {x : Str}
    (hn : l.most = some n) (hn2 : n ≤ sizeLine) (hdf : d.params.defaults = []) (hr : Room k callerA)
    (hY : ∀ (w : World) (h : Heap), YP w h → (K w.params).In h)
    (F : ∀ (w : World) (mg : Str → Option Value) (fa : Addr) (h : Heap), (K w.params).In h → h.Ns mainGlobals mg → mg d.name = some (.ref fa) →
      ∃ fd : FuncData, (∀ (s : Shared) (u : Value), BindsTo s fd ⟨[u], []⟩ [(x, u)]) ∧
        ∀ base : Heap, (K w.params).In base → base.Ns mainGlobals mg → FnOk l.prog w (K w.params) mg base (CX w) k fa fd [x] (sp w))
    (hsp : ∀ (w : World) (H : Hp) (a : Addr) (ns : List Int), ns.length ≤ n → Only H → SqL (K w.params) H a (ns.map V.int) → sp w [.ref a] H (fun v _ => v = .bl true) fun _ _ _ => False)
    (hCX : ∀ (w : World) (H : Hp) (s : Shared) (e : Value) (s' : Shared), CX w [] H s (fun _ _ _ => False) e s' → False) :
    PySem.W.WalkO q loose XP YP l.row.toRowW d [] (fun f vs => PySem.call f vs) := by
  refine Att.attach_call hn hdf fun w s₀ s₁ mg mb fa o pm cd doc a vs ns G Y ho hd hcd hmg hobj hints hlen hg => ?_
  have KX := hY w _ Y
  obtain ⟨fd, hb, hF⟩ := F w mg fa _ KX G.T.g hmg
  exact law_call KX G.T.g G.T.b G.T.builtins G.T.nolimit hg hobj hints (Nat.le_trans hlen hn2) hr hF hb (fun H hO hS => hsp w H a ns hlen hO hS) fun H e s' => hCX w H s₁ e s'
end L2

/- THE LAST THEOREM (shape; LID, My.* are yours):
   My.Adr: a structure of the addresses that your layer names (classes, functions); My.Txt K t: a structure (Prop) of the equations over K;
   My.txt_mk : {K} {implicit addresses ..} (e1 : nsIn K mainGlobals "law" = some (some (.ref f))) (e2 : K.lookup f = some ⟨oc, od, .func (fnOf "law" "law" params body scope dV kV doc pm an cdv ct), sl⟩) (e3 : codeIn K cdv "law" = true) .. : ∃ t, My.Txt K t

set_option maxRecDepth 100000 in
set_option maxHeartbeats 0 in
theorem PySem.Challenge.cw_LID_holds : PySem.Challenge.rw_LID.Holds := by
  w_on; o_law; k_head; (case hw => w_witness2)
  k_fill
  refine L2.walk_of (l := PySem.Challenge.rw_LID) (n := 63) (k := 40) (x := "script") (CX := fun w => ..) (sp := fun _ => My.sp_law) rfl (by decide) rfl ⟨rfl, by decide, by decide⟩ (fun w h Y => PySem.W.kIn_of Y) ?F ?S ?C
  case F =>
    intro w mg fa h KX G hmg
    have T : ∃ t, My.Txt (L2.KOf KX) t := by
      dsimp only [L2.KOf]                          -- K must stand as «<heap const> w.params» for k_is
      refine' My.txt_mk ?e1 ?e2 ?e3 ..
      (case e1 => PySem.W.k_is)                    -- in the order: a name -> its address -> its object -> its parts
      (case e2 => PySem.W.k_is)
      ..
    obtain ⟨t, T⟩ := T
    have e0 := hmg.symm.trans (PySem.W.mg_of KX G T.law)
    cases e0                                       -- fa is the law's own address
    exact ⟨_, fun s u => .of_eq rfl, fun base kb nb => My.law_fn T kb nb⟩     -- if «.of_eq rfl» comes too early: refine' ⟨_, ?b, fun base kb nb => My.law_fn T kb nb⟩; exact fun s u => .of_eq rfl
  case S => exact fun w H a ns hl hO hS => ..
  case C => exact ..
(the tactic k_is has no namespace: write k_is) -/

/-! SHORT WORDS over the layer: a def of the text, its body, what a loop and a test want. -/
namespace L2
open PySem PySem.Spec PyProof.Rows

/-! ### the text by places -/
def defArgs (s : Stmt) : Arguments := match s with
  | .FunctionDef _ a _ _ _ _ _ _ _ _ => a
  | _ => { posonlyargs := [], args := [], vararg := none, kwonlyargs := [], kw_defaults := [], kwarg := none, defaults := [] }
def defBody (s : Stmt) : List Stmt := match s with
  | .FunctionDef _ _ b _ _ _ _ _ _ _ => b
  | _ => []
def defScope (s : Stmt) : Scope := match s with
  | .FunctionDef _ _ _ _ _ _ sc _ _ _ => sc
  | _ => { kind := .function, names := [], isGenerator := false, isCoroutine := false }

/-! ### no exception leaves a def -/
abbrev CX0 : CXT := fun _ _ _ _ _ _ => False
abbrev E0 : XK := fun _ _ _ => False

/-! ### a def (or method) of the text as it stands behind the top -/
structure Fun (K : PySem.W.Frag) (x qual : Str) (st : Stmt) (f : Addr) (fd : FuncData) : Prop where
  ex : ∃ (oc : Value) (od : Option Addr) (kV doc pm : Value) (an : Option Addr) (cdv ct : Value) (osl : Array (Option Value)),
    fd = PySem.W.fnOf x qual (defArgs st) (defBody st) (defScope st) .none kV doc pm an cdv ct ∧ K.lookup f = some ⟨oc, od, .func fd, osl⟩ ∧ PySem.W.codeIn K cdv qual = true
  kp : PySem.W.keepIn K (.ref f) = true
section
variable {P : Program} {w : World} {K : PySem.W.Frag} {mg : Str → Option Value} {base : Heap}
/-- THE RULE for a def: its body as a term of rules, and the reading of that term -/
theorem Fun.ok {x qual : Str} {st : Stmt} {f : Addr} {fd : FuncData} {N ps : List Str} {k : Nat} {sp : Sp} (F : Fun K x qual st f fd) (S : FnScope N ps (defScope st)) (len : ∀ vs H Q E, sp vs H Q E → vs.length = ps.length)
    (hbody : ∀ (cdv : Value) (A : Around) (outer : List Env) (s : Shared) (H : Hp) (vs : List V) (Q : VK) (E : XK), Room k (A.deeper (envOfC qual (defScope st) s.heap.objs.size f cdv)) → sp vs H Q E →
      ∃ t, PSs (cxOf CX0 P w K mg base N qual (defScope st) f cdv A outer s H E).nox (defBody st) t ∧ t { nx := fun _ H' => Q .non H', rt := Q } (start N vs) H) : FnOk P w K mg base CX0 (k + 1) f fd ps sp := by
  obtain ⟨oc, od, kV, doc, pm, an, cdv, ct, osl, rfl, lk, hcd⟩ := F.ex
  refine fn_of lk hcd S len fun A outer s H vs Q E hr hsp => ?_
  obtain ⟨t, h, q⟩ := hbody cdv A outer s H vs Q E hr hsp
  exact ⟨t, h.nox, q⟩
/-- how its arguments bind (no defaults): h is «fun _ _ _ _ _ _ us hl => match us, hl with | [_, _], _ => rfl», one _ a parameter -/
theorem Fun.binds {x qual : Str} {st : Stmt} {f : Addr} {fd : FuncData} {ps : List Str} (F : Fun K x qual st f fd)
    (h : ∀ (kV doc pm : Value) (an : Option Addr) (cdv ct : Value) (us : List Value), us.length = ps.length → bindArgs (PySem.W.fnOf x qual (defArgs st) (defBody st) (defScope st) .none kV doc pm an cdv ct) ⟨us, []⟩ = pure (ps.zip us)) : Binds K fd ps [] := by
  obtain ⟨oc, od, kV, doc, pm, an, cdv, ct, osl, rfl, lk, hcd⟩ := F.ex
  exact .all (h kV doc pm an cdv ct)
theorem fun_mk {x qual : Str} {st : Stmt} {f : Addr} {oc : Value} {od an : Option Addr} {osl : Array (Option Value)} {kV doc pm cdv ct : Value} (l : K.lookup f = some ⟨oc, od, .func (PySem.W.fnOf x qual (defArgs st) (defBody st) (defScope st) .none kV doc pm an cdv ct), osl⟩)
    (c : PySem.W.codeIn K cdv qual = true) (k : PySem.W.keepIn K (.ref f) = true) : Fun K x qual st f (PySem.W.fnOf x qual (defArgs st) (defBody st) (defScope st) .none kV doc pm an cdv ct) := ⟨⟨oc, od, kV, doc, pm, an, cdv, ct, osl, rfl, l, c⟩, k⟩
end
theorem hu_of {A : Around} {k : Nat} (hr : Room k A) : A.units + 1 < cLine := Nat.lt_of_le_of_lt (Nat.add_le_add_left (by decide : 1 ≤ 64) _) hr.units

/-! ### expressions in short: the name that stands in the i-th slot -/
section
variable {X : Cx}
theorem pv (i : Nat) {x : Str} {pos : Pos} (hN : X.N[i]? = some x := by rfl) (hv : Vis X.env.scope x := by first | exact Or.inl rfl | exact Or.inr (Or.inl rfl) | exact Or.inr (Or.inr rfl)) (hd : (x == ("__debug__" : Str)) = false := by decide)
    (hcd : (x == ("__classdict__" : Str)) = false := by decide) : PE X (.Name x pos) (tVar i) := pe_var hN hv hd hcd
end

/-! ### tests -/
theorem iteF {A B : Prop} (h : B) : if false = true then A else B := by
  rw [if_neg Bool.false_ne_true]
  exact h
theorem iteT {A B : Prop} (h : A) : if true = true then A else B := by
  rw [if_pos rfl]
  exact h
theorem ite2 {c A B : Prop} [Decidable c] (h1 : c → A) (h2 : ¬ c → B) : if c then A else B := by
  by_cases h : c
  · rw [if_pos h]
    exact h1 h
  · rw [if_neg h]
    exact h2 h

/-! ### heaps -/
/-- all that was tracked is as it was -/
def Same (H H' : Hp) : Prop := ∀ b o, H b = some o → H' b = some o
theorem Same.refl (H : Hp) : Same H H := fun _ _ h => h
theorem Same.trans {H H1 H2 : Hp} (a : Same H H1) (b : Same H1 H2) : Same H H2 := fun c o h => b c o (a c o h)
theorem Same.free {H H' : Hp} (e : Same H H') {l : Addr} (h : H' l = Option.none) : H l = Option.none := by
  cases q : H l with
  | none => rfl
  | some o =>
    rw [e l o q] at h
    cases h
theorem Same.seq {K : PySem.W.Frag} {H H' : Hp} {a : Addr} {xs : List V} (e : Same H H') (h : SqL K H a xs) : SqL K H' a xs := by
  rcases h with (h | ⟨o, h⟩) | h
  · exact .inl (.inl (e _ _ h))
  · exact .inl (.inr ⟨o, e _ _ h⟩)
  · exact .inr h

end L2

namespace XT
open PySem PySem.W PyProof.Rows PySem.Calls

section
variable {prog : Program} {w : World} {A : Around} {E : Value → Shared → Prop} {h : Heap} {g : Array GenState} {d : Drawn} {t : Nat} {os : OsState} {a : Addr} {o : Obj} {K : Frag} {C : Addr}

theorem lookup_K {M : Model} {n : Str} {y : Option Value} {Q : Option Value → Shared → Prop} (X : K.In h) (e : findIn K (.ref C) n = some y) (hq : Q y ⟨h, g, d, t, os⟩) : wpAny M A (typeLookup (.ref C) n) Q E ⟨h, g, d, t, os⟩ :=
  (looks_findIn (M := M) X e).here hq
theorem sub_K {M : Model} {b : Value} {y : Bool} {Q : Bool → Shared → Prop} (X : K.In h) (e : mroIn K C b = some y) (hq : Q y ⟨h, g, d, t, os⟩) : wpAny M A (isSubtype (.ref C) b) Q E ⟨h, g, d, t, os⟩ :=
  (looks_mroIn (M := M) X e).here hq

/-- what the written part says of an error class of the text -/
structure ExcK (K : Frag) (C : Addr) : Prop where
  ga : findIn K (.ref C) "__getattribute__" = some (some (.builtin "BaseException.__getattribute__"))
  gt : findIn K (.ref C) "__getattr__" = some none
  cl : findIn K (.ref C) "__class__" = some (some (.builtin "object.__class__"))
  ob : mroIn K C (.type "object") = some true
  be : mroIn K C (.type "BaseException") = some true
  cs : (clsIn K C).isSome = true

theorem cls_get (X : K.In h) (Z : ExcK K C) (hx : h.get? a = some o) (hc : o.cls = .ref C) {R : Result → Shared → Prop} (hq : R (.ok (.ret (.ref C))) ⟨h, g, d, t, os⟩) :
    codeAny (model prog w) A (.call (.builtin "getset_descriptor.__get__") ⟨[.builtin "object.__class__", .ref a, .ref C], []⟩) R ⟨h, g, d, t, os⟩ := by
  have hT5 : (⟨h, g, d, t, os⟩ : Shared).TypeIs (.builtin "object.__class__") "getset_descriptor" := F.typeOf_object_class
  refine codeAny_call_builtin F.slot_gs_get.plain F.entry_gs_get (F.slot_gs_get.check _ _ _ _ _ _ _ _ hT5 (F.args_gs_get _ _ _) ?_)
  have hob : mroIn K C (.type (".".intercalate ("object.__class__".cutAt '.').dropLast)) = some true := by rw [F.owner_object_class]; exact Z.ob
  repeat (any_goals (first | assumption | (with_reducible refine wpAny_loadPart_at hx ?_; rw [hc]) | with_reducible refine sub_K X hob ?_ | wp_step))
  refine ⟨Code.quiet_builtin _ (by decide +kernel), codeAny_builtin F.entry_object_class ?_⟩
  unfold Builtin.«object.__class__» shownTypeOf
  repeat (any_goals (first | assumption | (with_reducible refine wpAny_loadPart_at hx ?_; rw [hc]) | wp_step))

theorem cls_entry {tk : Tok} {Q : Fin → Shared → Prop} (X : K.In h) (Z : ExcK K C) (hx : h.get? a = some o) (hc : o.cls = .ref C) (hq : Q (.done (.ret (.ref C))) ⟨h, g, d, t, os⟩) :
    wpAny (model prog w) A (Builtin.«object.__getattribute__» ⟨[.ref a, .str "__class__" tk], []⟩) Q E ⟨h, g, d, t, os⟩ := by
  have hT5 : (⟨h, g, d, t, os⟩ : Shared).TypeIs (.builtin "object.__class__") "getset_descriptor" := F.typeOf_object_class
  have f5 := F.typeOf_object_class
  have f6 := F.slot_gs_get.lookup
  have f7 := F.slot_gs_set.lookup
  repeat (any_goals (first | assumption | (with_reducible refine wpAny_loadPart_at hx ?_; rw [hc]) | with_reducible refine lookup_K X Z.cl ?_ | wp_step))
  refine cls_get X Z hx hc ?_
  repeat (any_goals (first | assumption | wp_step))

theorem cls_check {M : Model} {nameV : Value} {Q : Unit → Shared → Prop} (X : K.In h) (Z : ExcK K C) (hx : h.get? a = some o) (hc : o.cls = .ref C) (hq : Q () ⟨h, g, d, t, os⟩) :
    wpAny M A (checkBuiltinCall "BaseException.__getattribute__" ⟨[.ref a, nameV], []⟩) Q E ⟨h, g, d, t, os⟩ := by
  have hk : builtinKind "BaseException.__getattribute__" = some .slot := by decide +kernel
  have hsplit : splitId "BaseException.__getattribute__" = some ("BaseException", "__getattribute__") := by decide +kernel
  have ha := F.args_bexc_ga (.ref a) nameV
  have hbe := Z.be
  simp only [checkBuiltinCall, hk, hsplit]
  refine wpAny_bind ?_
  · unfold isInstance
    repeat (first | (with_reducible refine wpAny_loadPart_at hx ?_; rw [hc]) | with_reducible refine sub_K X hbe ?_ | wp_step)
    exact hq

theorem cls_call {tk : Tok} {R : Result → Shared → Prop} (X : K.In h) (Z : ExcK K C) (hx : h.get? a = some o) (hc : o.cls = .ref C) (hq : R (.ok (.ret (.ref C))) ⟨h, g, d, t, os⟩) :
    codeAny (model prog w) A (.call (.builtin "BaseException.__getattribute__") ⟨[.ref a, .str "__class__" tk], []⟩) R ⟨h, g, d, t, os⟩ :=
  codeAny_call_builtin PySem.F.attr_ValueError.ga.plain F.entry_bexc_ga (cls_check X Z hx hc (cls_entry X Z hx hc hq))

theorem cls_by {tk : Tok} {fill expr : Bool} {Q : Value → Shared → Prop} (X : K.In h) (Z : ExcK K C) (hx : h.get? a = some o) (hc : o.cls = .ref C) (hq : Q (.ref C) ⟨h, g, d, t, os⟩) :
    wpAny (model prog w) A (getAttrBy (.ref a) (.str "__class__" tk) fill expr) Q E ⟨h, g, d, t, os⟩ := by
  have f3 := PySem.F.attr_ValueError.ga.bind (.ref a)
  have hx0 : (expr && onTheHeap (Value.builtin "BaseException.__getattribute__")) = false := by cases expr <;> rfl
  have hx2 : (Value.builtin "BaseException.__getattribute__" == Value.builtin "object.__getattribute__") = false := by decide +kernel
  have hx1 : (onTheHeap (Value.ref C) && Value.builtin "BaseException.__getattribute__" == Value.builtin "object.__getattribute__") = false := by rw [hx2]; rfl
  repeat (any_goals (first | assumption | (with_reducible refine wpAny_loadPart_at hx ?_; rw [hc]) | with_reducible refine lookup_K X Z.ga ?_ | with_reducible refine lookup_K X Z.gt ?_ | wp_step))
  refine cls_call X Z hx hc ?_
  repeat (any_goals (first | assumption | wp_step))

theorem cls_attr {Q : Option Value → Shared → Prop} (X : K.In h) (Z : ExcK K C) (hx : h.get? a = some o) (hc : o.cls = .ref C) (hq : Q (some (.ref C)) ⟨h, g, d, t + 1, os⟩) : wpAny (model prog w) A (getAttr? (.ref a) "__class__") Q E ⟨h, g, d, t, os⟩ := by
  unfold getAttr? getAttrBy?
  repeat (any_goals (first | assumption | with_reducible apply cls_by X Z hx hc | wp_step))
end
def ExcAt (a C : Addr) (h : Heap) : Prop := ∃ o, h.get? a = some o ∧ o.cls = .ref C
theorem kitx_exc {K : Frag} {a C : Addr} (Z : ExcK K C) : KitX K (.ref a) (.ref C) (ExcAt a C) where
  ty := fun _ _ _ ⟨o, h1, h2⟩ => h2 ▸ (Looks.ld h1).andThen .now
  it := fun _ _ X _ => by
    have z0 := Z.cs
    unfold clsIn at z0
    split at z0
    · rename_i c' d' cd' sl' ho
      intro A' Q' E' s' k q
      unfold isType loadHead
      exact wpAny_bind (wpAny_loadPart (k _ _ (X _ _ ho)) (wpAny_pure q))
    · cases z0
  ne := fun h tp dd its n sl X htp => by
    refine Bool.eq_false_iff.mpr fun q => ?_
    have e : C = tp := Value.ref.inj (beq_iff_eq.mp q)
    subst e
    have z0 := Z.cs
    unfold clsIn at z0
    split at z0
    · rename_i c' d' cd' sl' ho
      have z := (X _ _ ho).symm.trans htp
      cases z
    · cases z0
  ca := fun {_ _ _ _ _ s} X ⟨o, h1, h2⟩ k => by
    obtain ⟨hh, g, d, t, os⟩ := s
    exact cls_attr X Z h1 h2 k
end XT

set_option maxHeartbeats 4000000
namespace L2
open PySem PySem.Spec PyProof.Rows

/-! ### an exception on its way -/
theorem ObjOk.there {P : Program} {w : World} {H : Hp} {h : Heap} {a : Addr} {o : HO} (x : ObjOk P w H h a o) : ∃ u, h.get? a = some u := by
  cases o with
  | lst xs => obtain ⟨_, _, _, _, e⟩ := x; exact ⟨_, e⟩
  | tup xs => obtain ⟨_, _, _, p⟩ := x; obtain ⟨u, e, _⟩ := p; exact ⟨u, e⟩
  | dK kvs => obtain ⟨_, _, _, _, o, _, _, e, _⟩ := x; exact ⟨_, e⟩
  | dT kvs => obtain ⟨_, _, _, _, o, _, _, e, _⟩ := x; exact ⟨_, e⟩
  | set S n => obtain ⟨o, _, _, _, e, _⟩ := x; exact ⟨_, e⟩
  | ins C dx fs => obtain ⟨_, _, _, e, _⟩ := x; exact ⟨_, e⟩
  | own y => exact x
  | xd fs => obtain ⟨_, ⟨_, _, _, e, _⟩, _⟩ := x; exact ⟨_, e⟩
  | rng lo hi => obtain ⟨_, _, _, e⟩ := x; exact ⟨_, e⟩
  | frz ob u => obtain ⟨e, _⟩ := x; exact ⟨_, e⟩
  | tbl ps => exact ⟨_, (show h.get? a = some _ from x)⟩
  | met f y => exact ⟨_, (show h.get? a = some _ from x)⟩
  | ext φ => obtain ⟨_, e, _⟩ := x; exact e
/-- what is tracked stays -/
theorem HOk.trkd {P : Program} {w : World} {H : Hp} {h h' : Heap} (x : HOk P w H h) (k : ∀ b u o, H b = some o → h.get? b = some u → h'.get? b = some u) : HOk P w H h' := fun a o e =>
  (x a o e).stay (fun b u hb q => by
    rcases hb with rfl | hb
    · exact k b u o e q
    · exact k b u _ hb q) (fun _ q => q) fun _ _ q => q
theorem HOk.gone {P : Program} {w : World} {H : Hp} {h : Heap} {a : Addr} (x : HOk P w H h) (e : h.get? a = none) : H a = none := by
  cases q : H a with
  | none => rfl
  | some u => obtain ⟨v, hv⟩ := (x a u q).there; rw [e] at hv; cases hv

structure Fly (P : Program) (w : World) (outer : List Env) (H : Hp) (s : Shared) (a : Addr) (C : Value) (H' : Hp) (s' : Shared) : Prop where
  os : s'.os = s.os
  bare : AllBare s'.gens
  un : Un (frs outer) [] H H' s.heap s'.heap
  hok : HOk P w H' s'.heap
  new : s.heap.get? a = none
  ex : ∃ B a0, Heap.FlyingW B outer a C a0 s'.heap ∧ (∀ b o, s.heap.get? b = some o → H b = none → b ∉ frs outer → B.get? b = some o) ∧ (∀ b o, H' b = some o → ∃ u, B.get? b = some u) ∧
    (∀ b o, s.heap.get? b = some o → b ∉ frs outer → ∃ u, B.get? b = some u)
/-- how an exception lies behind a call: its class, nothing of its own dict -/
def CX1 (P : Program) (w : World) : CXT := fun outer H s E e s' => ∃ a C H', e = .ref a ∧ Fly P w outer H s a C H' s' ∧ E C none H'
theorem cx1_none {P : Program} {w : World} {outer : List Env} {H : Hp} {s : Shared} {e : Value} {s' : Shared} (h : CX1 P w outer H s (fun _ _ _ => False) e s') : False := by
  obtain ⟨_, _, _, _, _, z⟩ := h; exact z
theorem pass1 {P : Program} {w : World} {X : Cx} : Passes (CX1 P w) X E0 := fun _ _ _ _ _ _ _ h => (cx1_none h).elim
theorem Fly.gone {P : Program} {w : World} {outer : List Env} {H H' : Hp} {s s' : Shared} {a : Addr} {C : Value} (x : Fly P w outer H s a C H' s') : H' a = none := by
  obtain ⟨B, a0, hf, k1, k2, _⟩ := x.ex
  cases q : H' a with
  | none => rfl
  | some u => obtain ⟨v, hv⟩ := k2 a u q; rw [hf.2.1] at hv; cases hv

section
variable {P : Program} {w : World} {K : PySem.W.Frag} {mg : Str → Option Value} {base : Heap} {N : List Str} {qual : Str} {scope : Scope} {f : Addr} {cd : Value} {A : Around} {outer : List Env} {s₀ : Shared} {H₀ : Hp} {E : XK}

/-- the frames of a def's body: its own and the callers' -/
theorem frs_own {b : Addr} : b ∈ frs (cxOf (CX1 P w) P w K mg base N qual scope f cd A outer s₀ H₀ E).stack ↔ b = s₀.heap.objs.size ∨ b ∈ frs outer := by
  show b ∈ List.filterMap _ (envOfC qual scope s₀.heap.objs.size f cd :: outer) ↔ _
  rw [List.filterMap_cons_some (show (envOfC qual scope s₀.heap.objs.size f cd).frame = some s₀.heap.objs.size from rfl), List.mem_cons]
  rfl
/-- an exception of a callee leaves this def too -/
theorem passes1 : Passes (CX1 P w) (cxOf (CX1 P w) P w K mg base N qual scope f cd A outer s₀ H₀ E) E := by
  intro pins σ H s e s' I h
  obtain ⟨a, C, H', rfl, x, hE⟩ := h
  obtain ⟨B, a0, hf, k1, k2, k3⟩ := x.ex
  show wpAny _ _ (leaving _ _) _ _ _
  refine wpAny_leaves_onW I.ok.frames rfl hf fun h' hf' hs => ?_
  have ne0 : ∀ b o, s₀.heap.get? b = some o → b ∉ frs outer → b ∉ frs (cxOf (CX1 P w) P w K mg base N qual scope f cd A outer s₀ H₀ E).stack := fun b o e hb z => by
    rcases frs_own.mp z with z | z
    · exact absurd (Heap.lt_size e) (by rw [z]; exact Nat.lt_irrefl _)
    · exact hb z
  have nox : ∀ b : Addr, b ∉ (cxOf (CX1 P w) P w K mg base N qual scope f cd A outer s₀ H₀ E).ex := fun b z => absurd (show b ∈ ([] : List Addr) from z) (by simp)
  have keepB : ∀ b o, s₀.heap.get? b = some o → H₀ b = none → b ∉ frs outer → B.get? b = some o := fun b o e n hb =>
    k1 b o (I.base.keep b o e n hb (nox b)) (I.base.free b o e n (nox b)) (ne0 b o e hb)
  have slotB : ∀ b o, s₀.heap.get? b = some o → H₀ b = none → b ∈ frs outer → ∃ sl, h'.get? b = some { o with slots := sl } := fun b o e n hb => by
    obtain ⟨sl, e1⟩ := I.base.slot b o e n hb (nox b)
    obtain ⟨sl2, e2⟩ := x.un.slot b _ e1 (I.base.free b o e n (nox b)) (frs_own.mpr (.inr hb)) (by simp)
    obtain ⟨_, o3, e3, d3⟩ := hf.2.2.1.mem (frs_own.mpr (.inr hb))
    rw [e2] at e3; cases e3
    obtain ⟨sl4, e4⟩ := hs b _ e2 d3
    exact ⟨sl4, e4⟩
  have thereB : ∀ b o, s₀.heap.get? b = some o → b ∉ frs outer → ∃ u, B.get? b = some u := fun b o e hb => by
    obtain ⟨o1, e1⟩ := I.base.there b o e (nox b)
    exact k3 b o1 e1 (ne0 b o e hb)
  refine ⟨a, C, H', rfl, ⟨x.os.trans I.os, x.bare, ⟨fun b o e n hb _ => hf'.1 b o (keepB b o e n hb), fun b o e n hb _ => slotB b o e n hb, fun b o e n _ => ?_, fun b o e _ => ?_, fun b xs e => x.un.tups b xs (I.base.tups b xs e),
    fun b o u e => x.un.frzs b o u (I.base.frzs b o u e), fun b ps e => ?_⟩, x.hok.trkd fun b u o e q => ?_, ?_, B, a0, hf', keepB, k2, thereB⟩, hE⟩
  · obtain ⟨o1, e1⟩ := I.base.there b o e (nox b)
    exact x.un.free b o1 e1 (I.base.free b o e n (nox b)) (by simp)
  · by_cases hb : b ∈ frs outer
    · obtain ⟨sl, e1⟩ := slotB b o e (I.ok.frf b hb) hb
      exact ⟨_, e1⟩
    · obtain ⟨u, e1⟩ := thereB b o e hb
      exact ⟨u, hf'.1 b u e1⟩
  · obtain ⟨m1, e1⟩ := I.base.tbls b ps e
    obtain ⟨m2, e2⟩ := x.un.tbls b _ e1
    exact ⟨m1 ++ m2, by rw [e2, Array.append_assoc]⟩
  · obtain ⟨u', e'⟩ := k2 b o e
    have := hf.1 b u' e'
    rw [q] at this; cases this
    exact hf'.1 b u e'
  · cases q : s₀.heap.get? a with
    | none => rfl
    | some o =>
      obtain ⟨o1, e1⟩ := I.base.there a o q (nox a)
      rw [x.new] at e1; cases e1

/-- what a raise asks of the place where it stands -/
def Raises (X : Cx) (E : XK) : Prop := ∀ (pins : List (Addr × Obj)) (σ : St) (H : Hp) (s : Shared) (e : Addr) (C : Value) (args : List Value) (h' : Heap), Inv X pins σ H s → Heap.MadeExcOf s.heap h' e C args → E C none H → X.xe (.ref e) { s with heap := h' }
theorem raises1 : Raises (cxOf (CX1 P w) P w K mg base N qual scope f cd A outer s₀ H₀ E) E := by
  intro pins σ H s e C args h1 I hm hE
  have F := I.stack
  have hin : ∀ env ∈ (cxOf (CX1 P w) P w K mg base N qual scope f cd A outer s₀ H₀ E).stack, ∀ b, env.frame = some b → b ∈ frs (cxOf (CX1 P w) P w K mg base N qual scope f cd A outer s₀ H₀ E).stack := fun env he b hb => List.mem_filterMap.mpr ⟨env, he, hb⟩
  show wpAny _ _ (leaving _ _) _ _ _
  refine wpAny_leaves_madeW (base := PySem.W.hideAll s.heap (frs (cxOf (CX1 P w) P w K mg base N qual scope f cd A outer s₀ H₀ E).stack)) (h := s.heap) I.ok.frames rfl (fun b o q => PySem.W.of_hideAll _ q) (PySem.W.funFrames_hide F hin) hm fun h' t hf' _ _ hs => ?_
  have ne0 : ∀ b o, s₀.heap.get? b = some o → b ∉ frs outer → b ∉ frs (cxOf (CX1 P w) P w K mg base N qual scope f cd A outer s₀ H₀ E).stack := fun b o e hb z => by
    rcases frs_own.mp z with z | z
    · exact absurd (Heap.lt_size e) (by rw [z]; exact Nat.lt_irrefl _)
    · exact hb z
  have nox : ∀ b : Addr, b ∉ (cxOf (CX1 P w) P w K mg base N qual scope f cd A outer s₀ H₀ E).ex := fun b z => absurd (show b ∈ ([] : List Addr) from z) (by simp)
  have keepB : ∀ b o, s₀.heap.get? b = some o → H₀ b = none → b ∉ frs outer → (PySem.W.hideAll s.heap (frs (cxOf (CX1 P w) P w K mg base N qual scope f cd A outer s₀ H₀ E).stack)).get? b = some o := fun b o e n hb =>
    PySem.W.hideAll_get _ (I.base.keep b o e n hb (nox b)) (ne0 b o e hb)
  have slotB : ∀ b o, s₀.heap.get? b = some o → H₀ b = none → b ∈ frs outer → ∃ sl, h'.get? b = some { o with slots := sl } := fun b o e n hb => by
    obtain ⟨sl, e1⟩ := I.base.slot b o e n hb (nox b)
    obtain ⟨_, o3, e3, d3⟩ := F.mem (frs_own.mpr (.inr hb))
    rw [e1] at e3; cases e3
    obtain ⟨sl4, e4⟩ := hs b _ (hm.keeps b _ e1) d3
    exact ⟨sl4, e4⟩
  have thereB : ∀ b o, s₀.heap.get? b = some o → b ∉ frs outer → ∃ u, (PySem.W.hideAll s.heap (frs (cxOf (CX1 P w) P w K mg base N qual scope f cd A outer s₀ H₀ E).stack)).get? b = some u := fun b o e hb => by
    obtain ⟨o1, e1⟩ := I.base.there b o e (nox b)
    exact ⟨o1, PySem.W.hideAll_get _ e1 (ne0 b o e hb)⟩
  have trk : ∀ b o u, H b = some o → s.heap.get? b = some u → (PySem.W.hideAll s.heap (frs (cxOf (CX1 P w) P w K mg base N qual scope f cd A outer s₀ H₀ E).stack)).get? b = some u := fun b o u e q =>
    PySem.W.hideAll_get _ q fun z => by rw [I.stkFree b z] at e; cases e
  refine ⟨e, C, H, rfl, ⟨I.os, I.bare, ⟨fun b o e n hb _ => hf'.1 b o (keepB b o e n hb), fun b o e n hb _ => slotB b o e n hb, fun b o e n _ => I.base.free b o e n (nox b), fun b o e _ => ?_, I.base.tups, I.base.frzs, I.base.tbls⟩,
    I.hok.trkd fun b u o e q => hf'.1 b u (trk b o u e q), ?_, _, _, hf', keepB, fun b o q => ?_, thereB⟩, hE⟩
  · by_cases hb : b ∈ frs outer
    · obtain ⟨sl, e1⟩ := slotB b o e (I.ok.frf b hb) hb
      exact ⟨_, e1⟩
    · obtain ⟨u, e1⟩ := thereB b o e hb
      exact ⟨u, hf'.1 b u e1⟩
  · cases q : s₀.heap.get? e with
    | none => rfl
    | some o =>
      obtain ⟨o1, e1⟩ := I.base.there e o q (nox e)
      rw [hm.new] at e1; cases e1
  · obtain ⟨u, hu⟩ := (I.hok b o q).there
    exact ⟨u, trk b o u q hu⟩
end

/-! ### raise C(e, ..), C an error class of the text -/
def tRaise (C : Addr) (E : XK) (t : TA) : TS := fun _ σ H => t σ H fun vs H1 => vs.length ≤ sizeLine ∧ E (.ref C) none H1
/-- the class as an object of the heap -/
theorem exc_obj {K : PySem.W.Frag} {h : Heap} {C : Addr} {bmB : List Value} {newId : String} (X : K.In h) (q : PySem.W.excIn K C bmB newId = true) :
    ∃ bm N nm qn bs hdct sn sub ab col dd k0 k1 k2 k3 k5 mN, h.get? C = some (excClassObj nm qn C N bs bm hdct sn sub ab col dd k0 k1 k2 k3 k5 newId) ∧ h.Ns N mN ∧ mN "__init__" = none ∧ OwnTail h bmB bm := by
  unfold PySem.W.excIn at q
  split at q
  · rename_i dd cd sl ho
    split at q
    · rename_i C' bm k0 k1 k2 k3 n k5 hm hs
      simp only [Bool.and_eq_true, beq_iff_eq, Bool.not_eq_true'] at q
      obtain ⟨⟨⟨⟨⟨rfl, rfl⟩, hdel⟩, ht⟩, hok⟩, hni⟩ := q
      obtain ⟨nm, bs, mro, ns, qn, hd, sn, sub, ab, col, del⟩ := cd
      dsimp only at hm hdel hok hni
      subst hm hdel
      have hsl : sl = #[k0, k1, k2, k3, some (.builtin n), k5] := by
        obtain ⟨l⟩ := sl
        simp only at hs
        rw [hs]
      subst hsl
      exact ⟨bm, ns, nm, qn, bs, hd, sn, sub, ab, col, dd, k0, k1, k2, k3, k5, _, X _ _ ho, .of_isNs (PySem.W.isNs_of_in X hok), PySem.W.nsMap_none_of_in X hok hni, PySem.W.tail_of_in X ht⟩
    · cases q
  · cases q
section
variable {X : Cx} {C : Addr} {x : Str} {e : Expr} {es : List Expr} {t : TA} {np cpos pos : Pos} {E : XK} {bmB : List Value} {B newId initId : String}
theorem ps_raise (hr : Raises X E) (hA : X.calm = true) (hg : Gl X x) (hm : X.mg x = some (.ref C)) (hq : PySem.W.excIn X.K C bmB newId = true) (FB : ExcBaseFacts B newId initId bmB) (ha : PA X (e :: es) t)
    (hdb : (x == ("__debug__" : Str)) = false := by decide) (he : starEach (e :: es) X.env = (false, eval e X.env) :: starEach es X.env := by rfl) (hpl : (backTo cpos (starEach es X.env)).any (·.1) = false := by rfl) :
    PS X (.Raise (some (.Call (.Name x np) (e :: es) [] cpos)) none pos) (tRaise C E t) := by
  intro pins s σ H D I h
  obtain ⟨bm, N, nm, qn, bs, hdct, sn, sub, ab, col, dd, k0, k1, k2, k3, k5, mN, hC, hN, hni, T⟩ := exc_obj I.ok.mod.kin hq
  refine wpAny_Raise_call_subT (C := C) (nm := nm) (q := qn) (N := N) (bs := bs) (bm := bm) (hdct := hdct) (sn := sn) (sub := sub) (ab := ab) (col := col) (dd := dd) (k0 := k0) (k1 := k1) (k2 := k2) (k3 := k3) (k5 := k5)
    FB (mN := mN) (T.hasType FB.hasBase) (I.ok.hd hA) (by rw [he]; show (false || (backTo cpos (starEach es X.env)).any (·.1)) = false; rw [hpl]; rfl) hni (ld_glob I hg hm ⟨rfl, ?_⟩ hdb)
  have ha' := ha cpos pins s σ H _ I h
  rw [he] at ha' ⊢
  refine Calls.evalArgs_plain (thn ha' fun us s1 ⟨vs, H1, I1, r, z, hE⟩ => ⟨rfl, by rw [← r.length]; exact z, I1.bk _ _ hC, hN.keeps I1.bk, T.keeps I1.bk, fun h' e' hm' => ?_⟩)
  exact hr pins σ H1 s1 e' (.ref C) us h' I1 hm' hE
end

/-! ### try: body, except C as n: suite -/
/-- within a try: the pins lie in the context -/
def Cx.tryX (X : Cx) (pins : List (Addr × Obj)) (xe : Value → Shared → Prop) : Cx := { X with pn := X.pn ++ pins, xe := xe }
/-- within the clause -/
def Cx.handX (X : Cx) (pins : List (Addr × Obj)) (e : Value) : Cx := { X with A := X.A.mark (some e), calm := false, pn := X.pn ++ pins, xe := fun _ _ => False }
theorem Cx.Ok.tryX {X : Cx} (ok : X.Ok) (pins : List (Addr × Obj)) (xe : Value → Shared → Prop) : (X.tryX pins xe).Ok :=
  ⟨ok.mod, ok.kind, ok.glob, ok.blt, ok.above, ok.inj, ok.has, ok.cab, ok.hd, ok.frames, ok.stk, ok.exf, ok.bs, ok.bsz, ok.noex, ok.exfs, ok.funs, ok.frf⟩
theorem Cx.Ok.handX {X : Cx} (ok : X.Ok) (pins : List (Addr × Obj)) (e : Value) : (X.handX pins e).Ok :=
  ⟨ok.mod, ok.kind, ok.glob, ok.blt, ok.above, ok.inj, ok.has, ok.cab, fun z => Bool.noConfusion (show false = true from z), ok.frames, ok.stk, ok.exf, ok.bs, ok.bsz, ok.noex, ok.exfs, ok.funs, ok.frf⟩
section
variable {X : Cx} {pins pins' : List (Addr × Obj)} {σ : St} {H H' : Hp} {s : Shared} {xe : Value → Shared → Prop} {ev : Value}
theorem Inv.tryX (I : Inv X pins σ H s) (xe : Value → Shared → Prop) : Inv (X.tryX pins xe) [] σ H s :=
  ⟨I.ok.tryX pins xe, I.os, I.bare, I.base, I.loc, I.cell, I.free, I.freeC, fun p hp => I.pin p (by rw [List.append_nil] at hp; exact hp), I.hok, I.len⟩
theorem Inv.untry (ok : X.Ok) (I : Inv (X.tryX pins xe) pins' σ H s) : Inv X pins σ H s :=
  ⟨ok, I.os, I.bare, I.base, I.loc, I.cell, I.free, I.freeC, fun p hp => I.pin p (List.mem_append_left _ hp), I.hok, I.len⟩
theorem Inv.handX (I : Inv X pins σ H s) (ev : Value) : Inv (X.handX pins ev) [] σ H s :=
  ⟨I.ok.handX pins ev, I.os, I.bare, I.base, I.loc, I.cell, I.free, I.freeC, fun p hp => I.pin p (by rw [List.append_nil] at hp; exact hp), I.hok, I.len⟩
theorem Inv.unhand (ok : X.Ok) (I : Inv (X.handX pins ev) pins' σ H s) : Inv X pins σ H s :=
  ⟨ok, I.os, I.bare, I.base, I.loc, I.cell, I.free, I.freeC, fun p hp => I.pin p (List.mem_append_left _ hp), I.hok, I.len⟩
theorem SP.untry {D : Ends} {f : Flow} {s' : Shared} (ok : X.Ok) (h : SP (X.tryX pins xe) pins' D f s') : SP X pins D f s' := by
  cases f with
  | next => obtain ⟨σ', H', I, q⟩ := h; exact ⟨σ', H', I.untry ok, q⟩
  | brk => obtain ⟨σ', H', I, q⟩ := h; exact ⟨σ', H', I.untry ok, q⟩
  | cont => obtain ⟨σ', H', I, q⟩ := h; exact ⟨σ', H', I.untry ok, q⟩
  | ret u => obtain ⟨v, σ', H', I, r, q⟩ := h; exact ⟨v, σ', H', I.untry ok, r, q⟩
/-- an object of the heap that was not tracked is tracked from here on -/
theorem Inv.adopt {a : Addr} {o : HO} (J : Inv X pins σ H s) (na : H a = none) (h0 : X.s₀.heap.get? a = none) (hl : X.env.locals ≠ a) (hc : ∀ x c, X.env.cells.lookup x = some c → c ≠ a) (hp : ∀ p ∈ X.pn ++ pins, p.1 ≠ a)
    (new : ObjOk X.prog X.w (upd H a o) s.heap a o) : Inv X pins σ (upd H a o) s := by
  have ne : ∀ b u, H b = some u → b ≠ a := fun b u e z => by rw [z, na] at e; cases e
  refine ⟨J.ok, J.os, J.bare, ⟨J.base.keep, J.base.slot, fun b ob e n hx => ?_, J.base.there, fun b xs e => ?_, fun b ob u e => ?_, fun b ps e => ?_⟩, J.loc, J.cell, ?_, fun x c e => ?_, fun p hq => ?_, fun b u e => ?_, J.len⟩
  · have z : b ≠ a := fun z => by rw [z, h0] at e; cases e
    rw [upd_ne z]; exact J.base.free b ob e n hx
  · have q := J.base.tups b xs e
    rw [upd_ne (ne b _ q)]; exact q
  · have q := J.base.frzs b ob u e
    rw [upd_ne (ne b _ q)]; exact q
  · obtain ⟨m, q⟩ := J.base.tbls b ps e
    exact ⟨m, by rw [upd_ne (ne b _ q)]; exact q⟩
  · rw [upd_ne hl]; exact J.free
  · rw [upd_ne (hc x c e)]; exact J.freeC x c e
  · obtain ⟨e1, e2, e3⟩ := J.pin p hq
    exact ⟨e1, by rw [upd_ne (hp p hq)]; exact e2, e3⟩
  · by_cases z : b = a
    · subst z; rw [upd_same] at e; cases e; exact new
    · rw [upd_ne z] at e
      exact (J.hok b u e).stay (fun c v _ q => q) (fun c q => by rw [upd_ne (ne c _ q)]; exact q) fun c xs q => by rw [upd_ne (ne c _ q)]; exact q
/-- the name of an except clause goes -/
theorem name_gone {M : Model} {A : Around} {E : Value → Shared → Prop} {i : Nat} {n : Str} {pos : Pos} {Q : Unit → Shared → Prop} (I : Inv X pins σ H s) (hN : X.N.Nodup) (hi : X.N[i]? = some n) (hk : X.env.kindOf n = some .local)
    (h : ∀ s', Inv X pins (σ.set i none) H s' → Q () s') : wpAny M A (do bindName X.env n .none; unbindBehindTheSuite X.env n pos) Q E s := by
  obtain ⟨m, hn, hl⟩ := id I.loc
  have hcls : (X.env.scope.kind == .class || (X.env.scope.kind == .module && X.env.locals != X.env.globals)) = false := by rw [I.ok.kind]; rfl
  have hiσ : i < σ.length := by rw [I.len]; exact (List.getElem?_eq_some_iff.mp hi).1
  obtain ⟨oL, _, _, hoL, _⟩ := id hn
  refine wpAny_nameGoes_keeps hk hn hcls fun h' v hn' hs => ?_
  have low : ∀ b o, X.s₀.heap.get? b = some o → b ≠ X.env.locals := fun b o e => Nat.ne_of_lt (Nat.lt_of_lt_of_le (Heap.lt_size e) I.ok.above)
  refine h _ ⟨I.ok, I.os, I.bare, ⟨fun b o e n hb hx => (hs.2 b (low b o e)).trans (I.base.keep b o e n hb hx), fun b o e n hb hx => ?_, I.base.free, fun b o e hx => ?_, I.base.tups, I.base.frzs, I.base.tbls⟩, ⟨_, hn', fun j y v' e1 e2 e3 => ?_⟩, fun y c e => ?_, I.free, I.freeC, fun p hp => ?_,
    I.hok.trkd fun b u o e q => (hs.2 b fun z => by rw [z, I.free] at e; cases e).trans q, by simpa using I.len⟩
  · obtain ⟨sl, e1⟩ := I.base.slot b o e n hb hx
    exact ⟨sl, (hs.2 b (low b o e)).trans e1⟩
  · obtain ⟨o', e1⟩ := I.base.there b o e hx
    exact ⟨o', (hs.2 b (low b o e)).trans e1⟩
  · by_cases hj : j = i
    · subst hj
      rw [List.getElem?_set_self hiσ] at e2
      cases e2
    · rw [List.getElem?_set_ne (Ne.symm hj)] at e2
      obtain ⟨u', r', q⟩ := hl j y v' e1 e2 e3
      refine ⟨u', r', ?_⟩
      rcases q with ⟨k, e⟩ | ⟨k, c, e, z⟩
      · refine .inl ⟨k, ?_⟩
        have : y ≠ n := fun e => hj (nodup_ix hN e1 (e ▸ hi))
        simp [this, e]
      · exact .inr ⟨k, c, e, z.sameBut hs (I.cne y c e)⟩
  · obtain ⟨w', z⟩ := I.cell y c e
    exact ⟨w', z.sameBut hs (I.cne y c e)⟩
  · obtain ⟨e, n, ne, nf, d⟩ := I.pin p hp
    exact ⟨(hs.2 p.1 ne).trans e, n, ne, nf, d⟩
end
/-- the exception moves on: its records and the frames' slots change, nothing else -/
theorem Fly.move {P : Program} {w : World} {outer : List Env} {H H' : Hp} {s s' : Shared} {a : Addr} {C : Value} {B : Heap} {a0 : Value} {h' : Heap} (un : Un (frs outer) [] H H' s.heap s'.heap) (hok : HOk P w H' s'.heap)
    (hf : Heap.FlyingW B outer a C a0 s'.heap) (k1 : ∀ b o, s.heap.get? b = some o → H b = none → b ∉ frs outer → B.get? b = some o) (k2 : ∀ b o, H' b = some o → ∃ u, B.get? b = some u)
    (k3 : ∀ b o, s.heap.get? b = some o → b ∉ frs outer → ∃ u, B.get? b = some u) (hb : B.StaysIn h') (hs : s'.heap.UpToSlots h') : Un (frs outer) [] H H' s.heap h' ∧ HOk P w H' h' := by
  refine ⟨⟨fun b o e n hb' _ => hb b o (k1 b o e n hb'), fun b o e n hb' _ => ?_, un.free, fun b o e _ => ?_, un.tups, un.frzs, un.tbls⟩, hok.trkd fun b u o e q => ?_⟩
  · obtain ⟨sl, e1⟩ := un.slot b o e n hb' (by simp)
    obtain ⟨_, o3, e3, d3⟩ := hf.2.2.1.mem hb'
    rw [e1] at e3; cases e3
    obtain ⟨sl4, e4⟩ := hs b _ e1 d3
    exact ⟨sl4, e4⟩
  · by_cases hb' : b ∈ frs outer
    · obtain ⟨o1, e1⟩ := un.there b o e (by simp)
      obtain ⟨_, o3, e3, d3⟩ := hf.2.2.1.mem hb'
      rw [e1] at e3; cases e3
      obtain ⟨sl, e4⟩ := hs b _ e1 d3
      exact ⟨_, e4⟩
    · obtain ⟨u, e1⟩ := k3 b o e hb'
      exact ⟨u, hb b u e1⟩
  · obtain ⟨u', e'⟩ := k2 b o e
    have := hf.1 b u' e'
    rw [q] at this; cases this
    exact hb b u e'

/-- an exception of a callee within a try: Φ may lean on the names -/
abbrev XS := Value → St → Hp → Prop
def PassX (P : Program) (w : World) (X : Cx) (Φ : XS) : Prop := ∀ (pins : List (Addr × Obj)) (σ : St) (H : Hp) (s : Shared) (e : Value) (s' : Shared), Inv X pins σ H s → CX1 P w X.stack H s (fun c _ H' => Φ c σ H') e s' → X.xe e s'
def tCallX (sp : Sp) (dvs : List V) (Φ : XS) (t : TA) : TE := fun σ H Q => t σ H fun vs H1 => sp (vs ++ dvs) H1 Q fun c _ H' => Φ c σ H'
section
variable {X : Cx} {P : Program} {w : World} {k : Nat} {f : Addr} {fd : FuncData} {ps : List Str} {sp : Sp} {dvs : List V} {ds : List Value} {Φ : XS} {x : Str} {p pos : Pos} {e : Expr} {es : List Expr} {t : TA}
theorem pe_callX (F : FnOk X.prog X.w X.K X.mg X.base (CX1 P w) k f fd ps sp) (hr : Room k X.A) (hg : Gl X x) (hm : X.mg x = some (.ref f)) (hk : PySem.W.keepIn X.K (.ref f) = true) (hb : Binds X.K fd ps ds) (hd : Vals dvs ds) (hx : PassX P w X Φ)
    (ha : PA X (e :: es) t) (hdb : (x == ("__debug__" : Str)) = false := by decide) (he : starEach (e :: es) X.env = (false, eval e X.env) :: starEach es X.env := by rfl) (hpl : (backTo pos (starEach es X.env)).any (·.1) = false := by rfl) :
    PE X (.Call (.Name x p) (e :: es) [] pos) (tCallX sp dvs Φ t) := by
  intro pins s σ H Q I h
  refine wpAny_Call_Name_kw (ld_glob I hg hm ?_ hdb)
  refine PySem.W.callWith_K (h₀ := X.base) I.ok.mod.kin hk (thn (ha pos pins s σ H _ I h) fun us s1 ⟨vs, H1, I1, r, q⟩ => ⟨I1.kIn, ?_⟩) he hpl
  have r2 : Vals (vs ++ dvs) (us ++ ds) := r.append hd
  have hl : (us ++ ds).length = ps.length := by rw [← r2.length]; exact F.len _ _ _ _ q
  refine wpAny_call (codeAny_mono (F.run X.A X.stack s1 H1 ⟨us, []⟩ (us ++ ds) (vs ++ dvs) Q _ hr I1.env0 (hb s1 us I1.kIn hl) r2 q) fun r s' hq => ?_)
  cases r with
  | error e => exact hx pins σ H1 s1 e s' I1 hq
  | ok fl =>
    cases fl with
    | ret u => exact I1.after hq
    | next => exact False.elim hq
    | brk => exact False.elim hq
    | cont => exact False.elim hq
end

def excO (a C : Addr) : HO := .ext (XT.ExcAt a C)
/-- behind the clause its name is gone -/
def Ends.hand (D : Ends) (i : Nat) : Ends := { nx := fun σ H => D.nx (σ.set i none) H, rt := D.rt, bk := fun σ H => D.bk (σ.set i none) H, ct := fun σ H => D.ct (σ.set i none) H }
abbrev Pins := List (Addr × Obj)
section
variable {X : Cx} {C : Addr} {i : Nat} {n x : Str} {body : List Stmt} {b₀ : Stmt} {suite : List Stmt} {np hpos pos : Pos} {tb : Pins → (Value → Shared → Prop) → XS → TS} {th : Pins → Value → TS} {bmB : List Value} {newId : String}
end
end L2

set_option maxHeartbeats 4000000
namespace L2
open PySem PySem.Spec PyProof.Rows

section
variable {X : Cx}
/-! ### numbers of some size -/
theorem bits_of {x : Int} {m : Nat} (h : x.natAbs < 2 ^ m) : Builtin.Int.intBits x ≤ m := PySem.intBits_le_iff.mpr h
def CMulL (i j : Int) : Prop := i.natAbs < 2 ^ 100000 ∧ j.natAbs < 2 ^ 100000
theorem log2_lt_of {n m : Nat} (hm : 0 < m) (h : n < 2 ^ m) : n.log2 < m := by
  rcases Nat.eq_zero_or_pos n with h0 | hp
  · rw [h0]; exact hm
  · exact (Nat.log2_lt (Nat.ne_of_gt hp)).mpr h
def CDivL (_ j : Int) : Prop := j ≠ 0 ∧ j.natAbs < 2 ^ 8999
theorem op_fdivL : OpR X (binaryOp .FloorDiv) (rI CDivL fun i j => .int (i.fdiv j)) := opI fun _ _ _ _ _ _ _ hc q => floordiv_int hc.1 q (.inl (PyProof.noPylong_of_log2 (Nat.lt_trans (log2_lt_of (by decide) hc.2) (by decide))))

/-! ### isinstance -/
def rIsi (K : PySem.W.Frag) : List V → Hp → VK → Prop := fun xs H Q => ∃ x t T b, xs = [x, .ty T] ∧ TyOf K H x t ∧ PySem.W.kitOne K t (.type T) = some b ∧ Q (.bl b) H
theorem call_isi : CallR X (.builtin "isinstance") (rIsi X.K) := by
  intro pins s σ H vs us Q I r h
  obtain ⟨x, t, T, b, rfl, ty, e, q⟩ := h
  obtain ⟨u, c, rfl, rx, rc⟩ := vals2 r
  cases (show c = Value.type T from rc)
  exact isinst_ok I rx ty e fun tk => ⟨.bl b, H, I.tok tk, rfl, q⟩
theorem kit_same (K : PySem.W.Frag) (t : Value) : PySem.W.kitOne K t t = some true := by unfold PySem.W.kitOne; simp
theorem kit_int_bool (K : PySem.W.Frag) : PySem.W.kitOne K (.type "int") (.type "bool") = some false := by
  unfold PySem.W.kitOne PySem.W.kitCls PySem.W.subIn; kernel_rfl
/-- of an exception: one class of the text, or ValueError; a tuple of classes of the text -/
def rIsiE (K : PySem.W.Frag) : List V → Hp → VK → Prop := fun xs H Q => ∃ a C c b, xs = [.ref a, c] ∧ H a = some (excO a C) ∧ XT.ExcK K C ∧
  ((∃ D, c = .ref D ∧ PySem.W.kitOne K (.ref C) (.ref D) = some b) ∨ (∃ T, c = .ty T ∧ PySem.W.kitOne K (.ref C) (.type T) = some b) ∨
    (∃ (p : Addr) (Ds : List Addr), c = .ref p ∧ H p = some (.tup (Ds.map V.ref)) ∧ PySem.W.kitAny K (.ref C) (Ds.map Value.ref) = some b)) ∧ Q (.bl b) H
theorem vals_refs : ∀ {Ds : List Addr} {us : List Value}, Vals (Ds.map V.ref) us → us = Ds.map Value.ref
  | [], _, .nil => rfl
  | _ :: _, _, .cons r t => by
    cases (show _ = Value.ref _ from r)
    rw [vals_refs t]; rfl
theorem call_isiE : CallR X (.builtin "isinstance") (rIsiE X.K) := by
  intro pins s σ H vs us Q I r h
  obtain ⟨a, C, c, b, rfl, ha, Z, h, q⟩ := h
  obtain ⟨u, cv, rfl, rx, rc⟩ := vals2 r
  cases (show u = Value.ref a from rx)
  have hx : XT.ExcAt a C s.heap := (I.hok a _ ha).1
  rcases h with ⟨D, rfl, e⟩ | ⟨T, rfl, e⟩ | ⟨p, Ds, rfl, hp, e⟩
  · cases (show cv = Value.ref D from rc)
    exact PySem.W.kia_one (XT.kitx_exc Z) I.kIn hx e (fun z => nomatch z) fun tk => ⟨.bl b, H, I.tok tk, rfl, q⟩
  · cases (show cv = Value.type T from rc)
    exact PySem.W.kia_one (XT.kitx_exc Z) I.kIn hx e (fun z => nomatch z) fun tk => ⟨.bl b, H, I.tok tk, rfl, q⟩
  · cases (show cv = Value.ref p from rc)
    obtain ⟨_, its, rv, ot, h1, h2, n, h3⟩ := I.hok p _ hp
    obtain ⟨c0, dd, dat, sl⟩ := ot
    cases (show c0 = _ from h2)
    cases (show dat = _ from h3)
    rw [vals_refs rv] at h1
    exact PySem.W.kia_tup (XT.kitx_exc Z) I.kIn hx h1 e (fun z => nomatch z) fun tk => ⟨.bl b, H, I.tok tk, rfl, q⟩

/-! ### == of two lists, two tuples, of flat items -/
def eqVs : List V → List V → Bool
  | [], [] => true
  | x :: xs, y :: ys => eqV x y && eqVs xs ys
  | _, _ => false
theorem eqVs_len : ∀ {xs ys : List V}, xs.length ≠ ys.length → eqVs xs ys = false
  | [], [], h => absurd rfl h
  | [], _ :: _, _ => rfl
  | _ :: _, [], _ => rfl
  | x :: xs, y :: ys, h => by
    unfold eqVs
    rw [eqVs_len (fun z => h (by simp [z]))]; simp
theorem eqVs_all : ∀ {xs ys : List V}, xs.length = ys.length → (List.range xs.length).all (fun j => eqV (xs.getD j .non) (ys.getD j .non)) = eqVs xs ys
  | [], [], _ => rfl
  | [], _ :: _, h => by simp at h
  | _ :: _, [], h => by simp at h
  | x :: xs, y :: ys, h => by
    have ih := eqVs_all (xs := xs) (ys := ys) (by simpa using h)
    rw [List.length_cons, List.range_succ_eq_map, List.all_cons, List.all_map]
    unfold eqVs
    rw [← ih]
    rfl
theorem eqAt_items {A : Around} {s : Shared} {xs ys : List V} {us ws : List Value} (r : Vals xs us) (q : Vals ys ws) (fx : xs.all flatV = true) (fy : ys.all flatV = true) (j : Nat) (h1 : j < us.toArray.size) (h2 : j < ws.toArray.size) :
    SeqAt.EqAt A s us.toArray[j] ws.toArray[j] (eqV (xs.getD j .non) (ys.getD j .non)) := by
  have l1 := r.length
  have l2 := q.length
  have h1' : j < xs.length := by simpa [l1] using h1
  have h2' : j < ys.length := by simpa [l2] using h2
  obtain ⟨u, hu, ru⟩ := r.get (i := j) (x := xs[j]) (List.getElem?_eq_getElem h1')
  obtain ⟨v, hv, rv⟩ := q.get (i := j) (x := ys[j]) (List.getElem?_eq_getElem h2')
  have e1 : us.toArray[j] = u := by
    have := List.getElem?_eq_some_iff.mp hu
    obtain ⟨_, z⟩ := this; simpa using z
  have e2 : ws.toArray[j] = v := by
    have := List.getElem?_eq_some_iff.mp hv
    obtain ⟨_, z⟩ := this; simpa using z
  rw [e1, e2, List.getD_eq_getElem?_getD, List.getD_eq_getElem?_getD, List.getElem?_eq_getElem h1', List.getElem?_eq_getElem h2']
  exact eqAt_V ru rv (List.all_eq_true.mp fx _ (List.getElem_mem h1')) (List.all_eq_true.mp fy _ (List.getElem_mem h2'))
def rEqL (K : PySem.W.Frag) : R2 := fun x y H Q => ∃ a b xs ys, x = .ref a ∧ y = .ref b ∧ SqL K H a xs ∧ SqL K H b ys ∧ xs.all flatV = true ∧ ys.all flatV = true ∧ Q (.bl (eqVs xs ys)) H
theorem op_eqL (hu : X.A.units < cLine) : OpR X (compareOp .Eq) (rEqL X.K) := by
  intro pins s σ H x y v u Q I rx ry h
  obtain ⟨a, b, xs, ys, rfl, rfl, ha, hb, fx, fy, q⟩ := h
  cases (show v = Value.ref a from rx)
  cases (show u = Value.ref b from ry)
  obtain ⟨its, rv, p, _⟩ := I.list ha
  obtain ⟨its2, rv2, p2, _⟩ := I.list hb
  have l1 := rv.length
  have l2 := rv2.length
  by_cases hz : xs.length = ys.length
  · refine SeqAt.eq_listAt (e := fun j => eqV (xs.getD j .non) (ys.getD j .non)) p.isList p2.isList (by simp [← l1, ← l2, hz]) hu (fun j h1 h2 => eqAt_items rv rv2 fx fy j h1 h2) ?_
    have e : (List.range its.toArray.size).all (fun j => eqV (xs.getD j .non) (ys.getD j .non)) = eqVs xs ys := by
      rw [← eqVs_all hz]; simp [← l1]
    rw [e]
    exact ⟨.bl _, H, I, rfl, q⟩
  · rw [eqVs_len hz] at q
    exact SeqAt.eq_list_lengthsAt p.isList p2.isList (by simp [← l1, ← l2, hz]) hu ⟨.bl _, H, I, rfl, q⟩

/-! ### range(lo, hi, step), step above 0 -/
variable {tg : Expr}
end

/-! ### a def: an exception may leave it (x), or not (n) -/
section
variable {P : Program} {w : World} {K : PySem.W.Frag} {mg : Str → Option Value} {base : Heap}
theorem Fun.okx {x qual : Str} {st : Stmt} {f : Addr} {fd : FuncData} {N ps : List Str} {k : Nat} {sp : Sp} (F : Fun K x qual st f fd) (S : FnScope N ps (defScope st)) (len : ∀ vs H Q E, sp vs H Q E → vs.length = ps.length)
    (hbody : ∀ (cdv : Value) (A : Around) (outer : List Env) (s : Shared) (H : Hp) (vs : List V) (Q : VK) (E : XK), Room k (A.deeper (envOfC qual (defScope st) s.heap.objs.size f cdv)) → sp vs H Q E →
      ∃ t, PSs (cxOf (CX1 P w) P w K mg base N qual (defScope st) f cdv A outer s H E) (defBody st) t ∧ t { nx := fun _ H' => Q .non H', rt := Q } (start N vs) H) : FnOk P w K mg base (CX1 P w) (k + 1) f fd ps sp := by
  obtain ⟨oc, od, kV, doc, pm, an, cdv, ct, osl, rfl, lk, hcd⟩ := F.ex
  refine fn_of lk hcd S len fun A outer s H vs Q E hr hsp => ?_
  exact hbody cdv A outer s H vs Q E hr hsp
theorem Fun.okn {x qual : Str} {st : Stmt} {f : Addr} {fd : FuncData} {N ps : List Str} {k : Nat} {sp : Sp} (F : Fun K x qual st f fd) (S : FnScope N ps (defScope st)) (len : ∀ vs H Q E, sp vs H Q E → vs.length = ps.length)
    (hbody : ∀ (cdv : Value) (A : Around) (outer : List Env) (s : Shared) (H : Hp) (vs : List V) (Q : VK) (E : XK), Room k (A.deeper (envOfC qual (defScope st) s.heap.objs.size f cdv)) → sp vs H Q E →
      ∃ t, PSs (cxOf (CX1 P w) P w K mg base N qual (defScope st) f cdv A outer s H E).nox (defBody st) t ∧ t { nx := fun _ H' => Q .non H', rt := Q } (start N vs) H) : FnOk P w K mg base (CX1 P w) (k + 1) f fd ps sp := by
  obtain ⟨oc, od, kV, doc, pm, an, cdv, ct, osl, rfl, lk, hcd⟩ := F.ex
  refine fn_of lk hcd S len fun A outer s H vs Q E hr hsp => ?_
  obtain ⟨t, h, q⟩ := hbody cdv A outer s H vs Q E hr hsp
  exact ⟨t, h.nox, q⟩
end
end L2

set_option maxHeartbeats 4000000
namespace L2
open PySem PySem.Spec PyProof.Rows
section
variable {X : Cx}
theorem op_no {f : Value → Value → Sem Value} : OpR X f (fun _ _ _ _ => False) := fun _ _ _ _ _ _ _ _ _ _ _ _ h => h.elim
def oLt := (op_lt (X := X)).or op_lt_str
def isiAny := (call_isi (X := X)).or call_isiE
def ixAny := ix_seq (X := X)
theorem mt_app : MtR X "list.append" rAppend := mt_append (X := X)
end
theorem cls_of_mro {K : PySem.W.Frag} {C : Addr} {b : Value} {r : Bool} (h : PySem.W.mroIn K C b = some r) : (PySem.W.clsIn K C).isSome = true := by
  unfold PySem.W.mroIn at h
  cases q : PySem.W.clsIn K C with
  | none => rw [q] at h; cases h
  | some c => rfl
end L2

set_option maxHeartbeats 4000000
namespace L2
open PySem PySem.Spec PyProof.Rows
section
variable {X : Cx}
/-! ### slices of texts -/
def cutL (xs : List Nat) (lo hi : Option Int) : List Nat := (xs.drop (HT.sIx xs.length 0 lo)).take (HT.sIx xs.length xs.length hi - HT.sIx xs.length 0 lo)
def cutS (z : Str) (lo hi : Option Int) : Str := ⟨(cutL z.cps.toList lo hi).toArray⟩
theorem slice_cutS (z : Str) (lo hi : Option Int) : Txt.slice z lo hi = cutS z lo hi := by
  obtain ⟨h1, h2, _⟩ := slice_bounds lo hi z.length
  have e : Builtin.Str.strSliceIndices lo hi 1 z.length = sliceRange (sliceBounds lo hi none z.length).1 (sliceBounds lo hi none z.length).2.1 1 := rfl
  have hl : z.cps.toList.length = z.length := by rw [Array.length_toList]; rfl
  rw [h1, h2, sliceRange_one] at e
  have hb := HT.sIx_le z.length z.length (Nat.le_refl _) hi
  unfold Txt.slice cutS cutL
  rw [e, pick_run, hl]
  split
  · rename_i q
    rw [List.length_map, List.length_range] at q
    have q' : HT.sIx z.length z.length hi - HT.sIx z.length 0 lo = z.length := by simpa using q
    obtain ⟨cps⟩ := z
    have hz : (⟨cps⟩ : Str).length = cps.size := rfl
    have : (cps.toList.drop (HT.sIx (Str.length ⟨cps⟩) 0 lo)).take (HT.sIx (Str.length ⟨cps⟩) (Str.length ⟨cps⟩) hi - HT.sIx (Str.length ⟨cps⟩) 0 lo) = cps.toList := by
      rw [q', hz]
      rcases Nat.eq_zero_or_pos cps.size with z0 | zp
      · have : cps.toList = [] := List.eq_nil_of_length_eq_zero (by simpa using z0)
        rw [this]; simp
      · have : HT.sIx cps.size 0 lo = 0 := by rw [hz] at q' hb; omega
        rw [this, List.drop_zero, List.take_of_length_le (by rw [Array.length_toList]; exact Nat.le_refl _)]
    show (⟨cps⟩ : Str) = ⟨((cps.toList.drop (HT.sIx (Str.length ⟨cps⟩) 0 lo)).take (HT.sIx (Str.length ⟨cps⟩) (Str.length ⟨cps⟩) hi - HT.sIx (Str.length ⟨cps⟩) 0 lo)).toArray⟩
    rw [this]
  · rfl
def rSlS : V → Option Int → Option Int → Hp → VK → Prop := fun x lo hi H Q => ∃ z : Str, x = .str z ∧ z.length ≤ sizeLine ∧ Q (.str (cutS z lo hi)) H
theorem sl_str : SlR X rSlS := by
  intro pins s σ H x v vl vu lo hi sl Q I rx hs pl pu h
  obtain ⟨z, rfl, hz, q⟩ := h
  obtain ⟨t, rfl⟩ := rx
  refine ⟨"str", _, F.slot_str_getitem.lookup, typeIs_str _ _ _, ?_⟩
  rw [← slice_cutS] at q
  have fin : ∀ (t' : Tok) (k : Nat), EP X pins σ Q (.str (Txt.slice z lo hi) t') { s with toks := k } := fun t' k => ⟨.str _, H, I.tok k, ⟨t', rfl⟩, q⟩
  have hl := Nat.le_trans (Txt.slice_le z lo hi) hz
  cases pl with
  | none =>
    cases pu with
    | none => exact wpAny_getItem_str_slice (l := none) (u := none) (st := none) hs rfl (post_val_or_str ⟨hl, fin⟩)
    | int j tj => exact wpAny_getItem_str_slice (l := none) (u := some (j, tj)) (st := none) hs rfl (post_val_or_str ⟨hl, fin⟩)
  | int i ti =>
    cases pu with
    | none => exact wpAny_getItem_str_slice (l := some (i, ti)) (u := none) (st := none) hs rfl (post_val_or_str ⟨hl, fin⟩)
    | int j tj => exact wpAny_getItem_str_slice (l := some (i, ti)) (u := some (j, tj)) (st := none) hs rfl (post_val_or_str ⟨hl, fin⟩)
def slAny := (sl_list (X := X)).or sl_str

/-! ### a text's signs, walked -/
def Its (z : Str) : It := ⟨fun i _ => i < z.length, fun i H x H' => H' = H ∧ ∃ c, z.cps.toList[i]? = some c ∧ x = .str ⟨#[c]⟩, fun i _ => z.length ≤ i⟩
theorem turn_str {P : Program} {w : World} {K : PySem.W.Frag} {nm : Str} {np : Pos} {ty : String} (it : Addr) (z : Str) (t : Tok)
    (hi : ∀ (A : Around) (s : Shared) (i c : Nat) (Q : Option Value → Shared → Prop) (E : Value → Shared → Prop), s.heap.IsStrIter it ty z t i → z.cps[i]? = some c →
      (∀ h', h'.IsStrIter it ty z t (i + 1) → Heap.SameBut it s.heap h' → Q (some (.str ⟨#[c]⟩ s.toks)) { s with heap := h', toks := s.toks + 1 }) → wpAny (model P w) A (pyNext (.ref it)) Q E s)
    (he : ∀ (A : Around) (s : Shared) (i : Nat) (Q : Option Value → Shared → Prop) (E : Value → Shared → Prop), A.handled = none → s.heap.IsStrIter it ty z t i → z.cps[i]? = none →
      (∀ h', Heap.ExtBut it s.heap h' → Q none { s with heap := h' }) → wpAny (model P w) A (pyNext (.ref it)) Q E s)
    (hse : ∀ (A : Around) (s : Shared) (i : Nat) (Q : Value → Shared → Prop) (E : Value → Shared → Prop), s.heap.IsStrIter it ty z t i → Q (.ref it) s → wpAny (model P w) A (pyIter (.ref it)) Q E s) :
    Turn P w K (.Name nm np) (Its z) [it] it (fun i h => h.IsStrIter it ty z t i) where
  mem := by simp
  obj := fun i h st b hb => by
    have e : b = it := by simpa using hb
    subst e
    obtain ⟨o, ho, _, hd⟩ := st
    exact ⟨o, ho, fun v q => by rw [hd] at q; cases q⟩
  keep := fun i h h' st k => by
    obtain ⟨o, ho, r⟩ := st
    exact ⟨o, k it (by simp) o ho, r⟩
  item := by
    intro X hP hw hK hc i pins s σ H E I hf st hg
    subst hP hw hK
    obtain ⟨f0, f1, f2, f3, f4, f5⟩ := hf it (by simp)
    have hg' : i < z.cps.size := hg
    refine hi X.A s i z.cps[i] _ E st (by simp [hg']) fun h' st' sb => ?_
    have I1 : Inv X pins σ H { s with heap := h', toks := s.toks + 1 } := I.turned (fun b o hb e => (sb.2 b hb).trans e) f0 f1 f3 f4 f5
    exact ⟨_, rfl, wpAny_pure ⟨.str ⟨#[z.cps[i]]⟩, H, I1, ⟨_, rfl⟩, ⟨rfl, z.cps[i], by rw [Array.getElem?_toList]; simp [hg'], rfl⟩, st', fun b hb => (hf b hb).1⟩⟩
  done := by
    intro X hP hw hK hc i pins s σ H E I hf st hg
    subst hP hw hK
    obtain ⟨f0, f1, f2, f3, f4, f5⟩ := hf it (by simp)
    have hg' : z.cps.size ≤ i := hg
    exact he X.A s i _ E (I.ok.hd hc) st (by simp [hg']) fun h' eb => ⟨rfl, I.turned (t' := s.toks) (fun b o hb e => eb b o hb e) f0 f1 f3 f4 f5⟩
  self := fun A i s Q E st h => hse A s i Q E st h
/-- two ways to be walked -/
theorem PI.or {tg iter : Expr} {te : TE} {f g : V → Hp → (It → Hp → Prop) → Prop} (h : PI X tg iter (fun σ H R => te σ H fun x H1 => f x H1 R)) (h' : PI X tg iter (fun σ H R => te σ H fun x H1 => g x H1 R)) (he : PE X iter te)
    (hf : ∀ pins s σ H x v R, Inv X pins σ H s → RelV x v → f x H R → wpAny (model X.prog X.w) X.A (pyIter v) (PIE X pins σ tg R) X.xe s)
    (hg : ∀ pins s σ H x v R, Inv X pins σ H s → RelV x v → g x H R → wpAny (model X.prog X.w) X.A (pyIter v) (PIE X pins σ tg R) X.xe s) :
    PI X tg iter (fun σ H R => te σ H fun x H1 => f x H1 R ∨ g x H1 R) := by
  intro pins s σ H R I hq
  refine thn (he pins s σ H _ I hq) fun v s1 ⟨x, H1, I1, r1, q1⟩ => ?_
  rcases q1 with q1 | q1
  · exact hf pins s1 σ H1 x v R I1 r1 q1
  · exact hg pins s1 σ H1 x v R I1 r1 q1
/-! ### a text many times over, texts compared, joined, formatted -/
def repS (z : Str) (n : Int) : Str := ⟨(List.replicate n.toNat z.cps.toList).flatten.toArray⟩
theorem foldl_cps (a : Array Nat) : ∀ (k : Nat) (acc : Array Nat), (List.replicate k a).foldl (· ++ ·) acc = acc ++ ((List.replicate k a.toList).flatten).toArray
  | 0, acc => by simp
  | k + 1, acc => by
    rw [List.replicate_succ, List.foldl_cons, foldl_cps a k, List.replicate_succ, List.flatten_cons]
    apply Array.ext'
    simp [List.append_assoc]
theorem mul_repS {z : Str} {n : Int} : Txt.mul z n = repS z n := by
  unfold Txt.mul repS
  by_cases h : n < 1
  · rw [if_pos h, show n.toNat = 0 by omega]; rfl
  rw [if_neg h]
  split
  · rename_i q
    obtain ⟨cps⟩ := z
    rw [Bool.or_eq_true] at q
    rcases q with q | q
    · have : n = 1 := by simpa using q
      subst this
      show (⟨cps⟩ : Str) = ⟨([cps.toList].flatten).toArray⟩
      simp
    · have : (⟨cps⟩ : Str).length = 0 := by simpa using q
      have : cps.size = 0 := this
      have e : cps.toList = [] := List.eq_nil_of_length_eq_zero (by simpa using this)
      have e2 : (List.replicate n.toNat cps.toList).flatten = [] := by rw [e]; simp
      show (⟨cps⟩ : Str) = ⟨((List.replicate n.toNat cps.toList).flatten).toArray⟩
      rw [e2, ← e]
  · rw [foldl_cps]; simp
theorem op_mul_str : OpR X (binaryOp .Mult) (fun x y H Q => ∃ z n, x = .str z ∧ y = .int n ∧ 0 ≤ n ∧ n ≤ 4000 ∧ z.length ≤ 4000 ∧ Q (.str (repS z n)) H) := by
  intro pins s σ H x y v u Q I rx ry h
  obtain ⟨z, n, rfl, rfl, h0, h1, hz, q⟩ := h
  obtain ⟨t, rfl⟩ := rx
  obtain ⟨t', rfl⟩ := ry
  rw [← mul_repS] at q
  have hs : sizeLine = 16777216 := sizeLine_eq
  have hm : z.length * n.toNat ≤ 4000 * 4000 := Nat.mul_le_mul hz (by omega)
  refine SB.mul ⟨by rw [decide_eq_false (by omega), decide_eq_false (by omega)]; rfl, fun h _ hh => ?_, fun _ _ => ?_⟩ fun t' k => ⟨.str _, H, I.tok k, ⟨t', rfl⟩, q⟩
  · have hn : 0 < n := by
      rcases Int.lt_or_eq_of_le h0 with z | z
      · exact z
      · subst z; trivial
    have : (z.length : Int) ≤ (2 ^ 63 - 1) / n := Int.le_ediv_of_mul_le hn (Int.le_trans (Int.mul_le_mul (Int.ofNat_le.mpr hz) h1 h0 (by omega)) (by decide))
    omega
  · unfold Builtin.Str.tooLong
    rw [hs]
    exact decide_eq_false (by omega)
theorem op_le_str : OpR X (compareOp .LtE) (fun x y H Q => ∃ i j, x = .str i ∧ y = .str j ∧ Q (.bl (!decide (j.cps.toList < i.cps.toList))) H) := by
  intro pins s σ H x y v u Q I rx ry h
  obtain ⟨i, j, rfl, rfl, q⟩ := h
  obtain ⟨t, rfl⟩ := rx
  obtain ⟨t', rfl⟩ := ry
  exact P.le_str ⟨.bl _, H, I, rfl, q⟩
end
end L2

set_option maxHeartbeats 4000000
namespace L2
open PySem PySem.Spec PyProof.Rows

/-! ### a comprehension: what its block closes over -/
theorem closure_go {env : Env} : ∀ (names : List (Str × NameKind)) (acc : List (Str × Addr)), (∀ p ∈ names, p.2 = .free → ∃ c, env.cells.lookup p.1 = some c) → (∀ x c, acc.lookup x = some c → env.cells.lookup x = some c) →
    ∃ cl, (forIn names acc fun (x : Str × NameKind) (r : List (Str × Addr)) => if (x.2 == NameKind.free) = true then (cellOf env x.1 >>= fun c => (pure (ForInStep.yield ((x.1, c) :: r)) : Sem _)) else (pure (ForInStep.yield r) : Sem _)) = pure cl ∧
      (∀ x c, cl.lookup x = some c → env.cells.lookup x = some c) ∧ (∀ x c, acc.lookup x = some c → ∃ c', cl.lookup x = some c') ∧ ∀ x, (x, NameKind.free) ∈ names → ∃ c, cl.lookup x = some c
  | [], acc, _, h2 => ⟨acc, rfl, h2, fun x c e => ⟨c, e⟩, fun _ z => nomatch z⟩
  | (n, k) :: r, acc, h1, h2 => by
    rw [List.forIn_cons]
    by_cases hk : k = .free
    · subst hk
      obtain ⟨c, hc⟩ := h1 (n, .free) List.mem_cons_self rfl
      have e : cellOf env n = pure c := by unfold cellOf; rw [hc]
      have sub : ∀ x c', ((n, c) :: acc).lookup x = some c' → env.cells.lookup x = some c' := fun x c' q => by
        rw [List.lookup_cons] at q
        cases hx : x == n with
        | true => rw [hx] at q; cases q; rw [eq_of_beq hx]; exact hc
        | false => rw [hx] at q; exact h2 x c' q
      obtain ⟨cl, q1, q2, q3, q4⟩ := closure_go r ((n, c) :: acc) (fun p hp => h1 p (List.mem_cons_of_mem _ hp)) sub
      refine ⟨cl, ?_, q2, fun x c' e' => ?_, fun x hx => ?_⟩
      · show ((if (NameKind.free == NameKind.free) = true then (cellOf env n >>= fun c => pure (ForInStep.yield ((n, c) :: acc))) else pure (ForInStep.yield acc)) >>= _) = _
        rw [if_pos (show (NameKind.free == NameKind.free) = true by decide), e, pure_bind, pure_bind]; exact q1
      · cases hx : x == n with
        | true => exact q3 x c (by rw [List.lookup_cons, hx])
        | false => exact q3 x c' (by rw [List.lookup_cons, hx]; exact e')
      · rcases List.mem_cons.mp hx with z | z
        · cases z; exact q3 n c (by rw [List.lookup_cons, beq_self_eq_true])
        · exact q4 x z
    · have hb : (k == NameKind.free) = false := by simpa using hk
      obtain ⟨cl, q1, q2, q3, q4⟩ := closure_go r acc (fun p hp => h1 p (List.mem_cons_of_mem _ hp)) h2
      refine ⟨cl, ?_, q2, q3, fun x hx => ?_⟩
      · show ((if (k == NameKind.free) = true then _ else pure (ForInStep.yield acc)) >>= _) = _
        rw [if_neg (by rw [hb]; exact Bool.false_ne_true), pure_bind]; exact q1
      · rcases List.mem_cons.mp hx with z | z
        · cases z; exact absurd rfl hk
        · exact q4 x z
theorem closure_of {env : Env} {scope : Scope} (h : ∀ p ∈ scope.names, p.2 = .free → ∃ c, env.cells.lookup p.1 = some c) :
    ∃ cl, closureFor scope env = pure cl ∧ (∀ x c, cl.lookup x = some c → env.cells.lookup x = some c) ∧ ∀ x, (x, NameKind.free) ∈ scope.names → ∃ c, cl.lookup x = some c := by
  obtain ⟨cl, q1, q2, _, q4⟩ := closure_go scope.names [] h (fun _ _ z => nomatch z)
  refine ⟨cl, ?_, q2, q4⟩
  unfold closureFor
  dsimp only
  rw [q1]
  rfl
theorem lookup_mem' : ∀ {l : List (Str × NameKind)} {x : Str} {k : NameKind}, l.lookup x = some k → (x, k) ∈ l
  | (n, k') :: r, x, k, h => by
    rw [List.lookup_cons] at h
    cases hx : x == n with
    | true => rw [hx] at h; cases h; rw [eq_of_beq hx]; exact List.mem_cons_self
    | false => rw [hx] at h; exact List.mem_cons_of_mem _ (lookup_mem' h)
/-- a name of the block that lies in a cell was free -/
theorem relabel_cell {scope : Scope} {env : Env} {x : Str} (hc : ∀ p ∈ scope.names, p.2 ≠ .cell) (h : (relabel scope env).names.lookup x = some .cell ∨ (relabel scope env).names.lookup x = some .free) : (x, NameKind.free) ∈ scope.names := by
  have : ∃ k, (x, k) ∈ (relabel scope env).names ∧ (k = .cell ∨ k = .free) := by
    rcases h with h | h
    · exact ⟨_, lookup_mem' h, .inl rfl⟩
    · exact ⟨_, lookup_mem' h, .inr rfl⟩
  obtain ⟨k, hm, hk⟩ := this
  obtain ⟨⟨n, k0⟩, hp, e⟩ := List.mem_map.mp hm
  dsimp only at e
  split at e
  · rename_i q
    cases e
    have : k0 = .free := by
      rw [Bool.and_eq_true, Bool.and_eq_true] at q
      exact eq_of_beq q.1.1
    rw [this] at hp; exact hp
  · cases e
    rcases hk with rfl | rfl
    · exact absurd rfl (hc _ hp)
    · exact hp

theorem relabel_free {env : Env} : ∀ {names : List (Str × NameKind)} {x : Str}, names.lookup x = some .free →
    (names.map fun (n, k) => if (k == NameKind.free && env.scope.kind == .function && env.kindOf n == some .cell) then (n, NameKind.cell) else (n, k)).lookup x ≠ some .local
  | [], _, h => nomatch h
  | (n, k) :: r, x, h => by
    rw [List.map_cons]
    rw [List.lookup_cons] at h
    dsimp only
    cases hx : x == n with
    | true =>
      rw [hx] at h
      cases h
      split
      · rw [List.lookup_cons, hx]; intro z; cases z
      · rw [List.lookup_cons, hx]; intro z; cases z
    | false =>
      rw [hx] at h
      split
      · rw [List.lookup_cons, hx]; exact relabel_free h
      · rw [List.lookup_cons, hx]; exact relabel_free h

/-- where a comprehension's block runs: its cells, its names' place, the state at its start, the iterator's records -/
structure CP where
  cl : List (Str × Addr)
  C : Addr
  s : Shared
  H : Hp
  fp : List Addr
/-- the context of a comprehension's block -/
def Cx.compC (X : Cx) (N : List Str) (scope : Scope) (c : CP) : Cx :=
  { X with N := N, s₀ := c.s, H₀ := c.H, env := compEnvC scope c.cl c.C X.env, outer := X.stack, ex := c.fp, fn := fun _ => false, pn := [], xe := fun _ _ => False }
abbrev Cx.comp (X : Cx) (N : List Str) (scope : Scope) (cl : List (Str × Addr)) (C : Addr) (s : Shared) (H : Hp) (fp : List Addr) : Cx := X.compC N scope ⟨cl, C, s, H, fp⟩
section
variable {X : Cx} {pins : List (Addr × Obj)} {σ : St} {H : Hp} {s : Shared} {N : List Str} {scope : Scope} {cl : List (Str × Addr)} {C : Addr} {fp : List Addr}
theorem Inv.compOk (I : Inv X pins σ H s) (hf : ∀ b ∈ fp, FpOk X pins H b) (hlt : ∀ b ∈ fp, b < s.heap.objs.size) (hC : s.heap.objs.size ≤ C) (hkind : scope.kind = .function) (hcell : ∀ p ∈ scope.names, p.2 ≠ .cell)
    (h1 : ∀ x c, cl.lookup x = some c → X.env.cells.lookup x = some c) (h2 : ∀ x, (x, NameKind.free) ∈ scope.names → ∃ c, cl.lookup x = some c) : (X.comp N scope cl C s H fp).Ok where
  mod := I.ok.mod
  kind := hkind
  glob := I.ok.glob
  blt := I.ok.blt
  above := hC
  inj := fun x y c e1 e2 => I.ok.inj x y c (h1 x c e1) (h1 y c e2)
  has := fun x h => h2 x (relabel_cell hcell h)
  cab := fun _ _ z => nomatch z
  hd := I.ok.hd
  frames := I.ok.frames
  stk := .inl rfl
  exf := fun b hb => ⟨fun z => Nat.lt_irrefl _ (Nat.lt_of_lt_of_le (hlt b hb) (by rw [z]; exact hC)), fun x c e => (hf b hb).2.2.2.2.1 x c (h1 x c e)⟩
  bs := I.bs
  bsz := Nat.le_trans I.ok.bsz I.sz
  noex := fun b o e hb => by
    rcases (hf b hb).2.2.2.1 with z | z
    · exact I.ok.noex b o e z
    · exact absurd (Nat.lt_of_lt_of_le (Heap.lt_size e) (Nat.le_trans I.ok.bsz z)) (Nat.lt_irrefl _)
  exfs := fun b hb z => by
    rcases List.mem_cons.mp (I.stkSub b z) with e | e
    · exact (hf b hb).2.1 e
    · exact (hf b hb).2.2.1 e
  funs := I.stack
  frf := I.stkFree
end

/-- what the block's names hold at its start: nothing, or what the def's name in that slot holds -/
def compSt (cap : List (Option Nat)) (σ : St) : St := cap.map fun o => match o with
  | none => none
  | some j => (σ[j]?).join
/-- the tests of a comprehension, from the left -/
def PIfs (X : Cx) (ifs : List Expr) (t : TT) : Prop := ∀ (pins : List (Addr × Obj)) (s : Shared) (σ : St) (H : Hp) (Q : Bool → Hp → Prop), Inv X pins σ H s → t σ H Q →
  wpAny (model X.prog X.w) X.A (forIn ifs true fun (c : Expr) (r : Bool) => if r = true then (PySem.isTrue c X.env (eval c X.env) >>= fun ok => (pure (ForInStep.yield ok) : Sem _)) else (pure (ForInStep.yield r) : Sem _)) (TP X pins σ Q) X.xe s
def tTrue : TT := fun _ H Q => Q true H
theorem pf_nil {X : Cx} : PIfs X [] tTrue := fun pins s σ H Q I h => wpAny_tests_nil ⟨H, I, h⟩
theorem pf_one {X : Cx} {c : Expr} {t : TT} (h : PT X c t) : PIfs X [c] t := fun pins s σ H Q I hq => wpAny_tests_one (h pins s σ H Q I hq)

/-- a comprehension's loop, whatever its target -/
theorem comp_loop {prog : Program} {w : World} {A : Around} {R : Result → Shared → Prop} {s : Shared} {elt tg iter : Expr} {ifs : List Expr} {scope : Scope} {pos : Pos} {it acc : Value} {env : Env} (J : Nat → Shared → Prop)
    (turn : ∀ n s, J n s → wpAny (model prog w) A (pyNext it) (fun r s₁ => match r with
      | none => R (.ok .next) s₁
      | some v => wpAny (model prog w) A (letOwnedTupleGo tg it v) (fun _ s₂ => wpAny (model prog w) A (assign tg env v) (fun _ s₃ =>
          wpAny (model prog w) A (forIn ifs true fun (c : Expr) (r : Bool) => if r = true then (PySem.isTrue c env (eval c env) >>= fun ok => (pure (ForInStep.yield ok) : Sem _)) else (pure (ForInStep.yield r) : Sem _)) (fun ok s₄ =>
            if ok = true then wpAny (model prog w) A (eval elt env) (fun x s₅ => wpAny (model prog w) A (call (.builtin "list.append") [acc, x]) (fun _ s₆ => ∃ m, m < n ∧ J m s₆) (fun _ _ => False) s₅) (fun _ _ => False) s₄
            else ∃ m, m < n ∧ J m s₄) (fun _ _ => False) s₃) (fun _ _ => False) s₂) (fun _ _ => False) s₁) (fun _ _ => False) s)
    (n : Nat) (h : J n s) : codeAny (model prog w) A (.compLoop (.ListComp elt [⟨tg, iter, ifs, 0⟩] scope pos) 0 it acc env) R s := by
  have off : ∀ {α : Type} {t : Sem α} {Q : α → Shared → Prop} {E : Value → Shared → Prop} {s : Shared}, wpAny (model prog w) A t Q (fun _ _ => False) s → wpAny (model prog w) A t Q E s := fun h => wpAny_mono h (fun _ _ q => q) fun _ _ z => z.elim
  refine codeAny_loop rfl J (fun n s hJ => ?_) n h
  show wpAny _ A ((compTurn (.ListComp elt [⟨tg, iter, ifs, 0⟩] scope pos) 0 it acc env).onRaise (fun x => do noteFrame x env; theTreesLotGoes x)) _ _ s
  refine wpAny_noted ?_
  rw [compTurn_list]
  refine wpAny_bind (wpAny_standAt (wpAny_bind (off (thn (turn n s hJ) fun r s₁ h₁ => ?_))))
  cases r with
  | none => exact wpAny_pure h₁
  | some v =>
    refine wpAny_bind (off (thn h₁ fun _ s₂ h₂ => wpAny_bind (off (thn h₂ fun _ s₃ h₃ => wpAny_bind (off (thn h₃ fun ok s₄ h₄ => ?_))))))
    cases ok with
    | false => exact wpAny_pure ⟨rfl, h₄⟩
    | true => exact wpAny_bind (wpAny_bind (off (thn h₄ fun x s₅ h₅ => wpAny_bind (off (thn h₅ fun _ s₆ h₆ => wpAny_pure (wpAny_pure ⟨rfl, h₆⟩))))))

/-- a comprehension's turns -/
def LCgo (J : It) (g : TG) (tt : TT) (te : TE) (D : Addr) (σ : St) (H : Hp) (Q : VK) : Prop := ∃ W : Nat → Nat → St → Hp → Prop, (∃ m, W 0 m σ H) ∧ ∀ i m σc Hc, W i m σc Hc →
  (J.stop i Hc ∧ Q (.ref D) Hc) ∨ (J.go i Hc ∧ ∃ N : St → Hp → Prop, (∀ σ' H', N σ' H' → ∃ m', m' < m ∧ W (i + 1) m' σ' H') ∧ ∀ x H', J.yld i Hc x H' → g x σc H' fun σ2 H2 => tt σ2 H2 fun b H3 =>
    if b = true then te σ2 H3 fun v H4 => ∃ ys, H4 D = some (.lst ys) ∧ ys.length < sizeLine ∧ N σ2 (upd H4 D (.lst (ys ++ [v]))) else N σ2 H3)
/-- a comprehension's reading -/
def tLC (cap : List (Option Nat)) (wi : TI) (g : CP → TG) (tt : CP → TT) (te : CP → TE) : TE := fun σ H Q => wi σ H fun J H1 => ∀ D, H1 D = none → ∀ c : CP, LCgo J (g c) (tt c) (te c) D (compSt cap σ) (upd H1 D (.lst [])) Q

section
variable {X : Cx} {N : List Str} {scope : Scope} {tg elt iter : Expr} {ifs : List Expr} {pos : Pos} {wi : TI} {g : CP → TG} {tt : CP → TT} {te : CP → TE} {cap : List (Option Nat)}
/-- the block's parts, in whatever context it runs -/
structure CompParts (X : Cx) (N : List Str) (scope : Scope) (tg : Expr) (ifs : List Expr) (elt : Expr) (g : CP → TG) (tt : CP → TT) (te : CP → TE) : Prop where
  tg : ∀ c, PG (X.compC N scope c) tg (g c)
  ifs : ∀ c, PIfs (X.compC N scope c) ifs (tt c)
  elt : ∀ c, PE (X.compC N scope c) elt (te c)
/-- the block's names: which of them the def holds in a cell -/
def CapOk (X : Cx) (N : List Str) (scope : Scope) (cap : List (Option Nat)) : Prop := cap.length = N.length ∧ ∀ (i : Nat) (x : Str) (j : Nat), N[i]? = some x → cap[i]? = some (some j) → X.N[j]? = some x ∧ X.env.kindOf x = some .cell ∧ scope.names.lookup x = some .free

theorem comp_block (hc : X.calm = true) (hkind : scope.kind = .function) (hcell : ∀ p ∈ scope.names, p.2 ≠ .cell) (hcap : CapOk X N scope cap) (B : CompParts X N scope tg ifs elt g tt te) {cl : List (Str × Addr)}
    (h1 : ∀ x c, cl.lookup x = some c → X.env.cells.lookup x = some c) (h2 : ∀ x, (x, NameKind.free) ∈ scope.names → ∃ c, cl.lookup x = some c) (hfk : X.env.scope.kind = .function)
    {pins : List (Addr × Obj)} {σ : St} {H : Hp} {s : Shared} {it : Addr} {fp : List Addr} {tn : Nat → Heap → Prop} {J : It} {Q : VK} {E : Value → Shared → Prop} {RR : Value → Addr → Result → Shared → Prop}
    (I : Inv X pins σ H s) (T : Turn X.prog X.w X.K tg J fp it tn) (st : tn 0 s.heap) (f : ∀ b ∈ fp, FpOk X pins H b)
    (h : ∀ D, H D = none → ∀ c : CP, LCgo J (g c) (tt c) (te c) D (compSt cap σ) (upd H D (.lst [])) Q)
    (hR : ∀ D C H' s' m, Inv X pins σ H' s' → Q (.ref D) H' → s'.heap.Ns C m → s.heap.objs.size ≤ C → H' C = none → RR (.ref D) C (.ok .next) s') :
    wpAny (model X.prog X.w) X.A (newList []) (fun acc s₃ => wpAny (model X.prog X.w) X.A (newFunctionEnv scope X.env.globals cl [] X.env.qual none .none (some X.env)) (fun cenv s₄ =>
      codeAny (model X.prog X.w) X.A (.compStart (.ListComp elt [⟨tg, iter, ifs, 0⟩] scope pos) 0 (.ref it) acc { cenv with scope := relabel scope X.env }) (RR acc cenv.locals) s₄) E s₃) E s := by
  have hlt : ∀ b ∈ fp, b < s.heap.objs.size := fun b hb => by obtain ⟨o, e, _⟩ := T.obj _ _ st b hb; exact Heap.lt_size e
  refine wpAny_newObj_type (wpAny_newFunctionEnv hcell (by intro y hy; simp at hy) (fun h₁ hns₁ hsb₁ => ?_) hkind)
  dsimp only at hns₁ hsb₁ ⊢
  generalize hD : s.heap.push { cls := .type "list", dict := none, data := .seq ([] : List Value).toArray } = G at hns₁ hsb₁ ⊢
  have hC : G.objs.size = s.heap.objs.size + 1 := by rw [← hD, Heap.size_push]
  have hCle : s.heap.objs.size ≤ G.objs.size := by rw [hC]; exact Nat.le_succ _
  have hDC : s.heap.objs.size ≠ G.objs.size := by rw [hC]; exact Nat.ne_of_lt (Nat.lt_succ_self _)
  have old : ∀ b o, s.heap.get? b = some o → h₁.get? b = some o := fun b o e =>
    hsb₁.extBut b o (by have := Heap.lt_size e; rw [hC]; exact Nat.ne_of_lt (Nat.lt_succ_of_lt this)) (Heap.get?_push_of_some _ (hD ▸ Heap.get?_push_of_some _ e))
  have hacc : h₁.get? s.heap.objs.size = some { cls := .type "list", dict := none, data := .seq ([] : List Value).toArray } := hsb₁.extBut _ _ hDC (Heap.get?_push_of_some _ (hD ▸ Heap.get?_push_size _ rfl))
  have hDn : H s.heap.objs.size = none := I.hok.fresh (Nat.le_refl _)
  have hCn : H G.objs.size = none := I.hok.fresh hCle
  obtain ⟨W, ⟨m0, w0⟩, turn⟩ := h s.heap.objs.size hDn ⟨cl, G.objs.size, s, H, fp⟩
  have ok := I.compOk (N := N) (C := G.objs.size) f hlt hCle hkind hcell h1 h2
  have tup' : ∀ b xs, H b = some (.tup xs) → upd H s.heap.objs.size (.lst []) b = some (.tup xs) := fun b xs e => by rw [upd_ne (ne_of_none e hDn)]; exact e
  have hok1 : HOk X.prog X.w (upd H s.heap.objs.size (.lst [])) h₁ := I.hok.laid old (Nat.le_refl _) ⟨Nat.zero_le _, [], _, .nil, hacc⟩
  have I1 : Inv (X.comp N scope cl G.objs.size s H fp) [] (compSt cap σ) (upd H s.heap.objs.size (.lst [])) { s with heap := h₁, toks := s.toks + ([] : List (Str × Value)).length } := by
    refine ⟨ok, rfl, I.bare, Un.laid old (Nat.le_refl _) hDn, ⟨_, hns₁, fun i x v e1 e2 e3 => ?_⟩, fun x c e => ?_, ?_, fun x c e => ?_, (fun p hp => absurd (show p ∈ ([] : List (Addr × Obj)) from hp) (by simp)), hok1, ?_⟩
    · unfold compSt at e2
      rw [List.getElem?_map] at e2
      cases hj : cap[i]? with
      | none => rw [hj] at e2; cases e2
      | some o =>
        cases o with
        | none => rw [hj] at e2; cases e2
        | some j =>
          rw [hj] at e2
          have e2' : (σ[j]?).join = some v := Option.some.inj e2
          have e4 : σ[j]? = some (some v) := by
            cases q : σ[j]? with
            | none => rw [q] at e2'; cases e2'
            | some y => rw [q] at e2'; exact congrArg some e2'
          obtain ⟨c1, c2, c3⟩ := hcap.2 i x j e1 hj
          obtain ⟨m, hn, hl⟩ := I.loc
          obtain ⟨u, r, l⟩ := hl j x v c1 e4 (.inr (.inl c2))
          refine ⟨u, r, ?_⟩
          rcases l with ⟨k, _⟩ | ⟨_, c, hc', z⟩
          · rw [c2] at k; cases k
          · have fm : (x, NameKind.free) ∈ scope.names := lookup_mem' c3
            obtain ⟨c', hc2⟩ := h2 x fm
            have : c' = c := by have := h1 x c' hc2; rw [hc'] at this; exact (Option.some.inj this).symm
            subst this
            obtain ⟨oc, hoc, hd⟩ := z
            refine .inr ⟨?_, c', hc2, ⟨oc, old _ _ hoc, hd⟩⟩
            rcases e3 with q | q | q
            · exact absurd q (relabel_free c3)
            · exact .inl q
            · exact .inr q
    · obtain ⟨v, oc, hoc, hd⟩ := I.cell x c (h1 x c e)
      exact ⟨v, oc, old _ _ hoc, hd⟩
    · rw [show (X.comp N scope cl G.objs.size s H fp).env.locals = G.objs.size from rfl, upd_ne (Ne.symm hDC)]; exact hCn
    · have z := I.freeC x c (h1 x c e)
      obtain ⟨v, oc, hoc, hd⟩ := I.cell x c (h1 x c e)
      rw [upd_ne (Nat.ne_of_lt (Heap.lt_size hoc))]; exact z
    · unfold compSt; rw [List.length_map]; exact hcap.1
  have fok : ∀ {H' : Hp}, (∀ b ∈ fp, H' b = none) → ∀ b ∈ fp, FpOk (X.comp N scope cl G.objs.size s H fp) [] H' b := fun hn b hb =>
    ⟨hn b hb, (ok.exf b hb).1, ok.exfs b hb, .inl hb, (ok.exf b hb).2, (fun p hp => absurd (show p ∈ ([] : List (Addr × Obj)) from hp) (by simp))⟩
  have st1 : tn 0 h₁ := T.keep _ _ _ st fun b _ o e => old b o e
  have fr1 : ∀ b ∈ fp, upd H s.heap.objs.size (.lst []) b = none := fun b hb => by rw [upd_ne (Nat.ne_of_lt (hlt b hb))]; exact (f b hb).1
  have loop : ∀ s₃ : Shared, s₃ = { s with heap := h₁, toks := s.toks + ([] : List (Str × Value)).length } →
      codeAny (model X.prog X.w) X.A (.compLoop (.ListComp elt [⟨tg, iter, ifs, 0⟩] scope pos) 0 (.ref it) (.ref s.heap.objs.size) (compEnvC scope cl G.objs.size X.env)) (RR (.ref s.heap.objs.size) G.objs.size) s₃ := by
    rintro s₃ rfl
    refine comp_loop (fun n s' => ∃ i σ' H', Inv (X.comp N scope cl G.objs.size s H fp) [] σ' H' s' ∧ tn i s'.heap ∧ (∀ b ∈ fp, H' b = none) ∧ W i n σ' H') ?_ m0 ⟨0, _, _, I1, st1, fr1, w0⟩
    rintro n s3 ⟨i, σ3, H3, I3, st3, fr3, w3⟩
    rcases turn i n σ3 H3 w3 with ⟨stop, q⟩ | ⟨go, N', hN, step⟩
    · refine thn (T.done (X.comp N scope cl G.objs.size s H fp) rfl rfl rfl hc i [] s3 σ3 H3 _ I3 (fok fr3) st3 stop) fun r s4 ⟨hr, I4⟩ => ?_
      subst hr
      obtain ⟨m, hn, _⟩ := I4.loc
      refine hR _ _ H3 s4 m (I.call' (ch := fp) I4.os I4.base I4.hok I4.bare fun b hb => ?_) q hn hCle I4.free
      obtain ⟨_, z1, _, z3, z4, z5⟩ := f b hb
      exact ⟨z3, z1, z4, z5⟩
    · refine thn (T.item (X.comp N scope cl G.objs.size s H fp) rfl rfl rfl hc i [] s3 σ3 H3 _ I3 (fok fr3) st3 go) fun r s4 ⟨u, hr, h4⟩ => ?_
      subst hr
      refine thn h4 fun _ s5 ⟨x, H5, I5, r5, y5, st5, fr5⟩ => ?_
      have I5' := I5.pinned (fok fr5) (T.obj _ _ st5)
      refine thn (B.tg ⟨cl, G.objs.size, s, H, fp⟩ _ s5 σ3 H5 x u _ I5' r5 (step x H5 y5)) fun _ s6 ⟨σ6, H6, I6, q6⟩ => ?_
      refine thn (B.ifs ⟨cl, G.objs.size, s, H, fp⟩ _ s6 σ6 H6 _ I6 q6) fun ok7 s7 ⟨H7, I7, q7⟩ => ?_
      have again : ∀ {s8 : Shared} {H8 : Hp}, Inv (X.comp N scope cl G.objs.size s H fp) ([] ++ pinsAt fp s5.heap) σ6 H8 s8 → N' σ6 H8 → ∃ m, m < n ∧ ∃ i σ' H', Inv (X.comp N scope cl G.objs.size s H fp) [] σ' H' s8 ∧ tn i s8.heap ∧ (∀ b ∈ fp, H' b = none) ∧ W i m σ' H' := fun {s8 H8} I8 n8 => by
        obtain ⟨m', hm, w8⟩ := hN σ6 H8 n8
        have pn : ∀ b o, b ∈ fp → s5.heap.get? b = some o → s8.heap.get? b = some o ∧ H8 b = none := fun b o hb e =>
          let z := I8.pin (b, o) (List.mem_append_right _ (List.mem_append_right _ (mem_pinsAt hb e))); ⟨z.1, z.2.1⟩
        refine ⟨m', hm, i + 1, σ6, H8, I8.unpinned, T.keep _ _ _ st5 fun b hb o e => (pn b o hb e).1, fun b hb => ?_, w8⟩
        obtain ⟨o, e, d⟩ := T.obj _ _ st5 b hb
        exact (pn b o hb e).2
      cases ok7 with
      | false => rw [if_neg Bool.false_ne_true] at q7 ⊢; exact again I7 q7
      | true =>
        rw [if_pos rfl] at q7 ⊢
        refine thn (B.elt ⟨cl, G.objs.size, s, H, fp⟩ _ s7 σ6 H7 _ I7 q7) fun v s8 ⟨y, H8, I8, r8, ys, hy, hs, n8⟩ => ?_
        refine thn (mt_append (X := X.comp N scope cl G.objs.size s H fp) _ s8 σ6 H8 (.ref s.heap.objs.size) [y] (.ref s.heap.objs.size) [v] (fun z H9 => z = .non ∧ H9 = upd H8 s.heap.objs.size (.lst (ys ++ [y]))) I8 rfl (.cons r8 .nil) ⟨_, ys, y, rfl, rfl, hy, hs, rfl, rfl⟩) fun _ s9 ⟨z, H9, I9, _, _, e9⟩ => ?_
        subst e9
        exact again I9 n8
  exact codeAny_compStart_list (loop _ rfl) (T.self _ 0 _ _ _ st1 (loop _ rfl))
end
end L2

set_option maxHeartbeats 4000000
namespace L2
open PySem PySem.Spec PyProof.Rows
section
variable {X : Cx} {N : List Str} {scope : Scope} {tg elt iter : Expr} {ifs : List Expr} {pos : Pos} {wi : TI} {g : CP → TG} {tt : CP → TT} {te : CP → TE} {cap : List (Option Nat)}
/-- what is asked of a comprehension's scope -/
structure CompSc (X : Cx) (N : List Str) (scope : Scope) (cap : List (Option Nat)) : Prop where
  kind : scope.kind = .function
  cell : ∀ p ∈ scope.names, p.2 ≠ .cell
  names : ∀ p ∈ scope.names, p.2 = .local → scope.names.lookup p.1 = some .local
  free : ∀ p ∈ scope.names, p.2 = .free → X.env.kindOf p.1 = some .cell ∨ X.env.kindOf p.1 = some .free
  cap : CapOk X N scope cap
/-- .. by looking -/
def compScB (XN : List Str) (xsc : Scope) (N : List Str) (scope : Scope) (cap : List (Option Nat)) : Bool :=
  scope.kind == .function && scope.names.all (fun p => p.2 != .cell) && scope.names.all (fun p => p.2 != .local || scope.names.lookup p.1 == some .local) &&
  scope.names.all (fun p => p.2 != .free || (xsc.names.lookup p.1 == some .cell || xsc.names.lookup p.1 == some .free)) && cap.length == N.length &&
  (List.range N.length).all fun i => match N[i]?, cap[i]? with
    | some x, some (some j) => XN[j]? == some x && xsc.names.lookup x == some .cell && scope.names.lookup x == some .free
    | _, _ => true
theorem compSc_of (h : compScB X.N X.env.scope N scope cap = true) : CompSc X N scope cap := by
  unfold compScB at h
  simp only [Bool.and_eq_true] at h
  obtain ⟨⟨⟨⟨⟨h1, h2⟩, h3⟩, h4⟩, h5⟩, h6⟩ := h
  refine ⟨eq_of_beq h1, fun p hp z => ?_, fun p hp z => ?_, fun p hp z => ?_, eq_of_beq h5, fun i x j e1 e2 => ?_⟩
  · have := List.all_eq_true.mp h2 p hp
    rw [z] at this; cases this
  · have := List.all_eq_true.mp h3 p hp
    rw [z] at this
    simpa using this
  · have := List.all_eq_true.mp h4 p hp
    rw [z] at this
    have e : (NameKind.free != NameKind.free) = false := by decide
    rw [e, Bool.false_or, Bool.or_eq_true] at this
    rcases this with q | q
    · exact .inl (eq_of_beq q)
    · exact .inr (eq_of_beq q)
  · have hi : i < N.length := (List.getElem?_eq_some_iff.mp e1).1
    have := List.all_eq_true.mp h6 i (List.mem_range.mpr hi)
    rw [e1, e2] at this
    simp only [Bool.and_eq_true] at this
    exact ⟨eq_of_beq this.1.1, eq_of_beq this.1.2, eq_of_beq this.2⟩
theorem CompSc.clo {pins : List (Addr × Obj)} {σ : St} {H : Hp} {s : Shared} (S : CompSc X N scope cap) (I : Inv X pins σ H s) :
    ∃ cl, closureFor scope X.env = pure cl ∧ (∀ x c, cl.lookup x = some c → X.env.cells.lookup x = some c) ∧ ∀ x, (x, NameKind.free) ∈ scope.names → ∃ c, cl.lookup x = some c :=
  closure_of fun p hp z => I.ok.has p.1 (S.free p hp z)
/-- the block's own names go -/
theorem Inv.letGo {pins : List (Addr × Obj)} {σ : St} {H H2 : Hp} {s s2 : Shared} {C : Addr} {h' : Heap} (I2 : Inv X pins σ H2 s2) (I : Inv X pins σ H s) (hC : s2.heap.objs.size ≤ C) (hn : H C = none) (hs : Heap.SameBut C s.heap h') : Inv X pins σ H { s with heap := h' } := by
  obtain ⟨f0, f1, f2, f3, f4, f5⟩ := I2.fpOk (H' := H) hC hn
  exact I.turned (t' := s.toks) (fun b o hb e => hs.extBut b o hb e) f0 f1 f3 f4 f5
theorem pe_lc (S : CompSc X N scope cap) (hc : X.calm = true) (hi : PI X tg iter wi) (B : CompParts X N scope tg ifs elt g tt te) (hs : ∀ x, foldedSetIterable iter X.env x = pure x := by intro _; rfl) :
    PE X (.ListComp elt [⟨tg, iter, ifs, 0⟩] scope pos) (tLC cap wi g tt te) := by
  intro pins s σ H Q I h
  obtain ⟨cl, hcl, h1, h2⟩ := S.clo I
  rw [eval_ListComp]
  refine wpAny_comprehension_free (use := none) rfl hs hcl S.kind S.names (thn (hi pins s σ H _ I h) fun v s1 q1 => thn q1 fun itv s2 ⟨it, fp, tn, J, H2, e, I2, T, st, f, q⟩ => ?_)
  subst e
  refine comp_block (RR := fun acc C => compPost (model X.prog X.w) X.A X.xe none (EP X pins σ Q) acc C) hc S.kind S.cell S.cap B h1 h2 I2.ok.kind I2 T st f q fun D C H' s' m I' q' hn hC hCn => ?_
  exact ⟨m, hn, fun h' hs' => ⟨.ref D, H', I2.letGo I' hC hCn hs', rfl, q'⟩⟩
end

/-! ### what is walked, as a list of known things -/
structure Walk (J : It) (xs : List V) (Ok : Hp → Prop) : Prop where
  go : ∀ i H, i < xs.length → Ok H → J.go i H
  stop : ∀ i H, xs.length ≤ i → Ok H → J.stop i H
  yld : ∀ i H x H', i < xs.length → Ok H → J.yld i H x H' → H' = H ∧ xs[i]? = some x
theorem walk_list {K : PySem.W.Frag} {a : Addr} {xs : List V} : Walk (Itl K a) xs (fun H => SqL K H a xs) where
  go := fun i H h q => ⟨xs, xs[i], q, by simp [h]⟩
  stop := fun i H h q => ⟨xs, q, h⟩
  yld := fun i H x H' _ q y => ⟨y.1, y.2 xs q⟩
theorem walk_tup {K : PySem.W.Frag} {a : Addr} {xs : List V} : Walk (Itt K a) xs (fun H => SqT K H a xs) where
  go := fun i H h q => ⟨xs, xs[i], q, by simp [h]⟩
  stop := fun i H h q => ⟨xs, q, h⟩
  yld := fun i H x H' _ q y => ⟨y.1, y.2 xs q⟩
/-- a text's signs -/
def chr1 (c : Nat) : V := .str ⟨#[c]⟩
theorem walk_str {z : Str} : Walk (Its z) (z.cps.toList.map chr1) (fun _ => True) where
  go := fun i H h _ => by
    rw [List.length_map, Array.length_toList] at h
    exact h
  stop := fun i H h _ => by
    rw [List.length_map, Array.length_toList] at h
    exact h
  yld := fun i H x H' _ _ y => by
    obtain ⟨e, c, hc, rfl⟩ := y
    exact ⟨e, by rw [List.getElem?_map, hc]; rfl⟩
/-- a range's numbers -/
def upto (lo : Int) (n : Nat) : List V := (List.range n).map fun (k : Nat) => V.int (lo + k)
theorem walk_range {lo : Int} {n : Nat} : Walk (Itr lo n) (upto lo n) (fun _ => True) where
  go := fun i H h _ => by
    unfold upto at h; rw [List.length_map, List.length_range] at h
    exact h
  stop := fun i H h _ => by
    unfold upto at h; rw [List.length_map, List.length_range] at h
    exact h
  yld := fun i H x H' h _ y => by
    unfold upto at h; rw [List.length_map, List.length_range] at h
    obtain ⟨e, hx⟩ := y
    subst hx
    refine ⟨e, ?_⟩
    unfold upto
    rw [List.getElem?_map, List.getElem?_range h]
    rfl
theorem for_walk {J : It} {xs : List V} {Ok : Hp → Prop} (Wk : Walk J xs Ok) {g : TG} {tb : TS} {D : Ends} {σ : St} {H : Hp} (Pv : Nat → St → Hp → Prop) (h0 : Pv 0 σ H) (hl : ∀ i σ H, i ≤ xs.length → Pv i σ H → Ok H)
    (hs : ∀ i x σ H, xs[i]? = some x → Pv i σ H → g x σ H fun σ2 H2 => tb { D with nx := Pv (i + 1), ct := Pv (i + 1), bk := D.nx } σ2 H2) (hd : ∀ σ H, Pv xs.length σ H → D.nx σ H) :
    ∃ W : Nat → Nat → St → Hp → Prop, (∃ m, W 0 m σ H) ∧ ∀ i m σ H, W i m σ H →
      (J.stop i H ∧ D.nx σ H) ∨ (J.go i H ∧ ∃ N : St → Hp → Prop, (∀ σ' H', N σ' H' → ∃ m', m' < m ∧ W (i + 1) m' σ' H') ∧ ∀ x H', J.yld i H x H' → g x σ H' fun σ2 H2 => tb { D with nx := N, ct := N, bk := D.nx } σ2 H2) := by
  refine ⟨fun i m σ H => m = xs.length - i ∧ i ≤ xs.length ∧ Pv i σ H, ⟨xs.length, by simp, Nat.zero_le _, h0⟩, ?_⟩
  rintro i m σ H ⟨rfl, hi, p⟩
  have q := hl i σ H hi p
  by_cases hlt : i < xs.length
  · refine .inr ⟨Wk.go i H hlt q, Pv (i + 1), fun σ' H' p' => ⟨xs.length - (i + 1), by omega, rfl, hlt, p'⟩, fun x H' y => ?_⟩
    obtain ⟨e, y'⟩ := Wk.yld i H x H' hlt q y
    subst e
    exact hs i x σ _ y' p
  · have e : i = xs.length := by omega
    subst e
    exact .inl ⟨Wk.stop _ H (Nat.le_refl _) q, hd σ H p⟩
/-- a comprehension over known things -/
theorem lc_walk {J : It} {xs : List V} {Ok : Hp → Prop} (Wk : Walk J xs Ok) {g : TG} {tt : TT} {te : TE} {σ : St} {H : Hp} {D : Addr} {Q : VK} (Pv : Nat → St → Hp → Prop) (h0 : Pv 0 σ H) (hl : ∀ i σ H, i ≤ xs.length → Pv i σ H → Ok H)
    (hs : ∀ i x σ H, xs[i]? = some x → Pv i σ H → g x σ H fun σ2 H2 => tt σ2 H2 fun b H3 => if b = true then te σ2 H3 fun v H4 => ∃ ys, H4 D = some (.lst ys) ∧ ys.length < sizeLine ∧ Pv (i + 1) σ2 (upd H4 D (.lst (ys ++ [v]))) else Pv (i + 1) σ2 H3)
    (hd : ∀ σ H, Pv xs.length σ H → Q (.ref D) H) : LCgo J g tt te D σ H Q := by
  refine ⟨fun i m σ H => m = xs.length - i ∧ i ≤ xs.length ∧ Pv i σ H, ⟨xs.length, by simp, Nat.zero_le _, h0⟩, ?_⟩
  rintro i m σ H ⟨rfl, hi, p⟩
  have q := hl i σ H hi p
  by_cases hlt : i < xs.length
  · refine .inr ⟨Wk.go i H hlt q, Pv (i + 1), fun σ' H' p' => ⟨xs.length - (i + 1), by omega, rfl, hlt, p'⟩, fun x H' y => ?_⟩
    obtain ⟨e, y'⟩ := Wk.yld i H x H' hlt q y
    subst e
    exact hs i x σ _ y' p
  · have e : i = xs.length := by omega
    subst e
    exact .inl ⟨Wk.stop _ H (Nat.le_refl _) q, hd σ H p⟩
/-- .. whose test and element leave the heap: the block's first name is the thing, the others are caps -/
theorem lc_pure {J : It} {xs : List V} {Ok : Hp → Prop} (Wk : Walk J xs Ok) {tt : TT} {te : TE} {H : Hp} {D : Addr} {Q : VK} {caps : St} (p : V → Bool) (f : V → V) (hl : ∀ ys, Ok (upd H D (.lst ys))) (hz : xs.length < sizeLine)
    (hs : ∀ (i : Nat) (x : V) (ys : List V) (R : Hp → Prop), xs[i]? = some x → ys.length < sizeLine → (p x = true → R (upd H D (.lst (ys ++ [f x])))) → (p x = false → R (upd H D (.lst ys))) →
      tt (some x :: caps) (upd H D (.lst ys)) fun b H3 => if b = true then te (some x :: caps) H3 fun v H4 => ∃ ys, H4 D = some (.lst ys) ∧ ys.length < sizeLine ∧ R (upd H4 D (.lst (ys ++ [v]))) else R H3)
    (hd : Q (.ref D) (upd H D (.lst ((xs.filter p).map f)))) : LCgo J (gName 0) tt te D (none :: caps) (upd H D (.lst [])) Q := by
  refine lc_walk Wk (fun i σ H' => ∃ r, σ = r :: caps ∧ H' = upd H D (.lst (((xs.take i).filter p).map f))) ⟨none, rfl, rfl⟩ (fun i σ H' _ ⟨_, _, e⟩ => by rw [e]; exact hl _) ?_ ?_
  · rintro i x σ H' hx ⟨r, rfl, rfl⟩
    have hlen : (((xs.take i).filter p).map f).length < sizeLine := by
      rw [List.length_map]
      have := List.length_filter_le p (xs.take i)
      have h2 : (xs.take i).length ≤ xs.length := List.length_take_le' _ _
      omega
    refine hs i x _ (fun H3 => ∃ r, some x :: caps = r :: caps ∧ H3 = upd H D (.lst (((xs.take (i + 1)).filter p).map f))) hx hlen (fun hp => ⟨_, rfl, ?_⟩) (fun hp => ⟨_, rfl, ?_⟩)
    · rw [take_succ_filter p _ i x hx, hp, if_pos rfl, List.map_append]; rfl
    · rw [take_succ_filter p _ i x hx, hp, if_neg Bool.false_ne_true, List.append_nil]
  · rintro σ H' ⟨r, rfl, rfl⟩
    rw [List.take_length]; exact hd
end L2

set_option maxHeartbeats 4000000
namespace L2
open PySem PySem.Spec PyProof.Rows
/-! ### the script's ints are of some size -/
def Small (n : Int) : Prop := Builtin.Int.intBits n ≤ 1048576
theorem small_of {n : Int} (h : n.natAbs.log2 + 1 ≤ 1048576) : Small n := PySem.intBits_le_iff.mpr (Nat.lt_of_lt_of_le Nat.lt_log2_self (Nat.pow_le_pow_right (by decide) h))
theorem small_zero : Small 0 := by unfold Small; decide
theorem Small.le {m n : Int} (h : Small n) (e : m.natAbs ≤ n.natAbs) : Small m := PySem.intBits_le_iff.mpr (Nat.lt_of_le_of_lt e (PySem.intBits_le_iff.mp h))
theorem script_small : ∀ {ns : List Int} {w : Nat}, PySem.W.WData.weightAll (ns.map PySem.W.WData.int) ≤ w → w ≤ 1048576 → ∀ n ∈ ns, Small n
  | [], _, _, _, _, h => nomatch h
  | x :: r, w, h, hw, n, hn => by
    rw [List.map_cons] at h
    unfold PySem.W.WData.weightAll at h
    rcases List.mem_cons.mp hn with e | e
    · subst e
      unfold PySem.W.WData.weight at h
      by_cases z : n = 0
      · rw [z]; exact small_zero
      · rw [if_neg (by simpa using z)] at h
        exact small_of (by omega)
    · exact script_small (ns := r) (w := w) (by omega) hw n e
theorem script_layable {ns : List Int} (h : PySem.W.WData.layableAll [PySem.W.WData.list (ns.map PySem.W.WData.int)] = true) : ∀ n ∈ ns, Small n := by
  unfold PySem.W.WData.layableAll at h
  rw [List.all_cons, Bool.and_eq_true] at h
  have h1 := h.1
  unfold PySem.W.WData.layable at h1
  rw [Bool.and_eq_true] at h1
  have h2 := of_decide_eq_true h1.2
  unfold PySem.W.WData.weight at h2
  exact script_small h2 (by decide)
/-- the law's promise may lean on that -/
theorem walk_b {l : PySem.W.OpenLaw} {n k : Nat} {q : Program} {loose : List Str} {XP : (Str → Option Value) → Heap → Prop} {YP : World → Heap → Prop} {d : DefRec} {K : Params → PySem.W.Frag} {CX : World → CXT} {sp : World → Sp} {x : Str}
    (hn : l.most = some n) (hn2 : n ≤ sizeLine) (hdf : d.params.defaults = []) (hr : Room k callerA)
    (hY : ∀ (w : World) (h : Heap), YP w h → (K w.params).In h)
    (F : ∀ (w : World) (mg : Str → Option Value) (fa : Addr) (h : Heap), (K w.params).In h → h.Ns mainGlobals mg → mg d.name = some (.ref fa) →
      ∃ fd : FuncData, (∀ (s : Shared) (u : Value), BindsTo s fd ⟨[u], []⟩ [(x, u)]) ∧
        ∀ base : Heap, (K w.params).In base → base.Ns mainGlobals mg → FnOk l.prog w (K w.params) mg base (CX w) k fa fd [x] (sp w))
    (hsp : ∀ (w : World) (H : Hp) (a : Addr) (ns : List Int), ns.length ≤ n → (∀ n ∈ ns, Small n) → Only H → SqL (K w.params) H a (ns.map V.int) → sp w [.ref a] H (fun v _ => v = .bl true) fun _ _ _ => False)
    (hCX : ∀ (w : World) (H : Hp) (s : Shared) (e : Value) (s' : Shared), CX w [] H s (fun _ _ _ => False) e s' → False) :
    PySem.W.WalkO q loose XP YP l.row.toRowW d [] (fun f vs => PySem.call f vs) := by
  intro w s₀ s₁ mg mb G Y fa o pm cd doc dV kV ho hd hcd hD hmg hg args vals as hpre hlay hrd hwl hlo
  obtain rfl : dV = .none := PySem.W.Dflts.none hD hdf
  obtain rfl : kV = .none := PySem.W.Dflts.noKw hD
  obtain ⟨a, vs, ns, rfl, rfl, hobj, hints, hlen⟩ := Att.script_of hn hpre hwl
  have KX := hY w _ Y
  obtain ⟨fd, hb, hF⟩ := F w mg fa _ KX G.T.g hmg
  have hc := law_call KX G.T.g G.T.b G.T.builtins G.T.nolimit hg hobj hints (Nat.le_trans hlen hn2) hr hF hb (fun H hO hS => hsp w H a ns hlen (script_layable hlay) hO hS) fun H e s' => hCX w H s₁ e s'
  refine PySem.W.enter_call (codeAny_mono hc fun r s' hq => ?_)
  obtain ⟨rfl, h2, h3, h4⟩ := hq
  exact ⟨.inl ⟨.bool true, .bool true, [], rfl, fun _ => rfl, .bool true, Att.post_true l _, fun _ => ⟨List.Pairwise.nil, fun _ hm => (nomatch hm)⟩⟩, h2, h3, h4⟩
section
variable {X : Cx}
/-- products of numbers of some size -/
def CMulB (i j : Int) : Prop := Builtin.Int.intBits i ≤ 4000000 ∧ Builtin.Int.intBits j ≤ 4000000
end
end L2

set_option maxHeartbeats 4000000
namespace L2
open PySem PySem.Spec PyProof.Rows
/-! ### texts as lists of signs -/
def tx (l : List Nat) : Str := ⟨l.toArray⟩
theorem tx_cps (l : List Nat) : (tx l).cps.toList = l := rfl
theorem tx_len (l : List Nat) : (tx l).length = l.length := List.size_toArray ..
theorem tx_app (l m : List Nat) : tx l ++ tx m = tx (l ++ m) := by
  show (⟨l.toArray ++ m.toArray⟩ : Str) = ⟨(l ++ m).toArray⟩
  rw [List.append_toArray]
theorem tx_inj {l m : List Nat} (h : tx l = tx m) : l = m := congrArg (fun z : Str => z.cps.toList) h
theorem tx_rep (l : List Nat) (n : Int) : repS (tx l) n = tx (List.replicate n.toNat l).flatten := rfl
theorem tx_in (c : Nat) (l : List Nat) : (!(Builtin.Str.occurrences (tx l) (tx [c]) 0 (tx l).length 1).isEmpty) = decide (c ∈ l) := StrLaws.found_one (tx l) c
abbrev vt (l : List Nat) : V := .str (tx l)
theorem cut_to (l : List Nat) (k : Nat) : cutL l none (some (k : Int)) = l.take k := by
  unfold cutL
  rw [HT.sIx_none, HT.sIx_nat, List.drop_zero, Nat.sub_zero]
  by_cases h : k ≤ l.length
  · rw [Nat.min_eq_left h]
  · rw [Nat.min_eq_right (by omega), List.take_length, List.take_of_length_le (by omega)]
theorem cut_from (l : List Nat) (k : Nat) : cutL l (some (k : Int)) none = l.drop k := by
  unfold cutL
  rw [HT.sIx_none, HT.sIx_nat]
  by_cases h : k ≤ l.length
  · rw [Nat.min_eq_left h, List.take_of_length_le (by rw [List.length_drop]; omega)]
  · rw [Nat.min_eq_right (by omega), Nat.sub_self, List.take_zero, List.drop_of_length_le (by omega)]
section
variable {X : Cx}
def rIn1 (neg : Bool) : R2 := fun x y H Q => ∃ c l, x = vt [c] ∧ y = vt l ∧ Q (.bl (if neg then !decide (c ∈ l) else decide (c ∈ l))) H
theorem op_in1 : OpR X (compareOp .In) (rIn1 false) := by
  intro pins s σ H x y v u Q I rx ry h
  obtain ⟨c, l, rfl, rfl, q⟩ := h
  exact op_in_str pins s σ H _ _ v u Q I rx ry ⟨_, _, rfl, rfl, by rw [tx_in]; exact q⟩
theorem op_notIn1 : OpR X (compareOp .NotIn) (rIn1 true) := by
  intro pins s σ H x y v u Q I rx ry h
  obtain ⟨c, l, rfl, rfl, q⟩ := h
  exact op_notIn_str pins s σ H _ _ v u Q I rx ry ⟨_, _, rfl, rfl, by rw [tx_in]; exact q⟩
def oIn := (op_in1 (X := X)).or op_in_seq
def oNotIn := (op_notIn1 (X := X)).or op_notIn_seq
def oLeA := (op_le (X := X)).or op_le_str

/-! ### what may be walked: a list, a tuple, a text -/
def iAny (K : PySem.W.Frag) (te : TE) : TI := fun σ H R => te σ H fun x H1 => (∃ a xs, x = .ref a ∧ SqL K H1 a xs ∧ R (Itl K a) H1) ∨ (∃ a xs, x = .ref a ∧ SqT K H1 a xs ∧ R (Itt K a) H1) ∨ (∃ z, x = .str z ∧ R (Its z) H1)
theorem piAny {e : Expr} {te : TE} {nm : Str} {np : Pos} (he : PE X e te) : PI X (.Name nm np) e (iAny X.K te) := by
  intro pins s σ H R I h
  refine thn (he pins s σ H _ I h) fun v s1 ⟨x, H1, I1, r1, q1⟩ => ?_
  have fp : ∀ b ∈ [s1.heap.objs.size], FpOk X pins H1 b := fun b hb => by
    have e : b = s1.heap.objs.size := by simpa using hb
    subst e
    exact I1.fpOk (Nat.le_refl _) (I1.hok.fresh (Nat.le_refl _))
  rcases q1 with ⟨a, xs, rfl, hq, q⟩ | ⟨a, xs, rfl, hq, q⟩ | ⟨z, rfl, q⟩
  · cases r1
    obtain ⟨its, rv, p, hz⟩ := I1.list hq
    exact wpAny_pyIter_list p.isList ⟨s1.heap.objs.size, [s1.heap.objs.size], _, _, H1, rfl, I1.kept (t' := s1.toks) fun b o e => Heap.get?_push_of_some _ e, turn_list a _, ⟨_, Heap.get?_push_size _ rfl, rfl, rfl⟩, fp, q⟩
  · cases r1
    obtain ⟨its, rv, p, hz⟩ := I1.tuple hq
    exact wpAny_pyIter_tuple (show s1.heap.IsTuple a its.toArray from p) ⟨s1.heap.objs.size, [s1.heap.objs.size], _, _, H1, rfl, I1.kept (t' := s1.toks) fun b o e => Heap.get?_push_of_some _ e, turn_tuple a _, ⟨_, Heap.get?_push_size _ rfl, rfl, rfl⟩, fp, q⟩
  · obtain ⟨t, rfl⟩ := r1
    cases ha : z.cps.all (· < 128) with
    | false =>
      exact wpAny_pyIter_wide ha ⟨s1.heap.objs.size, [s1.heap.objs.size], _, _, H1, rfl, I1.kept (t' := s1.toks) fun b o e => Heap.get?_push_of_some _ e, turn_str (ty := "str_iterator") _ z t (fun _ _ _ _ _ _ h1 h2 h3 => wpAny_pyNext_wide_item h1 h2 h3) (fun _ _ _ _ _ h0 h1 h2 h3 => wpAny_pyNext_wide_end h0 h1 h2 h3)
        (fun _ _ _ _ _ h1 h2 => wpAny_pyIter_striter_wide h1 h2), ⟨_, Heap.get?_push_size _ rfl, rfl, rfl⟩, fp, q⟩
    | true =>
      exact wpAny_pyIter_ascii ha ⟨s1.heap.objs.size, [s1.heap.objs.size], _, _, H1, rfl, I1.kept (t' := s1.toks) fun b o e => Heap.get?_push_of_some _ e, turn_str (ty := "str_ascii_iterator") _ z t (fun _ _ _ _ _ _ h1 h2 h3 => wpAny_pyNext_ascii_item h1 h2 h3) (fun _ _ _ _ _ h0 h1 h2 h3 => wpAny_pyNext_ascii_end h0 h1 h2 h3)
        (fun _ _ _ _ _ h1 h2 => wpAny_pyIter_striter_ascii h1 h2), ⟨_, Heap.get?_push_size _ rfl, rfl, rfl⟩, fp, q⟩
theorem walk_tx (l : List Nat) : Walk (Its (tx l)) (l.map fun c => vt [c]) (fun _ => True) := walk_str

/-! ### join -/
theorem strsAre_of : ∀ {ls : List (List Nat)} {us : List Value}, Vals (ls.map vt) us → StrsAre us (ls.map tx)
  | [], _, .nil => .nil
  | l :: ls, _, .cons r t => by
    obtain ⟨k, rfl⟩ := r
    exact .cons _ _ (strsAre_of t)
theorem sum_lens (ls : List (List Nat)) : ((ls.map tx).map (·.length)).sum = ls.flatten.length := by
  induction ls with
  | nil => rfl
  | cons l r ih => rw [List.map_cons, List.map_cons, List.sum_cons, ih, tx_len, List.flatten_cons, List.length_append]
/-- the separator between -/
def between (sep : List Nat) : List (List Nat) → List Nat
  | [] => []
  | [l] => l
  | l :: m :: r => l ++ sep ++ between sep (m :: r)
theorem between_nil (ls : List (List Nat)) : between [] ls = ls.flatten := by
  induction ls with
  | nil => rfl
  | cons l r ih =>
    cases r with
    | nil => simp [between]
    | cons m r => unfold between; rw [ih]; simp
theorem tx_join (sep : List Nat) : ∀ ls : List (List Nat), Txt.join (tx sep) (ls.map tx) = tx (between sep ls) := by
  intro ls
  show Builtin.Str.glued (tx sep) (ls.map tx) = _
  rw [StrLaws.glued_eq_join]
  induction ls with
  | nil => rfl
  | cons l r ih =>
    cases r with
    | nil => rfl
    | cons m r =>
      rw [List.map_cons, List.map_cons]
      show tx l ++ tx sep ++ Str.join (tx sep) (tx m :: r.map tx) = _
      rw [List.map_cons] at ih
      rw [ih, tx_app, tx_app]
      rfl
def rJoin (K : PySem.W.Frag) : V → List V → Hp → VK → Prop := fun x vs H Q => ∃ sep p ls, x = vt sep ∧ vs = [.ref p] ∧ (SqL K H p (ls.map vt) ∨ SqT K H p (ls.map vt)) ∧ ls.flatten.length + ls.length * sep.length ≤ 16777216 ∧ Q (vt (between sep ls)) H
theorem mt_join : MtR X "str.join" (rJoin X.K) := by
  intro pins s σ H x vs v us Q I rx rs h
  obtain ⟨sep, p, ls, rfl, rfl, hp, hz, q⟩ := h
  obtain ⟨t, rfl⟩ := rx
  obtain ⟨u, rfl, ru⟩ := vals1 rs
  cases (show u = Value.ref p from ru)
  rw [show vt (between sep ls) = .str (Txt.join (tx sep) (ls.map tx)) by rw [tx_join]] at q
  have hok : ((ls.map tx).map (·.length)).sum + (ls.map tx).length * (tx sep).length ≤ 16777216 := by rw [sum_lens, List.length_map, tx_len]; exact hz
  have fin : ∀ t' k, EP X pins σ Q (.str (Txt.join (tx sep) (ls.map tx)) t') { s with toks := k } := fun t' k => ⟨.str _, H, I.tok k, ⟨t', rfl⟩, q⟩
  rcases hp with hp | hp
  · obtain ⟨its, rv, p', _⟩ := I.list hp
    exact join_list p'.isList (by simpa using strsAre_of rv) hok fin
  · obtain ⟨its, rv, p', _⟩ := I.tuple hp
    exact join_tuple p' (by simpa using strsAre_of rv) hok fin
/-! ### f-strings: what they say is free, their size is not -/
def SignOk (z : Str) : Prop := z.length ≤ 100000 ∧ ∀ c ∈ z.cps.toList, c < 16 ^ 8
/-- an f-string's part: a text of some size -/
def PF (X : Cx) (e : Expr) (t : St → Hp → (Str → Hp → Prop) → Prop) : Prop := ∀ (pins : List (Addr × Obj)) (s : Shared) (σ : St) (H : Hp) (Q : Str → Hp → Prop), Inv X pins σ H s → t σ H Q →
  wpAny (model X.prog X.w) X.A (eval e X.env) (fun u s' => ∃ z tk H', u = .str z tk ∧ Inv X pins σ H' s' ∧ Q z H') X.xe s
theorem pf_str {z : Str} {j pos} : PF X (.Constant (.str z) j pos) (fun _ H Q => Q z H) := fun _ _ _ H _ I h => Calls.Constant_str ⟨z, _, H, rfl, I.tok _, h⟩
theorem pf_repr {e : Expr} {te : TE} {pos : Pos} (he : PE X e te) : PF X (.FormattedValue e 114 none pos) (fun σ H Q => te σ H fun x H1 => ∃ z, x = .str z ∧ SignOk z ∧ ∀ y : Str, y.length ≤ 10 * z.length + 2 → Q y H1) := by
  intro pins s σ H Q I h
  refine wpAny_FormattedValue_repr (thn (he pins s σ H _ I h) fun v s1 ⟨x, H1, I1, r1, z, e1, hz, q⟩ => ?_)
  subst e1
  obtain ⟨t, rfl⟩ := r1
  have hl := StrLaws.reprText_len z hz.2
  have hs : (PySem.reprText z).length ≤ sizeLine := by have := hz.1; rw [sizeLine_eq]; omega
  refine wpAny_pyReprObj_str ?_ hs
  exact wpAny_formatField_str ⟨_, _, H1, rfl, I1.tok _, q _ hl⟩ ⟨_, _, H1, rfl, I1.tok _, q _ hl⟩ hs
/-- the parts, from the left -/
def PFs (X : Cx) (es : List Expr) (t : Str → St → Hp → (Str → Hp → Prop) → Prop) : Prop := ∀ (acc : Str) (pins : List (Addr × Obj)) (s : Shared) (σ : St) (H : Hp) (Q : Str → Hp → Prop), Inv X pins σ H s → t acc σ H Q →
  Joins (model X.prog X.w) X.A X.xe (evalEach es X.env) acc (fun out s' => ∃ H', Inv X pins σ H' s' ∧ Q out H') s
theorem pfs_nil : PFs X [] (fun acc _ H Q => Q acc H) := fun acc pins s σ H Q I h => ⟨H, I, h⟩
theorem pfs_cons {e : Expr} {es : List Expr} {t : St → Hp → (Str → Hp → Prop) → Prop} {u : Str → St → Hp → (Str → Hp → Prop) → Prop} (he : PF X e t) (hs : PFs X es u) :
    PFs X (e :: es) (fun acc σ H Q => t σ H fun z H1 => (acc ++ z).length ≤ sizeLine ∧ u (acc ++ z) σ H1 Q) := by
  intro acc pins s σ H Q I h
  show wpAny _ _ (eval e X.env) _ _ s
  exact thn (he pins s σ H _ I h) fun v s1 ⟨z, tk, H1, e1, I1, hz, q⟩ => ⟨z, tk, e1, hz, hs (acc ++ z) pins s1 σ H1 Q I1 q⟩
def tJoined (u : Str → St → Hp → (Str → Hp → Prop) → Prop) : TE := fun σ H Q => u Str.empty σ H fun out H1 => out.length ≤ sizeLine ∧ Q (.str out) H1
theorem joins_mono {M : Model} {A : Around} {E : Value → Shared → Prop} : ∀ (ps : List (Sem Value)) (acc : Str) (Q Q' : Str → Shared → Prop) (s : Shared), (∀ z s, Q z s → Q' z s) → Joins M A E ps acc Q s → Joins M A E ps acc Q' s
  | [], _, _, _, _, k, h => k _ _ h
  | p :: ps, acc, Q, Q', s, k, h => thn h fun v s1 ⟨y, t, e, hz, hr⟩ => ⟨y, t, e, hz, joins_mono ps _ Q Q' s1 k hr⟩
theorem pe_joined {e1 e2 : Expr} {es : List Expr} {u : Str → St → Hp → (Str → Hp → Prop) → Prop} {pos : Pos} (h : PFs X (e1 :: e2 :: es) u) : PE X (.JoinedStr (e1 :: e2 :: es) pos) (tJoined u) := by
  intro pins s σ H Q I hq
  refine wpAny_JoinedStr (joins_mono _ _ _ _ _ (fun z s' ⟨H', I', hz, q⟩ => ⟨hz, .str z, H', I'.tok _, ⟨_, rfl⟩, q⟩) (h Str.empty pins s σ H _ I hq))
end
end L2

set_option maxHeartbeats 4000000
namespace L2
open PySem PySem.Spec PyProof.Rows
/-! ### what is met first, each once -/
def addNew (acc : List Nat) (c : Nat) : List Nat := if c ∈ acc then acc else acc ++ [c]
def firsts (l : List Nat) : List Nat := l.foldl addNew []
theorem firsts_snoc (l : List Nat) (c : Nat) : firsts (l ++ [c]) = addNew (firsts l) c := by unfold firsts; rw [List.foldl_append]; rfl
theorem addNew_mem (acc : List Nat) (d c : Nat) : c ∈ addNew acc d ↔ c ∈ acc ∨ c = d := by
  unfold addNew
  split
  · rename_i h
    exact ⟨.inl, fun z => z.elim id fun e => e ▸ h⟩
  · rw [List.mem_append, List.mem_singleton]
theorem fold_mem : ∀ (l acc : List Nat) (c : Nat), c ∈ l.foldl addNew acc ↔ c ∈ acc ∨ c ∈ l
  | [], acc, c => by simp
  | d :: r, acc, c => by rw [List.foldl_cons, fold_mem r, addNew_mem, List.mem_cons, or_assoc]
theorem firsts_mem (l : List Nat) (c : Nat) : c ∈ firsts l ↔ c ∈ l := by unfold firsts; rw [fold_mem]; simp
theorem fold_len : ∀ (l acc : List Nat), (l.foldl addNew acc).length ≤ acc.length + l.length ∧ ((l.foldl addNew acc).length = acc.length + l.length ↔ l.Nodup ∧ ∀ c ∈ l, c ∉ acc)
  | [], acc => by simp
  | d :: r, acc => by
    obtain ⟨h1, h2⟩ := fold_len r (addNew acc d)
    rw [List.foldl_cons]
    by_cases hd : d ∈ acc
    · have e : addNew acc d = acc := by unfold addNew; rw [if_pos hd]
      rw [e] at h1 h2 ⊢
      rw [List.length_cons]
      refine ⟨by omega, fun z => absurd z (by omega), fun z => absurd hd (z.2 d List.mem_cons_self)⟩
    · have e : addNew acc d = acc ++ [d] := by unfold addNew; rw [if_neg hd]
      rw [e] at h1 h2 ⊢
      rw [List.length_append, List.length_singleton] at h1 h2
      rw [List.length_cons]
      refine ⟨by omega, fun z => ?_, fun z => ?_⟩
      · obtain ⟨n1, n2⟩ := h2.mp (by omega)
        refine ⟨List.nodup_cons.mpr ⟨fun q => n2 d q (List.mem_append_right _ List.mem_cons_self), n1⟩, fun c hc q => ?_⟩
        rcases List.mem_cons.mp hc with e' | e'
        · rw [e'] at q; exact hd q
        · exact n2 c e' (List.mem_append_left _ q)
      · obtain ⟨n1, n2⟩ := z
        have n3 := List.nodup_cons.mp n1
        have := h2.mpr ⟨n3.2, fun c hc q => by
          rcases List.mem_append.mp q with q | q
          · exact n2 c (List.mem_cons_of_mem _ hc) q
          · have : c = d := by simpa using q
            rw [this] at hc; exact n3.1 hc⟩
        omega
theorem firsts_le (l : List Nat) : (firsts l).length ≤ l.length := by have := (fold_len l []).1; simpa [firsts] using this

/-! ### a set of a text's signs -/
def memb (l : List Nat) : Str → Bool := fun z => decide (∃ c ∈ firsts l, z = tx [c])
theorem memb_snoc (l : List Nat) (c : Nat) (z : Str) : memb (l ++ [c]) z = (memb l z || decide (z = tx [c])) := by
  unfold memb
  rw [Bool.eq_iff_iff, Bool.or_eq_true, decide_eq_true_eq, decide_eq_true_eq, decide_eq_true_eq]
  constructor
  · rintro ⟨d, hd, rfl⟩
    rw [firsts_mem, List.mem_append, List.mem_singleton] at hd
    rcases hd with h | rfl
    · exact .inl ⟨d, (firsts_mem l d).mpr h, rfl⟩
    · exact .inr rfl
  · rintro (⟨d, hd, rfl⟩ | rfl)
    · exact ⟨d, by rw [firsts_mem] at hd ⊢; exact List.mem_append_left _ hd, rfl⟩
    · exact ⟨c, by rw [firsts_mem]; exact List.mem_append_right _ List.mem_cons_self, rfl⟩
theorem memb_len (l : List Nat) (c : Nat) : (firsts (l ++ [c])).length = if memb l (tx [c]) = true then (firsts l).length else (firsts l).length + 1 := by
  rw [firsts_snoc]
  have e : memb l (tx [c]) = decide (c ∈ firsts l) := by
    unfold memb
    rw [Bool.eq_iff_iff, decide_eq_true_eq, decide_eq_true_eq]
    constructor
    · rintro ⟨d, hd, e⟩
      have : [c] = [d] := tx_inj e
      rw [List.cons.inj this |>.1]; exact hd
    · exact fun h => ⟨c, h, rfl⟩
  rw [e]
  unfold addNew
  by_cases h : c ∈ firsts l
  · rw [if_pos h, decide_eq_true h, if_pos rfl]
  · rw [if_neg h, decide_eq_false h, if_neg Bool.false_ne_true, List.length_append]; rfl
def SignSet (P : Program) (w : World) (h : Heap) (a : Addr) (l : List Nat) : Prop := h.SetOf (strKind P w) a (memb l) (firsts l).length
theorem SignSet.at {P : Program} {w : World} {h h' : Heap} {a : Addr} {l : List Nat} (S : SignSet P w h a l) (k : ∀ o, h.get? a = some o → h'.get? a = some o) : SignSet P w h' a l := by
  obtain ⟨o, es, ep, tb, ho, r⟩ := S
  exact ⟨o, es, ep, tb, k o ho, r⟩
section
variable {prog : Program} {w : World} {A : Around} {R : Result → Shared → Prop} {I : Addr} {fp wr : List Addr} {G : Array GenState → Array GenState → Prop} {l : List Nat} {St : Nat → Shared → Prop}
theorem sign_loop (W : WalksS prog w A.in1 I fp wr G l.length (SignAt (tx l)) St) (S : Addr) (hSf : S ∉ fp) (hb : l.length + 1 < scanBound) : ∀ (k i : Nat) (s : Shared), l.length - i = k → i ≤ l.length → St i s → SignSet prog w s.heap S (l.take i) →
    (∀ s', Moved (S :: wr) G s s' → SignSet prog w s'.heap S l → R (.ok (.ret .none)) s') → codeAny (model prog w) A (.builtin "set.update.loop" ⟨[.ref S, .ref I], []⟩) R s := by
  have nw : S ∉ wr := fun h => hSf (W.sub _ h)
  have more : ∀ b ∈ wr, b ∈ S :: wr := fun b hb => List.mem_cons_of_mem _ hb
  intro k
  induction k with
  | zero =>
    intro i s hk hi hst hS hR
    have e : i = l.length := by omega
    rw [e, List.take_length] at hS
    rw [e] at hst
    refine codeAny_builtin PyProof.Rows.F.entry_set_update_loop ?_
    rw [Around.under_plainId PyProof.Rows.F.plain_set_update_loop _]
    show wpAny _ A.in1 (pyNext (.ref I) >>= _) _ _ s
    refine wpAny_bind (W.done s _ _ hst fun s' hm => ?_)
    show wpAny _ A.in1 (ret Value.none) _ _ s'
    exact wpAny_pure (hR s' (hm.mono more) (hS.at fun o ho => hm.heap S o nw ho))
  | succ k ih =>
    intro i s hk hi hst hS hR
    have hlt : i < l.length := by omega
    refine codeAny_builtin PyProof.Rows.F.entry_set_update_loop ?_
    rw [Around.under_plainId PyProof.Rows.F.plain_set_update_loop _]
    show wpAny _ A.in1 (pyNext (.ref I) >>= _) _ _ s
    refine wpAny_bind (W.item i s _ _ hlt hst fun v s' hP hst' hm => ?_)
    obtain ⟨c, u, hc, rfl⟩ := hP
    have hc' : l[i]? = some c := by rw [← tx_cps l, Array.getElem?_toList]; exact hc
    have hS' := hS.at (h' := s'.heap) fun o ho => hm.heap S o nw ho
    have tk : l.take (i + 1) = l.take i ++ [c] := by rw [List.take_add_one, hc']; rfl
    have len : (firsts (l.take i)).length + 1 < scanBound := by have := firsts_le (l.take i); rw [List.length_take] at this; omega
    show wpAny _ A.in1 (holding [Value.str (tx [c]) u] (setAdd S (.str (tx [c]) u)) >>= _) _ _ s'
    refine wpAny_bind (wpAny_holding ?_)
    unfold setAdd
    refine wpAny_holding (wpAny_bind ((strKind prog w).pyHash (k := tx [c]) (by simp [PySem.strKind, Value.isStrOf]) ?_))
    refine wpAny_setAddHashed_of (knd := strKind prog w) (s := { s' with toks := s'.toks + 1 }) (by simp [PySem.strKind, Value.isStrOf]) rfl hS' len fun h' hsb hS2 => ?_
    have hS3 : SignSet prog w h' S (l.take (i + 1)) := by
      rw [tk]
      exact PyProof.Rows.SetOf_congr hS2 (fun z => (memb_snoc _ c z).symm) (memb_len _ c).symm
    refine wpAny_pure ⟨plainId_quiet PyProof.Rows.F.plain_set_update_loop _, ih (i + 1) _ (by omega) hlt (W.frame _ s' _ _ hst' (Nat.le_succ _) fun b hb o e => ?_) hS3 fun s'' hm'' hS'' => ?_⟩
    · rw [hsb.2 b (fun z : b = S => hSf (z ▸ hb))]; exact e
    · refine hR s'' (Moved.trans W.gtrans ((hm.mono more).then_heap (Nat.le_succ _) fun b o hb e => ?_) hm'') hS''
      rw [hsb.2 b (fun z : b = S => hb (z ▸ List.mem_cons_self))]; exact e
end

namespace SetF
theorem no_str_set : isSubtype (.type "str") (.type "set") = pure false := by rw [isSubtype_type]; kernel_rfl
theorem no_str_frz : isSubtype (.type "str") (.type "frozenset") = pure false := by rw [isSubtype_type]; kernel_rfl
end SetF
section
variable {prog : Program} {w : World} {A : Around} {E : Value → Shared → Prop} {s : Shared}
abbrev emptySet (led : Bool) : Obj := { cls := .type "set", dict := none, data := .set #[] 0 (.fresh 0 0 led) }
theorem signs_none {h : Heap} {a : Addr} {led : Bool} (e : h.get? a = some (emptySet led)) : SignSet prog w h a [] :=
  ⟨_, #[], 0, _, e, ⟨rfl, rfl, rfl⟩, rfl, (fun _ z => nomatch z), (fun k => Iff.intro (fun z => (of_decide_eq_true z).elim fun c hc => nomatch hc.1) (fun z => z.elim fun _ hc => nomatch hc.1)), by decide, by rfl, rfl⟩
set_option maxHeartbeats 8000000 in
theorem call_set_signs {l : List Nat} {t : Tok} {Q : Value → Shared → Prop} (hh : A.handled = none) (hb : l.length + 1 < scanBound)
    (h : ∀ (h' : Heap) (tk : Nat), SignSet prog w h' s.heap.objs.size l → (∀ b o, b < s.heap.objs.size → s.heap.get? b = some o → h'.get? b = some o) → Q (.ref s.heap.objs.size) { s with heap := h', toks := tk }) :
    wpAny (model prog w) A (call (.type "set") [.str (tx l) t]) Q E s := by
  obtain ⟨_, _, q1⟩ := F.called_set.mro
  have q2 := F.called_set.made
  have q3 := F.called_set.sub
  refine wpAny_call (codeAny_of_tree (wpAny_pure ⟨Code.quiet_builtin _ (by decide +kernel), codeAny_builtin F.entry_type_call ?_⟩))
  rw [Around.under_plain (weight_type_call_type "set" [.str (tx l) t] []) rfl]
  have q4 := F.called_set.notType
  have q5 := F.called_set.canCreate
  have q6 := F.typeCall_set_1 (.str (tx l) t)
  repeat (any_goals (first | assumption | wp_step))
  refine codeAny_mono (code_set_new_1 (.str (tx l) t) (E := E) (Q₁ := fun x s1 => ∃ led : Bool, x = .ref s.heap.objs.size ∧ s1 = { s with heap := s.heap.push (emptySet led) }) fun led => ⟨led, rfl, rfl⟩) fun r s1 hr => ?_
  cases r with
  | error e => exact hr
  | ok fl =>
    cases fl with
    | ret x =>
      obtain ⟨led, rfl, rfl⟩ := hr
      have g1 : (s.heap.push (emptySet led)).get? s.heap.objs.size = some (emptySet led) := Heap.get?_push_size _ rfl
      have g2 : Shared.TypeIs { s with heap := s.heap.push (emptySet led) } (.ref s.heap.objs.size) "set" := ⟨_, g1, rfl⟩
      have q7 := F.called_set.init.lookup
      have q8 := F.called_set.init.bind (.ref s.heap.objs.size)
      repeat (any_goals (first | assumption | wp_step))
      refine codeAny_mono (codeAny_call_builtin (R := wants (fun r s2 => r = .none ∧ ∃ h' tk, s2 = { s with heap := h', toks := tk } ∧ SignSet prog w h' s.heap.objs.size l ∧ (∀ b o, b < s.heap.objs.size → s.heap.get? b = some o → h'.get? b = some o)) E)
        F.called_set.init.plain F.entry_set_init (check_set_init_1 g2 ?_)) fun r2 s2 hr2 => ?_
      · have q9 := SetF.no_str_set
        have q10 := SetF.no_str_frz
        have q11 : (Value.type "str" == Value.type "dict") = false := by decide
        unfold Builtin.«set.__init__» noKeywords Builtin.Frozenset.updateFrom
        generalize hPI : pyIter = PI
        wp_walk
        subst hPI
        refine wpAny_pyIter_str fun o St Wk st0 => ?_
        refine wpAny_bind (wpAny_runValue ?_)
        have nS : s.heap.objs.size ∉ [(s.heap.push (emptySet led)).objs.size] := by
          rw [Heap.size_push]; simp only [List.mem_singleton]; exact Nat.ne_of_lt (Nat.lt_succ_self _)
        have sz : (tx l).cps.size = l.length := List.size_toArray ..
        refine sign_loop (l := l) (by rw [← sz]; exact (Wk A.in1.in1.in1 (by simp [hh])).toS) s.heap.objs.size nS hb (l.length - 0) 0 _ (by omega) (Nat.zero_le _) st0 (signs_none (led := led) (Heap.get?_push_of_some _ g1)) fun s' hm hS' => ?_
        obtain ⟨h', g', d', tk', os'⟩ := s'
        have eg : g' = s.gens := hm.gens
        have ed : d' = s.drawn := hm.drawn
        have eo : os' = s.os := hm.os
        subst eg; subst ed; subst eo
        refine wpAny_pure ?_
        show wpAny _ _ (ret Value.none) _ _ _
        refine wpAny_pure ⟨rfl, h', tk', rfl, hS', fun b o hb e => hm.heap b o ?_ (Heap.get?_push_of_some _ (Heap.get?_push_of_some _ e))⟩
        have n2 : b ≠ (s.heap.push (emptySet led)).objs.size := by rw [Heap.size_push]; exact Nat.ne_of_lt (Nat.lt_succ_of_lt hb)
        simp only [List.mem_cons, List.mem_singleton, List.not_mem_nil, or_false, not_or]
        exact ⟨Nat.ne_of_lt hb, n2⟩
      · cases r2 with
        | error e => exact hr2
        | ok f2 =>
          cases f2 with
          | ret r =>
            obtain ⟨rfl, h', tk, rfl, hS', hk'⟩ := hr2
            repeat (any_goals (first | assumption | wp_step))
            exact h _ _ hS' hk'
          | _ => exact hr2.elim
    | _ => exact hr.elim
end
end L2

set_option maxHeartbeats 4000000
namespace L2
open PySem PySem.Spec PyProof.Rows

/-! ### arguments, as a thing that is not looked into -/
structure PAs (X : Cx) (es : List Expr) (t : TA) : Prop where
  h : PA X es t
theorem pas_nil {X : Cx} : PAs X [] tNil := ⟨pa_nil⟩
theorem pas_cons {X : Cx} {e : Expr} {te : TE} {es : List Expr} {t : TA} (ha : PE X e te) (hr : PAs X es t) (hs : starEach (e :: es) X.env = (false, eval e X.env) :: starEach es X.env := by rfl) : PAs X (e :: es) (tCons te t) := ⟨pa_cons ha hr.h hs⟩

/-! ### the rules -/
section
variable {X : Cx}

/-! ### all, any of a list of truths -/
theorem truth_at {bs : List Bool} {us : List Value} (r : Vals (bs.map V.bl) us) (A : Around) : TruthOf X.prog X.w A (fun i v => us.toArray[i]? = some v) (fun i => bs.getD i false) := by
  intro i v s Q E hv hq
  have hv' : us[i]? = some v := by simpa using hv
  have hl := r.length
  rw [List.length_map] at hl
  have hi : i < bs.length := by have := (List.getElem?_eq_some_iff.mp hv').1; omega
  obtain ⟨u, hu, ru⟩ := r.get (i := i) (x := .bl bs[i]) (by rw [List.getElem?_map, List.getElem?_eq_getElem hi]; rfl)
  rw [hv'] at hu; cases hu
  cases (show v = Value.bool bs[i] from ru)
  refine wpAny_truthy_bool ?_
  have e : bs.getD i false = bs[i] := by rw [List.getD_eq_getElem?_getD, List.getElem?_eq_getElem hi]; rfl
  rw [← e]; exact hq
theorem all_range (bs : List Bool) : (List.range bs.length).all (fun i => bs.getD i false) = bs.all id := by
  induction bs with
  | nil => rfl
  | cons b r ih =>
    rw [List.length_cons, List.range_succ_eq_map, List.all_cons, List.all_map, List.all_cons, ← ih]
    rfl
theorem callAll (hc : X.calm = true) : CallR X (.builtin "all") (fun xs H Q => ∃ (p : Addr) (bs : List Bool), xs = [.ref p] ∧ SqL X.K H p (bs.map V.bl) ∧ Q (.bl (bs.all id)) H) := by
  intro pins s σ H vs us Q I r h
  obtain ⟨p, bs, rfl, hp, q⟩ := h
  obtain ⟨u, rfl, ru⟩ := vals1 r
  cases (show u = Value.ref p from ru)
  obtain ⟨its, rv, pl, _⟩ := I.list hp
  have hlen : its.toArray.size = bs.length := by have := rv.length; rw [List.length_map] at this; simp [this]
  have hne : p ≠ s.heap.objs.size := by obtain ⟨o, ho, _⟩ := pl.isList; exact Nat.ne_of_lt (Heap.lt_size ho)
  have hh := I.ok.hd hc
  refine call_all_walk (wpAny_pyIter_list pl.isList ⟨s.heap.objs.size, _, _, _, _, _, fun i => bs.getD i false, rfl, Walks.list (by simp [hh]) _ p hne its.toArray, ⟨⟨_, Heap.get?_push_size _ rfl, rfl, rfl⟩, pl.isList.push _⟩, truth_at rv _, fun h' tk k => ?_⟩)
  rw [hlen, all_range]
  refine ⟨.bl _, H, I.kept (t' := tk) fun b u e => k b u ?_ (Heap.get?_push_of_some _ e), rfl, q⟩
  intro z
  exact absurd (Heap.lt_size e) (by rw [List.mem_singleton.mp z]; exact Nat.lt_irrefl _)

/-! ### list(text) -/
theorem vals_signs : ∀ (l : List Nat) (us : List Value), us.length = l.length → (∀ (j : Nat) v, us[j]? = some v → SignAt (tx l) j v) → Vals (l.map fun c => vt [c]) us := by
  intro l us hl h
  have key : ∀ (us : List Value) (m : Nat), us.length + m = l.length → (∀ (j : Nat) v, us[j]? = some v → SignAt (tx l) (m + j) v) → Vals ((l.drop m).map fun c => vt [c]) us := by
    intro us
    induction us with
    | nil => intro m hm _; rw [List.drop_of_length_le (by simp at hm; omega)]; exact .nil
    | cons u r ih =>
      intro m hm hs
      rw [List.length_cons] at hm
      obtain ⟨c, tk, hc, rfl⟩ := hs 0 u rfl
      have hc' : l[m]? = some c := by rw [← tx_cps l, Array.getElem?_toList]; exact hc
      obtain ⟨hlt, e⟩ := List.getElem?_eq_some_iff.mp hc'
      rw [List.drop_eq_getElem_cons hlt, e, List.map_cons]
      refine .cons ⟨tk, rfl⟩ (ih (m + 1) (by omega) fun j v hv => ?_)
      have := hs (j + 1) v hv
      rw [show m + (j + 1) = m + 1 + j by omega] at this
      exact this
  have := key us 0 (by omega) (fun j v hv => by rw [Nat.zero_add]; exact h j v hv)
  rwa [List.drop_zero] at this
theorem callListS (hc : X.calm = true) : CallR X (.type "list") (fun xs H Q => ∃ l, xs = [vt l] ∧ l.length ≤ sizeLine ∧ ∀ p, H p = none → Q (.ref p) (upd H p (.lst (l.map fun c => vt [c])))) := by
  intro pins s σ H vs us Q I r h
  obtain ⟨l, rfl, hl, q⟩ := h
  obtain ⟨u, rfl, ru⟩ := vals1 r
  obtain ⟨t, rfl⟩ := ru
  have sz : (tx l).cps.size = l.length := List.size_toArray ..
  refine call_list_str (I.ok.hd hc) (tx l) t (fun h' tk acc c' k e it => ?_) (by rw [sz]; exact hl)
  have hv := vals_signs l acc.toList (by rw [Array.length_toList, it.1, sz]) fun j v hv => it.2 j v (by simpa using hv)
  refine ⟨.ref s.heap.objs.size, _, I.laid (o := .lst (l.map fun c => vt [c])) k (Nat.le_refl _) ⟨by rw [List.length_map]; exact hl, acc.toList, c', hv, by simpa using e⟩, rfl, q _ (I.hok.fresh (Nat.le_refl _))⟩
def callList (hc : X.calm = true) := (call_list_of (X := X)).or (callListS hc)

/-! ### is, is not of truths; tuples compared -/
theorem eqVs_min {xs ys : List V} : ((List.range (min xs.length ys.length)).all (fun j => eqV (xs.getD j .non) (ys.getD j .non)) && xs.length == ys.length) = eqVs xs ys := by
  by_cases h : xs.length = ys.length
  · rw [h, Nat.min_self, beq_self_eq_true, Bool.and_true, ← h, eqVs_all h]
  · rw [eqVs_len h, beq_eq_false_iff_ne.mpr h, Bool.and_false]
def rEqT (K : PySem.W.Frag) (neg : Bool) : R2 := fun x y H Q => ∃ a b xs ys, x = .ref a ∧ y = .ref b ∧ SqT K H a xs ∧ SqT K H b ys ∧ xs.all flatV = true ∧ ys.all flatV = true ∧ Q (.bl (if neg then !eqVs xs ys else eqVs xs ys)) H
theorem op_eqT (hu : X.A.units < cLine) : OpR X (compareOp .Eq) (rEqT X.K false) := by
  intro pins s σ H x y v u Q I rx ry h
  obtain ⟨a, b, xs, ys, rfl, rfl, ha, hb, fx, fy, q⟩ := h
  cases (show v = Value.ref a from rx)
  cases (show u = Value.ref b from ry)
  obtain ⟨its, rv, p, _⟩ := I.tuple ha
  obtain ⟨its2, rv2, p2, _⟩ := I.tuple hb
  refine SeqAt.eq_tupleAt (e := fun j => eqV (xs.getD j .non) (ys.getD j .non)) p p2 hu (fun j h1 h2 => eqAt_items rv rv2 fx fy j h1 h2) ?_
  refine ⟨.bl _, H, I, rfl, ?_⟩
  rw [show its.toArray.size = xs.length by simp [rv.length], show its2.toArray.size = ys.length by simp [rv2.length], eqVs_min]
  exact q
theorem op_neT (hu : X.A.units < cLine) : OpR X (compareOp .NotEq) (rEqT X.K true) := by
  intro pins s σ H x y v u Q I rx ry h
  obtain ⟨a, b, xs, ys, rfl, rfl, ha, hb, fx, fy, q⟩ := h
  cases (show v = Value.ref a from rx)
  cases (show u = Value.ref b from ry)
  obtain ⟨its, rv, p, _⟩ := I.tuple ha
  obtain ⟨its2, rv2, p2, _⟩ := I.tuple hb
  refine SeqAt.RcNeAt.tuples (e := fun j => eqV (xs.getD j .non) (ys.getD j .non)) p p2 hu (fun j h1 h2 => eqAt_items rv rv2 fx fy j h1 h2) X.prog X.w X.xe _ ?_
  refine ⟨.bl _, H, I, rfl, ?_⟩
  rw [show its.toArray.size = xs.length by simp [rv.length], show its2.toArray.size = ys.length by simp [rv2.length], eqVs_min]
  exact q
def oEqA (hu : X.A.units < cLine) := (op_eq (X := X)).or ((op_eqL hu).or (op_eqT hu))

/-! ### {} -/
theorem Inv.big {pins : List (Addr × Obj)} {σ : St} {H : Hp} {s : Shared} (I : Inv X pins σ H s) : sysModules < s.heap.objs.size :=
  Nat.lt_trans (by decide) (I.mod.glob.keeps I.bk).lt
def tDNewK : TE := fun _ H Q => ∀ p, H p = none → Q (.ref p) (upd H p (.dK []))
theorem pe_dnewK {pos : Pos} : PE X (.Dict [] [] pos) tDNewK := fun pins s σ H Q I h =>
  wpAny_Dict_empty ⟨.ref s.heap.objs.size, _, I.laid (a := s.heap.objs.size) (o := .dK []) (t' := s.toks) (fun _ _ q => Heap.get?_push_of_some _ q) (Nat.le_refl _)
    ⟨Nat.zero_le _, beq_eq_false_iff_ne.mpr (Ne.symm (Nat.ne_of_lt I.big)), [], .nil, Heap.DictOf.new s.heap⟩, rfl, h _ (I.hok.fresh (Nat.le_refl _))⟩
end
end L2

namespace L2
open PySem PySem.Spec PyProof.Rows
section
variable {X : Cx}
/-! ### sum of a list of ints -/
theorem vals_intsAt : ∀ {ns : List Int} {us : List Value}, Vals (ns.map V.int) us → ∀ (j : Nat) v, us[j]? = some v → ∃ t, v = .int (ns.getD j 0) t
  | [], _, r, j, v, h => by
    cases r; cases h
  | n :: ns, _, r, j, v, h => by
    cases r with
    | cons a r =>
      cases j with
      | zero => cases h; obtain ⟨t, e⟩ := a; exact ⟨t, e⟩
      | succ j => exact vals_intsAt r j v h
theorem preSum_list : ∀ (ns : List Int), PySem.preSum (fun j => ns.getD j 0) ns.length = ns.sum := by
  intro ns
  have go : ∀ (l : List Int) (k : Nat), k ≤ l.length → PySem.preSum (fun j => l.getD j 0) k = (l.take k).sum := by
    intro l k
    induction k with
    | zero => intro _; rw [List.take_zero]; rfl
    | succ k ih =>
      intro h
      show PySem.preSum _ k + l.getD k 0 = _
      rw [ih (by omega), List.take_add_one, List.sum_append_int, List.getElem?_eq_getElem (by omega), List.getD_eq_getElem?_getD, List.getElem?_eq_getElem (by omega)]
      simp
  rw [go ns _ (Nat.le_refl _), List.take_length]
theorem callSum (hc : X.calm = true) : CallR X (.builtin "sum") (fun xs H Q => ∃ (p : Addr) (ns : List Int), xs = [.ref p] ∧ SqL X.K H p (ns.map V.int) ∧ Q (.int ns.sum) H) := by
  intro pins s σ H vs us Q I r h
  obtain ⟨p, ns, rfl, hp, q⟩ := h
  obtain ⟨u, rfl, ru⟩ := vals1 r
  cases (show u = Value.ref p from ru)
  obtain ⟨its, rv, pl, _⟩ := I.list hp
  have hlen : its.toArray.size = ns.length := by have := rv.length; rw [List.length_map] at this; simp [this]
  have hl := pl.isList
  obtain ⟨o, ho, _⟩ := id hl
  have hne : p ≠ s.heap.objs.size := Nat.ne_of_lt (Heap.lt_size ho)
  have hh := I.ok.hd hc
  have W := (Walks.list (prog := X.prog) (w := X.w) (A := X.A.in1) hh s.heap.objs.size p hne its.toArray).toS
  rw [hlen] at W
  refine call_sum_walkAnyS (wpAny_pyIter_list hl ?_)
  refine ⟨s.heap.objs.size, _, _, _, _, _, _, fun j => ns.getD j 0, rfl, W, ⟨⟨_, Heap.get?_push_size _ rfl, rfl, rfl⟩, hl.push _⟩, fun b hb => ?_, fun i v hP => vals_intsAt rv i v (by simpa using hP), fun s' t' hm => ?_⟩
  · rcases List.mem_cons.mp hb with rfl | hb
    · exact Heap.lt_size (Heap.get?_push_size _ rfl)
    · obtain rfl := List.mem_singleton.mp hb
      exact Heap.lt_size (Heap.get?_push_of_some _ ho)
  · obtain ⟨h', g', d', tk', os'⟩ := s'
    have e1 : g' = s.gens := hm.gens
    have e2 : d' = s.drawn := hm.drawn
    have e3 : os' = s.os := hm.os
    subst e1 e2 e3
    rw [preSum_list]
    exact ⟨.int _, H, I.kept (t' := tk') fun b u e => hm.heap b u (fun hb => absurd (Heap.lt_size e) ((List.mem_singleton.mp hb) ▸ Nat.lt_irrefl _)) (Heap.get?_push_of_some _ e), ⟨_, rfl⟩, q⟩
end
end L2

namespace L2
open PySem PySem.Spec PyProof.Rows
section
variable {K : PySem.W.Frag}
/-! ### the heap, step by step -/
theorem same_new {H : Hp} {p : Addr} (h : H p = none) (o : HO) : Same H (upd H p o) := fun b u q => by rw [upd_ne (ne_of_none q h)]; exact q
theorem same_over {H H3 : Hp} {p : Addr} (s : Same H H3) (h : H p = none) (o : HO) : Same H (upd H3 p o) := fun b u q => by rw [upd_ne (ne_of_none q h)]; exact s b u q
theorem same_tup {H H' : Hp} {a : Addr} {xs : List V} (e : Same H H') (h : SqT K H a xs) : SqT K H' a xs := by
  rcases h with (h | ⟨o, h⟩) | h
  · exact .inl (.inl (e _ _ h))
  · exact .inl (.inr ⟨o, e _ _ h⟩)
  · exact .inr h
theorem same_lst {H H' : Hp} {a : Addr} {xs : List V} (e : Same H H') (h : SqL K H a xs) : SqL K H' a xs := e.seq h
theorem same_at {H H' : Hp} {a : Addr} {o : HO} (e : Same H H') (h : H a = some o) : H' a = some o := e _ _ h
theorem new_tup {H : Hp} {p a : Addr} {o : HO} {xs : List V} (n : H p = none) (h : SqT K H a xs) : SqT K (upd H p o) a xs := same_tup (same_new n o) h
theorem new_lst {H : Hp} {p a : Addr} {o : HO} {xs : List V} (n : H p = none) (h : SqL K H a xs) : SqL K (upd H p o) a xs := same_lst (same_new n o) h
theorem new_at {H : Hp} {p a : Addr} {o u : HO} (n : H p = none) (h : H a = some u) : upd H p o a = some u := same_new n o _ _ h
theorem new_same {H H1 : Hp} {p : Addr} {o : HO} (n : H1 p = none) (h : Same H H1) : Same H (upd H1 p o) := h.trans (same_new n o)
theorem ne_at {H : Hp} {p a : Addr} {o u : HO} (n : a ≠ p) (h : H a = some u) : upd H p o a = some u := by rw [upd_ne n]; exact h
theorem ne_tup {H : Hp} {p a : Addr} {o : HO} {xs : List V} (n : a ≠ p) (h : SqT K H a xs) : SqT K (upd H p o) a xs := by
  rcases h with (h | ⟨u, h⟩) | h
  · exact .inl (.inl (ne_at n h))
  · exact .inl (.inr ⟨u, ne_at n h⟩)
  · exact .inr h
theorem ne_lst {H : Hp} {p a : Addr} {o : HO} {xs : List V} (n : a ≠ p) (h : SqL K H a xs) : SqL K (upd H p o) a xs := by
  rcases h with (h | ⟨u, h⟩) | h
  · exact .inl (.inl (ne_at n h))
  · exact .inl (.inr ⟨u, ne_at n h⟩)
  · exact .inr h
theorem over_same {H H1 : Hp} {p : Addr} {o : HO} (n : H p = none) (h : Same H H1) : Same H (upd H1 p o) := same_over h n o
/-! ### readings, each by one word -/
theorem ixL {H : Hp} {Q : VK} {p : Addr} {xs : List V} {i : Int} {v : V} (h : SqL K H p xs) (e : atI xs i = some v) (q : Q v H) : rIx K (.ref p) (.int i) H Q := .inl ⟨p, xs, i, v, rfl, rfl, h, e, q⟩
theorem ixT {H : Hp} {Q : VK} {p : Addr} {xs : List V} {i : Int} {v : V} (h : SqT K H p xs) (e : atI xs i = some v) (q : Q v H) : rIx K (.ref p) (.int i) H Q := .inr (.inl ⟨p, xs, i, v, rfl, rfl, h, e, q⟩)
theorem ixS {H : Hp} {Q : VK} {l : List Nat} {i : Int} {c : Nat} (h : l.length ≤ sizeLine) (e : atI l i = some c) (q : Q (vt [c]) H) : rIx K (vt l) (.int i) H Q := .inr (.inr ⟨tx l, i, c, rfl, rfl, by rw [tx_len]; exact h, e, q⟩)
theorem appL {H : Hp} {Q : VK} {l : Addr} {xs : List V} {y : V} (h : H l = some (.lst xs)) (z : xs.length < sizeLine) (q : Q .non (upd H l (.lst (xs ++ [y])))) : rAppend (.ref l) [y] H Q := ⟨l, xs, y, rfl, rfl, h, z, q⟩
theorem tyL {H : Hp} {p : Addr} {xs : List V} (h : SqL K H p xs) : tyV K "list" (.ref p) H := .inl ⟨rfl, _, h⟩
theorem cutT {H : Hp} {Q : VK} {l : List Nat} {lo hi : Option Int} (z : l.length ≤ sizeLine) (q : Q (vt (cutL l lo hi)) H) : rSlS (vt l) lo hi H Q := ⟨tx l, rfl, by rw [tx_len]; exact z, q⟩
theorem lenvS {H : Hp} {l : List Nat} (h : l.length ≤ sizeLine) : LenV K (vt l) H l.length := ⟨by rw [tx_len]; exact h, (tx_len l).symm⟩
theorem iteU {c A B : Prop} {inst : Decidable c} (h1 : c → A) (h2 : ¬ c → B) : @ite Prop c inst A B := ite2 h1 h2
/-! ### a test that is known -/
theorem ifT {c A B : Prop} [Decidable c] (h : c) (a : A) : if decide c = true then A else B := by rw [decide_eq_true h]; exact iteT a
theorem ifF {c A B : Prop} [Decidable c] (h : ¬ c) (b : B) : if decide c = true then A else B := by rw [decide_eq_false h]; exact iteF b
theorem ifnT {c A B : Prop} [Decidable c] (h : ¬ c) (a : A) : if (!decide c) = true then A else B := by rw [decide_eq_false h]; exact iteT a
theorem ifnF {c A B : Prop} [Decidable c] (h : c) (b : B) : if (!decide c) = true then A else B := by rw [decide_eq_true h]; exact iteF b
theorem if2 {c A B : Prop} [Decidable c] (a : c → A) (b : ¬ c → B) : if decide c = true then A else B := by
  by_cases h : c
  · exact ifT h (a h)
  · exact ifF h (b h)
theorem ifn2 {c A B : Prop} [Decidable c] (a : ¬ c → A) (b : c → B) : if (!decide c) = true then A else B := by
  by_cases h : c
  · exact ifnF h (b h)
  · exact ifnT h (a h)
theorem vtx {l m : List Nat} : (vt l = vt m) ↔ l = m := ⟨fun h => tx_inj (V.str.inj h), congrArg _⟩
theorem cdivK {i j : Int} (h : 0 < j) (h2 : j < 1000000000) : CDivL i j := by
  refine ⟨by omega, Nat.lt_of_lt_of_le (show j.natAbs < 2 ^ 30 by omega) (Nat.pow_le_pow_right (by decide) (by decide))⟩
/-! ### products of numbers, one rule -/
def MulOk (i j : Int) : Prop := CMul i j ∨ CMulL i j ∨ CMulB i j
theorem mulN {X : Cx} : OpR X (binaryOp .Mult) (rI MulOk fun i j => .int (i * j)) := opI fun _ _ _ _ _ _ _ hc q => by
  rcases hc with hc | hc | hc
  · exact mul_int q hc.ok
  · exact mul_int q (PySem.IntMulOk.of_le (bits_of hc.1) (bits_of hc.2) (by decide))
  · exact mul_int q (PySem.IntMulOk.of_le hc.1 hc.2 (by decide))
/-- texts as lists of signs: l + m, l * n, l += m -/
def rCatX : R2 := fun x y H Q => ∃ l m, x = vt l ∧ y = vt m ∧ l.length + m.length ≤ sizeLine ∧ Q (vt (l ++ m)) H
theorem op_catX {X : Cx} : OpR X (binaryOp .Add) rCatX := fun pins s σ H x y v u Q I rx ry h => by
  obtain ⟨l, m, rfl, rfl, hz, q⟩ := h
  exact op_add_str pins s σ H _ _ v u Q I rx ry ⟨_, _, rfl, rfl, by rw [tx_len, tx_len]; exact hz, by rw [tx_app]; exact q⟩
theorem ip_catX {X : Cx} : OpR X (inplaceOp .Add) rCatX := fun pins s σ H x y v u Q I rx ry h => by
  obtain ⟨l, m, rfl, rfl, hz, q⟩ := h
  exact iop_add_str pins s σ H _ _ v u Q I rx ry ⟨_, _, rfl, rfl, by rw [tx_len, tx_len]; exact hz, by rw [tx_app]; exact q⟩
def rRepX : R2 := fun x y H Q => ∃ l n, x = vt l ∧ y = .int n ∧ (0 ≤ n ∧ n ≤ 4000 ∧ l.length ≤ 4000) ∧ Q (vt (List.replicate n.toNat l).flatten) H
theorem op_repX {X : Cx} : OpR X (binaryOp .Mult) rRepX := fun pins s σ H x y v u Q I rx ry h => by
  obtain ⟨l, n, rfl, rfl, ⟨h1, h2, h3⟩, q⟩ := h
  exact op_mul_str pins s σ H _ _ v u Q I rx ry ⟨_, _, rfl, rfl, h1, h2, by rw [tx_len]; exact h3, by rw [tx_rep]; exact q⟩
def oMulN {X : Cx} := (mulN (X := X)).or (op_repX.or op_rep)
def oAddN {X : Cx} := (op_add (X := X)).or (op_catX.or (op_cat.or op_catT))
theorem catX {H : Hp} {Q : VK} {l m : List Nat} (z : l.length + m.length ≤ sizeLine) (q : Q (vt (l ++ m)) H) : rCatX (vt l) (vt m) H Q := ⟨l, m, rfl, rfl, z, q⟩
theorem mulL {i j : Int} (h1 : -(2 ^ 64) < i) (h2 : i < 2 ^ 64) : MulOk i j := .inl (.inl ⟨h1, h2⟩)
theorem mulR {i j : Int} (h1 : -(2 ^ 64) < j) (h2 : j < 2 ^ 64) : MulOk i j := .inl (.inr ⟨h1, h2⟩)
theorem mulB {i j : Int} (h1 : i.natAbs < 2 ^ 100000) (h2 : j.natAbs < 2 ^ 100000) : MulOk i j := .inr (.inl ⟨h1, h2⟩)
/-! ### op= -/
theorem ip_mulN {X : Cx} : OpR X (inplaceOp .Mult) (rI MulOk fun i j => .int (i * j)) := opI fun _ _ _ _ _ _ _ hc q => by
  rcases hc with hc | hc | hc
  · exact PyProof.Rows.imul_int q hc.ok
  · exact PyProof.Rows.imul_int q (PySem.IntMulOk.of_le (bits_of hc.1) (bits_of hc.2) (by decide))
  · exact PyProof.Rows.imul_int q (PySem.IntMulOk.of_le hc.1 hc.2 (by decide))
theorem ip_addN {X : Cx} : OpR X (inplaceOp .Add) (rI0 fun i j => .int (i + j)) := opI0 fun _ _ _ _ _ _ _ q => PyProof.Rows.iadd_int q
def ipAdd {X : Cx} := (ip_addN (X := X)).or ip_catX
def ipMul {X : Cx} := (ip_mulN (X := X)).or (op_no (X := X))
/-! ### comprehensions by what their items are -/
/-- .. whose element leaves the heap -/
theorem lc_vals {J : It} {xs : List V} {Ok : Hp → Prop} (Wk : Walk J xs Ok) {te : TE} {H : Hp} {D : Addr} {Q : VK} {caps : St} (R : Nat → V → Prop) (hl : ∀ ys, Ok (upd H D (.lst ys))) (hz : xs.length < sizeLine)
    (hs : ∀ (i : Nat) (x : V) (ys : List V) (C : VK), xs[i]? = some x → (∀ v, R i v → C v (upd H D (.lst ys))) → te (some x :: caps) (upd H D (.lst ys)) C)
    (hd : ∀ ys, ys.length = xs.length → (∀ (j : Nat) v, ys[j]? = some v → R j v) → Q (.ref D) (upd H D (.lst ys))) : LCgo J (gName 0) tTrue te D (none :: caps) (upd H D (.lst [])) Q := by
  refine lc_walk Wk (fun i σ H' => ∃ r ys, σ = r :: caps ∧ H' = upd H D (.lst ys) ∧ ys.length = i ∧ ∀ (j : Nat) v, ys[j]? = some v → R j v) ⟨none, [], rfl, rfl, rfl, fun j v h => nomatch h⟩ (fun i σ H' _ ⟨_, _, _, e, _⟩ => by rw [e]; exact hl _) ?_ ?_
  · rintro i x σ H' hx ⟨r, ys, rfl, rfl, hy, hR⟩
    have hi := (List.getElem?_eq_some_iff.mp hx).1
    simp only [gName, tTrue, if_true]
    refine hs i x ys _ hx fun v hv => ⟨ys, upd_same, by omega, _, _, rfl, upd_upd, by rw [List.length_append, hy]; rfl, fun j u hu => ?_⟩
    by_cases z : j < ys.length
    · rw [List.getElem?_append_left z] at hu; exact hR j u hu
    · rw [List.getElem?_append_right (by omega)] at hu
      have : j - ys.length = 0 := by
        have := (List.getElem?_eq_some_iff.mp hu).1
        simp at this; omega
      rw [this] at hu
      cases hu
      have : j = i := by omega
      rw [this]; exact hv
  · rintro σ H' ⟨r, ys, rfl, rfl, hy, hR⟩
    exact hd ys hy hR
/-- .. whose element may make things -/
theorem lc_grow {J : It} {xs : List V} {Ok : Hp → Prop} (Wk : Walk J xs Ok) {te : TE} {H : Hp} {D : Addr} {Q : VK} {caps : St} (hD : H D = none) (R : Hp → Nat → V → Prop) (hm : ∀ H1 H2 j v, (∀ b o, b ≠ D → H1 b = some o → H2 b = some o) → R H1 j v → R H2 j v)
    (hl : ∀ H1, Same H H1 → Ok H1) (hz : xs.length < sizeLine)
    (hs : ∀ (i : Nat) (x : V) (H1 : Hp) (ys : List V) (C : VK), xs[i]? = some x → Same H H1 → H1 D = some (.lst ys) → (∀ H2 v, Same H1 H2 → R H2 i v → C v H2) → te (some x :: caps) H1 C)
    (hd : ∀ H1 ys, Same H H1 → H1 D = some (.lst ys) → ys.length = xs.length → (∀ (j : Nat) v, ys[j]? = some v → R H1 j v) → Q (.ref D) H1) : LCgo J (gName 0) tTrue te D (none :: caps) (upd H D (.lst [])) Q := by
  refine lc_walk Wk (fun i σ H' => ∃ r ys, σ = r :: caps ∧ Same H H' ∧ H' D = some (.lst ys) ∧ ys.length = i ∧ ∀ (j : Nat) v, ys[j]? = some v → R H' j v) ⟨none, [], rfl, same_new hD _, upd_same, rfl, fun j v h => nomatch h⟩ (fun i σ H' _ ⟨_, _, _, e, _⟩ => hl _ e) ?_ ?_
  · rintro i x σ H' hx ⟨r, ys, rfl, hS, hy, hn, hR⟩
    have hi := (List.getElem?_eq_some_iff.mp hx).1
    simp only [gName, tTrue, if_true]
    refine hs i x H' ys _ hx hS hy fun H2 v h2 hv => ⟨ys, h2 _ _ hy, by omega, _, _, rfl, ?_, upd_same, by rw [List.length_append, hn]; rfl, fun j u hu => ?_⟩
    · exact same_over (hS.trans h2) hD _
    · have up : ∀ b o, b ≠ D → H2 b = some o → upd H2 D (.lst (ys ++ [v])) b = some o := fun b o hb e => by rw [upd_ne hb]; exact e
      by_cases z : j < ys.length
      · rw [List.getElem?_append_left z] at hu
        exact hm _ _ _ _ up (hm _ _ _ _ (fun b o _ e => h2 b o e) (hR j u hu))
      · rw [List.getElem?_append_right (by omega)] at hu
        have : j - ys.length = 0 := by
          have := (List.getElem?_eq_some_iff.mp hu).1
          simp at this; omega
        rw [this] at hu
        cases hu
        have : j = i := by omega
        rw [this]; exact hm _ _ _ _ up hv
  · rintro σ H' ⟨r, ys, rfl, hS, hy, hn, hR⟩
    exact hd H' ys hS hy hn hR
/-! ### a reading that asks less -/
end
end L2

namespace PySem
theorem wpAny_excMatches_up {M : Model} {A : Around} {E : Value → Shared → Prop} {nm q : Str} {R C N : Addr} {bs bm : List Value} {hdct : Bool} {sn : List Str} {sub : List Value} {ab : Bool} {col : Option Bool} {dd : Option Addr} {k0 k1 k2 k3 k5 : Option Value} {newId : String} {K : PySem.W.Frag} {h : Heap} {g : Array GenState} {d : Drawn} {t : Nat} {os : OsState} {e : Addr} {oe : Obj} {Q : Bool → Shared → Prop}
    (X : K.In h) (hup : PySem.W.mroIn K R (.ref C) = some true) (hC : h.get? C = some (excClassObj nm q C N bs bm hdct sn sub ab col dd k0 k1 k2 k3 k5 newId)) (he : h.get? e = some oe) (hcls : oe.cls = .ref R) (hbase : bm.contains (.type "BaseException") = true)
    (hq : Q true ⟨h, g, d, t, os⟩) : wpAny M A (excMatches (.ref e) (.ref C)) Q E ⟨h, g, d, t, os⟩ := by
  have hcB : (Value.ref C :: bm).contains (.type "BaseException") = true := by rw [List.contains_cons, hbase, Bool.or_true]
  have f := tc_notTuple
  unfold excMatches
  repeat (first | (with_reducible refine wpAny_loadPart_at he ?_; rw [hcls]) | with_reducible refine wpAny_loadPart_at hC ?_ | (with_reducible refine wpAny_isSubtype_exc hC ?_; rw [hcB]) | with_reducible refine XT.sub_K X hup ?_ | wp_step)
  exact hq
end PySem
namespace L2
open PySem PySem.Spec PyProof.Rows
def tTryU (K : PySem.W.Frag) (C : Addr) (i : Nat) (tb : Pins → (Value → Shared → Prop) → XS → TS) (th : Pins → Value → TS) : TS := fun D σ H => ∀ pins xe,
  tb pins xe (fun c σ' H' => ∃ R, c = .ref R ∧ PySem.W.mroIn K R (.ref C) = some true ∧ ∀ a, H' a = none → ∀ ps e, th ps e (D.hand i) (σ'.set i (some (.ref a))) (upd H' a (excO a R))) D σ H
section
variable {X : Cx} {C : Addr} {i : Nat} {n x : Str} {body : List Stmt} {b₀ : Stmt} {suite : List Stmt} {np hpos pos : Pos} {tb : Pins → (Value → Shared → Prop) → XS → TS} {th : Pins → Value → TS} {bmB : List Value} {newId : String}
theorem ps_tryU (hA : X.calm = true) (hex : X.ex = []) (hst : X.stack = X.env :: X.outer) (hfr : X.env.frame = some X.env.locals) (hN : X.N.Nodup) (hi : X.N[i]? = some n) (hk : X.env.kindOf n = some .local) (hg : Gl X x) (hm : X.mg x = some (.ref C))
    (hq : PySem.W.excIn X.K C bmB newId = true) (hbase : bmB.contains (.type "BaseException") = true)
    (hb : ∀ (pins : List (Addr × Obj)) (xe : Value → Shared → Prop) (Φ : XS), PassX X.prog X.w (X.tryX pins xe) Φ → PSs (X.tryX pins xe) body (tb pins xe Φ))
    (hh : ∀ (pins : List (Addr × Obj)) (e : Value), PSs (X.handX pins e) (b₀ :: suite) (th pins e)) (hdb : (x == ("__debug__" : Str)) = false := by decide) :
    PS X (.Try body [.ExceptHandler (some (.Name x np)) (some n) (b₀ :: suite) hpos] [] [] pos) (tTryU X.K C i tb th) := by
  intro pins s σ H D I h
  have ok := I.ok
  refine wpAny_Try_except (thn (hb pins _ _ ?_ [] s σ H D (I.tryX _) (h _ _)) fun f s1 z => ?_)
  · intro pins' σ1 H1 s1 e s2 I1 hc
    obtain ⟨a, Cv, H2, rfl, y, R, rfl, hup, hΦ⟩ := hc
    obtain ⟨B, a0, hf, k1, k2, k3⟩ := y.ex
    have hf : Heap.FlyingW B (X.env :: X.outer) a (.ref R) a0 s2.heap := hst ▸ hf
    show wpAny _ _ (noteFrame _ _) _ _ _
    refine wpAny_looks_onW (by rw [ok.frames, hst]) hfr hf fun h4 hh4 hs4 => ?_
    refine wpAny_landsW hh4 fun h5 hf5 hs5 => ?_
    have mv := Fly.move y.un y.hok (hst ▸ hf) k1 k2 k3 hf5.1 (hs4.trans hs5)
    have I5 : Inv X pins σ1 H2 { s2 with heap := h5 } := Inv.untry ok (Inv.call' (s' := { s2 with heap := h5 }) (ch := []) I1 y.os mv.1 mv.2 y.bare fun b z => absurd z (by simp))
    have J5 := I5.handX (.ref a)
    obtain ⟨ob, hob, hobc⟩ := hf5.there
    refine wpAny_handleBy_cons (codeAny_handlers_test ?_) (by intro q; cases q)
    refine ld_glob (X := X.handX pins (.ref a)) J5 hg hm ?_ hdb
    obtain ⟨bm, N, nm, qn, bs, hdct, sn, sub, ab, col, dd, k0, k1', k2', k3', k5, mN, hC, hNs, hni, T⟩ := exc_obj I5.kIn hq
    refine wpAny_excMatches_up I5.kIn hup hC hob hobc (T.hasType hbase) (codeAny_handlers_suite_as ?_)
    refine lands_againW hf5 fun h6 hf6 hs6 => ?_
    have mv6 := Fly.move y.un y.hok (hst ▸ hf) k1 k2 k3 hf6.1 ((hs4.trans hs5).trans hs6)
    have I6 : Inv X pins σ1 H2 { s2 with heap := h6 } := Inv.untry ok (Inv.call' (s' := { s2 with heap := h6 }) (ch := []) I1 y.os mv6.1 mv6.2 y.bare fun b z => absurd z (by simp))
    have lc : ∀ b o, s1.heap.get? b = some o → b ≠ a := fun b o e z => by rw [z, y.new] at e; cases e
    have I7 : Inv X pins σ1 (upd H2 a (excO a R)) { s2 with heap := h6 } := by
      refine I6.adopt y.gone ?_ ?_ (fun x c e => ?_) (fun p hp => ?_) ?_
      · cases q : X.s₀.heap.get? a with
        | none => rfl
        | some o =>
          by_cases hx : a ∈ X.ex
          · rw [hex] at hx; exact absurd hx (by simp)
          · obtain ⟨o1, e1⟩ := I1.base.there a o q hx
            exact absurd rfl (lc a o1 e1)
      · obtain ⟨m, ⟨o, _, _, ho, _⟩, _⟩ := I1.loc
        exact lc _ o ho
      · obtain ⟨v, o, ho, _⟩ := I1.cell x c e
        exact lc _ o ho
      · exact lc _ _ (I1.pin p (List.mem_append_left _ hp)).1
      · obtain ⟨o6, ho6, hc6⟩ := hf6.there
        exact ⟨⟨o6, ho6, hc6⟩, ⟨o6, ho6⟩, fun h1 h2 ⟨o, e1, e2⟩ k => ⟨o, k o e1, e2⟩⟩
    refine store_ok (X := X.handX pins (.ref a)) (v := .ref a) (I7.handX (.ref a)) hN hi (.inl hk) rfl (fun s8 I8 => ?_) (.inr hk)
    refine wpAny_mono (hh pins (.ref a) [] s8 _ _ _ I8 (hΦ a y.gone _ _)) (fun f s9 z => ?_) fun _ _ z => z.elim
    cases f with
    | next => obtain ⟨σ', H', J, q⟩ := z; exact name_gone (X := X) (J.unhand ok) hN hi hk fun s' J' => ⟨_, H', J', q⟩
    | brk => obtain ⟨σ', H', J, q⟩ := z; exact name_gone (X := X) (J.unhand ok) hN hi hk fun s' J' => ⟨_, H', J', q⟩
    | cont => obtain ⟨σ', H', J, q⟩ := z; exact name_gone (X := X) (J.unhand ok) hN hi hk fun s' J' => ⟨_, H', J', q⟩
    | ret u => obtain ⟨v, σ', H', J, r, q⟩ := z; exact name_gone (X := X) (J.unhand ok) hN hi hk fun s' J' => ⟨v, _, H', J', r, q⟩
  · cases f with
    | next => exact wpAny_execs_nil (SP.untry ok z)
    | brk => exact SP.untry ok z
    | cont => exact SP.untry ok z
    | ret u => exact SP.untry ok z
end
end L2

namespace PySem
namespace F
theorem owner_rev : Manifest.owners.lookup (String.ofList ['d', 'e', 's', 'r', 'e', 'v', 'e', 'r'].reverse) = some Manifest.sig_reversed := by kernel_rfl
theorem slot_rev_next : Slot "reversed" "__next__" "reversed.__next__" :=
  .of (owner := "reversed") (n := "__next__") (by rw [typeLookup_type, builtinLookup_eq_fast]; kernel_rfl) (by decide +kernel) (by decide +kernel) (by decide +kernel)
    (by first | exact .inl (by decide +kernel) | exact .inr (by decide +kernel)) (by rw [isSubtype_type]; kernel_rfl)
theorem entry_rev_next : entryFor table "reversed.__next__" = some Builtin.«reversed.__next__» := entryFor_of_tree (by kernel_rfl)
theorem args_rev_next_1 (a : Value) : argsOk "reversed.__next__" ⟨[a], []⟩ := by
  unfold argsOk; rw [signature?_of (id := "reversed.__next__") (n := ['_', '_', 't', 'x', 'e', 'n', '_', '_']) (o := ['d', 'e', 's', 'r', 'e', 'v', 'e', 'r']) (by kernel_rfl) owner_rev]; kernel_rfl
theorem slot_rev_iter : Slot "reversed" "__iter__" "reversed.__iter__" :=
  .of (owner := "reversed") (n := "__iter__") (by rw [typeLookup_type, builtinLookup_eq_fast]; kernel_rfl) (by decide +kernel) (by decide +kernel) (by decide +kernel)
    (by first | exact .inl (by decide +kernel) | exact .inr (by decide +kernel)) (by rw [isSubtype_type]; kernel_rfl)
theorem args_rev_iter_1 (a : Value) : argsOk "reversed.__iter__" ⟨[a], []⟩ := by
  unfold argsOk; rw [signature?_of (id := "reversed.__iter__") (n := ['_', '_', 'r', 'e', 't', 'i', '_', '_']) (o := ['d', 'e', 's', 'r', 'e', 'v', 'e', 'r']) (by kernel_rfl) owner_rev]; kernel_rfl
theorem entry_rev_iter : entryFor table "reversed.__iter__" = some Builtin.«dict_keyiterator.__iter__» :=
  entryFor_alias (id' := "dict_keyiterator.__iter__") (by kernel_rfl) (by first | rfl | decide +kernel | (unfold String.splitOn; simp +decide [String.splitOnAux])) (by decide +kernel) (by kernel_rfl)
theorem slot_rev_hint : Slot "reversed" "__length_hint__" "reversed.__length_hint__" :=
  .of (owner := "reversed") (n := "__length_hint__") (by rw [typeLookup_type, builtinLookup_eq_fast]; kernel_rfl) (by decide +kernel) (by decide +kernel) (by decide +kernel)
    (by first | exact .inl (by decide +kernel) | exact .inr (by decide +kernel)) (by rw [isSubtype_type]; kernel_rfl)
theorem entry_rev_hint : entryFor table "reversed.__length_hint__" = some Builtin.«reversed.__length_hint__» := entryFor_of_tree (by kernel_rfl)
theorem args_rev_hint_1 (a : Value) : argsOk "reversed.__length_hint__" ⟨[a], []⟩ := by
  unfold argsOk; rw [signature?_of (id := "reversed.__length_hint__") (n := ['_', '_', 't', 'n', 'i', 'h', '_', 'h', 't', 'g', 'n', 'e', 'l', '_', '_']) (o := ['d', 'e', 's', 'r', 'e', 'v', 'e', 'r']) (by kernel_rfl) owner_rev]; kernel_rfl
theorem slot_rev_init : Slot "reversed" "__init__" "object.__init__" :=
  .of (owner := "object") (n := "__init__") (by rw [typeLookup_type, builtinLookup_eq_fast]; kernel_rfl) (by decide +kernel) (by decide +kernel) (by decide +kernel)
    (by first | exact .inl (by decide +kernel) | exact .inr (by decide +kernel)) (by rw [isSubtype_type]; kernel_rfl)
theorem called_rev : TypeCalled "reversed" "reversed.__new__" "object.__init__" :=
  ⟨by decide +kernel, by decide +kernel, ⟨_, _, mro_reversed⟩, made_reversed, by decide +kernel, by rw [isSubtype_type]; kernel_rfl, slot_rev_init⟩
theorem str_no_rev : typeLookup (.type "str") "__reversed__" = pure none := by rw [typeLookup_type, builtinLookup_eq_fast]; kernel_rfl
theorem rev_no_len : typeLookup (.type "reversed") "__len__" = pure none := by rw [typeLookup_type, builtinLookup_eq_fast]; kernel_rfl
theorem str_getitem : typeLookup (.type "str") "__getitem__" = pure (some (.builtin "str.__getitem__")) := by rw [typeLookup_type, builtinLookup_eq_fast]; kernel_rfl
end F
section
variable {prog : Program} {w : World} {A : Around} {E : Value → Shared → Prop} {s : Shared}
def revStrObj (x : Str) (t : Tok) (i : Int) : Obj := { cls := .type "reversed", data := .fields #[.str x t, rawInt i] }
theorem code_reversed_str {x : Str} {t : Tok} {Q₁ : Value → Shared → Prop} (hx : x.length ≤ sizeLine)
    (h : ∀ tk, Q₁ (.ref s.heap.objs.size) { s with heap := s.heap.push (revStrObj x t ((x.length : Int) - 1)), toks := tk }) :
    codeAny (model prog w) A (.call (.builtin "reversed.__new__") ⟨[.type "reversed", .str x t], []⟩) (wants Q₁ E) s := by
  refine codeAny_of_tree ?_
  show wpAny _ A.in1 (do checkBuiltinCall "reversed.__new__" ⟨[.type "reversed", .str x t], []⟩; again (.builtin "reversed.__new__" ⟨[.type "reversed", .str x t], []⟩)) _ _ s
  refine wpAny_bind (wpAny_of_eq (F.newCall_reversed_1 _) (wpAny_pure ⟨plainId_quiet F.plain_reversed_new _, codeAny_builtin F.entry_reversed_new ?_⟩))
  rw [Around.under_plainId F.plain_reversed_new _]
  unfold Builtin.«reversed.__new__»
  refine wpAny_bind (wpAny_of_eq (newClass_reversed _) ?_)
  try dsimp only
  refine wpAny_bind (wpAny_of_eq (a := ()) (by first | rfl | kernel_rfl) ?_)
  refine wpAny_bind (wpAny_of_eq (a := ()) (by first | rfl | kernel_rfl) ?_)
  try dsimp only
  refine wpAny_bind (wpAny_specialOf (T := "str") (v := .str x t) rfl F.str_no_rev ?_)
  try dsimp only
  refine wpAny_bind (wpAny_bind (wpAny_isInstance (T := "str") (v := .str x t) (b := false) rfl F.sub_str_dict ?_))
  rw [if_neg Bool.false_ne_true]
  refine wpAny_bind (wpAny_specialOf (T := "str") (v := .str x t) rfl F.str_getitem ?_)
  dsimp only
  rw [if_pos (by decide)]
  refine wpAny_pure ?_
  rw [if_neg (by decide)]
  refine wpAny_bind (PyProof.Rows.len_str (by have := sizeLine_eq; omega) ?_)
  refine wpAny_bind (m := asInt? (.int _ _)) (wpAny_pure ?_)
  dsimp only
  unfold Builtin.SmallTypes.newRecord
  dsimp only
  refine wpAny_bind (wpAny_newObj_type ?_)
  exact wpAny_pure (h _)
theorem call_reversed_str {x : Str} {t : Tok} {Q : Value → Shared → Prop} (hx : x.length ≤ sizeLine)
    (h : ∀ tk, Q (.ref s.heap.objs.size) { s with heap := s.heap.push (revStrObj x t ((x.length : Int) - 1)), toks := tk }) : wpAny (model prog w) A (call (.type "reversed") [.str x t]) Q E s := by
  refine callType_codes (Q₁ := fun obj s₁ => obj = .ref s.heap.objs.size ∧ ∃ tk, s₁ = { s with heap := s.heap.push (revStrObj x t ((x.length : Int) - 1)), toks := tk }) F.called_rev (F.typeCall_reversed_1 _) F.entry_object_init (code_reversed_str hx fun tk => ⟨rfl, tk, rfl⟩) fun obj s₁ h₁ => ?_
  obtain ⟨rfl, tk, rfl⟩ := h₁
  have ty : ({ s with heap := s.heap.push (revStrObj x t ((x.length : Int) - 1)), toks := tk } : Shared).TypeIs (.ref s.heap.objs.size) "reversed" := ⟨_, Heap.get?_push_size _ rfl, rfl⟩
  exact ⟨ty, F.args_object_init_2 _ _, object_init_meets F.called_rev.init.lookup F.called_rev.made (by decide) prog w A.in1 _ _ ⟨ty, rfl, h tk⟩⟩
def Heap.IsRevStr (h : Heap) (a : Addr) (x : Str) (t : Tok) (i : Int) : Prop := ∃ o, h.get? a = some o ∧ o.cls = .type "reversed" ∧ o.data = .fields #[.str x t, rawInt i]
theorem Heap.IsRevStr.typeIs {a : Addr} {x : Str} {t : Tok} {i : Int} (z : s.heap.IsRevStr a x t i) : s.TypeIs (.ref a) "reversed" := let ⟨o, ho, hc, _⟩ := z; ⟨o, ho, hc⟩
theorem Heap.IsRevStr.at {h h' : Heap} {a : Addr} {x : Str} {t : Tok} {i : Int} (z : h.IsRevStr a x t i) (e : ∀ o, h.get? a = some o → h'.get? a = some o) : h'.IsRevStr a x t i := let ⟨o, ho, r⟩ := z; ⟨o, e _ ho, r⟩
theorem next_revStr_item {it : Addr} {x : Str} {t : Tok} {i c : Nat} {Q : Option Value → Shared → Prop} (hit : s.heap.IsRevStr it x t (i : Int)) (hc : x.cps[i]? = some c) (hx : x.length ≤ sizeLine)
    (hQ : ∀ h' u tk, h'.IsRevStr it x t ((i : Int) - 1) → Heap.SameBut it s.heap h' → Q (some (.str ⟨#[c]⟩ u)) { s with heap := h', toks := tk }) : wpAny (model prog w) A (pyNext (.ref it)) Q E s := by
  obtain ⟨o, ho, hcl, hd⟩ := id hit
  unfold pyNext
  refine wpAny_bind (wpAny_attempt (wpAny_callSpecial?_slot (name := Str.ofString "__next__") hit.typeIs F.slot_rev_next
    (wpAny_call_entry F.slot_rev_next hit.typeIs F.entry_rev_next ?_ (F.args_rev_next_1 _))))
  unfold Builtin.«reversed.__next__»
  refine wpAny_bind (wpAny_of_eq (a := (Value.ref it, [])) rfl ?_)
  try dsimp only
  refine wpAny_bind (wpAny_field ho hd (x := .str x t) rfl ?_)
  refine wpAny_bind (wpAny_field ho hd (x := rawInt (i : Int)) rfl ?_)
  show wpAny _ _ (if (i : Int) < 0 then _ else _) _ _ s
  rw [if_neg (by omega)]
  refine wpAny_bind (wpAny_specialOf (T := "str") (v := .str x t) rfl F.str_getitem ?_)
  rw [if_neg (by decide)]
  refine wpAny_bind (wpAny_mkInt ?_)
  have hi : i < x.cps.size := by
    rcases Nat.lt_or_ge i x.cps.size with h | h
    · exact h
    · rw [Array.getElem?_eq_none h] at hc; cases hc
  have hs := sizeLine_eq
  have hl : x.length = x.cps.size := rfl
  refine wpAny_bind (wpAny_attempt (PyProof.Rows.getItem_str (c := c) (i := (i : Int)) (by
    have e1 : decide ((i : Int) < -(2 ^ 63 : Int)) = false := decide_eq_false (by omega)
    have e2 : decide ((i : Int) ≥ 2 ^ 63) = false := decide_eq_false (by omega)
    rw [e1, e2, Bool.or_false]) (by rw [seqIndex_of (by omega) (by omega), Int.toNat_natCast]; exact hc) ?_))
  dsimp only
  refine wpAny_bind (wpAny_field ho hd (x := rawInt (i : Int)) rfl ?_)
  try dsimp only
  refine wpAny_bind (wpAny_setField ho hd (by simp) ?_)
  refine wpAny_pure ⟨_, rfl, wpAny_pure (hQ _ _ _ ?_ (Heap.SameBut.update ..))⟩
  exact ⟨_, Heap.get?_update_self _ ho (Obj.isFreed_of_fields (Obj.data_mapFields hd _)), (Obj.cls_mapFields ..).trans hcl, by
    rw [Obj.data_mapFields hd]; simp⟩
theorem next_revStr_end {it : Addr} {x : Str} {t : Tok} {Q : Option Value → Shared → Prop} (hh : A.handled = none) (hit : s.heap.IsRevStr it x t (-1))
    (hQ : ∀ h', Heap.ExtBut it s.heap h' → Q none { s with heap := h' }) : wpAny (model prog w) A (pyNext (.ref it)) Q E s := by
  obtain ⟨o, ho, hc, hd⟩ := id hit
  unfold pyNext
  refine wpAny_bind (wpAny_attempt (wpAny_callSpecial?_slot (name := Str.ofString "__next__") hit.typeIs F.slot_rev_next
    (wpAny_call_entry F.slot_rev_next hit.typeIs F.entry_rev_next ?_ (F.args_rev_next_1 _))))
  unfold Builtin.«reversed.__next__»
  refine wpAny_bind (wpAny_of_eq (a := (Value.ref it, [])) rfl ?_)
  try dsimp only
  refine wpAny_bind (wpAny_field ho hd (x := .str x t) rfl ?_)
  refine wpAny_bind (wpAny_field ho hd (x := rawInt (-1)) rfl ?_)
  show wpAny _ _ (if (-1 : Int) < 0 then _ else _) _ _ s
  rw [if_pos (by decide)]
  refine wpAny_bind (wpAny_rule ?_)
  refine wpAny_bind ?_
  refine wpAny_bind (wpAny_setField ho hd (by simp) ?_)
  have ho2 := Heap.get?_update_self (Obj.mapFields fun f => f.setIfInBounds 1 (rawInt (-1))) ho (Obj.isFreed_of_fields (Obj.data_mapFields hd _))
  refine wpAny_setField ho2 (Obj.data_mapFields hd _) (by simp) ?_
  refine wpAny_bind ?_
  first
  | show wpAny _ _ (newExc (.type "StopIteration") [] >>= _) _ _ _
  | (refine wpAny_bind ?_; show wpAny _ _ (newExc (.type "StopIteration") [] >>= _) _ _ _)
  refine wpAny_bind ?_
  simp only [newExc, newTuple]
  refine wpAny_bind (wpAny_newObj_type ?_ (by size_fits))
  refine wpAny_bind (m := firstArgMember _ _) (wpAny_of_eq (a := Value.none) (by first | rfl | (simp only [firstArgMember]; rfl)) ?_)
  refine wpAny_newObj_type ?_ (by size_fits)
  simp only [raiseNew]
  refine wpAny_bind (wpAny_handled ?_)
  first | rw [show A.in1.handled = none from hh] | rw [hh]
  refine wpAny_bind (wpAny_pure (wpAny_throw ?_))
  refine wpAny_bind (wpAny_isInstance (T := "StopIteration") (b := true) ⟨_, Heap.get?_push_size _ rfl, rfl⟩ isSubtype_stop ?_)
  refine wpAny_pure (hQ _ ?_)
  refine Heap.ExtBut.push (Heap.ExtBut.push ?_ _) _
  intro b u hb e
  rw [Heap.get?_update_other _ _ (Ne.symm hb), Heap.get?_update_other _ _ (Ne.symm hb)]; exact e
theorem iter_revStr {it : Addr} {x : Str} {t : Tok} {i : Int} {Q : Value → Shared → Prop} (hit : s.heap.IsRevStr it x t i) (h : Q (.ref it) s) : wpAny (model prog w) A (pyIter (.ref it)) Q E s := by
  refine wpAny_pyIter_slot hit.typeIs F.slot_rev_iter (wpAny_call_entry F.slot_rev_iter hit.typeIs F.entry_rev_iter ?_ (F.args_rev_iter_1 _))
  show wpAny _ _ (ret (.ref it)) _ _ s
  exact wpAny_pure ⟨_, rfl, "reversed", _, hit.typeIs, F.slot_rev_next.lookup, h⟩
end
theorem Walks.strRev {prog : Program} {w : World} {A : Around} (hh : A.handled = none) (I : Addr) (x : Str) (t : Tok) (hx : x.length ≤ sizeLine) :
    Walks prog w A I [I] [I] x.cps.size (fun i v => ∃ c u, x.cps[x.cps.size - 1 - i]? = some c ∧ v = .str ⟨#[c]⟩ u) (fun i h => i ≤ x.cps.size ∧ h.IsRevStr I x t ((x.cps.size : Int) - 1 - (i : Int))) where
  sub := fun b hb => by simp at hb; simp [hb]
  frame := fun _ _ _ z hk => ⟨z.1, z.2.at fun o e => hk I (by simp) o e⟩
  item := fun i s Q E hi z hQ => by
    have e : (x.cps.size : Int) - 1 - (i : Int) = ((x.cps.size - 1 - i : Nat) : Int) := by omega
    have hit := z.2
    rw [e] at hit
    have hc : x.cps[x.cps.size - 1 - i]? = some (x.cps[x.cps.size - 1 - i]'(by omega)) := Array.getElem?_eq_getElem (by omega)
    refine next_revStr_item hit hc hx fun h' u tk hit' hs' => ?_
    have e2 : ((x.cps.size - 1 - i : Nat) : Int) - 1 = (x.cps.size : Int) - 1 - ((i + 1 : Nat) : Int) := by omega
    rw [e2] at hit'
    exact hQ _ h' tk ⟨_, u, hc, rfl⟩ ⟨hi, hit'⟩ fun b o hb eo => hs'.extBut b o (fun h => hb (by simp [h])) eo
  done := fun s Q E z hQ => by
    have e : (x.cps.size : Int) - 1 - (x.cps.size : Int) = -1 := by omega
    have hit := z.2
    rw [e] at hit
    exact next_revStr_end hh hit fun h' he' => hQ h' s.toks fun b o hb eo => he' b o (fun h => hb (by simp [h])) eo
  self := fun _ _ _ _ z hQ => iter_revStr z.2 hQ
section
variable {prog : Program} {w : World} {A : Around} {E : Value → Shared → Prop} {s : Shared}
theorem call_hint_rev {it : Addr} {x : Str} {t : Tok} {i : Int} {Q : Value → Shared → Prop} (hit : s.heap.IsRevStr it x t i) (hx : x.length ≤ sizeLine) (hi : i + 1 ≤ x.length)
    (h : ∀ u tk, s.toks ≤ tk → Q (.int (i + 1) u) { s with toks := tk }) : wpAny (model prog w) A (call (.builtin "reversed.__length_hint__") [.ref it]) Q E s := by
  obtain ⟨o, ho, hc, hd⟩ := id hit
  refine wpAny_call_entry F.slot_rev_hint hit.typeIs F.entry_rev_hint ?_ (F.args_rev_hint_1 _)
  unfold Builtin.«reversed.__length_hint__»
  refine wpAny_bind (wpAny_of_eq (a := Value.ref it) (by first | rfl | kernel_rfl) ?_)
  refine wpAny_bind (wpAny_field ho hd (x := .str x t) rfl ?_)
  rw [if_neg (show ¬ ((Value.str x t == Value.none) = true) from Bool.false_ne_true)]
  refine wpAny_bind (PyProof.Rows.len_str (by have := sizeLine_eq; omega) ?_)
  refine wpAny_bind (m := asInt? (.int _ _)) (wpAny_pure ?_)
  dsimp only
  refine wpAny_bind (wpAny_field ho hd (x := rawInt i) rfl ?_)
  show wpAny _ A.in1 (if (x.length : Int) < i + 1 then _ else retInt (i + 1)) _ _ _
  rw [if_neg (by omega)]
  unfold retInt
  refine wpAny_bind (wpAny_mkInt ?_)
  exact wpAny_pure ⟨_, rfl, h _ _ (by show s.toks ≤ s.toks + 1 + 1 + 1; omega)⟩
theorem collect_rev {Q : List Value → Shared → Prop} {I : Addr} {x : Str} {t : Tok} (hh : A.handled = none) (hx : x.length ≤ sizeLine) (hit : s.heap.IsRevStr I x t ((x.length : Int) - 1))
    (hQ : ∀ s' acc, Moved [I] (fun a b => b = a) s s' → ItemsOf (fun i v => ∃ c u, x.cps[x.cps.size - 1 - i]? = some c ∧ v = .str ⟨#[c]⟩ u) acc x.cps.size → Q acc.toList s') : wpAny (model prog w) A (collect (.ref I)) Q E s := by
  have hn : x.cps.size ≤ sizeLine := hx
  have W := (Walks.strRev (prog := prog) (w := w) (A := A.in1) hh I x t hx).toS
  obtain ⟨o0, ho0, _⟩ := id hit
  have hlt := Heap.lt_size ho0
  have hSI : s.heap.objs.size ≠ I := Ne.symm (Nat.ne_of_lt hlt)
  have hSf : s.heap.objs.size ∉ [I] := fun hm => hSI (List.mem_singleton.mp hm)
  have e0 : (x.cps.size : Int) - 1 - ((0 : Nat) : Int) = (x.length : Int) - 1 := by show (x.cps.size : Int) - 1 - 0 = (x.cps.size : Int) - 1; omega
  have hst : (fun (i : Nat) (s : Shared) => i ≤ x.cps.size ∧ s.heap.IsRevStr I x t ((x.cps.size : Int) - 1 - (i : Int))) 0 s := ⟨Nat.zero_le _, by rw [e0]; exact hit⟩
  unfold collect
  refine wpAny_bind (wpAny_runValue (codeAny_builtin F.entry_proto_collect ?_))
  rw [Around.under_plainId F.plain_proto_collect _]
  show wpAny _ A.in1 (newList [] >>= fun l => again (.builtin "list.__iadd__" ⟨[l, .ref I], []⟩)) _ _ s
  refine wpAny_bind (wpAny_newObj_type ?_)
  refine wpAny_pure ⟨plainId_quiet F.plain_list_iadd _, codeAny_builtin F.entry_list_iadd ?_⟩
  rw [Around.under_plainId F.plain_list_iadd _]
  have hst₁ := W.frame 0 s (s.heap.push { cls := .type "list", data := .seq ([] : List Value).toArray }) s.toks hst (Nat.le_refl _) fun b _ o e => Heap.get?_push_of_some _ e
  have hit₁ : (s.heap.push { cls := .type "list", data := .seq ([] : List Value).toArray }).IsRevStr I x t ((x.length : Int) - 1) := hit.at fun o e => Heap.get?_push_of_some _ e
  have hS₁ : (s.heap.push { cls := .type "list", data := .seq ([] : List Value).toArray }).get? s.heap.objs.size = some { cls := .type "list", data := .seq ([] : List Value).toArray } := Heap.get?_push_size _ rfl
  have h1 : Builtin.List.listSameRef (.ref s.heap.objs.size) (.ref I) = false := by simp [Builtin.List.listSameRef, hSI]
  show wpAny _ A.in1 (Builtin.List.listExtendWith (.ref s.heap.objs.size) (.ref I) (.ref s.heap.objs.size)) _ _ _
  unfold Builtin.List.listExtendWith
  have hT₁ : ({ s with heap := s.heap.push { cls := .type "list", data := .seq ([] : List Value).toArray } } : Shared).TypeIs (.ref I) "reversed" := Heap.IsRevStr.typeIs (s := { s with heap := s.heap.push { cls := .type "list", data := .seq ([] : List Value).toArray } }) hit₁
  refine wpAny_bind (wpAny_typeOf hT₁ ?_)
  rw [if_neg (by rw [h1]; decide)]
  refine wpAny_bind (iter_revStr (s := { s with heap := s.heap.push { cls := .type "list", data := .seq ([] : List Value).toArray } }) hit₁ ?_)
  refine wpAny_bind (wpAny_holding ?_)
  unfold Builtin.List.listLengthHint
  refine wpAny_bind (wpAny_specialOf hT₁ F.rev_no_len ?_)
  show wpAny _ A.in1 (specialOf (Value.ref I) (Str.ofString "__length_hint__") >>= _) _ _ _
  refine wpAny_bind (wpAny_specialOf hT₁ F.slot_rev_hint.lookup ?_)
  (generalize hid : ("reversed.__length_hint__" : String) = id0; (fail_if_success (clear hid id0)); wp_delta; rw [show splitId id0 = some ("reversed", "__length_hint__") from by subst hid; decide +kernel]; subst hid)
  refine wpAny_bind (wpAny_isInstance (b := true) hT₁ (by rw [isSubtype_type]; kernel_rfl) ?_)
  rw [if_neg (by decide)]
  refine wpAny_bind (wpAny_rule ?_)
  refine wpAny_bind (wpAny_of_eq (F.slot_rev_hint.bind _) ?_)
  dsimp only
  refine wpAny_bind (wpAny_attempt (call_hint_rev (s := { s with heap := s.heap.push { cls := .type "list", data := .seq ([] : List Value).toArray } }) hit₁ hx (by omega) fun u tk htk => ?_))
  have hk : (x.length : Int) - 1 + 1 = (x.length : Int) := by omega
  rw [hk]
  have hs := sizeLine_eq
  dsimp only
  have ha : asInt? (Value.int (x.length : Int) u) = pure (some (x.length : Int)) := rfl
  rw [ha, pure_bind]
  dsimp only
  have hfit : Builtin.List.listFitsIndex (x.length : Int) = true := by unfold Builtin.List.listFitsIndex; simp only [Bool.and_eq_true, decide_eq_true_eq]; omega
  have hlong : Builtin.List.listTooLong (x.length : Int).toNat = false := by unfold Builtin.List.listTooLong; rw [Int.toNat_natCast]; exact decide_eq_false (by omega)
  rw [hfit, if_neg (by decide), if_neg (by omega), hlong, if_neg (by decide)]
  refine wpAny_pure ?_
  clear hs
  have hst₂ := W.frame 0 _ _ tk hst₁ htk fun b _ o e => e
  by_cases hz : x.length = 0
  · rw [if_neg (by rw [hz]; decide)]
    refine wpAny_pure ⟨plainId_quiet F.plain_extend_loop _, codeAny_extend_loopS W hn _ hSf _ x.cps.size 0 _ _ _ rfl (Nat.zero_le _) hst₂ hS₁ (ItemsOf.nil _) fun s' acc' c' hm hS' hacc => ?_⟩
    show wpAny _ A (load s.heap.objs.size >>= _) _ _ s'
    refine wpAny_bind (wpAny_load hS' ?_)
    exact wpAny_pure (hQ s' acc' (Moved.drop_new (o := { cls := .type "list", data := .seq ([] : List Value).toArray }) (tk := tk) hm htk) hacc)
  · rw [if_pos (by rw [show ((x.length : Int) != 0) = true from by simpa using hz]; rfl)]
    refine wpAny_bind (wpAny_rule ?_)
    refine wpAny_bind ?_
    show wpAny _ A.in1 (updateSeq s.heap.objs.size (·.push .none) >>= fun _ => updateSeq s.heap.objs.size (·.pop)) _ _ _
    refine wpAny_bind (wpAny_updateSeq hS₁ rfl ?_ (by show 0 ≤ sizeLine; exact Nat.zero_le _) (by show 1 ≤ sizeLine + 1; exact Nat.le_add_left _ _))
    have hS₂ := Heap.get?_update_self (Obj.mapSeq (·.push Value.none)) hS₁ rfl
    refine wpAny_updateSeq hS₂ rfl ?_ (by show 1 ≤ sizeLine; decide) (by show 0 ≤ sizeLine + 1; exact Nat.zero_le _)
    have hS₃ := Heap.get?_update_self (Obj.mapSeq (·.pop)) hS₂ rfl
    have oth : ∀ b o, b ≠ s.heap.objs.size → (s.heap.push { cls := .type "list", data := .seq ([] : List Value).toArray }).get? b = some o →
        (((s.heap.push { cls := .type "list", data := .seq ([] : List Value).toArray }).update s.heap.objs.size (Obj.mapSeq (·.push Value.none))).update s.heap.objs.size (Obj.mapSeq (·.pop))).get? b = some o :=
      fun b o hb e => (Heap.get?_update_other _ _ (Ne.symm hb)).trans ((Heap.get?_update_other _ _ (Ne.symm hb)).trans e)
    refine wpAny_pure ⟨plainId_quiet F.plain_extend_loop _, codeAny_extend_loopS W hn _ hSf _ x.cps.size 0 _ _ _ rfl (Nat.zero_le _)
      (W.frame 0 ({ s with heap := s.heap.push { cls := .type "list", data := .seq ([] : List Value).toArray }, toks := tk } : Shared) _ tk hst₂ (Nat.le_refl _) fun b hb o e => oth b o (fun h => hSf (h ▸ hb)) e) hS₃ (ItemsOf.nil _) fun s' acc' c' hm hS' hacc => ?_⟩
    show wpAny _ A (load s.heap.objs.size >>= _) _ _ s'
    refine wpAny_bind (wpAny_load hS' ?_)
    refine wpAny_pure (hQ s' acc' (Moved.drop_new (o := { cls := .type "list", data := .seq ([] : List Value).toArray }) (tk := tk) (Moved.trans W.gtrans ((Moved.refl (G := fun a b => b = a) W.grefl).then_heap (by first | exact Nat.le_refl _ | exact Nat.le_succ _ | omega) fun b o hb e => ?_) hm) htk) hacc)
    exact oth b o (fun h => hb (h ▸ List.mem_cons_self)) e
/-- sep.join(reversed(text)), the reversed made -/
theorem join_rev {I : Addr} {x sep : Str} {t t2 : Tok} {Q : Value → Shared → Prop} (hh : A.handled = none) (hx : x.length ≤ sizeLine) (hit : s.heap.IsRevStr I x t ((x.length : Int) - 1))
    (hq : ∀ s' (l : List (Str × Tok)), Moved [I] (fun a b => b = a) s s' → ItemsOf (fun i v => ∃ c u, x.cps[x.cps.size - 1 - i]? = some c ∧ v = .str ⟨#[c]⟩ u) (strValues l).toArray x.cps.size →
      JoinOk sep (l.map (·.1)) = true ∧ ∀ t' k, Q (.str (Txt.join sep (l.map (·.1))) t') { s' with toks := k }) :
    wpAny (model prog w) A (call (.builtin "str.join") [.str sep t2, .ref I]) Q E s := by
  refine wpAny_call (codeAny_call_builtin F.slot_str_join.plain F.entry_str_join (F.slot_str_join.check _ _ _ _ _ _ _ _ (typeIs_str _ _ _) (F.args_str_join_2 _ _) ?_))
  rw [join_tree_other]
  refine wpAny_bind (wpAny_typeOf hit.typeIs ?_)
  show wpAny _ A.in1 ((pyIter (.ref I)).tryCatch _ >>= fun it => collect it >>= fun items => joinTail sep items) _ _ s
  refine wpAny_bind (wpAny_tryCatch (iter_revStr hit ?_))
  refine wpAny_bind (collect_rev (A := A.in1) hh hx hit fun s' acc hm hacc => ?_)
  obtain ⟨l, hl⟩ := exists_strValues acc.toList fun v hv => by
    obtain ⟨j, hj, rfl⟩ := Array.mem_iff_getElem.mp (Array.mem_toList_iff.mp hv)
    obtain ⟨c, u, _, e⟩ := hacc.2 j _ (Array.getElem?_eq_getElem hj)
    exact ⟨_, _, e⟩
  rw [← hl]
  have hacc' : ItemsOf (fun i v => ∃ c u, x.cps[x.cps.size - 1 - i]? = some c ∧ v = .str ⟨#[c]⟩ u) (strValues l).toArray x.cps.size := by rw [hl]; simpa using hacc
  obtain ⟨hok, hpost⟩ := hq s' l hm hacc'
  unfold JoinOk at hok
  rw [Bool.not_eq_true'] at hok
  have g : Gives (joinTail sep (strValues l)) (joinMade sep l) := by
    have g0 := gives_joinTail sep l hok
    cases l with
    | nil => exact g0
    | cons p r => cases r with
      | nil => exact g0
      | cons q r' => exact g0
  exact g prog w A (wants Q E) s' (post_join l ⟨joinFit_length hok, hpost⟩)
end
end PySem

namespace L2
open PySem PySem.Spec PyProof.Rows
section
variable {X : Cx}
/-! ### reversed(text), joined -/
theorem rev_items {l : List Nat} {ps : List (Str × Tok)} (h : ItemsOf (fun i v => ∃ c u, (tx l).cps[(tx l).cps.size - 1 - i]? = some c ∧ v = Value.str ⟨#[c]⟩ u) (strValues ps).toArray (tx l).cps.size) : ps.map (·.1) = (l.reverse.map fun c => [c]).map tx := by
  have hz : (tx l).cps.size = l.length := List.size_toArray ..
  have hlen : ps.length = l.length := by have := h.1; rw [List.size_toArray, hz] at this; simpa [strValues] using this
  refine List.ext_getElem? fun i => ?_
  rw [List.getElem?_map, List.getElem?_map, List.getElem?_map]
  by_cases hi : i < l.length
  · have hp : i < ps.length := by omega
    have e1 : (strValues ps).toArray[i]? = some (Value.str ps[i].1 ps[i].2) := by simp [strValues, hp]
    obtain ⟨c, u, hc, e⟩ := h.2 i _ e1
    rw [hz] at hc
    have hc' : l[l.length - 1 - i]? = some c := by simpa [tx] using hc
    rw [List.getElem?_reverse hi, hc', List.getElem?_eq_getElem hp]
    have e2 : ps[i].1 = (⟨#[c]⟩ : Str) := (Value.str.inj e).1
    show some ps[i].1 = some (tx [c])
    rw [e2]; rfl
  · rw [List.getElem?_eq_none (by omega), List.getElem?_eq_none (by rw [List.length_reverse]; omega)]; rfl
variable {o e : Expr} {to te : TE} {apos cpos rpos p2 : Pos}
def tJoinRev (to te : TE) : TE := fun σ H Q => to σ H fun x H1 => ∃ sep, x = vt sep ∧ te σ H1 fun y H2 => ∃ l, y = vt l ∧ (l.length ≤ 4000 ∧ sep.length ≤ 1000) ∧ Q (vt (between sep (l.reverse.map fun c => [c]))) H2
/-- sep.join(reversed(e)), of texts -/
theorem pe_joinRev (hc : X.calm = true) (hg : Gl X "reversed") (hmg : X.mg "reversed" = none) (hv : bootBuiltins "reversed" = some (.type "reversed")) (ho : PE X o to) (he : PE X e te)
    (hbase : attributeBase o "join" X.env (eval o X.env) = eval o X.env := by rfl)
    (hfew : ((backTo cpos (starEach [.Call (.Name "reversed" p2) [e] [] rpos] X.env)).all (fun x => !x.1) && (backToKw cpos (keywordEach [] X.env)).all (fun x => x.1.isSome)
      && decide ([Expr.Call (.Name "reversed" p2) [e] [] rpos].length + ([] : List Keyword).length + (if ([] : List Keyword).isEmpty then 0 else 1) < 30)) = true := by rfl)
    (hline : (apos.endLine == cpos.line) = true := by rfl) (hs : starEach [Expr.Call (.Name "reversed" p2) [e] [] rpos] X.env = [(false, eval (.Call (.Name "reversed" p2) [e] [] rpos) X.env)] := by rfl)
    (hs2 : starEach [e] X.env = [(false, eval e X.env)] := by rfl) :
    PE X (.Call (.Attribute o "join" apos) [.Call (.Name "reversed" p2) [e] [] rpos] [] cpos) (tJoinRev to te) := by
  intro pins s σ H Q I h
  refine wpAny_Call_method_late hbase hfew hline rfl (thn (ho pins s σ H _ I h) fun v s1 ⟨x, H1, I1, r1, sep, ex, q1⟩ => ?_)
  subst ex
  obtain ⟨t1, rfl⟩ := r1
  obtain ⟨h1, h2⟩ := tyV_is (T := "str") I1 (x := vt sep) ⟨t1, rfl⟩ rfl
  refine ⟨"str", "str.join", PySem.F.plainAttrs_str, PySem.F.slot_str_join, PySem.F.type_str_join, h1, h2, ?_⟩
  rw [hs]
  refine Calls.callWith_builtin rfl (Calls.evalArgs_plain ?_)
  show wpAny _ _ (spliced ((false, eval (.Call (.Name "reversed" p2) [e] [] rpos) X.env) :: backTo cpos [])) _ _ s1
  refine Calls.spliced_cons (wpAny_Call_Name_kw (ld_blt I1 hg hmg hv ?_ (by decide) (by decide)))
  refine PyProof.Rows.callWith_type1 (rest := []) ?_ hs2 rfl
  rw [hs2]
  show wpAny _ _ (spliced ((false, eval e X.env) :: backTo rpos [])) _ _ s1
  refine Calls.spliced_cons (thn (he pins s1 σ H1 _ I1 q1) fun u s2 ⟨y, H2, I2, r2, l, el, hz, q2⟩ => ?_)
  subst el
  obtain ⟨t2, rfl⟩ := r2
  refine Calls.spliced_nil ?_
  have sz : (tx l).length = l.length := tx_len l
  have hs0 := sizeLine_eq
  have hl : l.length ≤ sizeLine := by omega
  refine call_reversed_str (by rw [sz]; exact hl) fun tk => ?_
  refine Calls.spliced_nil ?_
  refine join_rev (x := tx l) (t := t2) (I2.ok.hd hc) (by rw [sz]; exact hl) ⟨_, Heap.get?_push_size _ rfl, rfl, rfl⟩ fun s' ps hm hit' => ?_
  have ee := rev_items hit'
  rw [ee]
  have hok : (((l.reverse.map fun c => [c]).map tx).map (·.length)).sum + ((l.reverse.map fun c => [c]).map tx).length * (tx sep).length ≤ 16777216 := by
    rw [sum_lens, List.length_map, List.length_map, List.length_reverse, tx_len]
    have e1 : (l.reverse.map fun c => [c]).flatten.length = l.length := by
      rw [List.length_flatten, List.map_map]
      show (l.reverse.map fun _ => 1).sum = _
      rw [List.map_const', List.sum_replicate_nat, List.length_reverse]; omega
    rw [e1]
    have : l.length * sep.length ≤ 4000 * 1000 := Nat.mul_le_mul hz.1 hz.2
    omega
  refine ⟨joinOk_of hok, fun t' k => ?_⟩
  rw [tx_join]
  obtain ⟨h', g', d', tk', os'⟩ := s'
  have e1 : g' = s2.gens := hm.gens
  have e2 : d' = s2.drawn := hm.drawn
  have e3 : os' = s2.os := hm.os
  subst e1 e2 e3
  exact ⟨.str _, H2, I2.kept (t' := k) fun b u e => hm.heap b u (fun hb => absurd (Heap.lt_size e) ((List.mem_singleton.mp hb) ▸ Nat.lt_irrefl _)) (Heap.get?_push_of_some _ e), ⟨_, rfl⟩, q2⟩
/-- lists, unlike -/
def rNeL (K : PySem.W.Frag) : R2 := fun x y H Q => ∃ a b xs ys, x = .ref a ∧ y = .ref b ∧ SqL K H a xs ∧ SqL K H b ys ∧ xs.all flatV = true ∧ ys.all flatV = true ∧ Q (.bl (!eqVs xs ys)) H
theorem op_neL (hu : X.A.units < cLine) : OpR X (compareOp .NotEq) (rNeL X.K) := by
  intro pins s σ H x y v u Q I rx ry h
  obtain ⟨a, b, xs, ys, rfl, rfl, ha, hb, fx, fy, q⟩ := h
  cases (show v = Value.ref a from rx)
  cases (show u = Value.ref b from ry)
  obtain ⟨its, rv, p, _⟩ := I.list ha
  obtain ⟨its2, rv2, p2, _⟩ := I.list hb
  have l1 := rv.length
  have l2 := rv2.length
  by_cases hz : xs.length = ys.length
  · refine SeqAt.RcNeAt.lists (e := fun j => eqV (xs.getD j .non) (ys.getD j .non)) p.isList p2.isList (by simp [← l1, ← l2, hz]) hu (fun j h1 h2 => eqAt_items rv rv2 fx fy j h1 h2) X.prog X.w X.xe _ ?_
    have e : (List.range its.toArray.size).all (fun j => eqV (xs.getD j .non) (ys.getD j .non)) = eqVs xs ys := by
      rw [← eqVs_all hz]; simp [← l1]
    rw [e]
    exact ⟨.bl _, H, I, rfl, q⟩
  · rw [eqVs_len hz] at q
    exact SeqAt.RcNeAt.lists_lengths p.isList p2.isList (by simp [← l1, ← l2, hz]) hu X.prog X.w X.xe _ ⟨.bl _, H, I, rfl, q⟩
def oNeN (hu : X.A.units < cLine) := (op_ne (X := X)).or ((op_neT hu).or (op_neL hu))
end
end L2

namespace L2
open PySem PySem.Spec PyProof.Rows

/-! ### lists of pairs as tables -/
section
variable {κ : Type} [DecidableEq κ]
def valV (kvs : List (κ × V)) (k : κ) : Option V := (kvs.find? fun kv => decide (kv.1 = k)).map (·.2)
/-- in its place, or at the end -/
def putK (kvs : List (κ × V)) (k : κ) (v : V) : List (κ × V) :=
  if (kvs.any fun kv => decide (kv.1 = k)) = true then kvs.map (fun kv => if kv.1 = k then (kv.1, v) else kv) else kvs ++ [(k, v)]
def dropK (kvs : List (κ × V)) (k : κ) : List (κ × V) := kvs.filter fun kv => decide (kv.1 ≠ k)

theorem valV_nil {k : κ} : valV ([] : List (κ × V)) k = none := rfl
theorem valV_pos {p : κ × V} {r : List (κ × V)} {k : κ} (e : p.1 = k) : valV (p :: r) k = some p.2 := by simp [valV, List.find?_cons, e]
theorem valV_neg {p : κ × V} {r : List (κ × V)} {k : κ} (e : ¬ p.1 = k) : valV (p :: r) k = valV r k := by simp [valV, List.find?_cons, e]
theorem valV_any (k : κ) : ∀ kvs : List (κ × V), (kvs.any fun kv => decide (kv.1 = k)) = (valV kvs k).isSome
  | [] => rfl
  | p :: r => by
    rw [List.any_cons]
    by_cases e : p.1 = k
    · simp only [valV_pos e, decide_eq_true e, Bool.true_or, Option.isSome_some]
    · rw [valV_neg e, decide_eq_false e, Bool.false_or]; exact valV_any k r
theorem valV_map (k j : κ) (y : V) : ∀ kvs : List (κ × V), valV (kvs.map fun kv => if kv.1 = k then (kv.1, y) else kv) j = (valV kvs j).map fun x => if j = k then y else x
  | [] => rfl
  | p :: r => by
    have ih := valV_map k j y r
    rw [List.map_cons]
    by_cases h : p.1 = k
    · rw [if_pos h]
      by_cases e : p.1 = j
      · rw [valV_pos (p := (p.1, y)) e, valV_pos e, Option.map_some, if_pos (e.symm.trans h)]
      · rw [valV_neg (p := (p.1, y)) e, valV_neg e, ih]
    · rw [if_neg h]
      by_cases e : p.1 = j
      · rw [valV_pos (p := p) e, valV_pos e, Option.map_some, if_neg (fun z => h (e.trans z))]
      · rw [valV_neg (p := p) e, valV_neg e, ih]
theorem valV_snoc (k j : κ) (y : V) : ∀ kvs : List (κ × V), valV kvs k = none → valV (kvs ++ [(k, y)]) j = if j = k then some y else valV kvs j
  | [], _ => by
    by_cases e : k = j
    · rw [if_pos e.symm]; exact valV_pos (p := (k, y)) e
    · rw [if_neg (fun z => e z.symm)]; exact valV_neg (p := (k, y)) e
  | p :: r, hn => by
    rw [List.cons_append]
    have hk : ¬ p.1 = k := fun z => by rw [valV_pos z] at hn; cases hn
    rw [valV_neg hk] at hn
    have ih := valV_snoc k j y r hn
    by_cases e : p.1 = j
    · rw [valV_pos e, valV_pos e, if_neg (fun z => hk (e.trans z))]
    · rw [valV_neg e, valV_neg e, ih]
theorem valV_put (kvs : List (κ × V)) (k j : κ) (y : V) : valV (putK kvs k y) j = if j = k then some y else valV kvs j := by
  unfold putK
  by_cases a : (kvs.any fun kv => decide (kv.1 = k)) = true
  · rw [if_pos a, valV_map]
    rw [valV_any] at a
    by_cases e : j = k
    · obtain ⟨x, hx⟩ := Option.isSome_iff_exists.mp a
      rw [if_pos e, e, hx, Option.map_some, if_pos rfl]
    · rw [if_neg e]
      cases valV kvs j with
      | none => rfl
      | some x => rw [Option.map_some, if_neg e]
  · rw [if_neg a]
    refine valV_snoc k j y kvs ?_
    rw [valV_any] at a
    cases q : valV kvs k with
    | none => rfl
    | some x => rw [q] at a; exact (a rfl).elim
theorem length_putK (kvs : List (κ × V)) (k : κ) (v : V) : (putK kvs k v).length ≤ kvs.length + 1 := by
  unfold putK
  split
  · rw [List.length_map]; omega
  · rw [List.length_append, List.length_cons, List.length_nil]; omega

theorem RelO.isSome_eq {o : Option V} {u : Option Value} (r : RelO o u) : o.isSome = u.isSome := by
  cases o with
  | none => cases u with
    | none => rfl
    | some _ => exact (show False from r).elim
  | some _ => cases u with
    | none => exact (show False from r).elim
    | some _ => rfl
theorem RelO.getD {o : Option V} {u : Option Value} {d : V} {d' : Value} (r : RelO o u) (rd : RelV d d') : RelV (o.getD d) (u.getD d') := by
  cases o with
  | none => cases u with
    | none => exact rd
    | some _ => exact (show False from r).elim
  | some _ => cases u with
    | none => exact (show False from r).elim
    | some _ => exact r

/-- raw tables of the same keys -/
theorem KV.val {kvs : List (κ × V)} {vs : List (κ × Value)} (r : KV kvs vs) (k : κ) : RelO (valV kvs k) (valueAt vs k) := by
  unfold KV at r
  induction r with
  | nil => exact True.intro
  | @cons p q ps qs h t ih =>
    obtain ⟨h1, h2⟩ := h
    by_cases e : p.1 = k
    · have e' : q.1 = k := h1.symm.trans e
      have b : valueAt (q :: qs) k = some q.2 := by simp [valueAt, List.find?_cons, e']
      rw [valV_pos e, b]; exact h2
    · have e' : ¬ q.1 = k := fun z => e (h1.trans z)
      have b : valueAt (q :: qs) k = valueAt qs k := by simp [valueAt, List.find?_cons, e']
      rw [valV_neg e, b]; exact ih
theorem KV.any {kvs : List (κ × V)} {vs : List (κ × Value)} (r : KV kvs vs) (k : κ) : (kvs.any fun kv => decide (kv.1 = k)) = vs.any fun kv => decide (kv.1 = k) := by
  unfold KV at r
  induction r with
  | nil => rfl
  | cons h t ih => rw [List.any_cons, List.any_cons, ih, h.1]
theorem KV.repl {kvs : List (κ × V)} {vs : List (κ × Value)} (r : KV kvs vs) (k : κ) {y : V} {u : Value} (ry : RelV y u) :
    KV (kvs.map fun kv => if kv.1 = k then (kv.1, y) else kv) (vs.map fun kv => if kv.1 = k then (kv.1, u) else kv) := by
  unfold KV at r ⊢
  induction r with
  | nil => exact .nil
  | @cons p q ps qs h t ih =>
    rw [List.map_cons, List.map_cons]
    refine .cons ?_ ih
    obtain ⟨h1, h2⟩ := h
    by_cases e : p.1 = k
    · rw [if_pos e, if_pos (h1.symm.trans e)]; exact ⟨h1, ry⟩
    · rw [if_neg e, if_neg (fun z => e (h1.trans z))]; exact ⟨h1, h2⟩
theorem KV.put {kvs : List (κ × V)} {vs : List (κ × Value)} (r : KV kvs vs) (k : κ) {y : V} {u : Value} (ry : RelV y u) : KV (putK kvs k y) (stored vs k u) := by
  unfold putK stored
  rw [r.any k]
  by_cases e : (vs.any fun kv => decide (kv.1 = k)) = true
  · rw [if_pos e, if_pos e]; exact r.repl k ry
  · rw [if_neg e, if_neg e]; exact Paired.snoc r ⟨rfl, ry⟩
theorem KV.drop {kvs : List (κ × V)} {vs : List (κ × Value)} (r : KV kvs vs) (k : κ) : KV (dropK kvs k) (without vs k) := by
  unfold KV at r ⊢
  unfold dropK without
  induction r with
  | nil => exact .nil
  | @cons p q ps qs h t ih =>
    obtain ⟨h1, h2⟩ := h
    rw [List.filter_cons, List.filter_cons]
    by_cases e : p.1 = k
    · have a : ¬ decide (p.1 ≠ k) = true := by simp [e]
      have b : ¬ decide (q.1 ≠ k) = true := by simp [h1.symm.trans e]
      rw [if_neg a, if_neg b]; exact ih
    · have e' : ¬ q.1 = k := fun z => e (h1.trans z)
      have a : decide (p.1 ≠ k) = true := by simp [e]
      have b : decide (q.1 ≠ k) = true := by simp [e']
      rw [if_pos a, if_pos b]; exact .cons ⟨h1, h2⟩ ih
theorem KV.keys {kvs : List (κ × V)} {vs : List (κ × Value)} (r : KV kvs vs) : kvs.map (·.1) = vs.map (·.1) := by
  unfold KV at r
  induction r with
  | nil => rfl
  | cons h t ih => rw [List.map_cons, List.map_cons, ih, h.1]
theorem KV.length {kvs : List (κ × V)} {vs : List (κ × Value)} (r : KV kvs vs) : kvs.length = vs.length := Paired.length r
end


/-! ### a tracked dict, its keys ints and texts or tuples of these -/
theorem kV_is {P : Program} {w : World} {k : Key} {u : Value} (r : RelV (kV k) u) : (mixKind P w).is k u = true := by
  cases k with
  | inl i => obtain ⟨t, e⟩ := (show ∃ t, u = Value.int i t from r); subst e; exact mixKind_int P w i t
  | inr x => obtain ⟨t, e⟩ := (show ∃ t, u = Value.str x t from r); subst e; exact mixKind_str P w x t
theorem items_are {P : Program} {w : World} : ∀ {ks : List Key} {us : List Value}, Vals (ks.map kV) us → ItemsAre (mixKind P w) ks us
  | [], _, r => by rw [List.map_nil] at r; cases r; exact .nil
  | k :: ks, _, r => by
    rw [List.map_cons] at r
    cases r with
    | cons h t => exact .cons (kV_is h) (items_are t)

/-- raw entries of a dict with tuple keys -/
abbrev KT (H : Hp) : List (List Key × V) → List (List Key × Addr × Value) → Prop := Paired fun p q => p.1 = q.1 ∧ H q.2.1 = some (.tup (p.1.map kV)) ∧ RelV p.2 q.2.2
theorem KT.val {H : Hp} {kvs : List (List Key × V)} {xs : List (List Key × Addr × Value)} (r : KT H kvs xs) (k : List Key) : RelO (valV kvs k) ((atKey xs k).map (·.2)) := by
  induction r with
  | nil => exact True.intro
  | @cons p q ps qs h t ih =>
    obtain ⟨h1, _, h2⟩ := h
    by_cases e : p.1 = k
    · have e' : q.1 = k := h1.symm.trans e
      have b : atKey (q :: qs) k = some q.2 := by simp [atKey, List.find?_cons, e']
      rw [valV_pos e, b]; exact h2
    · have e' : ¬ q.1 = k := fun z => e (h1.trans z)
      have b : atKey (q :: qs) k = atKey qs k := by simp [atKey, List.find?_cons, e']
      rw [valV_neg e, b]; exact ih
theorem KT.repl {H : Hp} {kvs : List (List Key × V)} {xs : List (List Key × Addr × Value)} (r : KT H kvs xs) (k : List Key) {y : V} {u : Value} (ry : RelV y u) :
    KT H (kvs.map fun kv => if kv.1 = k then (kv.1, y) else kv) (xs.map (putAt k u)) := by
  induction r with
  | nil => exact .nil
  | @cons p q ps qs h t ih =>
    rw [List.map_cons, List.map_cons]
    refine .cons ?_ ih
    obtain ⟨h1, h2, h3⟩ := h
    unfold putAt
    by_cases e : p.1 = k
    · rw [if_pos e, if_pos (h1.symm.trans e)]; exact ⟨h1, h2, ry⟩
    · rw [if_neg e, if_neg (fun z => e (h1.trans z))]; exact ⟨h1, h2, h3⟩
theorem KT.put {H : Hp} {kvs : List (List Key × V)} {xs : List (List Key × Addr × Value)} (r : KT H kvs xs) (k : List Key) {b : Addr} {y : V} {u : Value} (hb : H b = some (.tup (k.map kV))) (ry : RelV y u) :
    KT H (putK kvs k y) (storedH xs k b u) := by
  have e : (kvs.any fun kv => decide (kv.1 = k)) = (atKey xs k).isSome := by
    rw [valV_any, (r.val k).isSome_eq, Option.isSome_map]
  unfold putK storedH
  rw [e]
  by_cases q : (atKey xs k).isSome = true
  · rw [if_pos q, if_pos q]; exact r.repl k ry
  · rw [if_neg q, if_neg q]; exact Paired.snoc r ⟨rfl, hb, ry⟩
theorem KT.keeps {H H' : Hp} {kvs : List (List Key × V)} {xs : List (List Key × Addr × Value)} (r : KT H kvs xs) (ht : ∀ b ys, H b = some (.tup ys) → H' b = some (.tup ys)) : KT H' kvs xs :=
  Paired.mapP r fun _ _ z => ⟨z.1, ht _ _ z.2.1, z.2.2⟩

section
variable {P : Program} {w : World} {H : Hp} {h : Heap} {a : Addr}
theorem rd_of {u : HO} (ok : HOk P w H h) (e : Rd H a u) : ObjOk P w H h a u := e.ok ok
theorem dk_rd {kvs : List (Key × V)} (ok : HOk P w H h) (e : Rd H a (.dK kvs)) : kvs.length ≤ sizeLine ∧ (a == sysModules) = false ∧ ∃ vs, KV kvs vs ∧ h.DictOf (mixKind P w) a vs :=
  show ObjOk P w H h a (.dK kvs) from rd_of ok e
theorem dk_of {kvs : List (Key × V)} (ok : HOk P w H h) (e : H a = some (.dK kvs)) : kvs.length ≤ sizeLine ∧ (a == sysModules) = false ∧ ∃ vs, KV kvs vs ∧ h.DictOf (mixKind P w) a vs := dk_rd ok (.inl e)
/-- a tracked tuple of ints and texts is a key -/
theorem key_of {ks : List Key} (ok : HOk P w H h) (e : H a = some (.tup (ks.map kV))) : (tupleKind (mixKind P w)).is h ks a := by
  obtain ⟨_, its, r, o, h1, h2, n, h3⟩ := (show ObjOk P w H h a (.tup (ks.map kV)) from ok a _ e)
  exact ⟨o, its.toArray, n, h1, h2, h3, by simpa using items_are r⟩
theorem dt_rd {kvs : List (List Key × V)} (ok : HOk P w H h) (e : Rd H a (.dT kvs)) : kvs.length ≤ sizeLine ∧ (a == sysModules) = false ∧
    ∃ xs, KT H kvs xs ∧ h.DictOfH (tupleKind (mixKind P w)) a xs := by
  obtain ⟨z, y, xs, r, o, es, ep, h1, h2, h3, h4, h5⟩ := (show ObjOk P w H h a (.dT kvs) from rd_of ok e)
  refine ⟨z, y, xs, r, o, es, ep, h1, h2, h3, h4, fun x hx => ?_, h5⟩
  have all : ∀ {l : List (List Key × V)} {m : List (List Key × Addr × Value)}, KT H l m → ∀ x ∈ m, (tupleKind (mixKind P w)).is h x.1 x.2.1 := by
    intro l m q
    induction q with
    | nil => intro x hx; exact nomatch hx
    | @cons p q ps qs hq t ih =>
      intro x hx
      rcases List.mem_cons.mp hx with e | hx
      · subst e
        exact key_of ok (by rw [← hq.1]; exact hq.2.1)
      · exact ih x hx
  exact all r x hx
theorem dt_of {kvs : List (List Key × V)} (ok : HOk P w H h) (e : H a = some (.dT kvs)) : kvs.length ≤ sizeLine ∧ (a == sysModules) = false ∧
    ∃ xs, KT H kvs xs ∧ h.DictOfH (tupleKind (mixKind P w)) a xs := dt_rd ok (.inl e)
end

/-- what the dict at a holds at the key y -/
def DGet (H : Hp) (a : Addr) (y : V) (r : Option V) : Prop :=
  (∃ kvs k, Rd H a (.dK kvs) ∧ y = kV k ∧ r = valV kvs k) ∨ ∃ kvs k b, Rd H a (.dT kvs) ∧ y = .ref b ∧ H b = some (.tup (k.map kV)) ∧ r = valV kvs k
/-- the heap behind a[y] = v -/
def DPut (H : Hp) (a : Addr) (y v : V) (H' : Hp) : Prop :=
  (∃ kvs k, H a = some (.dK kvs) ∧ y = kV k ∧ kvs.length < sizeLine ∧ H' = upd H a (.dK (putK kvs k v))) ∨
  ∃ kvs k b, H a = some (.dT kvs) ∧ y = .ref b ∧ H b = some (.tup (k.map kV)) ∧ kvs.length < sizeLine ∧ H' = upd H a (.dT (putK kvs k v))
theorem DGet.k {H : Hp} {a : Addr} {kvs : List (Key × V)} {k : Key} (e : H a = some (.dK kvs)) : DGet H a (kV k) (valV kvs k) := .inl ⟨kvs, k, .inl e, rfl, rfl⟩
theorem DGet.t {H : Hp} {a b : Addr} {kvs : List (List Key × V)} {k : List Key} (e : H a = some (.dT kvs)) (eb : H b = some (.tup (k.map kV))) : DGet H a (.ref b) (valV kvs k) := .inr ⟨kvs, k, b, .inl e, rfl, eb, rfl⟩
theorem DPut.k {H : Hp} {a : Addr} {kvs : List (Key × V)} {k : Key} {v : V} (e : H a = some (.dK kvs)) (hl : kvs.length < sizeLine) : DPut H a (kV k) v (upd H a (.dK (putK kvs k v))) := .inl ⟨kvs, k, e, rfl, hl, rfl⟩
theorem DPut.t {H : Hp} {a b : Addr} {kvs : List (List Key × V)} {k : List Key} {v : V} (e : H a = some (.dT kvs)) (eb : H b = some (.tup (k.map kV))) (hl : kvs.length < sizeLine) :
    DPut H a (.ref b) v (upd H a (.dT (putK kvs k v))) := .inr ⟨kvs, k, b, e, rfl, eb, hl, rfl⟩


section
variable {X : Cx} {pins : List (Addr × Obj)} {σ : St} {H : Hp} {s : Shared} {a : Addr} {y v : V} {u r : Value} {o : Option V} {A : Around} {E : Value → Shared → Prop}

/-- d[y], there -/
theorem d_getItem {Q : Value → Shared → Prop} (hu : A.units + 1 < cLine) (I : Inv X pins σ H s) (g : DGet H a y (some v)) (ry : RelV y u) (h : ∀ w' s', Inv X pins σ H s' → RelV v w' → Q w' s') :
    wpAny (model X.prog X.w) A (getItem (.ref a) u) Q E s := by
  rcases g with ⟨kvs, k, e, ey, l⟩ | ⟨kvs, k, b, e, ey, eb, l⟩
  · subst ey
    obtain ⟨z, hd, vs, rel, dd⟩ := dk_rd I.hok e
    obtain ⟨w', hw, rw'⟩ := RelO.some_of (v := v) (o := valueAt vs k) (by rw [l]; exact rel.val k)
    exact wpAny_getItem_of (kV_is ry) dd.mapOf hw (h w' _ (I.tok _) rw')
  · subst ey
    cases (show u = Value.ref b from ry)
    obtain ⟨z, hd, xs, rel, dd⟩ := dt_rd I.hok e
    obtain ⟨w', hw, rw'⟩ := RelO.some_of (v := v) (o := (atKey xs k).map (·.2)) (by rw [l]; exact rel.val k)
    obtain ⟨p, hp, hp2⟩ := Option.map_eq_some_iff.mp hw
    refine wpAny_getItem_heap (tupleKind_room_in1 hu) (key_of I.hok eb) dd hp ?_
    rw [hp2]
    exact h w' _ (I.tok _) rw'
/-- y in d -/
theorem d_in {Q : Value → Shared → Prop} (hu : A.units + 1 < cLine) (I : Inv X pins σ H s) (g : DGet H a y o) (ry : RelV y u) (h : ∀ s', Inv X pins σ H s' → Q (.bool o.isSome) s') :
    wpAny (model X.prog X.w) A (compareOp .In u (.ref a)) Q E s := by
  rcases g with ⟨kvs, k, e, ey, l⟩ | ⟨kvs, k, b, e, ey, eb, l⟩
  · subst ey
    obtain ⟨z, hd, vs, rel, dd⟩ := dk_rd I.hok e
    refine wpAny_in_of (kV_is ry) hd dd.mapOf ?_
    rw [← (rel.val k).isSome_eq, ← l]
    exact h _ (I.tok _)
  · subst ey
    cases (show u = Value.ref b from ry)
    obtain ⟨z, hd, xs, rel, dd⟩ := dt_rd I.hok e
    refine wpAny_in_heap (tupleKind_room_in1 hu) (key_of I.hok eb) hd dd ?_
    have q := (rel.val k).isSome_eq
    rw [Option.isSome_map] at q
    rw [← q, ← l]
    exact h _ (I.tok _)
theorem d_notIn {Q : Value → Shared → Prop} (hu : A.units + 1 < cLine) (I : Inv X pins σ H s) (g : DGet H a y o) (ry : RelV y u) (h : ∀ s', Inv X pins σ H s' → Q (.bool (!o.isSome)) s') :
    wpAny (model X.prog X.w) A (compareOp .NotIn u (.ref a)) Q E s := by
  rcases g with ⟨kvs, k, e, ey, l⟩ | ⟨kvs, k, b, e, ey, eb, l⟩
  · subst ey
    obtain ⟨z, hd, vs, rel, dd⟩ := dk_rd I.hok e
    refine wpAny_notIn_of (kV_is ry) hd dd.mapOf ?_
    rw [← (rel.val k).isSome_eq, ← l]
    exact h _ (I.tok _)
  · subst ey
    cases (show u = Value.ref b from ry)
    obtain ⟨z, hd, xs, rel, dd⟩ := dt_rd I.hok e
    refine wpAny_notIn_heap (tupleKind_room_in1 hu) (key_of I.hok eb) hd dd ?_
    have q := (rel.val k).isSome_eq
    rw [Option.isSome_map] at q
    rw [← q, ← l]
    exact h _ (I.tok _)
/-- a dict's object is replaced -/
theorem d_write {h' : Heap} {t' : Nat} {ob : HO} (I : Inv X pins σ H s) (mu : Mut (H a)) (hs : Heap.SameBut a s.heap h') (he : ∃ q, h'.get? a = some q) (new : ObjOk X.prog X.w (upd H a ob) h' a ob) :
    Inv X pins σ (upd H a ob) { s with heap := h', toks := t' } :=
  I.write (x := a) (e := a) mu (.inl rfl) (fun b q hb z => (hs.2 b hb).trans z) he new
theorem dk_new {P : Program} {w : World} {H' : Hp} {h' : Heap} {kvs : List (Key × V)} {vs : List (Key × Value)} (z : kvs.length ≤ sizeLine) (hd : (a == sysModules) = false) (rel : KV kvs vs) (dd : h'.DictOf (mixKind P w) a vs) :
    ObjOk P w H' h' a (.dK kvs) := ⟨z, hd, vs, rel, dd⟩
/-- d[y] = v -/
theorem d_setItem {H' : Hp} {Q : Unit → Shared → Prop} (hu : A.units + 1 < cLine) (I : Inv X pins σ H s) (g : DPut H a y v H') (ry : RelV y u) (rv : RelV v r) (h : ∀ s', Inv X pins σ H' s' → Q () s') :
    wpAny (model X.prog X.w) A (setItem (.ref a) u r) Q E s := by
  rcases g with ⟨kvs, k, e, ey, l, eH⟩ | ⟨kvs, k, b, e, ey, eb, l, eH⟩
  · subst ey eH
    obtain ⟨z, hd, vs, rel, dd⟩ := dk_of I.hok e
    have hz : vs.length ≤ sizeLine := by rw [← rel.length]; exact z
    have hl : (putK kvs k v).length ≤ sizeLine := by have := length_putK kvs k v; omega
    refine wpAny_setItem_pairs (hsz := hz) (kV_is ry) dd fun h' dd' hs => h _ ?_
    have he : ∃ q, h'.get? a = some q := let ⟨q, _, _, hq, _⟩ := dd'; ⟨q, hq⟩
    exact d_write I (by rw [e]; exact True.intro) hs he (dk_new hl hd (rel.put k rv) dd')
  · subst ey eH
    cases (show u = Value.ref b from ry)
    obtain ⟨z, hd, xs, rel, dd⟩ := dt_of I.hok e
    have hz : xs.length ≤ sizeLine := by rw [← Paired.length rel]; exact z
    have hl : (putK kvs k v).length ≤ sizeLine := by have := length_putK kvs k v; omega
    refine wpAny_setItem_heap (hsz := hz) (tupleKind_room_in1 hu) (key_of I.hok eb) dd fun h' dd' hs => h _ ?_
    obtain ⟨q, es, ep, hq, h2, h3, h4, _, h5⟩ := dd'
    refine d_write I (by rw [e]; exact True.intro) hs ⟨q, hq⟩ ⟨hl, hd, _, (rel.put k eb rv).keeps fun c ys ec => ?_, q, es, ep, hq, h2, h3, h4, h5⟩
    rw [upd_ne (ne_of ec e (fun z => nomatch z))]
    exact ec
end

section
variable {X : Cx} {pins : List (Addr × Obj)} {σ : St} {H : Hp} {s : Shared} {a : Addr} {kvs : List (Key × V)} {k : Key} {u : Value} {A : Around} {E : Value → Shared → Prop}
end


/-! ### readings and rules -/
/-- the element of a subscription, not a slice -/
def NoSl (i : Expr) : Prop := ∀ ov iv, subscripted i false ov iv = operate [ov, iv] (getItem ov iv)
theorem subD_of {prog : Program} {w : World} {A : Around} {E : Value → Shared → Prop} {s : Shared} {env : Env} {value slice : Expr} {pos : Pos} {T id : String} {Q : Value → Shared → Prop}
    (hl : typeLookup (.type T) "__getitem__" = pure (some (.builtin id))) (hs : NoSl slice)
    (h : wpAny (model prog w) A (eval value env) (fun o s₁ => wpAny (model prog w) A (eval slice env) (fun i s₂ => s₂.TypeIs o T ∧ wpAny (model prog w) A (getItem o i) Q E s₂) E s₁) E s) :
    wpAny (model prog w) A (eval (.Subscript value slice pos) env) Q E s := by
  refine Subscript_ (wpAny_mono h (fun o s₁ h₁ => wpAny_mono h₁ (fun i s₂ h₂ => ?_) fun _ _ x => x) fun _ _ x => x)
  obtain ⟨hT, h₂⟩ := h₂
  unfold subscriptTail
  refine wpAny_bind ?_
  rw [getitemInPython_of_ne hT.not_modules]
  refine wpAny_bind (wpAny_specialOf hT hl ?_)
  have fin : wpAny (model prog w) A (subscripted slice false o i) (fun r s₃ => wpAny (model prog w) A (letTemporaryGo value o r >>= fun _ => pure r) Q E s₃) E s₂ := by
    rw [hs o i]
    exact wpAny_operating (wpAny_mono h₂ (fun r s₃ h₃ => wpAny_bind (wpAny_letTemporaryGo (wpAny_pure h₃))) fun _ _ x => x)
  first
    | exact wpAny_pure (wpAny_bind fin)
    | exact wpAny_bind (wpAny_pure (wpAny_bind fin))
    | exact wpAny_bind fin

theorem dict_typeIs {X : Cx} {pins : List (Addr × Obj)} {σ : St} {H : Hp} {s : Shared} {a : Addr} {y : V} {o : Option V} (I : Inv X pins σ H s) (g : DGet H a y o) : s.TypeIs (.ref a) "dict" := by
  rcases g with ⟨kvs, k, e, _, _⟩ | ⟨kvs, k, b, e, _, _, _⟩
  · obtain ⟨_, _, vs, _, dd⟩ := dk_rd I.hok e
    exact dd.typeIs
  · obtain ⟨_, _, xs, _, dd⟩ := dt_rd I.hok e
    exact dd.typeIs

/-- d[y] -/
def tDGet (td ty : TE) : TE := fun σ H Q => td σ H fun x H1 => ty σ H1 fun y H2 => ∃ a v, x = .ref a ∧ DGet H2 a y (some v) ∧ Q v H2
/-- y in d, y not in d -/
def tDIn (ty td : TE) : TE := fun σ H Q => ty σ H fun y H1 => td σ H1 fun x H2 => ∃ a o, x = .ref a ∧ DGet H2 a y o ∧ Q (.bl o.isSome) H2
def tDNotIn (ty td : TE) : TE := fun σ H Q => ty σ H fun y H1 => td σ H1 fun x H2 => ∃ a o, x = .ref a ∧ DGet H2 a y o ∧ Q (.bl (!o.isSome)) H2
/-- d[y] = v -/
def sDPut (td ty tv : TE) : TS := fun D σ H => tv σ H fun v H1 => td σ H1 fun x H2 => ty σ H2 fun y H3 => ∃ a H4, x = .ref a ∧ DPut H3 a y v H4 ∧ D.nx σ H4

section
variable {X : Cx} {o i e value : Expr} {pos pos' tpos : Pos} {td ty tv : TE}
theorem pe_dget (hu : X.A.units + 1 < cLine) (ho : PE X o td) (hi : PE X i ty) (hs : NoSl i) : PE X (.Subscript o i pos) (tDGet td ty) := by
  intro pins s σ H Q I h
  refine subD_of PySem.F.slot_dict_getitem.lookup hs (thn (ho pins s σ H _ I h) fun u s1 ⟨x, H1, I1, rx, q1⟩ => thn (hi pins s1 σ H1 _ I1 q1) fun iv s2 ⟨y, H2, I2, ry, a, v, ex, g, q2⟩ => ?_)
  subst ex
  obtain rfl : u = Value.ref a := rx
  exact ⟨dict_typeIs I2 g, d_getItem hu I2 g ry fun w' s3 I3 rw' => ⟨v, H2, I3, rw', q2⟩⟩
theorem pc_din (hu : X.A.units + 1 < cLine) (hi : PE X i ty) (ho : PE X o td) : PC X .In i o (tDIn ty td) := by
  intro pins s σ H Q I h
  refine thn (hi pins s σ H _ I h) fun iv s1 ⟨y, H1, I1, ry, q1⟩ => thn (ho pins s1 σ H1 _ I1 q1) fun u s2 ⟨x, H2, I2, rx, a, ov, ex, g, q2⟩ => ?_
  subst ex
  obtain rfl : u = Value.ref a := rx
  exact d_in hu I2 g ry fun s3 I3 => ⟨.bl ov.isSome, H2, I3, rfl, q2⟩
theorem pc_dnotin (hu : X.A.units + 1 < cLine) (hi : PE X i ty) (ho : PE X o td) : PC X .NotIn i o (tDNotIn ty td) := by
  intro pins s σ H Q I h
  refine thn (hi pins s σ H _ I h) fun iv s1 ⟨y, H1, I1, ry, q1⟩ => thn (ho pins s1 σ H1 _ I1 q1) fun u s2 ⟨x, H2, I2, rx, a, ov, ex, g, q2⟩ => ?_
  subst ex
  obtain rfl : u = Value.ref a := rx
  exact d_notIn hu I2 g ry fun s3 I3 => ⟨.bl (!ov.isSome), H2, I3, rfl, q2⟩
theorem ps_dput (hu : X.A.units + 1 < cLine) (ho : PE X o td) (hi : PE X i ty) (hv : PE X value tv) (hs : swapsWith value (some (.Subscript o i pos')) pos.line X.env = pure false) :
    PS X (.Assign [.Subscript o i pos'] value pos) (sDPut td ty tv) := by
  intro pins s σ H D I h
  refine wpAny_Assign_Subscript (thn (hv pins s σ H _ I h) fun r s1 ⟨v, H1, I1, rv, q1⟩ => thn (ho pins s1 σ H1 _ I1 q1) fun u s2 ⟨x, H2, I2, rx, q2⟩ => thn (hi pins s2 σ H2 _ I2 q2) fun iv s3 ⟨y, H3, I3, ry, a, H4, ex, g, q3⟩ => ?_) hs
  subst ex
  obtain rfl : u = Value.ref a := rx
  exact d_setItem hu I3 g ry rv fun s4 I4 => ⟨σ, H4, I4, q3⟩
end


/-! ### displays -/
section
variable {X : Cx} {pos : Pos}
end




/-! ### methods -/
/-- a method call o.m(e) of a built-in, with one argument: what must be seen of the text -/
structure M1 (X : Cx) (o : Expr) (m : Str) (apos : Pos) (e : Expr) (cpos : Pos) : Prop where
  base : attributeBase o m X.env (eval o X.env) = eval o X.env
  few : ((backTo cpos (starEach [e] X.env)).all (fun x => !x.1) && (backToKw cpos (keywordEach [] X.env)).all (fun x => x.1.isSome)
    && decide (([e] : List Expr).length + ([] : List Keyword).length + (if ([] : List Keyword).isEmpty then 0 else 1) < 30)) = true
  line : (apos.endLine == cpos.line) = true
  trees : backTo cpos (starEach [e] X.env) = [(false, eval e X.env)]
structure M2 (X : Cx) (o : Expr) (m : Str) (apos : Pos) (e f : Expr) (cpos : Pos) : Prop where
  base : attributeBase o m X.env (eval o X.env) = eval o X.env
  few : ((backTo cpos (starEach [e, f] X.env)).all (fun x => !x.1) && (backToKw cpos (keywordEach [] X.env)).all (fun x => x.1.isSome)
    && decide (([e, f] : List Expr).length + ([] : List Keyword).length + (if ([] : List Keyword).isEmpty then 0 else 1) < 30)) = true
  line : (apos.endLine == cpos.line) = true
  trees : backTo cpos (starEach [e, f] X.env) = [(false, eval e X.env), (false, eval f X.env)]

/-- a is a dict, whatever its keys -/
def IsD (H : Hp) (a : Addr) : Prop := (∃ kvs, Rd H a (.dK kvs)) ∨ ∃ kvs, Rd H a (.dT kvs)
theorem isD_at {X : Cx} {pins : List (Addr × Obj)} {σ : St} {H : Hp} {s : Shared} {a : Addr} (I : Inv X pins σ H s) (d : IsD H a) :
    s.TypeIs (.ref a) "dict" ∧ (∀ b, Value.ref a = .ref b → ∃ ob, s.heap.get? b = some ob ∧ ob.dict = none) ∧ (a == sysModules) = false := by
  rcases d with ⟨kvs, e⟩ | ⟨kvs, e⟩
  · obtain ⟨_, hd, vs, _, dd⟩ := dk_rd I.hok e
    refine ⟨dd.typeIs, fun b q => ?_, hd⟩
    cases q
    obtain ⟨ob, _, _, h1, h2, _⟩ := dd
    exact ⟨ob, h1, h2.2.1⟩
  · obtain ⟨_, hd, xs, _, dd⟩ := dt_rd I.hok e
    refine ⟨dd.typeIs, fun b q => ?_, hd⟩
    cases q
    obtain ⟨ob, _, _, h1, h2, _⟩ := dd
    exact ⟨ob, h1, h2.2.1⟩

section
variable {X : Cx} {pins : List (Addr × Obj)} {σ : St} {H : Hp} {s : Shared} {a : Addr} {y d : V} {u r : Value} {o : Option V} {A : Around} {E : Value → Shared → Prop}
/-- d.get(y, x) -/
theorem d_get2 {Q : Value → Shared → Prop} (hu : A.units + 1 < cLine) (I : Inv X pins σ H s) (g : DGet H a y o) (ry : RelV y u) (rd : RelV d r) (h : ∀ w' s', Inv X pins σ H s' → RelV (o.getD d) w' → Q w' s') :
    wpAny (model X.prog X.w) A (call (.builtin "dict.get") [.ref a, u, r]) Q E s := by
  rcases g with ⟨kvs, k, e, ey, l⟩ | ⟨kvs, k, b, e, ey, eb, l⟩
  · subst ey
    obtain ⟨z, hd, vs, rel, dd⟩ := dk_rd I.hok e
    refine call_meetsIn PySem.F.slot_dict_get dd.typeIs PySem.F.entry_dict_get (PySem.F.args_dict_get_3 _ _ _) (meets_dict_get_default (mixKind X.prog X.w) a (kV_is ry) hd r) ⟨_, dd.mapOf, h _ _ (I.tok _) ?_⟩
    rw [l]
    exact (rel.val k).getD rd
  · subst ey
    cases (show u = Value.ref b from ry)
    obtain ⟨z, hd, xs, rel, dd⟩ := dt_rd I.hok e
    refine call_meetsIn PySem.F.slot_dict_get dd.typeIs PySem.F.entry_dict_get (PySem.F.args_dict_get_3 _ _ _) (meetsH_dict_get_default (tupleKind (mixKind X.prog X.w)) a b hd r) ⟨tupleKind_room_in1 hu, k, xs, key_of I.hok eb, dd, h _ _ (I.tok _) ?_⟩
    rw [l]
    exact (rel.val k).getD rd
end

def tDGet2 (td ty tx : TE) : TE := fun σ H Q => td σ H fun x H1 => ∃ a, x = .ref a ∧ IsD H1 a ∧ ty σ H1 fun y H2 => tx σ H2 fun z H3 => ∃ o, DGet H3 a y o ∧ Q (o.getD z) H3
section
variable {X : Cx} {o e f : Expr} {apos cpos : Pos} {td ty tx : TE}
theorem pe_dget2 (hu : X.A.units + 1 < cLine) (ho : PE X o td) (he : PE X e ty) (hf : PE X f tx) (m : M2 X o "get" apos e f cpos) : PE X (.Call (.Attribute o "get" apos) [e, f] [] cpos) (tDGet2 td ty tx) := by
  intro pins s σ H Q I h
  refine wpAny_Call_method m.base m.few m.line PySem.F.plainAttrs_dict PySem.F.slot_dict_get PySem.F.type_dict_get (thn (ho pins s σ H _ I h) fun u s1 ⟨x, H1, I1, rx, a, ex, d, q1⟩ => ?_)
  subst ex
  obtain rfl : u = Value.ref a := rx
  obtain ⟨t1, t2, _⟩ := isD_at I1 d
  refine ⟨t1, t2, ?_⟩
  rw [m.trees]
  refine Calls.callWith_builtin rfl (Calls.evalArgs_plain (Calls.spliced_cons (thn (he pins s1 σ H1 _ I1 q1) fun iv s2 ⟨y, H2, I2, ry, q2⟩ =>
    Calls.spliced_cons (thn (hf pins s2 σ H2 _ I2 q2) fun fv s3 ⟨z, H3, I3, rz, ov, g, q3⟩ => Calls.spliced_nil ?_))))
  exact d_get2 hu I3 g ry rz fun w' s4 I4 rw' => ⟨_, H3, I4, rw', q3⟩
end

/-! ### dict(d): a copy -/
section
variable {X : Cx} {pins : List (Addr × Obj)} {σ : St} {H : Hp} {s : Shared} {a : Addr} {kvs : List (Key × V)} {A : Around} {E : Value → Shared → Prop}
end


section
variable {X : Cx} {pins : List (Addr × Obj)} {σ : St} {H : Hp} {s : Shared} {a : Addr} {y : V} {u : Value} {A : Around} {E : Value → Shared → Prop}
end
end L2


namespace L2
open PySem PySem.Spec PyProof.Rows
section
variable {X : Cx}
end
/-! ### a dict's pairs: keys that differ -/
section
variable {κ : Type} [DecidableEq κ]
end
end L2

namespace L2
open PySem PySem.Spec PyProof.Rows
/-! ### enumerate(text), walked by two names -/
section
variable {X : Cx} {pins : List (Addr × Obj)} {σ : St} {H : Hp} {s : Shared} {h' : Heap}
theorem Inv.turned2 {t' : Nat} {i1 i2 : Addr} (I : Inv X pins σ H s) (k : ∀ b o, b ≠ i1 → b ≠ i2 → s.heap.get? b = some o → h'.get? b = some o) (f1 : FpOk X pins H i1) (f2 : FpOk X pins H i2) : Inv X pins σ H { s with heap := h', toks := t' } := by
  obtain ⟨a0, a1, a2, a3, a4, a5⟩ := f1
  obtain ⟨b0, b1, b2, b3, b4, b5⟩ := f2
  have n1 : ∀ b u, H b = some u → b ≠ i1 := fun b u e z => by rw [z, a0] at e; cases e
  have n2 : ∀ b u, H b = some u → b ≠ i2 := fun b u e z => by rw [z, b0] at e; cases e
  refine I.step (g' := s.gens) (d' := s.drawn) (ch := [i1, i2]) (fun b hb => ?_) (fun b o _ _ hc e _ => k b o (fun z => hc (by simp [z])) (fun z => hc (by simp [z])) e) (fun b o _ _ hc e _ => ⟨o.slots, k b o (fun z => hc (by simp [z])) (fun z => hc (by simp [z])) e⟩) (fun _ _ _ _ n => n)
    (fun b o hc e => ⟨o, k b o (fun z => hc (by simp [z])) (fun z => hc (by simp [z])) e⟩) (fun _ _ e => e) (fun _ _ _ e => e) (fun b ps e => ⟨#[], by rw [e]; simp⟩) (fun m hm => ?_) (fun b u e => ?_) I.bare
  · rcases List.mem_cons.mp hb with e | e
    · subst e; exact ⟨a3, a1, a4, a5⟩
    · have e := List.mem_singleton.mp e
      subst e; exact ⟨b3, b1, b4, b5⟩
  · obtain ⟨o, es, ep, ho, r⟩ := hm
    exact ⟨o, es, ep, k _ o (Ne.symm a1) (Ne.symm b1) ho, r⟩
  · refine (I.hok b u e).stay (fun c v hc q => k c v ?_ ?_ q) (fun _ q => q) fun _ _ q => q
    · rcases hc with z | z
      · rw [z]; exact n1 b u e
      · exact n1 c _ z
    · rcases hc with z | z
      · rw [z]; exact n2 b u e
      · exact n2 c _ z
end
def Iten (z : Str) : It := ⟨fun i _ => i < z.length, fun i H x H' => ∃ p c, H p = none ∧ H' = upd H p (.tup [.int (i : Int), .str ⟨#[c]⟩]) ∧ z.cps.toList[i]? = some c ∧ x = .ref p, fun i _ => z.length ≤ i⟩
theorem turn_enum {P : Program} {w : World} {K : PySem.W.Frag} {elts : List Expr} {k} {tpos : Pos} {ty : String} (e it : Addr) (z : Str) (t : Tok) (hei : e ≠ it)
    (D : ∀ A : Around, A.handled = none → Draws P w A it [it] z.cps.size (fun i v => ∃ c u, z.cps[i]? = some c ∧ v = .str ⟨#[c]⟩ u) (fun i h => h.IsStrIter it ty z t i)) :
    Turn P w K (.Tuple elts k tpos) (Iten z) [e, it] e (fun i h => (∃ old, IsEnum h e it (i : Int) old) ∧ h.IsStrIter it ty z t i ∧ i ≤ z.cps.size) where
  mem := by simp
  obj := fun i h st b hb => by
    obtain ⟨⟨old, he⟩, ⟨o, ho, _, hd⟩, _⟩ := st
    rcases List.mem_cons.mp hb with q | q
    · subst q; exact ⟨_, he, fun v q => by cases q⟩
    · have q := List.mem_singleton.mp q
      subst q; exact ⟨o, ho, fun v q => by rw [hd] at q; cases q⟩
  keep := fun i h h' st kk => by
    obtain ⟨⟨old, he⟩, ⟨o, ho, r⟩, hle⟩ := st
    exact ⟨⟨old, kk e (by simp) _ he⟩, ⟨o, kk it (by simp) o ho, r⟩, hle⟩
  item := by
    intro X hP hw hK hc i pins s σ H E I hf st hg
    subst hP hw hK
    obtain ⟨⟨old, he⟩, hit, _⟩ := st
    have hg' : i < z.cps.size := hg
    have helt : e < s.heap.objs.size := Heap.lt_size he
    obtain ⟨oi, hoi, _⟩ := id hit
    have hilt : it < s.heap.objs.size := Heap.lt_size hoi
    have hef : e ∉ [it] := fun q => hei (List.mem_singleton.mp q)
    refine wpAny_pyNext_enum_itemD (D X.A.in1 (I.ok.hd hc)) he hit hg' hei hef fun x h1 tk hPx heo hst hT hsz hk => ?_
    obtain ⟨c, u, hcz, rfl⟩ := hPx
    refine ⟨_, rfl, ?_⟩
    refine wpAny_letOwnedTupleGo_enum (s := { s with heap := h1, toks := tk + 1 }) heo fun h2 he2 hs2 => ?_
    replace hs2 : Heap.SameBut e h1 h2 := hs2
    have hpn : H s.heap.objs.size = none := I.hok.fresh (Nat.le_refl _)
    have hTe : s.heap.objs.size ≠ e := Nat.ne_of_gt helt
    have hT2 : h2.get? s.heap.objs.size = some { cls := .type "tuple", data := .seq #[.int i tk, .str ⟨#[c]⟩ u] } := (hs2.2 _ hTe).trans hT
    have I1 : Inv X pins σ H { s with heap := h2, toks := tk + 1 } := I.turned2 (fun b o h1 h2 q => (hs2.2 b h1).trans (hk b o h1 h2 q)) (hf e (by simp)) (hf it (by simp))
    have f := I.fpOk (H' := H) (Nat.le_refl _) hpn
    have I2 : Inv X pins σ (upd H s.heap.objs.size (.tup [.int (i : Int), .str ⟨#[c]⟩])) { s with heap := h2, toks := tk + 1 } := by
      refine I1.adopt hpn ?_ (Ne.symm f.2.1) f.2.2.2.2.1 f.2.2.2.2.2 ⟨by show 2 ≤ sizeLine; decide, [.int i tk, .str ⟨#[c]⟩ u], .cons ⟨_, rfl⟩ (.cons ⟨_, rfl⟩ .nil), ?_⟩
      · cases q : X.s₀.heap.get? s.heap.objs.size with
        | none => rfl
        | some o => exact absurd (Nat.lt_of_lt_of_le (Heap.lt_size q) I.sz) (Nat.lt_irrefl _)
      · exact ⟨_, hT2, rfl, _, rfl⟩
    refine ⟨.ref s.heap.objs.size, _, I2, rfl, ⟨_, c, hpn, rfl, by rw [Array.getElem?_toList]; exact hcz, rfl⟩, ⟨⟨_, by simpa using he2⟩, ?_, hg'⟩, fun b hb => ?_⟩
    · obtain ⟨o, ho, r⟩ := hst
      exact ⟨o, (hs2.2 it (Ne.symm hei)).trans ho, r⟩
    · rcases List.mem_cons.mp hb with q | q
      · subst q; rw [upd_ne (Nat.ne_of_lt helt)]; exact (hf _ (by simp)).1
      · have q := List.mem_singleton.mp q
        subst q; rw [upd_ne (Nat.ne_of_lt hilt)]; exact (hf _ (by simp)).1
  done := by
    intro X hP hw hK hc i pins s σ H E I hf st hg
    subst hP hw hK
    obtain ⟨⟨old, he⟩, hit, hle⟩ := st
    have hg' : z.cps.size ≤ i := hg
    have e1 : i = z.cps.size := Nat.le_antisymm hle hg'
    subst e1
    obtain ⟨f0, f1, f2, f3, f4, f5⟩ := hf it (by simp)
    exact wpAny_pyNext_enum_endD (D X.A.in1 (I.ok.hd hc)) he hit fun h' eb => ⟨rfl, I.turned (t' := s.toks) (fun b o hb e => eb b o hb e) f0 f1 f3 f4 f5⟩
  self := fun A i s Q E st h => wpAny_pyIter_enum st.1.choose_spec h
section
variable {X : Cx}
def iEnum (te : TE) : TI := fun σ H R => te σ H fun x H1 => ∃ l, x = vt l ∧ R (Iten (tx l)) H1
theorem pi_enum {e : Expr} {te : TE} {elts : List Expr} {k} {tpos p2 pos : Pos} (hg : Gl X "enumerate") (hm : X.mg "enumerate" = none) (hv : bootBuiltins "enumerate" = some (.type "enumerate")) (he : PE X e te)
    (hs2 : starEach [e] X.env = [(false, eval e X.env)] := by rfl) : PI X (.Tuple elts k tpos) (.Call (.Name "enumerate" p2) [e] [] pos) (iEnum te) := by
  intro pins s σ H R I h
  refine wpAny_Call_Name_kw (ld_blt I hg hm hv ?_ (by decide) (by decide))
  refine PyProof.Rows.callWith_type1 (rest := []) ?_ hs2 rfl
  rw [hs2]
  show wpAny _ _ (spliced ((false, eval e X.env) :: backTo pos [])) _ _ s
  refine Calls.spliced_cons (thn (he pins s σ H _ I h) fun u s1 ⟨y, H1, I1, r1, l, el, q1⟩ => ?_)
  subst el
  obtain ⟨t, rfl⟩ := r1
  refine Calls.spliced_nil ?_
  refine call_enumerate_str fun h' hen hit hsz hk => ?_
  refine wpAny_pyIter_enum (s := { s1 with heap := h' }) hen ?_
  have I2 : Inv X pins σ H1 { s1 with heap := h' } := I1.kept (t' := s1.toks) hk
  have hei : s1.heap.objs.size + 1 ≠ s1.heap.objs.size := Nat.succ_ne_self _
  have fp : ∀ b ∈ [s1.heap.objs.size + 1, s1.heap.objs.size], FpOk X pins H1 b := fun b hb => by
    have hle : s1.heap.objs.size ≤ b := by
      rcases List.mem_cons.mp hb with q | q
      · rw [q]; exact Nat.le_succ _
      · rw [List.mem_singleton.mp q]; exact Nat.le_refl _
    exact I1.fpOk hle (I1.hok.fresh hle)
  have D : ∀ A : Around, A.handled = none → Draws X.prog X.w A s1.heap.objs.size [s1.heap.objs.size] (tx l).cps.size (fun i v => ∃ c u, (tx l).cps[i]? = some c ∧ v = .str ⟨#[c]⟩ u) (fun i h => h.IsStrIter s1.heap.objs.size (strIterType (tx l)) (tx l) t i) := fun A hA => by
    unfold strIterType
    cases (tx l).cps.all (· < 128)
    · exact Draws.strWide hA _ _ _
    · exact Draws.strAscii hA _ _ _
  exact ⟨s1.heap.objs.size + 1, [s1.heap.objs.size + 1, s1.heap.objs.size], _, _, H1, rfl, I2, turn_enum _ _ (tx l) t hei D, ⟨⟨_, hen⟩, hit, Nat.zero_le _⟩, fp, q1⟩
/-- a loop by two names over enumerate(text) -/
theorem for_enum {l : List Nat} {K : PySem.W.Frag} {a b : Nat} {tb : TS} {D : Ends} {σ : St} {H : Hp} (Pv : Nat → St → Hp → Prop) (h0 : Pv 0 σ H)
    (hs : ∀ i c σ H p, l[i]? = some c → Pv i σ H → H p = none → tb { D with nx := Pv (i + 1), ct := Pv (i + 1), bk := D.nx } ((σ.set a (some (.int (i : Int)))).set b (some (vt [c]))) (upd H p (.tup [.int (i : Int), vt [c]]))) (hd : ∀ σ H, Pv l.length σ H → D.nx σ H) :
    ∃ W : Nat → Nat → St → Hp → Prop, (∃ m, W 0 m σ H) ∧ ∀ i m σ H, W i m σ H →
      ((Iten (tx l)).stop i H ∧ D.nx σ H) ∨ ((Iten (tx l)).go i H ∧ ∃ N : St → Hp → Prop, (∀ σ' H', N σ' H' → ∃ m', m' < m ∧ W (i + 1) m' σ' H') ∧ ∀ x H', (Iten (tx l)).yld i H x H' → gTup K 2 (gCons (gName a) (gCons (gName b) gNil)) x σ H' fun σ2 H2 => tb { D with nx := N, ct := N, bk := D.nx } σ2 H2) := by
  have hz : (tx l).length = l.length := tx_len l
  refine ⟨fun i m σ H => m = l.length - i ∧ i ≤ l.length ∧ Pv i σ H, ⟨l.length, by simp, Nat.zero_le _, h0⟩, ?_⟩
  rintro i m σ H ⟨rfl, hi, p⟩
  by_cases hlt : i < l.length
  · refine .inr ⟨by show i < (tx l).length; omega, Pv (i + 1), fun σ' H' p' => ⟨l.length - (i + 1), by omega, rfl, hlt, p'⟩, ?_⟩
    rintro x H' ⟨q, c, hq, rfl, hc, rfl⟩
    exact ⟨q, _, rfl, SqT.of upd_same, rfl, _, _, rfl, _, _, rfl, rfl, hs i c σ H q hc p hq⟩
  · have e : i = l.length := by omega
    subst e
    exact .inl ⟨by show (tx l).length ≤ l.length; omega, hd σ H p⟩
end
end L2

namespace L2
open PySem PySem.Spec PyProof.Rows
section
variable {X : Cx}
/-! ### text.index(sign) -/
def rIndex : V → List V → Hp → VK → Prop := fun x vs H Q => ∃ l c, x = vt l ∧ vs = [vt [c]] ∧ c ∈ l ∧ ∀ j : Nat, l[j]? = some c → Q (.int (j : Int)) H
theorem mt_index : MtR X "str.index" rIndex := by
  intro pins s σ H x vs v us Q I rx rs h
  obtain ⟨l, c, rfl, rfl, hc, q⟩ := h
  obtain ⟨t, rfl⟩ := rx
  obtain ⟨u, rfl, ru⟩ := vals1 rs
  obtain ⟨t2, rfl⟩ := ru
  have hf := StrLaws.found_one (tx l) c
  rw [show (tx l).cps.toList = l from rfl, decide_eq_true hc] at hf
  cases ho : Builtin.Str.occurrences (tx l) (tx [c]) 0 (tx l).length 1 with
  | nil =>
    have : (Builtin.Str.occurrences (tx l) ⟨#[c]⟩ 0 (tx l).length 1) = [] := ho
    rw [this] at hf; cases hf
  | cons i rest =>
    have hi : i ∈ Builtin.Str.occurrences (tx l) ⟨#[c]⟩ 0 (tx l).length 1 := by
      rw [show Builtin.Str.occurrences (tx l) ⟨#[c]⟩ 0 (tx l).length 1 = i :: rest from ho]; exact List.mem_cons_self
    have hat := (StrLaws.subAt_one (tx l) c i).mp (StrLaws.occ_spec _ _ _ _ _ i hi)
    exact call_gives PySem.F.slot_str_index (typeIs_str _ _ _) PySem.F.entry_str_index (PySem.F.args_str_index_2 _ _) (gives_str_index (tx l) (tx [c]) t t2 i rest ho) ⟨.int i, H, I.tok _, ⟨_, rfl⟩, q i hat⟩
def rFind : V → List V → Hp → VK → Prop := fun x vs H Q => ∃ l c, x = vt l ∧ vs = [vt [c]] ∧ c ∈ l ∧ ∀ j : Nat, l[j]? = some c → Q (.int (j : Int)) H
theorem mt_find : MtR X "str.find" rFind := by
  intro pins s σ H x vs v us Q I rx rs h
  obtain ⟨l, c, rfl, rfl, hc, q⟩ := h
  obtain ⟨t, rfl⟩ := rx
  obtain ⟨u, rfl, ru⟩ := vals1 rs
  obtain ⟨t2, rfl⟩ := ru
  have hf := StrLaws.found_one (tx l) c
  rw [show (tx l).cps.toList = l from rfl, decide_eq_true hc] at hf
  have g := gives_str_find (tx l) (tx [c]) t t2
  cases ho : Builtin.Str.occurrences (tx l) (tx [c]) 0 (tx l).length 1 with
  | nil =>
    have : (Builtin.Str.occurrences (tx l) ⟨#[c]⟩ 0 (tx l).length 1) = [] := ho
    rw [this] at hf; cases hf
  | cons i rest =>
    have hi : i ∈ Builtin.Str.occurrences (tx l) ⟨#[c]⟩ 0 (tx l).length 1 := by
      rw [show Builtin.Str.occurrences (tx l) ⟨#[c]⟩ 0 (tx l).length 1 = i :: rest from ho]; exact List.mem_cons_self
    have hat := (StrLaws.subAt_one (tx l) c i).mp (StrLaws.occ_spec _ _ _ _ _ i hi)
    rw [ho] at g
    exact call_gives PySem.F.slot_str_find (typeIs_str _ _ _) PySem.F.entry_str_find (PySem.F.args_str_find_2 _ _) g ⟨.int i, H, I.tok _, ⟨_, rfl⟩, q i hat⟩
/-! ### lists by place, read and written (op=) -/
def rGetL (K : PySem.W.Frag) : V → V → Hp → VK → Prop := fun x y H Q => ∃ p xs i v, x = .ref p ∧ y = .int i ∧ SqL K H p xs ∧ 0 ≤ i ∧ atI xs i = some v ∧ Q v H
theorem get_list : PGet X (rGetL X.K) := by
  intro pins s σ H x y v u Q I rx ry h
  obtain ⟨p, xs, i, z, rfl, rfl, hq, h0, he, q⟩ := h
  cases rx
  obtain ⟨t, rfl⟩ := ry
  obtain ⟨its, r, pl, hz⟩ := I.list hq
  obtain ⟨j, h1, h2, h3, h4, h5⟩ := atI_get he
  obtain ⟨w, ew, rw'⟩ := r.get h2
  have hl := r.length
  have hn := line63
  have hj : i.toNat = j := by
    rw [seqIndex_of h0 h5] at h1
    exact Option.some.inj h1
  exact wpAny_getItem_list pl.isList h0 (by omega) (by rw [hj]; simpa using ew) ⟨z, H, I, rw', q⟩
/-! ### more readings that ask less -/
end
end L2

/-! ### a dict is walked: its keys in their order, while its object stands as it is -/
namespace L2
open PySem PySem.Spec PyProof.Rows
/-- an exact dict's object with its entries -/
structure DEnt (o : Obj) (es : Array DictEntry) (ep : Nat) : Prop where
  ex : o.ExactDict
  da : o.data = .dict es ep
section
variable {prog : Program} {w : World} {A : Around} {E : Value → Shared → Prop} {s : Shared} {o : Obj} {es : Array DictEntry} {ep : Nat} {it d : Addr} {i : Nat}
theorem DEnt.typeIs (D : DEnt o es ep) (ho : s.heap.get? d = some o) : s.TypeIs (.ref d) "dict" := ⟨o, ho, D.ex.1⟩
end

section
variable {X : Cx}
end
end L2

/-! ### min of a list of ints: one of them, not above the others; tuple(list) -/
namespace L2
open PySem PySem.Spec PyProof.Rows
section
variable {X : Cx}
end
end L2

/-! ### list.pop(); a list of things of any kind against the empty list -/
namespace L2
open PySem PySem.Spec PyProof.Rows
section
variable {X : Cx}
theorem mt_popL : MtR X "list.pop" rPop := mt_pop (X := X)
def rEqE (K : PySem.W.Frag) (neg : Bool) : R2 := fun x y H Q => ∃ a b xs, x = .ref a ∧ y = .ref b ∧ SqL K H a xs ∧ SqL K H b [] ∧ Q (.bl (if neg then !xs.isEmpty else xs.isEmpty)) H
theorem op_eqE (hu : X.A.units < cLine) : OpR X (compareOp .Eq) (rEqE X.K false) := by
  intro pins s σ H x y v u Q I rx ry h
  obtain ⟨a, b, xs, rfl, rfl, ha, hb, q⟩ := h
  cases (show v = Value.ref a from rx)
  cases (show u = Value.ref b from ry)
  obtain ⟨its, rv, p, _⟩ := I.list ha
  obtain ⟨its2, rv2, p2, _⟩ := I.list hb
  have l1 := rv.length
  have l2 := rv2.length
  cases xs with
  | nil =>
    exact op_eqL hu pins s σ H _ _ _ _ Q I rx ry ⟨a, b, [], [], rfl, rfl, ha, hb, rfl, rfl, q⟩
  | cons z zs =>
    exact SeqAt.eq_list_lengthsAt p.isList p2.isList (by simp [← l1, ← l2]) hu ⟨.bl _, H, I, rfl, q⟩
theorem op_neE (hu : X.A.units < cLine) : OpR X (compareOp .NotEq) (rEqE X.K true) := by
  intro pins s σ H x y v u Q I rx ry h
  obtain ⟨a, b, xs, rfl, rfl, ha, hb, q⟩ := h
  cases (show v = Value.ref a from rx)
  cases (show u = Value.ref b from ry)
  obtain ⟨its, rv, p, _⟩ := I.list ha
  obtain ⟨its2, rv2, p2, _⟩ := I.list hb
  have l1 := rv.length
  have l2 := rv2.length
  cases xs with
  | nil =>
    exact op_neL hu pins s σ H _ _ _ _ Q I rx ry ⟨a, b, [], [], rfl, rfl, ha, hb, rfl, rfl, q⟩
  | cons z zs =>
    exact SeqAt.RcNeAt.lists_lengths p.isList p2.isList (by simp [← l1, ← l2]) hu X.prog X.w X.xe _ ⟨.bl _, H, I, rfl, q⟩
/-- a tuple, however deep, is as itself -/
def rEqS (K : PySem.W.Frag) : R2 := fun x y H Q => ∃ a xs, x = .ref a ∧ y = .ref a ∧ SqT K H a xs ∧ Q (.bl true) H
theorem op_eqS (hu : X.A.units < cLine) : OpR X (compareOp .Eq) (rEqS X.K) := by
  intro pins s σ H x y v u Q I rx ry h
  obtain ⟨a, xs, rfl, rfl, ha, q⟩ := h
  cases (show v = Value.ref a from rx)
  cases (show u = Value.ref a from ry)
  obtain ⟨its, rv, p, _⟩ := I.tuple ha
  refine SeqAt.eq_tupleAt (e := fun _ => true) p p hu (fun j h1 h2 => SeqAt.EqAt.same _) ?_
  refine ⟨.bl true, H, I, ?_, q⟩
  show Value.bool _ = Value.bool true
  congr 1
  simp
def oEqW (hu : X.A.units < cLine) := (oEqA (X := X) hu).or ((op_eqE hu).or (op_eqS hu))
def oNeW (hu : X.A.units < cLine) := (oNeN (X := X) hu).or (op_neE hu)
end
end L2

namespace L2
open PySem PySem.Spec PyProof.Rows
/-! ### zip of a text or a tuple and a tuple, walked by two names -/
section
variable {prog : Program} {w : World} {A : Around} {E : Value → Shared → Prop} {s : Shared} {it t : Addr} {i : Nat} {items : Array Value} {x : Value}
theorem tup_item {Q : Value → Shared → Prop} (hit : s.heap.IsTupleIter it t i) (ht : s.heap.IsTuple t items) (hx : items[i]? = some x)
    (q : ∀ h', Heap.IsTupleIter h' it t (i + 1) → Heap.SameBut it s.heap h' → Q x { s with heap := h' }) : wpAny (model prog w) A (Builtin.SmallTypes.nextOf (.ref it)) Q E s := by
  obtain ⟨o, ho, hc, hd⟩ := id hit
  obtain ⟨ot, hot, hoc, n, hod⟩ := ht
  have hty : s.TypeIs (.ref it) "tuple_iterator" := ⟨o, ho, hc⟩
  unfold Builtin.SmallTypes.nextOf
  refine wpAny_bind (wpAny_callSpecial?_slot (name := Str.ofString "__next__") hty F.slot_tuple_iterator_next
    (wpAny_call_entry F.slot_tuple_iterator_next hty F.entry_tuple_iterator_next ?_ (F.args_tuple_iterator_next_1 _)))
  have e1 : slotArgs "__next__" 0 { pos := [.ref it] } = pure (.ref it, []) := rfl
  show wpAny _ _ (slotArgs "__next__" 0 { pos := [.ref it] } >>= _) _ _ _
  rw [e1]
  refine wpAny_bind (wpAny_pure ?_)
  refine wpAny_bind (wpAny_field ho hd (x := .ref t) rfl ?_)
  show wpAny _ _ (field (.ref it) 1 >>= _) _ _ _
  refine wpAny_bind (wpAny_field ho hd (x := .int i 0) rfl ?_)
  show wpAny _ _ (seqItems? (.ref t) >>= _) _ _ _
  refine wpAny_bind (wpAny_seqItems hot hod ?_)
  have e3 : items[(i : Int).toNat]? = some x := by rw [Int.toNat_natCast]; exact hx
  dsimp only
  rw [e3]
  dsimp only
  refine wpAny_bind (wpAny_setField ho hd (by show 1 < 2; decide) ?_)
  have hit' : (s.heap.update it (Obj.mapFields (·.setIfInBounds 1 (rawInt ((i : Int) + 1))))).IsTupleIter it t (i + 1) :=
    ⟨_, Heap.get?_update_self _ ho (Obj.isFreed_of_fields (Obj.data_mapFields hd _)), (Obj.cls_mapFields ..).trans hc, by rw [Obj.data_mapFields hd]; simp [rawInt]⟩
  exact wpAny_pure ⟨_, rfl, wpAny_pure (q _ hit' (Heap.SameBut.update ..))⟩
theorem tup_end {Q : Value → Shared → Prop} (hh : A.handled = none) (hit : s.heap.IsTupleIter it t i) (ht : s.heap.IsTuple t items) (hx : items[i]? = none)
    (q : ∀ (h' : Heap) (e : Addr), Heap.ExtBut it s.heap h' → (∃ o, h'.get? e = some o ∧ o.cls = Value.type "StopIteration") → E (.ref e) { s with heap := h' }) : wpAny (model prog w) A (Builtin.SmallTypes.nextOf (.ref it)) Q E s := by
  obtain ⟨o, ho, hc, hd⟩ := id hit
  obtain ⟨ot, hot, hoc, n, hod⟩ := ht
  have hty : s.TypeIs (.ref it) "tuple_iterator" := ⟨o, ho, hc⟩
  unfold Builtin.SmallTypes.nextOf
  refine wpAny_bind (wpAny_callSpecial?_slot (name := Str.ofString "__next__") hty F.slot_tuple_iterator_next
    (wpAny_call_entry F.slot_tuple_iterator_next hty F.entry_tuple_iterator_next ?_ (F.args_tuple_iterator_next_1 _)))
  have e1 : slotArgs "__next__" 0 { pos := [.ref it] } = pure (.ref it, []) := rfl
  show wpAny _ _ (slotArgs "__next__" 0 { pos := [.ref it] } >>= _) _ _ _
  rw [e1]
  refine wpAny_bind (wpAny_pure ?_)
  refine wpAny_bind (wpAny_field ho hd (x := .ref t) rfl ?_)
  show wpAny _ _ (field (.ref it) 1 >>= _) _ _ _
  refine wpAny_bind (wpAny_field ho hd (x := .int i 0) rfl ?_)
  show wpAny _ _ (seqItems? (.ref t) >>= _) _ _ _
  refine wpAny_bind (wpAny_seqItems hot hod ?_)
  have e3 : items[(i : Int).toNat]? = none := by rw [Int.toNat_natCast]; exact hx
  dsimp only
  rw [e3]
  show wpAny _ _ (setField (.ref it) 0 .none >>= _) _ _ s
  refine wpAny_bind (wpAny_setField ho hd (by show 0 < 2; decide) ?_)
  show wpAny _ _ (newExc (.type "StopIteration") [] >>= _) _ _ _
  refine wpAny_bind ?_
  simp only [newExc, newTuple]
  refine wpAny_bind (wpAny_newObj_type ?_ (by size_fits))
  refine wpAny_bind (m := firstArgMember _ _) (wpAny_of_eq (a := Value.none) (by first | rfl | (simp only [firstArgMember]; rfl)) ?_)
  refine wpAny_newObj_type ?_ (by size_fits)
  simp only [raiseNew]
  refine wpAny_bind (wpAny_handled ?_)
  rw [show A.in1.handled = none from hh]
  refine wpAny_bind (wpAny_pure (wpAny_throw ?_))
  exact q _ _ (((Heap.SameBut.update ..).extBut.push _).push _) ⟨_, Heap.get?_push_size _ rfl, rfl⟩
theorem tup_stay {h h' : Heap} {t : Addr} {items : Array Value} (ht : h.IsTuple t items) (k : ∀ o, h.get? t = some o → h'.get? t = some o) : h'.IsTuple t items := by
  obtain ⟨ot, hot, r⟩ := ht
  exact ⟨ot, k _ hot, r⟩
theorem draws_tuple (hh : A.handled = none) (it t : Addr) (hne : t ≠ it) (items : Array Value) :
    Draws prog w A it [it, t] items.size (fun i v => items[i]? = some v) (fun i h => h.IsTupleIter it t i ∧ h.IsTuple t items) where
  live := fun i h ⟨⟨o, ho, _⟩, _⟩ => ⟨o, ho⟩
  frame := fun i h h' ⟨⟨o, ho, r⟩, ht⟩ k => ⟨⟨o, k it (by simp) o ho, r⟩, tup_stay ht (k t (by simp))⟩
  item := fun i s Q E hi ⟨hit, ht⟩ q => tup_item hit ht (Array.getElem?_eq_getElem hi) fun h' h1 h2 => q _ h' s.toks (Array.getElem?_eq_getElem hi) ⟨h1, tup_stay ht fun o ho => by rw [h2.2 t hne]; exact ho⟩ h2
  done := fun s Q E ⟨hit, ht⟩ q => tup_end hh hit ht (by simp) q
/-! the zip itself -/
structure ZApart (z TI TO i1 i2 : Addr) : Prop where
  a1 : TI ≠ z
  a2 : TO ≠ z
  a3 : i1 ≠ z
  a4 : i2 ≠ z
  a5 : TI ≠ TO
  a6 : TI ≠ i1
  a7 : TI ≠ i2
  a8 : TO ≠ i1
  a9 : TO ≠ i2
  a0 : i1 ≠ i2
theorem zip_item {n1 n2 : Nat} {P1 P2 : Nat → Value → Prop} {S1 S2 : Nat → Heap → Prop} {fp1 fp2 : List Addr} {z TI TO i1 i2 : Addr} {a b : Value} {Q : Option Value → Shared → Prop}
    (D1 : Draws prog w A.in1 i1 fp1 n1 P1 S1) (D2 : Draws prog w A.in1 i2 fp2 n2 P2 S2) (ap : ZApart z TI TO i1 i2) (f1 : z ∉ fp1 ∧ TO ∉ fp1 ∧ i2 ∉ fp1) (f2 : z ∉ fp2 ∧ TO ∉ fp2 ∧ i1 ∉ fp2)
    (hz : IsZip s.heap z TI TO .none) (hI : IsPair s.heap TI (.ref i1) (.ref i2)) (hO : IsPair s.heap TO a b) (h1 : S1 i s.heap) (h2 : S2 i s.heap) (l1 : i < n1) (l2 : i < n2)
    (q : ∀ (x y : Value) (h' : Heap) (tk : Nat), P1 i x → P2 i y → IsZip h' z TI TO (rawInt s.heap.objs.size) → IsPair h' TO x y → IsPair h' TI (.ref i1) (.ref i2) → S1 (i + 1) h' → S2 (i + 1) h' → IsPair h' s.heap.objs.size x y → h'.objs.size = s.heap.objs.size + 1 →
      (∀ c o, c ≠ z → c ≠ TO → c ≠ i1 → c ≠ i2 → s.heap.get? c = some o → h'.get? c = some o) → Q (some (.ref s.heap.objs.size)) { s with heap := h', toks := tk }) :
    wpAny (model prog w) A (pyNext (.ref z)) Q E s := by
  have hty : s.TypeIs (.ref z) "zip" := ⟨_, hz, rfl⟩
  unfold pyNext
  refine wpAny_bind (wpAny_attempt (wpAny_callSpecial?_slot (name := Str.ofString "__next__") hty F.slot_zip_next
    (wpAny_call_entry F.slot_zip_next hty F.entry_zip_next ?_ (F.args_zip_next_1 _))))
  have e1 : slotArgs "__next__" 0 { pos := [.ref z] } = pure (.ref z, []) := rfl
  show wpAny _ _ (slotArgs "__next__" 0 { pos := [.ref z] } >>= _) _ _ _
  rw [e1]
  refine wpAny_bind (wpAny_pure ?_)
  refine wpAny_bind (wpAny_field hz rfl (x := .bool false) rfl ?_)
  refine wpAny_bind (wpAny_field hz rfl (x := .ref TI) rfl ?_)
  refine wpAny_bind (wpAny_seqItems hI rfl ?_)
  show wpAny _ _ (Builtin.SmallTypes.ownedTupleIsFree (.ref z) >>= _) _ _ _
  unfold Builtin.SmallTypes.ownedTupleIsFree
  refine wpAny_bind (wpAny_bind (wpAny_field hz rfl (x := .none) rfl (wpAny_pure ?_)))
  show wpAny _ _ (field (.ref z) 4 >>= _) _ _ _
  refine wpAny_bind (wpAny_field hz rfl (x := .ref TO) rfl ?_)
  refine wpAny_bind (wpAny_setField_rec hz (by show 0 < 5; decide) fun g1 hz1 b1 => ?_)
  have fz : ∀ (fp : List Addr), z ∉ fp → ∀ b ∈ fp, b ≠ z := fun fp h b hb e => h (e ▸ hb)
  have fO : ∀ (fp : List Addr), TO ∉ fp → ∀ b ∈ fp, b ≠ TO := fun fp h b hb e => h (e ▸ hb)
  have h11 : S1 i g1 := D1.frame i _ _ h1 fun b hb o ho => by rw [b1.2 b (fz _ f1.1 b hb)]; exact ho
  have h21 : S2 i g1 := D2.frame i _ _ h2 fun b hb o ho => by rw [b1.2 b (fz _ f2.1 b hb)]; exact ho
  have hO1 : IsPair g1 TO a b := by show g1.get? TO = _; rw [b1.2 TO ap.a2]; exact hO
  have hI1 : IsPair g1 TI (.ref i1) (.ref i2) := by show g1.get? TI = _; rw [b1.2 TI ap.a1]; exact hI
  refine wpAny_bind ?_
  show wpAny _ _ (forIn [(Value.ref i1, 0), (Value.ref i2, 1)] (none, ()) _) _ _ _
  rw [List.forIn_cons]
  refine wpAny_bind ?_
  dsimp only
  refine wpAny_bind (wpAny_onRaise ?_)
  show wpAny _ _ (Builtin.SmallTypes.nextOf (.ref i1) >>= fun v => pure (some v)) _ _ _
  refine wpAny_bind (D1.item i _ _ _ l1 h11 fun x g2 tk hP1 h12 b2 => wpAny_pure ?_)
  dsimp only at b2 ⊢
  have hz2 : g2.get? z = some { cls := Value.type "zip", data := Data.fields #[.ellipsis, .bool false, .bool false, .ref TI, .ref TO] } := by rw [b2.2 z (Ne.symm ap.a3)]; exact hz1
  have hO2 : IsPair g2 TO a b := by show g2.get? TO = _; rw [b2.2 TO ap.a8]; exact hO1
  have hI2 : IsPair g2 TI (.ref i1) (.ref i2) := by show g2.get? TI = _; rw [b2.2 TI ap.a6]; exact hI1
  have h22 : S2 i g2 := D2.frame i _ _ h21 fun b hb o ho => by rw [b2.2 b (fun e => f2.2.2 (e ▸ hb))]; exact ho
  refine wpAny_bind (wpAny_seqItems hO2 rfl ?_)
  dsimp only
  refine wpAny_bind (wpAny_updateSeq_pair hO2 fun g3 hO3 b3 => ?_)
  refine wpAny_bind (wpAny_letGo (wpAny_pure ?_))
  dsimp only
  have hO3' : IsPair g3 TO x b := hO3
  have hz3 : g3.get? z = some { cls := Value.type "zip", data := Data.fields #[.ellipsis, .bool false, .bool false, .ref TI, .ref TO] } := by rw [b3.2 z (Ne.symm ap.a2)]; exact hz2
  have hI3 : IsPair g3 TI (.ref i1) (.ref i2) := by show g3.get? TI = _; rw [b3.2 TI ap.a5]; exact hI2
  have h13 : S1 (i + 1) g3 := D1.frame _ _ _ h12 fun b hb o ho => by rw [b3.2 b (fO _ f1.2.1 b hb)]; exact ho
  have h23 : S2 i g3 := D2.frame i _ _ h22 fun b hb o ho => by rw [b3.2 b (fO _ f2.2.1 b hb)]; exact ho
  rw [List.forIn_cons]
  refine wpAny_bind ?_
  dsimp only
  refine wpAny_bind (wpAny_onRaise ?_)
  show wpAny _ _ (Builtin.SmallTypes.nextOf (.ref i2) >>= fun v => pure (some v)) _ _ _
  refine wpAny_bind (D2.item i _ _ _ l2 h23 fun y g4 tk2 hP2 h24 b4 => wpAny_pure ?_)
  dsimp only at b4 ⊢
  have hz4 : g4.get? z = some { cls := Value.type "zip", data := Data.fields #[.ellipsis, .bool false, .bool false, .ref TI, .ref TO] } := by rw [b4.2 z (Ne.symm ap.a4)]; exact hz3
  have hO4 : IsPair g4 TO x b := by show g4.get? TO = _; rw [b4.2 TO ap.a9]; exact hO3'
  have hI4 : IsPair g4 TI (.ref i1) (.ref i2) := by show g4.get? TI = _; rw [b4.2 TI ap.a7]; exact hI3
  have h14 : S1 (i + 1) g4 := D1.frame _ _ _ h13 fun b hb o ho => by rw [b4.2 b (fun e => f1.2.2 (e ▸ hb))]; exact ho
  refine wpAny_bind (wpAny_seqItems hO4 rfl ?_)
  dsimp only
  refine wpAny_bind (wpAny_updateSeq_pair hO4 fun g5 hO5 b5 => ?_)
  refine wpAny_bind (wpAny_letGo (wpAny_pure ?_))
  dsimp only
  have hO5' : IsPair g5 TO x y := hO5
  have hz5 : g5.get? z = some { cls := Value.type "zip", data := Data.fields #[.ellipsis, .bool false, .bool false, .ref TI, .ref TO] } := by rw [b5.2 z (Ne.symm ap.a2)]; exact hz4
  have hI5 : IsPair g5 TI (.ref i1) (.ref i2) := by show g5.get? TI = _; rw [b5.2 TI ap.a5]; exact hI4
  have h15 : S1 (i + 1) g5 := D1.frame _ _ _ h14 fun b hb o ho => by rw [b5.2 b (fO _ f1.2.1 b hb)]; exact ho
  have h25 : S2 (i + 1) g5 := D2.frame _ _ _ h24 fun b hb o ho => by rw [b5.2 b (fO _ f2.2.1 b hb)]; exact ho
  have sz5 : g5.objs.size = s.heap.objs.size := by rw [b5.1, b4.1, b3.1, b2.1, b1.1]
  rw [List.forIn_nil]
  refine wpAny_pure ?_
  dsimp only
  refine wpAny_bind (wpAny_seqItems hO5' rfl ?_)
  dsimp only
  refine wpAny_bind (wpAny_newTuple ?_ (by show 2 ≤ sizeLine; decide))
  dsimp only
  rw [sz5]
  show wpAny _ _ (Builtin.SmallTypes.ownedTupleHandOut (.ref z) (.ref s.heap.objs.size) >>= _) _ _ _
  unfold Builtin.SmallTypes.ownedTupleHandOut
  have hz6 : (g5.push { cls := Value.type "tuple", data := Data.seq [x, y].toArray }).get? z = some { cls := Value.type "zip", data := Data.fields #[.ellipsis, .bool false, .bool false, .ref TI, .ref TO] } := Heap.get?_push_of_some _ hz5
  refine wpAny_bind (wpAny_bind (wpAny_setField_rec hz6 (by show 0 < 5; decide) fun g7 hz7 b7 => ?_))
  refine wpAny_setField_rec hz7 (by show 1 < 5; decide) fun g8 hz8 b8 => ?_
  refine wpAny_pure ⟨_, rfl, wpAny_pure ?_⟩
  replace b7 : Heap.SameBut z (g5.push { cls := Value.type "tuple", data := Data.seq [x, y].toArray }) g7 := b7
  replace b8 : Heap.SameBut z g7 g8 := b8
  have up : ∀ c o, c ≠ z → g5.get? c = some o → g8.get? c = some o := fun c o hc h => by
    rw [b8.2 c hc, b7.2 c hc]; exact Heap.get?_push_of_some _ h
  have up' : ∀ (fp : List Addr), z ∉ fp → ∀ c ∈ fp, ∀ o, g5.get? c = some o → g8.get? c = some o := fun fp h c hc o ho => up c o (fun e => h (e ▸ hc)) ho
  have nz : s.heap.objs.size ≠ z := Nat.ne_of_gt (Heap.lt_size hz)
  refine q x y g8 tk2 hP1 hP2 hz8 (up _ _ ap.a2 hO5') (up _ _ ap.a1 hI5) (D1.frame _ _ _ h15 (up' _ f1.1)) (D2.frame _ _ _ h25 (up' _ f2.1)) ?_ ?_ ?_
  · show g8.get? _ = _
    rw [b8.2 _ nz, b7.2 _ nz, ← sz5]
    exact Heap.get?_push_size _ rfl
  · rw [b8.1, b7.1, Heap.size_push, sz5]
  · intro c o hc1 hc2 hc3 hc4 ho
    refine up c o hc1 ?_
    rw [b5.2 c hc2, b4.2 c hc4, b3.2 c hc2, b2.2 c hc3, b1.2 c hc1]
    exact ho
theorem zip_end {n1 : Nat} {P1 : Nat → Value → Prop} {S1 : Nat → Heap → Prop} {fp1 : List Addr} {z TI TO i1 i2 : Addr} {a b : Value} {Q : Option Value → Shared → Prop}
    (D1 : Draws prog w A.in1 i1 fp1 n1 P1 S1) (ap : ZApart z TI TO i1 i2) (f1 : z ∉ fp1)
    (hz : IsZip s.heap z TI TO .none) (hI : IsPair s.heap TI (.ref i1) (.ref i2)) (hO : IsPair s.heap TO a b) (h1 : S1 n1 s.heap)
    (q : ∀ (h' : Heap), (∀ c o, c ≠ z → c ≠ i1 → s.heap.get? c = some o → h'.get? c = some o) → Q none { s with heap := h' }) :
    wpAny (model prog w) A (pyNext (.ref z)) Q E s := by
  have hty : s.TypeIs (.ref z) "zip" := ⟨_, hz, rfl⟩
  unfold pyNext
  refine wpAny_bind (wpAny_attempt (wpAny_callSpecial?_slot (name := Str.ofString "__next__") hty F.slot_zip_next
    (wpAny_call_entry F.slot_zip_next hty F.entry_zip_next ?_ (F.args_zip_next_1 _))))
  have e1 : slotArgs "__next__" 0 { pos := [.ref z] } = pure (.ref z, []) := rfl
  show wpAny _ _ (slotArgs "__next__" 0 { pos := [.ref z] } >>= _) _ _ _
  rw [e1]
  refine wpAny_bind (wpAny_pure ?_)
  refine wpAny_bind (wpAny_field hz rfl (x := .bool false) rfl ?_)
  refine wpAny_bind (wpAny_field hz rfl (x := .ref TI) rfl ?_)
  refine wpAny_bind (wpAny_seqItems hI rfl ?_)
  show wpAny _ _ (Builtin.SmallTypes.ownedTupleIsFree (.ref z) >>= _) _ _ _
  unfold Builtin.SmallTypes.ownedTupleIsFree
  refine wpAny_bind (wpAny_bind (wpAny_field hz rfl (x := .none) rfl (wpAny_pure ?_)))
  show wpAny _ _ (field (.ref z) 4 >>= _) _ _ _
  refine wpAny_bind (wpAny_field hz rfl (x := .ref TO) rfl ?_)
  refine wpAny_bind (wpAny_setField_rec hz (by show 0 < 5; decide) fun g1 hz1 b1 => ?_)
  have h11 : S1 n1 g1 := D1.frame _ _ _ h1 fun b hb o ho => by rw [b1.2 b (fun e => f1 (e ▸ hb))]; exact ho
  refine wpAny_bind ?_
  show wpAny _ _ (forIn [(Value.ref i1, 0), (Value.ref i2, 1)] (none, ()) _) _ _ _
  rw [List.forIn_cons]
  refine wpAny_bind ?_
  dsimp only
  refine wpAny_bind (wpAny_onRaise ?_)
  show wpAny _ _ (Builtin.SmallTypes.nextOf (.ref i1) >>= fun v => pure (some v)) _ _ _
  refine wpAny_bind (D1.done _ _ _ h11 fun g2 e b2 he => ?_)
  have hz2 : g2.get? z = some { cls := Value.type "zip", data := Data.fields #[.ellipsis, .bool false, .bool false, .ref TI, .ref TO] } := b2 z _ (Ne.symm ap.a3) hz1
  refine wpAny_setField_rec hz2 (by show 0 < 5; decide) fun g3 hz3 b3 => ?_
  replace b3 : Heap.SameBut z g2 g3 := b3
  obtain ⟨oe, ho, hc⟩ := he
  have ne : e ≠ z := fun e' => by rw [e', hz2] at ho; cases ho; exact absurd (Value.type.inj hc) (by decide)
  refine wpAny_bind (wpAny_isInstance (T := "StopIteration") (b := true) ⟨oe, by show g3.get? e = _; rw [b3.2 e ne]; exact ho, hc⟩ isSubtype_stop ?_)
  refine wpAny_pure (q g3 fun c o hc1 hc2 ho => ?_)
  rw [b3.2 c hc1]
  exact b2 c o hc2 (by rw [b1.2 c hc1]; exact ho)
/-- the heap with a new zip -/
def zHeap (h : Heap) (o1 o2 : Obj) : Heap :=
  ((((h.push o1).push o2).push { cls := .type "tuple", data := .seq #[.ref h.objs.size, .ref (h.objs.size + 1)] }).push { cls := .type "tuple", data := .seq #[.none, .none] }).push
    { cls := .type "zip", data := .fields #[.none, .bool false, .bool false, .ref (h.objs.size + 2), .ref (h.objs.size + 3)] }
theorem zip_make {v1 v2 : Value} {o1 o2 : Obj} {Q : Value → Shared → Prop} (k1 : ∀ (A : Around) (E Q : Value → Shared → Prop), Q (.ref s.heap.objs.size) { s with heap := s.heap.push o1 } → wpAny (model prog w) A (pyIter v1) Q E s)
    (k2 : ∀ (A : Around) (E Q : Value → Shared → Prop), Q (.ref (s.heap.objs.size + 1)) { s with heap := (s.heap.push o1).push o2 } → wpAny (model prog w) A (pyIter v2) Q E { s with heap := s.heap.push o1 })
    (q : Q (.ref (s.heap.objs.size + 4)) { s with heap := zHeap s.heap o1 o2 }) : wpAny (model prog w) A (call (.type "zip") [v1, v2]) Q E s := by
  refine callType_newIn (S := fun A' R s' => s' = s ∧ R (.ok (.ret (.ref (s.heap.objs.size + 4)))) { s with heap := zHeap s.heap o1 o2 }) F.called_zip rfl (F.typeCall_zip_2 _ _) (F.newCall_zip_2 _ _) (fun obj => F.args_object_init_3 ..) F.entry_zip_new ?_ ⟨rfl, ⟨{ cls := .type "zip", data := .fields #[.none, .bool false, .bool false, .ref (s.heap.objs.size + 2), .ref (s.heap.objs.size + 3)] }, ?_, rfl⟩, q⟩
  · rintro A' R _ ⟨rfl, r⟩
    have e1 : Builtin.SmallTypes.newClass "zip" { pos := [.type "zip", v1, v2] } = pure (.type "zip", [v1, v2]) := by rfl
    show wpAny _ _ (Builtin.SmallTypes.newClass "zip" { pos := [.type "zip", v1, v2] } >>= _) _ _ _
    rw [e1]
    refine wpAny_bind (wpAny_pure ?_)
    show wpAny _ _ (Builtin.SmallTypes.iterAll [v1, v2] >>= _) _ _ _
    unfold Builtin.SmallTypes.iterAll
    refine wpAny_bind (wpAny_bind ?_)
    rw [List.forIn_cons]
    refine wpAny_bind (wpAny_bind (wpAny_holding (k1 _ _ _ (wpAny_pure ?_))))
    dsimp only
    rw [List.forIn_cons]
    refine wpAny_bind (wpAny_bind (wpAny_holding (k2 _ _ _ (wpAny_pure ?_))))
    dsimp only
    rw [List.forIn_nil]
    refine wpAny_pure (wpAny_pure ?_)
    refine wpAny_bind (wpAny_newTuple ?_ (by show 2 ≤ sizeLine; decide))
    refine wpAny_bind (wpAny_newTuple ?_ (by show 2 ≤ sizeLine; decide))
    simp only [Heap.size_push]
    unfold Builtin.SmallTypes.newRecord
    refine wpAny_bind (wpAny_newObj_type ?_ (by show 5 ≤ _; decide))
    simp only [Heap.size_push]
    exact wpAny_pure r
  · have e : s.heap.objs.size + 4 = ((((s.heap.push o1).push o2).push { cls := .type "tuple", data := .seq #[.ref s.heap.objs.size, .ref (s.heap.objs.size + 1)] }).push { cls := .type "tuple", data := .seq #[.none, .none] }).objs.size := by simp only [Heap.size_push]
    rw [e]
    exact Heap.get?_push_size _ rfl
end
section
variable {X : Cx} {pins : List (Addr × Obj)} {σ : St} {H : Hp} {s : Shared} {h' : Heap}
theorem Inv.turnedL {t' : Nat} {ch : List Addr} (I : Inv X pins σ H s) (k : ∀ b o, b ∉ ch → s.heap.get? b = some o → h'.get? b = some o) (f : ∀ b ∈ ch, FpOk X pins H b) : Inv X pins σ H { s with heap := h', toks := t' } := by
  have n1 : ∀ b u, H b = some u → b ∉ ch := fun b u e z => by have := (f b z).1; rw [this] at e; cases e
  refine I.step (g' := s.gens) (d' := s.drawn) (ch := ch) (fun b hb => ⟨(f b hb).2.2.2.1, (f b hb).2.1, (f b hb).2.2.2.2.1, (f b hb).2.2.2.2.2⟩) (fun b o _ _ hc e _ => k b o hc e) (fun b o _ _ hc e _ => ⟨o.slots, k b o hc e⟩) (fun _ _ _ _ n => n)
    (fun b o hc e => ⟨o, k b o hc e⟩) (fun _ _ e => e) (fun _ _ _ e => e) (fun b ps e => ⟨#[], by rw [e]; simp⟩) (fun m hm => ?_) (fun b u e => ?_) I.bare
  · obtain ⟨o, es, ep, ho, r⟩ := hm
    exact ⟨o, es, ep, k _ o (fun z => (f _ z).2.1 rfl) ho, r⟩
  · refine (I.hok b u e).stay (fun c v hc q => k c v ?_ q) (fun _ q => q) fun _ _ q => q
    rcases hc with z | z
    · rw [z]; exact n1 b u e
    · exact n1 c _ z
end
def Itz (z : Str) (t : Addr) : It :=
  ⟨fun i H => i < z.length ∧ ∃ xs x, H t = some (.tup xs) ∧ xs[i]? = some x, fun i H x H' => ∃ p c v xs, H p = none ∧ H' = upd H p (.tup [.str ⟨#[c]⟩, v]) ∧ z.cps.toList[i]? = some c ∧ H t = some (.tup xs) ∧ xs[i]? = some v ∧ x = .ref p, fun i _ => z.length ≤ i⟩
theorem turn_zip {P : Program} {w : World} {K : PySem.W.Frag} {elts : List Expr} {k} {tpos : Pos} {ty : String} (e TI TO i1 i2 tu : Addr) (z : Str) (t : Tok) (ap : ZApart e TI TO i1 i2)
    (D : ∀ A : Around, A.handled = none → Draws P w A i1 [i1] z.cps.size (fun i v => ∃ c u, z.cps[i]? = some c ∧ v = .str ⟨#[c]⟩ u) (fun i h => h.IsStrIter i1 ty z t i)) :
    Turn P w K (.Tuple elts k tpos) (Itz z tu) [e, TI, TO, i1, i2] e (fun i h => IsZip h e TI TO .none ∧ IsPair h TI (.ref i1) (.ref i2) ∧ (∃ a b, IsPair h TO a b) ∧ h.IsStrIter i1 ty z t i ∧ h.IsTupleIter i2 tu i ∧ i ≤ z.cps.size) where
  mem := by simp
  obj := fun i h st b hb => by
    obtain ⟨h1, h2, ⟨a, b', h3⟩, ⟨o4, h4, _, d4⟩, ⟨o5, h5, _, d5⟩, _⟩ := st
    simp only [List.mem_cons, List.not_mem_nil, or_false] at hb
    rcases hb with rfl | rfl | rfl | rfl | rfl
    · exact ⟨_, h1, fun v q => by cases q⟩
    · exact ⟨_, h2, fun v q => by cases q⟩
    · exact ⟨_, h3, fun v q => by cases q⟩
    · exact ⟨_, h4, fun v q => by rw [d4] at q; cases q⟩
    · exact ⟨_, h5, fun v q => by rw [d5] at q; cases q⟩
  keep := fun i h h' st kk => by
    obtain ⟨h1, h2, ⟨a, b', h3⟩, ⟨o4, h4, r4⟩, ⟨o5, h5, r5⟩, hle⟩ := st
    exact ⟨kk e (by simp) _ h1, kk TI (by simp) _ h2, ⟨a, b', kk TO (by simp) _ h3⟩, ⟨o4, kk i1 (by simp) _ h4, r4⟩, ⟨o5, kk i2 (by simp) _ h5, r5⟩, hle⟩
  item := by
    intro X hP hw hK hc i pins s σ H E I hf st hg
    subst hP hw hK
    obtain ⟨h1, h2, ⟨a, b, h3⟩, h4, h5, _⟩ := st
    obtain ⟨hl, xs, x, htu, hx⟩ := hg
    have hl' : i < z.cps.size := hl
    obtain ⟨its, rv, p, hz⟩ := I.tuple (.inl (.inl htu))
    obtain ⟨u, hu, ru⟩ := rv.get hx
    have hn : ∀ b ∈ [e, TI, TO, i1, i2], b ≠ tu := fun b hb q => by have := (hf b hb).1; rw [q, htu] at this; cases this
    have D2 := draws_tuple (prog := X.prog) (w := X.w) (A := X.A.in1) (I.ok.hd hc) i2 tu (Ne.symm (hn i2 (by simp))) its.toArray
    have hil : i < its.toArray.size := by
      have := (List.getElem?_eq_some_iff.mp hu).1
      simpa using this
    refine zip_item (D X.A.in1 (I.ok.hd hc)) D2 ap ⟨fun q => ap.a3 (List.mem_singleton.mp q).symm, fun q => ap.a8 (List.mem_singleton.mp q), fun q => ap.a0 (List.mem_singleton.mp q).symm⟩
      ⟨?_, ?_, ?_⟩ h1 h2 h3 h4 ⟨h5, p⟩ hl' hil ?_
    · intro q
      rcases List.mem_cons.mp q with q | q
      · exact ap.a4 q.symm
      · exact hn e (by simp) (List.mem_singleton.mp q)
    · intro q
      rcases List.mem_cons.mp q with q | q
      · exact ap.a9 q
      · exact hn TO (by simp) (List.mem_singleton.mp q)
    · intro q
      rcases List.mem_cons.mp q with q | q
      · exact ap.a0 q
      · exact hn i1 (by simp) (List.mem_singleton.mp q)
    rintro x1 y1 g1 tk ⟨c, uc, hcz, rfl⟩ hy hz1 hO1 hI1 hs1 ⟨hs2, _⟩ hT hsz hk
    have ey : y1 = u := by
      have : its.toArray[i]? = some u := by simpa using hu
      exact Option.some.inj (hy.symm.trans this)
    subst ey
    refine ⟨_, rfl, ?_⟩
    refine wpAny_letOwnedTupleGo_zip (s := { s with heap := g1, toks := tk }) hz1 fun g2 hz2 hb2 => ?_
    replace hb2 : Heap.SameBut e g1 g2 := hb2
    have hpn : H s.heap.objs.size = none := I.hok.fresh (Nat.le_refl _)
    have helt : e < s.heap.objs.size := Heap.lt_size h1
    have hTe : s.heap.objs.size ≠ e := Nat.ne_of_gt helt
    have hT2 : g2.get? s.heap.objs.size = some { cls := .type "tuple", data := .seq #[.str ⟨#[c]⟩ uc, y1] } := (hb2.2 _ hTe).trans hT
    have I1 : Inv X pins σ H { s with heap := g2, toks := tk } := I.turnedL (ch := [e, TI, TO, i1, i2]) (fun b o hb q => by
      simp only [List.mem_cons, List.not_mem_nil, or_false, not_or] at hb
      rw [hb2.2 b hb.1]
      exact hk b o hb.1 hb.2.2.1 hb.2.2.2.1 hb.2.2.2.2 q) hf
    have f := I.fpOk (H' := H) (Nat.le_refl _) hpn
    have I2 : Inv X pins σ (upd H s.heap.objs.size (.tup [.str ⟨#[c]⟩, x])) { s with heap := g2, toks := tk } := by
      refine I1.adopt hpn ?_ (Ne.symm f.2.1) f.2.2.2.2.1 f.2.2.2.2.2 ⟨by show 2 ≤ sizeLine; decide, [.str ⟨#[c]⟩ uc, y1], .cons ⟨_, rfl⟩ (.cons ru .nil), ?_⟩
      · cases q : X.s₀.heap.get? s.heap.objs.size with
        | none => rfl
        | some o => exact absurd (Nat.lt_of_lt_of_le (Heap.lt_size q) I.sz) (Nat.lt_irrefl _)
      · exact ⟨_, hT2, rfl, _, rfl⟩
    have up : ∀ b o, b ≠ e → g1.get? b = some o → g2.get? b = some o := fun b o hb q => (hb2.2 b hb).trans q
    have hlt : ∀ b ∈ [e, TI, TO, i1, i2], b < s.heap.objs.size := fun b hb => by
      obtain ⟨o4, h4', _⟩ := h4
      obtain ⟨o5, h5', _⟩ := h5
      simp only [List.mem_cons, List.not_mem_nil, or_false] at hb
      rcases hb with rfl | rfl | rfl | rfl | rfl
      · exact Heap.lt_size h1
      · exact Heap.lt_size h2
      · exact Heap.lt_size h3
      · exact Heap.lt_size h4'
      · exact Heap.lt_size h5'
    refine ⟨.ref s.heap.objs.size, _, I2, rfl, ⟨_, c, x, xs, hpn, rfl, by rw [Array.getElem?_toList]; exact hcz, htu, hx, rfl⟩, ⟨hz2, up _ _ ap.a1 hI1, ⟨_, _, up _ _ ap.a2 hO1⟩, ?_, ?_, hl'⟩, fun b hb => ?_⟩
    · obtain ⟨o, ho, r⟩ := hs1
      exact ⟨o, up _ _ ap.a3 ho, r⟩
    · obtain ⟨o, ho, r⟩ := hs2
      exact ⟨o, up _ _ ap.a4 ho, r⟩
    · rw [upd_ne (Nat.ne_of_lt (hlt b hb))]; exact (hf b hb).1
  done := by
    intro X hP hw hK hc i pins s σ H E I hf st hg
    subst hP hw hK
    obtain ⟨h1, h2, ⟨a, b, h3⟩, h4, h5, hle⟩ := st
    have hg' : z.cps.size ≤ i := hg
    have e1 : i = z.cps.size := Nat.le_antisymm hle hg'
    subst e1
    exact zip_end (D X.A.in1 (I.ok.hd hc)) ap (fun q => ap.a3 (List.mem_singleton.mp q).symm) h1 h2 h3 h4 fun h' eb => ⟨rfl, I.turnedL (t' := s.toks) (ch := [e, i1]) (fun b o hb q => eb b o (fun z => hb (by simp [z])) (fun z => hb (by simp [z])) q) (fun b hb => hf b (by
      rcases List.mem_cons.mp hb with q | q
      · simp [q]
      · simp [List.mem_singleton.mp q]))⟩
  self := fun A i s Q E st h => wpAny_pyIter_zip st.1 h
section
variable {X : Cx}
theorem zn {n : Nat} {a b : Nat} (h : a ≠ b) : n + a ≠ n + b := by omega
def iZip (ta : TA) : TI := fun σ H R => ta σ H fun vs H1 => ∃ l t xs, vs = [vt l, .ref t] ∧ H1 t = some (.tup xs) ∧ R (Itz (tx l) t) H1
theorem pi_zip {a b : Expr} {ta : TA} {elts : List Expr} {k} {tpos p pos : Pos} (hg : Gl X "zip") (hm : X.mg "zip" = none) (hv : bootBuiltins "zip" = some (.type "zip")) (ha : PA X [a, b] ta)
    (hs : starEach [a, b] X.env = [(false, eval a X.env), (false, eval b X.env)] := by rfl) (hs2 : starEach [b] X.env = [(false, eval b X.env)] := by rfl) :
    PI X (.Tuple elts k tpos) (.Call (.Name "zip" p) [a, b] [] pos) (iZip ta) := by
  intro pins s σ H R I h
  refine wpAny_Call_Name_kw (ld_blt I hg hm hv ?_ (by decide) (by decide))
  refine PyProof.Rows.callWith_type1 (thn (ha pos pins s σ H _ I h) fun us s1 ⟨vs, H1, I1, r1, q1⟩ => ?_) (by rw [hs, hs2]) (by rw [hs2]; rfl)
  obtain ⟨l, tu, xs, rfl, htu, q⟩ := q1
  cases r1 with
  | cons r rr =>
    cases rr with
    | cons r' rr =>
      cases rr
      obtain ⟨t, rfl⟩ := r
      cases r'
      obtain ⟨its, rv, pt, hz⟩ := I1.tuple (.inl (.inl htu))
      refine zip_make (o1 := { cls := .type (strIterType (tx l)), data := .fields #[.str (tx l) t, .int 0 0] }) (o2 := { cls := .type "tuple_iterator", data := .fields #[.ref tu, .int 0 0] })
        (fun A E Q hq => wpAny_pyIter_strU hq) (fun A E Q hq => wpAny_pyIter_tuple (tup_stay (show s1.heap.IsTuple tu its.toArray from pt) fun o ho => Heap.get?_push_of_some _ ho) (by simpa only [Heap.size_push] using hq)) ?_
      have hup : ∀ b o, s1.heap.get? b = some o → (zHeap s1.heap { cls := .type (strIterType (tx l)), data := .fields #[.str (tx l) t, .int 0 0] } { cls := .type "tuple_iterator", data := .fields #[.ref tu, .int 0 0] }).get? b = some o := fun b o ho => by
        unfold zHeap
        exact Heap.get?_push_of_some _ (Heap.get?_push_of_some _ (Heap.get?_push_of_some _ (Heap.get?_push_of_some _ (Heap.get?_push_of_some _ ho))))
      have g0 : (zHeap s1.heap { cls := .type (strIterType (tx l)), data := .fields #[.str (tx l) t, .int 0 0] } { cls := .type "tuple_iterator", data := .fields #[.ref tu, .int 0 0] }).get? s1.heap.objs.size = some { cls := .type (strIterType (tx l)), data := .fields #[.str (tx l) t, .int 0 0] } := by
        unfold zHeap
        exact Heap.get?_push_of_some _ (Heap.get?_push_of_some _ (Heap.get?_push_of_some _ (Heap.get?_push_of_some _ (Heap.get?_push_size _ rfl))))
      have g1 : (zHeap s1.heap { cls := .type (strIterType (tx l)), data := .fields #[.str (tx l) t, .int 0 0] } { cls := .type "tuple_iterator", data := .fields #[.ref tu, .int 0 0] }).get? (s1.heap.objs.size + 1) = some { cls := .type "tuple_iterator", data := .fields #[.ref tu, .int 0 0] } := by
        unfold zHeap
        refine Heap.get?_push_of_some _ (Heap.get?_push_of_some _ (Heap.get?_push_of_some _ ?_))
        rw [← Heap.size_push s1.heap]
        exact Heap.get?_push_size _ rfl
      have g2 : (zHeap s1.heap { cls := .type (strIterType (tx l)), data := .fields #[.str (tx l) t, .int 0 0] } { cls := .type "tuple_iterator", data := .fields #[.ref tu, .int 0 0] }).get? (s1.heap.objs.size + 2) = some { cls := .type "tuple", data := .seq #[.ref s1.heap.objs.size, .ref (s1.heap.objs.size + 1)] } := by
        unfold zHeap
        refine Heap.get?_push_of_some _ (Heap.get?_push_of_some _ ?_)
        have e : s1.heap.objs.size + 2 = ((s1.heap.push { cls := .type (strIterType (tx l)), data := .fields #[.str (tx l) t, .int 0 0] }).push { cls := .type "tuple_iterator", data := .fields #[.ref tu, .int 0 0] }).objs.size := by simp only [Heap.size_push]
        rw [e]
        exact Heap.get?_push_size _ rfl
      have g3 : (zHeap s1.heap { cls := .type (strIterType (tx l)), data := .fields #[.str (tx l) t, .int 0 0] } { cls := .type "tuple_iterator", data := .fields #[.ref tu, .int 0 0] }).get? (s1.heap.objs.size + 3) = some { cls := .type "tuple", data := .seq #[.none, .none] } := by
        unfold zHeap
        refine Heap.get?_push_of_some _ ?_
        have e : s1.heap.objs.size + 3 = (((s1.heap.push { cls := .type (strIterType (tx l)), data := .fields #[.str (tx l) t, .int 0 0] }).push { cls := .type "tuple_iterator", data := .fields #[.ref tu, .int 0 0] }).push { cls := .type "tuple", data := .seq #[.ref s1.heap.objs.size, .ref (s1.heap.objs.size + 1)] }).objs.size := by simp only [Heap.size_push]
        rw [e]
        exact Heap.get?_push_size _ rfl
      have g4 : (zHeap s1.heap { cls := .type (strIterType (tx l)), data := .fields #[.str (tx l) t, .int 0 0] } { cls := .type "tuple_iterator", data := .fields #[.ref tu, .int 0 0] }).get? (s1.heap.objs.size + 4) = some { cls := .type "zip", data := .fields #[.none, .bool false, .bool false, .ref (s1.heap.objs.size + 2), .ref (s1.heap.objs.size + 3)] } := by
        unfold zHeap
        have e : s1.heap.objs.size + 4 = ((((s1.heap.push { cls := .type (strIterType (tx l)), data := .fields #[.str (tx l) t, .int 0 0] }).push { cls := .type "tuple_iterator", data := .fields #[.ref tu, .int 0 0] }).push { cls := .type "tuple", data := .seq #[.ref s1.heap.objs.size, .ref (s1.heap.objs.size + 1)] }).push { cls := .type "tuple", data := .seq #[.none, .none] }).objs.size := by simp only [Heap.size_push]
        rw [e]
        exact Heap.get?_push_size _ rfl
      generalize zHeap s1.heap { cls := .type (strIterType (tx l)), data := .fields #[.str (tx l) t, .int 0 0] } { cls := .type "tuple_iterator", data := .fields #[.ref tu, .int 0 0] } = h' at hup g0 g1 g2 g3 g4 ⊢
      refine wpAny_pyIter_zip (s := { s1 with heap := h' }) g4 ?_
      have I2 : Inv X pins σ H1 { s1 with heap := h' } := I1.kept (t' := s1.toks) hup
      have fp : ∀ b ∈ [s1.heap.objs.size + 4, s1.heap.objs.size + 2, s1.heap.objs.size + 3, s1.heap.objs.size, s1.heap.objs.size + 1], FpOk X pins H1 b := fun b hb => by
        have hle : s1.heap.objs.size ≤ b := by
          simp only [List.mem_cons, List.not_mem_nil, or_false] at hb
          omega
        exact I1.fpOk hle (I1.hok.fresh hle)
      have D : ∀ A : Around, A.handled = none → Draws X.prog X.w A s1.heap.objs.size [s1.heap.objs.size] (tx l).cps.size (fun i v => ∃ c u, (tx l).cps[i]? = some c ∧ v = .str ⟨#[c]⟩ u) (fun i h => h.IsStrIter s1.heap.objs.size (strIterType (tx l)) (tx l) t i) := fun A hA => by
        unfold strIterType
        cases (tx l).cps.all (· < 128)
        · exact Draws.strWide hA _ _ _
        · exact Draws.strAscii hA _ _ _
      refine ⟨s1.heap.objs.size + 4, _, _, _, H1, rfl, I2, turn_zip _ (s1.heap.objs.size + 2) (s1.heap.objs.size + 3) s1.heap.objs.size (s1.heap.objs.size + 1) tu (tx l) t ⟨zn (by decide), zn (by decide), zn (a := 0) (by decide), zn (by decide), zn (by decide), zn (b := 0) (by decide), zn (by decide), zn (b := 0) (by decide), zn (by decide), zn (a := 0) (by decide)⟩ D, ⟨g4, g2, ⟨_, _, g3⟩, ⟨_, g0, rfl, rfl⟩, ⟨_, g1, rfl, rfl⟩, Nat.zero_le _⟩, fp, q⟩
/-- a loop by two names over zip(text, tuple) -/
theorem for_zip {l : List Nat} {t : Addr} {xs : List V} {K : PySem.W.Frag} {a b : Nat} {tb : TS} {D : Ends} {σ : St} {H : Hp} (hxl : l.length = xs.length) (Pv : Nat → St → Hp → Prop) (h0 : Pv 0 σ H) (hl : ∀ i σ H, Pv i σ H → H t = some (.tup xs))
    (hs : ∀ i c v σ H p, l[i]? = some c → xs[i]? = some v → Pv i σ H → H p = none → tb { D with nx := Pv (i + 1), ct := Pv (i + 1), bk := D.nx } ((σ.set a (some (vt [c]))).set b (some v)) (upd H p (.tup [vt [c], v]))) (hd : ∀ σ H, Pv l.length σ H → D.nx σ H) :
    ∃ W : Nat → Nat → St → Hp → Prop, (∃ m, W 0 m σ H) ∧ ∀ i m σ H, W i m σ H →
      ((Itz (tx l) t).stop i H ∧ D.nx σ H) ∨ ((Itz (tx l) t).go i H ∧ ∃ N : St → Hp → Prop, (∀ σ' H', N σ' H' → ∃ m', m' < m ∧ W (i + 1) m' σ' H') ∧ ∀ x H', (Itz (tx l) t).yld i H x H' → gTup K 2 (gCons (gName a) (gCons (gName b) gNil)) x σ H' fun σ2 H2 => tb { D with nx := N, ct := N, bk := D.nx } σ2 H2) := by
  have hz : (tx l).length = l.length := tx_len l
  refine ⟨fun i m σ H => m = l.length - i ∧ i ≤ l.length ∧ Pv i σ H, ⟨l.length, by simp, Nat.zero_le _, h0⟩, ?_⟩
  rintro i m σ H ⟨rfl, hi, p⟩
  have ht := hl i σ H p
  by_cases hlt : i < l.length
  · refine .inr ⟨⟨by show i < (tx l).length; omega, xs, xs[i]'(by omega), ht, List.getElem?_eq_getElem _⟩, Pv (i + 1), fun σ' H' p' => ⟨l.length - (i + 1), by omega, rfl, hlt, p'⟩, ?_⟩
    rintro x H' ⟨q, c, v, xs', hq, rfl, hc, ht', hv, rfl⟩
    rw [ht] at ht'
    cases ht'
    exact ⟨q, _, rfl, SqT.of upd_same, rfl, _, _, rfl, _, _, rfl, rfl, hs i c v σ H q hc hv p hq⟩
  · have e : i = l.length := by omega
    subst e
    exact .inl ⟨by show (tx l).length ≤ l.length; omega, hd σ H p⟩
end
end L2

namespace L2
open PySem PySem.Spec PyProof.Rows
section
variable {X : Cx}
theorem mt_ext : MtR X "list.extend" rExtend := mt_extend (X := X)
/-! range(i, -1, -1) -/
variable {tg : Expr}
end
end L2

namespace L2
open PySem PySem.Spec PyProof.Rows
section
variable {X : Cx}
/-! ### count of a sign in a text -/
theorem occ_count (l : List Nat) (c : Nat) : ∀ (m k : Nat) (st : Array Nat × Nat), k + m = l.length + 1 → st.2 ≤ k → st.1.size ≤ k →
    ((forIn (List.range' k m) st (StrLaws.occBody (tx l) ⟨#[c]⟩ l.length (l.length + 1))).run.fst.size = st.1.size + (l.drop k).count c) := by
  intro m
  induction m with
  | zero =>
    intro k st hk _ _
    rw [List.drop_of_length_le (by omega)]
    rfl
  | succ m ih =>
    intro k st hk h1 h2
    rw [List.range'_succ, List.forIn_cons]
    have hiff := StrLaws.subAt_one (tx l) c k
    have e1 : (tx l).length = l.length := tx_len l
    rw [e1] at hiff
    have e2 : (⟨#[c]⟩ : Str).length = 1 := rfl
    by_cases z : l[k]? = some c
    · have zz : (tx l).cps.toList[k]? = some c := z
      obtain ⟨a1, a2⟩ := hiff.mpr zz
      have hk' : k < l.length := (List.getElem?_eq_some_iff.mp z).1
      have eb : StrLaws.occBody (tx l) ⟨#[c]⟩ l.length (l.length + 1) k st = pure (ForInStep.yield (st.fst.push k, k + 1)) := by
        unfold StrLaws.occBody
        rw [if_pos ⟨⟨⟨by omega, h1⟩, a1⟩, a2⟩]; rfl
      rw [eb, pure_bind]
      show (Id.run (forIn (List.range' (k + 1) m) (st.fst.push k, k + 1) (StrLaws.occBody (tx l) ⟨#[c]⟩ l.length (l.length + 1)))).fst.size = _
      rw [ih (k + 1) _ (by omega) (Nat.le_refl _) (by rw [Array.size_push]; omega), Array.size_push]
      have ed : l.drop k = c :: l.drop (k + 1) := by
        rw [List.drop_eq_getElem_cons hk', (List.getElem?_eq_some_iff.mp z).2]
      rw [ed, List.count_cons_self]; omega
    · have eb : StrLaws.occBody (tx l) ⟨#[c]⟩ l.length (l.length + 1) k st = pure (ForInStep.yield (st.fst, st.snd)) := by
        unfold StrLaws.occBody
        rw [if_neg]
        rintro ⟨⟨_, a1⟩, a2⟩
        exact z (hiff.mp ⟨a1, a2⟩)
      rw [eb, pure_bind]
      show (Id.run (forIn (List.range' (k + 1) m) (st.fst, st.snd) (StrLaws.occBody (tx l) ⟨#[c]⟩ l.length (l.length + 1)))).fst.size = _
      rw [ih (k + 1) _ (by omega) (by show st.2 ≤ _; omega) (by show st.1.size ≤ _; omega)]
      by_cases hk' : k < l.length
      · have ed : l.drop k = l[k] :: l.drop (k + 1) := List.drop_eq_getElem_cons hk'
        rw [ed, List.count_cons_of_ne (fun e => z (by rw [List.getElem?_eq_getElem hk', e]))]
      · rw [List.drop_of_length_le (by omega), List.drop_of_length_le (by omega)]
def rCount : V → List V → Hp → VK → Prop := fun x vs H Q => ∃ l c, x = vt l ∧ vs = [vt [c]] ∧ Q (.int ((l.count c : Nat) : Int)) H
theorem mt_count : MtR X "str.count" rCount := by
  intro pins s σ H x vs v us Q I rx rs h
  obtain ⟨l, c, rfl, rfl, q⟩ := h
  obtain ⟨t, rfl⟩ := rx
  obtain ⟨u, rfl, ru⟩ := vals1 rs
  obtain ⟨t2, rfl⟩ := ru
  have g := gives_str_count (tx l) (tx [c]) t t2
  have e : (Builtin.Str.occurrences (tx l) (tx [c]) 0 (tx l).length ((tx l).length + 1)).length = l.count c := by
    rw [StrLaws.occ_eq, tx_len]
    have := occ_count l c (l.length + 1) 0 (#[], 0) (by omega) (Nat.le_refl _) (Nat.le_refl _)
    rw [List.drop_zero] at this
    rw [Array.length_toList]
    rw [show ((#[], 0) : Array Nat × Nat).1.size = 0 from rfl, Nat.zero_add] at this
    exact this
  rw [e] at g
  exact call_gives PySem.F.slot_str_count (typeIs_str _ _ _) PySem.F.entry_str_count (PySem.F.args_str_count_2 _ _) g ⟨.int _, H, I.tok _, ⟨_, rfl⟩, q⟩
/-! isinstance of a tuple, also one of the module -/
theorem call_isiT : CallR X (.builtin "isinstance") (fun xs H Q => ∃ p vs, xs = [.ref p, .ty "tuple"] ∧ SqT X.K H p vs ∧ Q (.bl true) H) := by
  intro pins s σ H vs us Q I r h
  obtain ⟨p, xs, rfl, hp, q⟩ := h
  obtain ⟨u, c, rfl, rx, rc⟩ := vals2 r
  cases (show c = Value.type "tuple" from rc)
  cases (show u = Value.ref p from rx)
  obtain ⟨its, rv, pt, _⟩ := I.tuple hp
  obtain ⟨o, h1, h2, _⟩ := pt
  exact PySem.W.kia_one PySem.W.kitx_tuple I.kIn ⟨o, h1, h2⟩ (kit_same X.K _) (fun z => nomatch z) fun tk => ⟨.bl true, H, I.tok tk, rfl, q⟩
def isiAnyT := (isiAny (X := X)).or call_isiT
end
end L2

namespace L2
open PySem PySem.Spec PyProof.Rows
section
variable {X : Cx}
end
end L2

namespace L2
open PySem PySem.Spec PyProof.Rows
/-! ### a dict is walked, its keys ints and texts -/
section
variable {X : Cx}
end
end L2

namespace L2
open PySem PySem.Spec PyProof.Rows
/-! ### loops whose turn is read with its continuation as a letter (smaller terms) -/
end L2

namespace Bp
/-! ### the greatest divisor -/
def gcdI (a b : Int) : Int := (Nat.gcd a.natAbs b.natAbs : Nat)
theorem gcdI_zero (a : Int) (h : 0 ≤ a) : gcdI a 0 = a := by
  unfold gcdI
  rw [Int.natAbs_zero, Nat.gcd_zero_right]
  omega
theorem gcdI_step {a b : Int} (ha : 0 ≤ a) (hb : 0 < b) : gcdI b (a % b) = gcdI a b := by
  unfold gcdI
  have e : (a % b).natAbs = a.natAbs % b.natAbs := by
    obtain ⟨m, rfl⟩ := Int.eq_ofNat_of_zero_le ha
    obtain ⟨n, rfl⟩ := Int.eq_ofNat_of_zero_le (Int.le_of_lt hb)
    rfl
  rw [e, Nat.gcd_comm a.natAbs b.natAbs, Nat.gcd_rec b.natAbs a.natAbs, Nat.gcd_comm]
theorem gcdI_pos {a b : Int} (h : b ≠ 0) : 0 < gcdI a b := by
  unfold gcdI
  have := Nat.gcd_pos_of_pos_right a.natAbs (show 0 < b.natAbs by omega)
  omega
theorem gcdI_le {a b : Int} (h : b ≠ 0) : (gcdI a b).natAbs ≤ b.natAbs := by
  unfold gcdI
  have := Nat.gcd_le_right a.natAbs (show 0 < b.natAbs by omega)
  omega
theorem gcdI_dvd_left (a b : Int) : gcdI a b ∣ a := by
  unfold gcdI
  exact Int.ofNat_dvd_left.mpr (Nat.gcd_dvd_left _ _)
theorem gcdI_dvd_right (a b : Int) : gcdI a b ∣ b := by
  unfold gcdI
  exact Int.ofNat_dvd_left.mpr (Nat.gcd_dvd_right _ _)
theorem gcdI_abs (a b : Int) : gcdI (if a < 0 then -a else a) (if b < 0 then -b else b) = gcdI a b := by
  unfold gcdI
  have e1 : (if a < 0 then -a else a).natAbs = a.natAbs := by split <;> omega
  have e2 : (if b < 0 then -b else b).natAbs = b.natAbs := by split <;> omega
  rw [e1, e2]
/-- a fraction in lowest terms -/
def sgn (b : Int) : Int := if b < 0 then -1 else 1
def num (t b : Int) : Int := t.fdiv (sgn b * gcdI t b)
def den (t b : Int) : Int := b.fdiv (sgn b * gcdI t b)
theorem fdiv_exact {a d q : Int} (h : d ≠ 0) (e : a = d * q) : a.fdiv d = q := by
  rw [e]; exact Int.mul_fdiv_cancel_left q h
theorem num_den {t b : Int} (h : b ≠ 0) : ∃ n d g, num t b = n ∧ den t b = d ∧ t = g * n ∧ b = g * d ∧ 0 < d ∧ Nat.gcd n.natAbs d.natAbs = 1 ∧ g.natAbs = (gcdI t b).natAbs := by
  have gp := gcdI_pos (a := t) h
  obtain ⟨n, hn⟩ := gcdI_dvd_left t b
  obtain ⟨d, hd⟩ := gcdI_dvd_right t b
  have gg : ((Nat.gcd t.natAbs b.natAbs : Nat) : Int) = gcdI t b := rfl
  have cop : ∀ n d : Int, t.natAbs = (gcdI t b).natAbs * n.natAbs → b.natAbs = (gcdI t b).natAbs * d.natAbs → Nat.gcd n.natAbs d.natAbs = 1 := by
    intro n d e1 e2
    have k : Nat.gcd t.natAbs b.natAbs = (gcdI t b).natAbs := by omega
    have z : Nat.gcd ((gcdI t b).natAbs * n.natAbs) ((gcdI t b).natAbs * d.natAbs) = (gcdI t b).natAbs := by rw [← e1, ← e2]; exact k
    rw [Nat.gcd_mul_left] at z
    have gp' : 0 < (gcdI t b).natAbs := by omega
    exact Nat.eq_of_mul_eq_mul_left gp' (by omega)
  by_cases hb : b < 0
  · refine ⟨-n, -d, -gcdI t b, ?_, ?_, ?_, ?_, ?_, ?_, ?_⟩
    · unfold num sgn; rw [if_pos hb]; exact fdiv_exact (by omega) (by rw [Int.neg_one_mul, Int.neg_mul_neg]; exact hn)
    · unfold den sgn; rw [if_pos hb]; exact fdiv_exact (by omega) (by rw [Int.neg_one_mul, Int.neg_mul_neg]; exact hd)
    · rw [Int.neg_mul_neg]; exact hn
    · rw [Int.neg_mul_neg]; exact hd
    · rcases (by omega : d < 0 ∨ d = 0 ∨ 0 < d) with z | z | z
      · omega
      · rw [z] at hd; omega
      · have := Int.mul_pos gp z; omega
    · have := cop n d (by rw [← Int.natAbs_mul, ← hn]) (by rw [← Int.natAbs_mul, ← hd])
      simpa using this
    · omega
  · refine ⟨n, d, gcdI t b, ?_, ?_, hn, hd, ?_, ?_, rfl⟩
    · unfold num sgn; rw [if_neg hb]; exact fdiv_exact (by omega) (by rw [Int.one_mul]; exact hn)
    · unfold den sgn; rw [if_neg hb]; exact fdiv_exact (by omega) (by rw [Int.one_mul]; exact hd)
    · rcases (by omega : d < 0 ∨ d = 0 ∨ 0 < d) with z | z | z
      · have := Int.mul_neg_of_pos_of_neg gp z; omega
      · rw [z] at hd; omega
      · exact z
    · exact cop n d (by rw [← Int.natAbs_mul, ← hn]) (by rw [← Int.natAbs_mul, ← hd])
theorem den_pos {t b : Int} (h : b ≠ 0) : 0 < den t b := by
  obtain ⟨n, d, g, e1, e2, _, _, p, _⟩ := num_den (t := t) h
  omega
theorem num_cross {t b : Int} (h : b ≠ 0) : num t b * b = t * den t b := by
  obtain ⟨n, d, g, e1, e2, e3, e4, p, _⟩ := num_den (t := t) h
  rw [e1, e2]
  conv => lhs; rw [e4]
  conv => rhs; rw [e3]
  rw [← Int.mul_assoc, Int.mul_comm n g]
theorem num_gcd {t b : Int} (h : b ≠ 0) : gcdI (num t b) (den t b) = 1 := by
  obtain ⟨n, d, g, e1, e2, e3, e4, p, c, _⟩ := num_den (t := t) h
  unfold gcdI
  rw [e1, e2, c]; rfl
theorem natAbs_le_mul {a g n : Int} (hg : g ≠ 0) (e : a = g * n) : n.natAbs ≤ a.natAbs := by
  rw [e, Int.natAbs_mul]
  exact Nat.le_mul_of_pos_left _ (by omega)
theorem num_le {t b : Int} (h : b ≠ 0) : (num t b).natAbs ≤ t.natAbs := by
  obtain ⟨n, d, g, e1, e2, e3, e4, p, c, e5⟩ := num_den (t := t) h
  have gp := gcdI_pos (a := t) h
  rw [e1]; exact natAbs_le_mul (by omega) e3
theorem den_le {t b : Int} (h : b ≠ 0) : (den t b).natAbs ≤ b.natAbs := by
  obtain ⟨n, d, g, e1, e2, e3, e4, p, c, e5⟩ := num_den (t := t) h
  have gp := gcdI_pos (a := t) h
  rw [e2]; exact natAbs_le_mul (by omega) e4
end Bp

namespace Bp
open PySem PySem.Spec PyProof.Rows L2
def top (i : Nat) : Stmt := PySem.Challenge.pw_boughpress_k34_worth_by_a_tree.main.body.getD i (.Pass ⟨0, 0, 0, 0⟩)
abbrev s_is_whole : Stmt := top 6
abbrev s_checked : Stmt := top 7
abbrev s_elders_at : Stmt := top 9
abbrev s_path_knots : Stmt := top 11
abbrev s_no_counts : Stmt := top 12
abbrev s_count_table : Stmt := top 13
abbrev s_greatest_divisor : Stmt := top 16
abbrev s_fraction : Stmt := top 17
abbrev s_times : Stmt := top 18
abbrev s_product : Stmt := top 19
abbrev s_worth : Stmt := top 21
abbrev s_is_tree_of : Stmt := top 23
abbrev s_is_tree : Stmt := top 24
abbrev s_checked_tree : Stmt := top 25
abbrev s_leaves_behind : Stmt := top 26
abbrev s_leaves : Stmt := top 27
abbrev s_worth_by : Stmt := top 28
abbrev s_L_cell_at : Stmt := top 30
abbrev s_L_signs : Stmt := top 31
abbrev s_L_frame : Stmt := top 32
abbrev s_L_cells : Stmt := top 33
abbrev s_L_thing : Stmt := top 34
abbrev s_L_tree : Stmt := top 35
abbrev s_L_is : Stmt := top 36
abbrev s_L_text : Stmt := top 37
abbrev s_L_elders : Stmt := top 38
abbrev s_L_whole : Stmt := top 39
abbrev s_L_divisor : Stmt := top 40
abbrev s_L_fraction : Stmt := top 41
abbrev s_L_spread : Stmt := top 42
abbrev s_L_strange : Stmt := top 43
abbrev s_L_bad : Stmt := top 44
abbrev s_L_leaf : Stmt := top 45
abbrev s_L_worth : Stmt := top 46
abbrev s_L_kinds : Stmt := top 47
abbrev s_L_asked : Stmt := top 48
abbrev s_L_told : Stmt := top 49
abbrev s_law : Stmt := top 50
theorem sc_is_whole : FnScope ["thing"] ["thing"] (defScope s_is_whole) := ⟨rfl, rfl, rfl, by decide +kernel, rfl, by decide +kernel, by decide +kernel⟩
theorem sc_checked : FnScope ["frame", "text", "letters", "sign"] ["frame", "text"] (defScope s_checked) := ⟨rfl, rfl, rfl, by decide +kernel, rfl, by decide +kernel, by decide +kernel⟩
theorem sc_elders_at : FnScope ["frame", "text", "at", "first_letter", "depth", "near"] ["frame", "text", "at"] (defScope s_elders_at) := ⟨rfl, rfl, rfl, by decide +kernel, rfl, by decide +kernel, by decide +kernel⟩
theorem sc_path_knots : FnScope ["frame", "text", "at", "path"] ["frame", "text", "at"] (defScope s_path_knots) := ⟨rfl, rfl, rfl, by decide +kernel, rfl, by decide +kernel, by decide +kernel⟩
theorem sc_no_counts : FnScope ["frame"] ["frame"] (defScope s_no_counts) := ⟨rfl, rfl, rfl, by decide +kernel, rfl, by decide +kernel, by decide +kernel⟩
theorem sc_count_table : FnScope ["frame", "text", "letters", "table", "at", "sign", "knot"] ["frame", "text"] (defScope s_count_table) := ⟨rfl, rfl, rfl, by decide +kernel, rfl, by decide +kernel, by decide +kernel⟩
theorem sc_greatest_divisor : FnScope ["one", "other", "rest"] ["one", "other"] (defScope s_greatest_divisor) := ⟨rfl, rfl, rfl, by decide +kernel, rfl, by decide +kernel, by decide +kernel⟩
theorem sc_fraction : FnScope ["top", "bottom", "divisor"] ["top", "bottom"] (defScope s_fraction) := ⟨rfl, rfl, rfl, by decide +kernel, rfl, by decide +kernel, by decide +kernel⟩
theorem sc_times : FnScope ["one", "other"] ["one", "other"] (defScope s_times) := ⟨rfl, rfl, rfl, by decide +kernel, rfl, by decide +kernel, by decide +kernel⟩
theorem sc_product : FnScope ["many", "told", "one"] ["many"] (defScope s_product) := ⟨rfl, rfl, rfl, by decide +kernel, rfl, by decide +kernel, by decide +kernel⟩
theorem sc_worth : FnScope ["counts", "top", "count", "ahead", "bottom"] ["counts"] (defScope s_worth) := ⟨rfl, rfl, rfl, by decide +kernel, rfl, by decide +kernel, by decide +kernel⟩
theorem sc_is_tree_of : FnScope ["letters", "thing", "steps"] ["letters", "thing", "steps"] (defScope s_is_tree_of) := ⟨rfl, rfl, rfl, by decide +kernel, rfl, by decide +kernel, by decide +kernel⟩
theorem sc_is_tree : FnScope ["frame", "thing"] ["frame", "thing"] (defScope s_is_tree) := ⟨rfl, rfl, rfl, by decide +kernel, rfl, by decide +kernel, by decide +kernel⟩
theorem sc_checked_tree : FnScope ["frame", "thing"] ["frame", "thing"] (defScope s_checked_tree) := ⟨rfl, rfl, rfl, by decide +kernel, rfl, by decide +kernel, by decide +kernel⟩
theorem sc_leaves_behind : FnScope ["letters", "tree", "knot", "told", "letter", "branch"] ["letters", "tree", "knot"] (defScope s_leaves_behind) := ⟨rfl, rfl, rfl, by decide +kernel, rfl, by decide +kernel, by decide +kernel⟩
theorem sc_leaves : FnScope ["frame", "tree"] ["frame", "tree"] (defScope s_leaves) := ⟨rfl, rfl, rfl, by decide +kernel, rfl, by decide +kernel, by decide +kernel⟩
theorem sc_worth_by : FnScope ["frame", "tree", "text", "knots", "table"] ["frame", "tree", "text"] (defScope s_worth_by) := ⟨rfl, rfl, rfl, by decide +kernel, rfl, by decide +kernel, by decide +kernel⟩
theorem sc_L_cell_at : FnScope ["script", "k"] ["script", "k"] (defScope s_L_cell_at) := ⟨rfl, rfl, rfl, by decide +kernel, rfl, by decide +kernel, by decide +kernel⟩
theorem sc_L_signs : FnScope ["cell", "many", "some", "number", "found", "k", "at"] ["cell", "many"] (defScope s_L_signs) := ⟨rfl, rfl, rfl, by decide +kernel, rfl, by decide +kernel, by decide +kernel⟩
theorem sc_L_frame : FnScope ["cell", "many", "depth"] ["cell"] (defScope s_L_frame) := ⟨rfl, rfl, rfl, by decide +kernel, rfl, by decide +kernel, by decide +kernel⟩
theorem sc_L_cells : FnScope ["script", "many", "way", "most"] ["script", "many"] (defScope s_L_cells) := ⟨rfl, rfl, rfl, by decide +kernel, rfl, by decide +kernel, by decide +kernel⟩
theorem sc_L_thing : FnScope ["thing", "kind", "many"] ["thing", "kind", "many"] (defScope s_L_thing) := ⟨rfl, rfl, rfl, by decide +kernel, rfl, by decide +kernel, by decide +kernel⟩
theorem sc_L_tree : FnScope ["cells", "many", "depth", "place", "kind", "pile", "at", "placed", "branches"] ["cells", "many", "depth", "place", "kind"] (defScope s_L_tree) := ⟨rfl, rfl, rfl, by decide +kernel, rfl, by decide +kernel, by decide +kernel⟩
theorem sc_L_is : FnScope ["thing", "many", "depth", "pile", "here", "left", "branch"] ["thing", "many", "depth"] (defScope s_L_is) := ⟨rfl, rfl, rfl, by decide +kernel, rfl, by decide +kernel, by decide +kernel⟩
theorem sc_L_text : FnScope ["cells", "letters", "lean", "text", "cell", "pick"] ["cells", "letters", "lean"] (defScope s_L_text) := ⟨rfl, rfl, rfl, by decide +kernel, rfl, by decide +kernel, by decide +kernel⟩
theorem sc_L_elders : FnScope ["frame", "text", "at", "row", "k"] ["frame", "text", "at"] (defScope s_L_elders) := ⟨rfl, rfl, rfl, by decide +kernel, rfl, by decide +kernel, by decide +kernel⟩
theorem sc_L_whole : FnScope ["found"] ["found"] (defScope s_L_whole) := ⟨rfl, rfl, rfl, by decide +kernel, rfl, by decide +kernel, by decide +kernel⟩
theorem sc_L_divisor : FnScope ["one", "other"] ["one", "other"] (defScope s_L_divisor) := ⟨rfl, rfl, rfl, by decide +kernel, rfl, by decide +kernel, by decide +kernel⟩
theorem sc_L_fraction : FnScope ["found", "top", "bottom"] ["found", "top", "bottom"] (defScope s_L_fraction) := ⟨rfl, rfl, rfl, by decide +kernel, rfl, by decide +kernel, by decide +kernel⟩
theorem sc_L_spread : FnScope ["cells", "size", "found", "k", "again"] ["cells", "size"] (defScope s_L_spread) := ⟨rfl, rfl, rfl, by decide +kernel, rfl, by decide +kernel, by decide +kernel⟩
theorem sc_L_strange : FnScope ["letters", "cell", "some"] ["letters", "cell"] (defScope s_L_strange) := ⟨rfl, rfl, rfl, by decide +kernel, rfl, by decide +kernel, by decide +kernel⟩
theorem sc_L_bad : FnScope ["letters", "text", "cell", "at", "rest", "one", "other"] ["letters", "text", "cell"] (defScope s_L_bad) := ⟨rfl, rfl, rfl, by decide +kernel, rfl, by decide +kernel, by decide +kernel⟩
theorem sc_L_leaf : FnScope ["frame", "tree", "row", "size"] ["frame", "tree", "row"] (defScope s_L_leaf) := ⟨rfl, rfl, rfl, by decide +kernel, rfl, by decide +kernel, by decide +kernel⟩
theorem sc_L_worth : FnScope ["frame", "tree", "text", "some", "top", "bottom", "at", "knot", "came"] ["frame", "tree", "text"] (defScope s_L_worth) := ⟨rfl, rfl, rfl, by decide +kernel, rfl, by decide +kernel, by decide +kernel⟩
theorem sc_L_kinds : FnScope ["frame", "tree", "text", "kinds", "e"] ["frame", "tree", "text"] (defScope s_L_kinds) := ⟨rfl, rfl, rfl, by decide +kernel, rfl, by decide +kernel, by decide +kernel⟩
theorem sc_L_asked : FnScope ["frame", "thing", "text", "bad", "due"] ["frame", "thing", "text", "bad"] (defScope s_L_asked) := ⟨rfl, rfl, rfl, by decide +kernel, rfl, by decide +kernel, by decide +kernel⟩
theorem sc_L_told : FnScope ["script", "letters", "cells", "way", "text"] ["script", "letters"] (defScope s_L_told) := ⟨rfl, rfl, rfl, by decide +kernel, rfl, by decide +kernel, by decide +kernel⟩
theorem sc_law : FnScope ["script", "frame", "many", "cells", "cell", "tree", "wrong", "text", "bad", "thing"] ["script"] (defScope s_law) := ⟨rfl, rfl, rfl, by decide +kernel, rfl, by decide +kernel, by decide +kernel⟩
theorem bt_ValueError : bootBuiltins "ValueError" = some (.type "ValueError") := by decide +kernel
theorem bt_abs : bootBuiltins "abs" = some (.builtin "abs") := by decide +kernel
theorem bt_all : bootBuiltins "all" = some (.builtin "all") := by decide +kernel
theorem bt_bool : bootBuiltins "bool" = some (.type "bool") := by decide +kernel
theorem bt_enumerate : bootBuiltins "enumerate" = some (.type "enumerate") := by decide +kernel
theorem bt_int : bootBuiltins "int" = some (.type "int") := by decide +kernel
theorem bt_isinstance : bootBuiltins "isinstance" = some (.builtin "isinstance") := by decide +kernel
theorem bt_len : bootBuiltins "len" = some (.builtin "len") := by decide +kernel
theorem bt_list : bootBuiltins "list" = some (.type "list") := by decide +kernel
theorem bt_max : bootBuiltins "max" = some (.builtin "max") := by decide +kernel
theorem bt_reversed : bootBuiltins "reversed" = some (.type "reversed") := by decide +kernel
theorem bt_sum : bootBuiltins "sum" = some (.builtin "sum") := by decide +kernel
theorem bt_tuple : bootBuiltins "tuple" = some (.type "tuple") := by decide +kernel
theorem bt_zip : bootBuiltins "zip" = some (.type "zip") := by decide +kernel
structure Adr where
  a_is_whole : Addr
  fd_is_whole : FuncData
  a_checked : Addr
  fd_checked : FuncData
  a_elders_at : Addr
  fd_elders_at : FuncData
  a_path_knots : Addr
  fd_path_knots : FuncData
  a_no_counts : Addr
  fd_no_counts : FuncData
  a_count_table : Addr
  fd_count_table : FuncData
  a_greatest_divisor : Addr
  fd_greatest_divisor : FuncData
  a_fraction : Addr
  fd_fraction : FuncData
  a_times : Addr
  fd_times : FuncData
  a_product : Addr
  fd_product : FuncData
  a_worth : Addr
  fd_worth : FuncData
  a_is_tree_of : Addr
  fd_is_tree_of : FuncData
  a_is_tree : Addr
  fd_is_tree : FuncData
  a_checked_tree : Addr
  fd_checked_tree : FuncData
  a_leaves_behind : Addr
  fd_leaves_behind : FuncData
  a_leaves : Addr
  fd_leaves : FuncData
  a_worth_by : Addr
  fd_worth_by : FuncData
  a_L_cell_at : Addr
  fd_L_cell_at : FuncData
  a_L_signs : Addr
  fd_L_signs : FuncData
  a_L_frame : Addr
  fd_L_frame : FuncData
  a_L_cells : Addr
  fd_L_cells : FuncData
  a_L_thing : Addr
  fd_L_thing : FuncData
  a_L_tree : Addr
  fd_L_tree : FuncData
  a_L_is : Addr
  fd_L_is : FuncData
  a_L_text : Addr
  fd_L_text : FuncData
  a_L_elders : Addr
  fd_L_elders : FuncData
  a_L_whole : Addr
  fd_L_whole : FuncData
  a_L_divisor : Addr
  fd_L_divisor : FuncData
  a_L_fraction : Addr
  fd_L_fraction : FuncData
  a_L_spread : Addr
  fd_L_spread : FuncData
  a_L_strange : Addr
  fd_L_strange : FuncData
  a_L_bad : Addr
  fd_L_bad : FuncData
  a_L_leaf : Addr
  fd_L_leaf : FuncData
  a_L_worth : Addr
  fd_L_worth : FuncData
  a_L_kinds : Addr
  fd_L_kinds : FuncData
  a_L_asked : Addr
  fd_L_asked : FuncData
  a_L_told : Addr
  fd_L_told : FuncData
  a_law : Addr
  fd_law : FuncData
  c_PressError : Addr
  c_NoFraction : Addr
  c_NoText : Addr
  c_NoTree : Addr
  q_ONE : Addr
structure Txt (K : PySem.W.Frag) (mg : Str → Option Value) (t : Adr) : Prop where
  F_is_whole : Fun K "is_whole" "is_whole" s_is_whole t.a_is_whole t.fd_is_whole
  b_is_whole : Binds K t.fd_is_whole ["thing"] []
  m_is_whole : mg "is_whole" = some (.ref t.a_is_whole)
  F_checked : Fun K "checked" "checked" s_checked t.a_checked t.fd_checked
  b_checked : Binds K t.fd_checked ["frame", "text"] []
  m_checked : mg "checked" = some (.ref t.a_checked)
  F_elders_at : Fun K "elders_at" "elders_at" s_elders_at t.a_elders_at t.fd_elders_at
  b_elders_at : Binds K t.fd_elders_at ["frame", "text", "at"] []
  m_elders_at : mg "elders_at" = some (.ref t.a_elders_at)
  F_path_knots : Fun K "path_knots" "path_knots" s_path_knots t.a_path_knots t.fd_path_knots
  b_path_knots : Binds K t.fd_path_knots ["frame", "text", "at"] []
  m_path_knots : mg "path_knots" = some (.ref t.a_path_knots)
  F_no_counts : Fun K "no_counts" "no_counts" s_no_counts t.a_no_counts t.fd_no_counts
  b_no_counts : Binds K t.fd_no_counts ["frame"] []
  m_no_counts : mg "no_counts" = some (.ref t.a_no_counts)
  F_count_table : Fun K "count_table" "count_table" s_count_table t.a_count_table t.fd_count_table
  b_count_table : Binds K t.fd_count_table ["frame", "text"] []
  m_count_table : mg "count_table" = some (.ref t.a_count_table)
  F_greatest_divisor : Fun K "greatest_divisor" "greatest_divisor" s_greatest_divisor t.a_greatest_divisor t.fd_greatest_divisor
  b_greatest_divisor : Binds K t.fd_greatest_divisor ["one", "other"] []
  m_greatest_divisor : mg "greatest_divisor" = some (.ref t.a_greatest_divisor)
  F_fraction : Fun K "fraction" "fraction" s_fraction t.a_fraction t.fd_fraction
  b_fraction : Binds K t.fd_fraction ["top", "bottom"] []
  m_fraction : mg "fraction" = some (.ref t.a_fraction)
  F_times : Fun K "times" "times" s_times t.a_times t.fd_times
  b_times : Binds K t.fd_times ["one", "other"] []
  m_times : mg "times" = some (.ref t.a_times)
  F_product : Fun K "product" "product" s_product t.a_product t.fd_product
  b_product : Binds K t.fd_product ["many"] []
  m_product : mg "product" = some (.ref t.a_product)
  F_worth : Fun K "worth" "worth" s_worth t.a_worth t.fd_worth
  b_worth : Binds K t.fd_worth ["counts"] []
  m_worth : mg "worth" = some (.ref t.a_worth)
  F_is_tree_of : Fun K "is_tree_of" "is_tree_of" s_is_tree_of t.a_is_tree_of t.fd_is_tree_of
  b_is_tree_of : Binds K t.fd_is_tree_of ["letters", "thing", "steps"] []
  m_is_tree_of : mg "is_tree_of" = some (.ref t.a_is_tree_of)
  F_is_tree : Fun K "is_tree" "is_tree" s_is_tree t.a_is_tree t.fd_is_tree
  b_is_tree : Binds K t.fd_is_tree ["frame", "thing"] []
  m_is_tree : mg "is_tree" = some (.ref t.a_is_tree)
  F_checked_tree : Fun K "checked_tree" "checked_tree" s_checked_tree t.a_checked_tree t.fd_checked_tree
  b_checked_tree : Binds K t.fd_checked_tree ["frame", "thing"] []
  m_checked_tree : mg "checked_tree" = some (.ref t.a_checked_tree)
  F_leaves_behind : Fun K "leaves_behind" "leaves_behind" s_leaves_behind t.a_leaves_behind t.fd_leaves_behind
  b_leaves_behind : Binds K t.fd_leaves_behind ["letters", "tree", "knot"] []
  m_leaves_behind : mg "leaves_behind" = some (.ref t.a_leaves_behind)
  F_leaves : Fun K "leaves" "leaves" s_leaves t.a_leaves t.fd_leaves
  b_leaves : Binds K t.fd_leaves ["frame", "tree"] []
  m_leaves : mg "leaves" = some (.ref t.a_leaves)
  F_worth_by : Fun K "worth_by" "worth_by" s_worth_by t.a_worth_by t.fd_worth_by
  b_worth_by : Binds K t.fd_worth_by ["frame", "tree", "text"] []
  m_worth_by : mg "worth_by" = some (.ref t.a_worth_by)
  F_L_cell_at : Fun K "_law_cell_at" "_law_cell_at" s_L_cell_at t.a_L_cell_at t.fd_L_cell_at
  b_L_cell_at : Binds K t.fd_L_cell_at ["script", "k"] []
  m_L_cell_at : mg "_law_cell_at" = some (.ref t.a_L_cell_at)
  F_L_signs : Fun K "_law_signs" "_law_signs" s_L_signs t.a_L_signs t.fd_L_signs
  b_L_signs : Binds K t.fd_L_signs ["cell", "many"] []
  m_L_signs : mg "_law_signs" = some (.ref t.a_L_signs)
  F_L_frame : Fun K "_law_frame" "_law_frame" s_L_frame t.a_L_frame t.fd_L_frame
  b_L_frame : Binds K t.fd_L_frame ["cell"] []
  m_L_frame : mg "_law_frame" = some (.ref t.a_L_frame)
  F_L_cells : Fun K "_law_cells" "_law_cells" s_L_cells t.a_L_cells t.fd_L_cells
  b_L_cells : Binds K t.fd_L_cells ["script", "many"] []
  m_L_cells : mg "_law_cells" = some (.ref t.a_L_cells)
  F_L_thing : Fun K "_law_thing" "_law_thing" s_L_thing t.a_L_thing t.fd_L_thing
  b_L_thing : Binds K t.fd_L_thing ["thing", "kind", "many"] []
  m_L_thing : mg "_law_thing" = some (.ref t.a_L_thing)
  F_L_tree : Fun K "_law_tree" "_law_tree" s_L_tree t.a_L_tree t.fd_L_tree
  b_L_tree : Binds K t.fd_L_tree ["cells", "many", "depth", "place", "kind"] []
  m_L_tree : mg "_law_tree" = some (.ref t.a_L_tree)
  F_L_is : Fun K "_law_is" "_law_is" s_L_is t.a_L_is t.fd_L_is
  b_L_is : Binds K t.fd_L_is ["thing", "many", "depth"] []
  m_L_is : mg "_law_is" = some (.ref t.a_L_is)
  F_L_text : Fun K "_law_text" "_law_text" s_L_text t.a_L_text t.fd_L_text
  b_L_text : Binds K t.fd_L_text ["cells", "letters", "lean"] []
  m_L_text : mg "_law_text" = some (.ref t.a_L_text)
  F_L_elders : Fun K "_law_elders" "_law_elders" s_L_elders t.a_L_elders t.fd_L_elders
  b_L_elders : Binds K t.fd_L_elders ["frame", "text", "at"] []
  m_L_elders : mg "_law_elders" = some (.ref t.a_L_elders)
  F_L_whole : Fun K "_law_whole" "_law_whole" s_L_whole t.a_L_whole t.fd_L_whole
  b_L_whole : Binds K t.fd_L_whole ["found"] []
  m_L_whole : mg "_law_whole" = some (.ref t.a_L_whole)
  F_L_divisor : Fun K "_law_divisor" "_law_divisor" s_L_divisor t.a_L_divisor t.fd_L_divisor
  b_L_divisor : Binds K t.fd_L_divisor ["one", "other"] []
  m_L_divisor : mg "_law_divisor" = some (.ref t.a_L_divisor)
  F_L_fraction : Fun K "_law_fraction" "_law_fraction" s_L_fraction t.a_L_fraction t.fd_L_fraction
  b_L_fraction : Binds K t.fd_L_fraction ["found", "top", "bottom"] []
  m_L_fraction : mg "_law_fraction" = some (.ref t.a_L_fraction)
  F_L_spread : Fun K "_law_spread" "_law_spread" s_L_spread t.a_L_spread t.fd_L_spread
  b_L_spread : Binds K t.fd_L_spread ["cells", "size"] []
  m_L_spread : mg "_law_spread" = some (.ref t.a_L_spread)
  F_L_strange : Fun K "_law_strange" "_law_strange" s_L_strange t.a_L_strange t.fd_L_strange
  b_L_strange : Binds K t.fd_L_strange ["letters", "cell"] []
  m_L_strange : mg "_law_strange" = some (.ref t.a_L_strange)
  F_L_bad : Fun K "_law_bad" "_law_bad" s_L_bad t.a_L_bad t.fd_L_bad
  b_L_bad : Binds K t.fd_L_bad ["letters", "text", "cell"] []
  m_L_bad : mg "_law_bad" = some (.ref t.a_L_bad)
  F_L_leaf : Fun K "_law_leaf" "_law_leaf" s_L_leaf t.a_L_leaf t.fd_L_leaf
  b_L_leaf : Binds K t.fd_L_leaf ["frame", "tree", "row"] []
  m_L_leaf : mg "_law_leaf" = some (.ref t.a_L_leaf)
  F_L_worth : Fun K "_law_worth" "_law_worth" s_L_worth t.a_L_worth t.fd_L_worth
  b_L_worth : Binds K t.fd_L_worth ["frame", "tree", "text"] []
  m_L_worth : mg "_law_worth" = some (.ref t.a_L_worth)
  F_L_kinds : Fun K "_law_kinds" "_law_kinds" s_L_kinds t.a_L_kinds t.fd_L_kinds
  b_L_kinds : Binds K t.fd_L_kinds ["frame", "tree", "text"] []
  m_L_kinds : mg "_law_kinds" = some (.ref t.a_L_kinds)
  F_L_asked : Fun K "_law_asked" "_law_asked" s_L_asked t.a_L_asked t.fd_L_asked
  b_L_asked : Binds K t.fd_L_asked ["frame", "thing", "text", "bad"] []
  m_L_asked : mg "_law_asked" = some (.ref t.a_L_asked)
  F_L_told : Fun K "_law_told" "_law_told" s_L_told t.a_L_told t.fd_L_told
  b_L_told : Binds K t.fd_L_told ["script", "letters"] []
  m_L_told : mg "_law_told" = some (.ref t.a_L_told)
  F_law : Fun K "law" "law" s_law t.a_law t.fd_law
  b_law : Binds K t.fd_law ["script"] []
  m_law : mg "law" = some (.ref t.a_law)
  m_ValueError : mg "ValueError" = none
  m_abs : mg "abs" = none
  m_all : mg "all" = none
  m_bool : mg "bool" = none
  m_enumerate : mg "enumerate" = none
  m_int : mg "int" = none
  m_isinstance : mg "isinstance" = none
  m_len : mg "len" = none
  m_list : mg "list" = none
  m_max : mg "max" = none
  m_range : mg "range" = none
  m_reversed : mg "reversed" = none
  m_sum : mg "sum" = none
  m_tuple : mg "tuple" = none
  m_zip : mg "zip" = none
  m_PressError : mg "PressError" = some (.ref t.c_PressError)
  m_NoFraction : mg "NoFraction" = some (.ref t.c_NoFraction)
  m_NoText : mg "NoText" = some (.ref t.c_NoText)
  m_NoTree : mg "NoTree" = some (.ref t.c_NoTree)
  m_ONE : mg "ONE" = some (.ref t.q_ONE)
  tc_ONE : ∃ (o : Obj) (its : Array Value) (n : Nat), K.lookup t.q_ONE = some o ∧ o.cls = .type "tuple" ∧ o.data = .seq its n ∧ its.size ≤ sizeLine ∧ Vals [.int 1, .int 1] its.toList
  x_NoFraction : PySem.W.excIn K t.c_NoFraction [.type "ValueError", .type "Exception", .type "BaseException", .type "object"] "ValueError.__new__" = true
  z_NoFraction : XT.ExcK K t.c_NoFraction
  x_NoText : PySem.W.excIn K t.c_NoText [.type "ValueError", .type "Exception", .type "BaseException", .type "object"] "ValueError.__new__" = true
  z_NoText : XT.ExcK K t.c_NoText
  x_NoTree : PySem.W.excIn K t.c_NoTree [.type "ValueError", .type "Exception", .type "BaseException", .type "object"] "ValueError.__new__" = true
  z_NoTree : XT.ExcK K t.c_NoTree
  x_PressError : PySem.W.excIn K t.c_PressError [.type "ValueError", .type "Exception", .type "BaseException", .type "object"] "ValueError.__new__" = true
  z_PressError : XT.ExcK K t.c_PressError
  i_NoFraction_ValueError : PySem.W.kitOne K (.ref t.c_NoFraction) (.type "ValueError") = some true
  i_NoText_ValueError : PySem.W.kitOne K (.ref t.c_NoText) (.type "ValueError") = some true
  i_NoTree_ValueError : PySem.W.kitOne K (.ref t.c_NoTree) (.type "ValueError") = some true
  i_NoFraction_NoTree : PySem.W.kitOne K (.ref t.c_NoFraction) (.ref t.c_NoTree) = some false
  i_NoText_NoTree : PySem.W.kitOne K (.ref t.c_NoText) (.ref t.c_NoTree) = some false
  i_NoTree_NoTree : PySem.W.kitOne K (.ref t.c_NoTree) (.ref t.c_NoTree) = some true
  i_NoFraction_NoText : PySem.W.kitOne K (.ref t.c_NoFraction) (.ref t.c_NoText) = some false
  i_NoText_NoText : PySem.W.kitOne K (.ref t.c_NoText) (.ref t.c_NoText) = some true
  i_NoTree_NoText : PySem.W.kitOne K (.ref t.c_NoTree) (.ref t.c_NoText) = some false
  u_NoFraction_PressError : PySem.W.mroIn K t.c_NoFraction (.ref t.c_PressError) = some true
  u_NoText_PressError : PySem.W.mroIn K t.c_NoText (.ref t.c_PressError) = some true
  u_NoTree_PressError : PySem.W.mroIn K t.c_NoTree (.ref t.c_PressError) = some true
  bl : ∀ (s : Shared) (v : Value), BindsTo s t.fd_law ⟨[v], []⟩ [("script", v)]
theorem txt_mk {K : PySem.W.Frag} {h : Heap} {mg : Str → Option Value} (X : K.In h) (G : h.Ns mainGlobals mg)
    {a_is_whole : Addr} {oc_is_whole kV_is_whole dc_is_whole pm_is_whole cd_is_whole ct_is_whole : Value} {od_is_whole an_is_whole : Option Addr} {sl_is_whole : Array (Option Value)}
    {a_checked : Addr} {oc_checked kV_checked dc_checked pm_checked cd_checked ct_checked : Value} {od_checked an_checked : Option Addr} {sl_checked : Array (Option Value)}
    {a_elders_at : Addr} {oc_elders_at kV_elders_at dc_elders_at pm_elders_at cd_elders_at ct_elders_at : Value} {od_elders_at an_elders_at : Option Addr} {sl_elders_at : Array (Option Value)}
    {a_path_knots : Addr} {oc_path_knots kV_path_knots dc_path_knots pm_path_knots cd_path_knots ct_path_knots : Value} {od_path_knots an_path_knots : Option Addr} {sl_path_knots : Array (Option Value)}
    {a_no_counts : Addr} {oc_no_counts kV_no_counts dc_no_counts pm_no_counts cd_no_counts ct_no_counts : Value} {od_no_counts an_no_counts : Option Addr} {sl_no_counts : Array (Option Value)}
    {a_count_table : Addr} {oc_count_table kV_count_table dc_count_table pm_count_table cd_count_table ct_count_table : Value} {od_count_table an_count_table : Option Addr} {sl_count_table : Array (Option Value)}
    {a_greatest_divisor : Addr} {oc_greatest_divisor kV_greatest_divisor dc_greatest_divisor pm_greatest_divisor cd_greatest_divisor ct_greatest_divisor : Value} {od_greatest_divisor an_greatest_divisor : Option Addr} {sl_greatest_divisor : Array (Option Value)}
    {a_fraction : Addr} {oc_fraction kV_fraction dc_fraction pm_fraction cd_fraction ct_fraction : Value} {od_fraction an_fraction : Option Addr} {sl_fraction : Array (Option Value)}
    {a_times : Addr} {oc_times kV_times dc_times pm_times cd_times ct_times : Value} {od_times an_times : Option Addr} {sl_times : Array (Option Value)}
    {a_product : Addr} {oc_product kV_product dc_product pm_product cd_product ct_product : Value} {od_product an_product : Option Addr} {sl_product : Array (Option Value)}
    {a_worth : Addr} {oc_worth kV_worth dc_worth pm_worth cd_worth ct_worth : Value} {od_worth an_worth : Option Addr} {sl_worth : Array (Option Value)}
    {a_is_tree_of : Addr} {oc_is_tree_of kV_is_tree_of dc_is_tree_of pm_is_tree_of cd_is_tree_of ct_is_tree_of : Value} {od_is_tree_of an_is_tree_of : Option Addr} {sl_is_tree_of : Array (Option Value)}
    {a_is_tree : Addr} {oc_is_tree kV_is_tree dc_is_tree pm_is_tree cd_is_tree ct_is_tree : Value} {od_is_tree an_is_tree : Option Addr} {sl_is_tree : Array (Option Value)}
    {a_checked_tree : Addr} {oc_checked_tree kV_checked_tree dc_checked_tree pm_checked_tree cd_checked_tree ct_checked_tree : Value} {od_checked_tree an_checked_tree : Option Addr} {sl_checked_tree : Array (Option Value)}
    {a_leaves_behind : Addr} {oc_leaves_behind kV_leaves_behind dc_leaves_behind pm_leaves_behind cd_leaves_behind ct_leaves_behind : Value} {od_leaves_behind an_leaves_behind : Option Addr} {sl_leaves_behind : Array (Option Value)}
    {a_leaves : Addr} {oc_leaves kV_leaves dc_leaves pm_leaves cd_leaves ct_leaves : Value} {od_leaves an_leaves : Option Addr} {sl_leaves : Array (Option Value)}
    {a_worth_by : Addr} {oc_worth_by kV_worth_by dc_worth_by pm_worth_by cd_worth_by ct_worth_by : Value} {od_worth_by an_worth_by : Option Addr} {sl_worth_by : Array (Option Value)}
    {a_L_cell_at : Addr} {oc_L_cell_at kV_L_cell_at dc_L_cell_at pm_L_cell_at cd_L_cell_at ct_L_cell_at : Value} {od_L_cell_at an_L_cell_at : Option Addr} {sl_L_cell_at : Array (Option Value)}
    {a_L_signs : Addr} {oc_L_signs kV_L_signs dc_L_signs pm_L_signs cd_L_signs ct_L_signs : Value} {od_L_signs an_L_signs : Option Addr} {sl_L_signs : Array (Option Value)}
    {a_L_frame : Addr} {oc_L_frame kV_L_frame dc_L_frame pm_L_frame cd_L_frame ct_L_frame : Value} {od_L_frame an_L_frame : Option Addr} {sl_L_frame : Array (Option Value)}
    {a_L_cells : Addr} {oc_L_cells kV_L_cells dc_L_cells pm_L_cells cd_L_cells ct_L_cells : Value} {od_L_cells an_L_cells : Option Addr} {sl_L_cells : Array (Option Value)}
    {a_L_thing : Addr} {oc_L_thing kV_L_thing dc_L_thing pm_L_thing cd_L_thing ct_L_thing : Value} {od_L_thing an_L_thing : Option Addr} {sl_L_thing : Array (Option Value)}
    {a_L_tree : Addr} {oc_L_tree kV_L_tree dc_L_tree pm_L_tree cd_L_tree ct_L_tree : Value} {od_L_tree an_L_tree : Option Addr} {sl_L_tree : Array (Option Value)}
    {a_L_is : Addr} {oc_L_is kV_L_is dc_L_is pm_L_is cd_L_is ct_L_is : Value} {od_L_is an_L_is : Option Addr} {sl_L_is : Array (Option Value)}
    {a_L_text : Addr} {oc_L_text kV_L_text dc_L_text pm_L_text cd_L_text ct_L_text : Value} {od_L_text an_L_text : Option Addr} {sl_L_text : Array (Option Value)}
    {a_L_elders : Addr} {oc_L_elders kV_L_elders dc_L_elders pm_L_elders cd_L_elders ct_L_elders : Value} {od_L_elders an_L_elders : Option Addr} {sl_L_elders : Array (Option Value)}
    {a_L_whole : Addr} {oc_L_whole kV_L_whole dc_L_whole pm_L_whole cd_L_whole ct_L_whole : Value} {od_L_whole an_L_whole : Option Addr} {sl_L_whole : Array (Option Value)}
    {a_L_divisor : Addr} {oc_L_divisor kV_L_divisor dc_L_divisor pm_L_divisor cd_L_divisor ct_L_divisor : Value} {od_L_divisor an_L_divisor : Option Addr} {sl_L_divisor : Array (Option Value)}
    {a_L_fraction : Addr} {oc_L_fraction kV_L_fraction dc_L_fraction pm_L_fraction cd_L_fraction ct_L_fraction : Value} {od_L_fraction an_L_fraction : Option Addr} {sl_L_fraction : Array (Option Value)}
    {a_L_spread : Addr} {oc_L_spread kV_L_spread dc_L_spread pm_L_spread cd_L_spread ct_L_spread : Value} {od_L_spread an_L_spread : Option Addr} {sl_L_spread : Array (Option Value)}
    {a_L_strange : Addr} {oc_L_strange kV_L_strange dc_L_strange pm_L_strange cd_L_strange ct_L_strange : Value} {od_L_strange an_L_strange : Option Addr} {sl_L_strange : Array (Option Value)}
    {a_L_bad : Addr} {oc_L_bad kV_L_bad dc_L_bad pm_L_bad cd_L_bad ct_L_bad : Value} {od_L_bad an_L_bad : Option Addr} {sl_L_bad : Array (Option Value)}
    {a_L_leaf : Addr} {oc_L_leaf kV_L_leaf dc_L_leaf pm_L_leaf cd_L_leaf ct_L_leaf : Value} {od_L_leaf an_L_leaf : Option Addr} {sl_L_leaf : Array (Option Value)}
    {a_L_worth : Addr} {oc_L_worth kV_L_worth dc_L_worth pm_L_worth cd_L_worth ct_L_worth : Value} {od_L_worth an_L_worth : Option Addr} {sl_L_worth : Array (Option Value)}
    {a_L_kinds : Addr} {oc_L_kinds kV_L_kinds dc_L_kinds pm_L_kinds cd_L_kinds ct_L_kinds : Value} {od_L_kinds an_L_kinds : Option Addr} {sl_L_kinds : Array (Option Value)}
    {a_L_asked : Addr} {oc_L_asked kV_L_asked dc_L_asked pm_L_asked cd_L_asked ct_L_asked : Value} {od_L_asked an_L_asked : Option Addr} {sl_L_asked : Array (Option Value)}
    {a_L_told : Addr} {oc_L_told kV_L_told dc_L_told pm_L_told cd_L_told ct_L_told : Value} {od_L_told an_L_told : Option Addr} {sl_L_told : Array (Option Value)}
    {a_law : Addr} {oc_law kV_law dc_law pm_law cd_law ct_law : Value} {od_law an_law : Option Addr} {sl_law : Array (Option Value)}
    {c_PressError : Addr}
    {c_NoFraction : Addr}
    {c_NoText : Addr}
    {c_NoTree : Addr}
    {q_ONE : Addr} {od_ONE : Option Addr} {sl_ONE : Array (Option Value)} {nn_ONE : Nat} {i0_ONE i1_ONE : Tok}
    (n_is_whole : PySem.W.nsIn K mainGlobals "is_whole" = some (some (.ref a_is_whole)))
    (l_is_whole : K.lookup a_is_whole = some ⟨oc_is_whole, od_is_whole, .func (PySem.W.fnOf "is_whole" "is_whole" (defArgs s_is_whole) (defBody s_is_whole) (defScope s_is_whole) .none kV_is_whole dc_is_whole pm_is_whole an_is_whole cd_is_whole ct_is_whole), sl_is_whole⟩)
    (o_is_whole : PySem.W.codeIn K cd_is_whole "is_whole" = true)
    (k_is_whole : PySem.W.keepIn K (.ref a_is_whole) = true)
    (n_checked : PySem.W.nsIn K mainGlobals "checked" = some (some (.ref a_checked)))
    (l_checked : K.lookup a_checked = some ⟨oc_checked, od_checked, .func (PySem.W.fnOf "checked" "checked" (defArgs s_checked) (defBody s_checked) (defScope s_checked) .none kV_checked dc_checked pm_checked an_checked cd_checked ct_checked), sl_checked⟩)
    (o_checked : PySem.W.codeIn K cd_checked "checked" = true)
    (k_checked : PySem.W.keepIn K (.ref a_checked) = true)
    (n_elders_at : PySem.W.nsIn K mainGlobals "elders_at" = some (some (.ref a_elders_at)))
    (l_elders_at : K.lookup a_elders_at = some ⟨oc_elders_at, od_elders_at, .func (PySem.W.fnOf "elders_at" "elders_at" (defArgs s_elders_at) (defBody s_elders_at) (defScope s_elders_at) .none kV_elders_at dc_elders_at pm_elders_at an_elders_at cd_elders_at ct_elders_at), sl_elders_at⟩)
    (o_elders_at : PySem.W.codeIn K cd_elders_at "elders_at" = true)
    (k_elders_at : PySem.W.keepIn K (.ref a_elders_at) = true)
    (n_path_knots : PySem.W.nsIn K mainGlobals "path_knots" = some (some (.ref a_path_knots)))
    (l_path_knots : K.lookup a_path_knots = some ⟨oc_path_knots, od_path_knots, .func (PySem.W.fnOf "path_knots" "path_knots" (defArgs s_path_knots) (defBody s_path_knots) (defScope s_path_knots) .none kV_path_knots dc_path_knots pm_path_knots an_path_knots cd_path_knots ct_path_knots), sl_path_knots⟩)
    (o_path_knots : PySem.W.codeIn K cd_path_knots "path_knots" = true)
    (k_path_knots : PySem.W.keepIn K (.ref a_path_knots) = true)
    (n_no_counts : PySem.W.nsIn K mainGlobals "no_counts" = some (some (.ref a_no_counts)))
    (l_no_counts : K.lookup a_no_counts = some ⟨oc_no_counts, od_no_counts, .func (PySem.W.fnOf "no_counts" "no_counts" (defArgs s_no_counts) (defBody s_no_counts) (defScope s_no_counts) .none kV_no_counts dc_no_counts pm_no_counts an_no_counts cd_no_counts ct_no_counts), sl_no_counts⟩)
    (o_no_counts : PySem.W.codeIn K cd_no_counts "no_counts" = true)
    (k_no_counts : PySem.W.keepIn K (.ref a_no_counts) = true)
    (n_count_table : PySem.W.nsIn K mainGlobals "count_table" = some (some (.ref a_count_table)))
    (l_count_table : K.lookup a_count_table = some ⟨oc_count_table, od_count_table, .func (PySem.W.fnOf "count_table" "count_table" (defArgs s_count_table) (defBody s_count_table) (defScope s_count_table) .none kV_count_table dc_count_table pm_count_table an_count_table cd_count_table ct_count_table), sl_count_table⟩)
    (o_count_table : PySem.W.codeIn K cd_count_table "count_table" = true)
    (k_count_table : PySem.W.keepIn K (.ref a_count_table) = true)
    (n_greatest_divisor : PySem.W.nsIn K mainGlobals "greatest_divisor" = some (some (.ref a_greatest_divisor)))
    (l_greatest_divisor : K.lookup a_greatest_divisor = some ⟨oc_greatest_divisor, od_greatest_divisor, .func (PySem.W.fnOf "greatest_divisor" "greatest_divisor" (defArgs s_greatest_divisor) (defBody s_greatest_divisor) (defScope s_greatest_divisor) .none kV_greatest_divisor dc_greatest_divisor pm_greatest_divisor an_greatest_divisor cd_greatest_divisor ct_greatest_divisor), sl_greatest_divisor⟩)
    (o_greatest_divisor : PySem.W.codeIn K cd_greatest_divisor "greatest_divisor" = true)
    (k_greatest_divisor : PySem.W.keepIn K (.ref a_greatest_divisor) = true)
    (n_fraction : PySem.W.nsIn K mainGlobals "fraction" = some (some (.ref a_fraction)))
    (l_fraction : K.lookup a_fraction = some ⟨oc_fraction, od_fraction, .func (PySem.W.fnOf "fraction" "fraction" (defArgs s_fraction) (defBody s_fraction) (defScope s_fraction) .none kV_fraction dc_fraction pm_fraction an_fraction cd_fraction ct_fraction), sl_fraction⟩)
    (o_fraction : PySem.W.codeIn K cd_fraction "fraction" = true)
    (k_fraction : PySem.W.keepIn K (.ref a_fraction) = true)
    (n_times : PySem.W.nsIn K mainGlobals "times" = some (some (.ref a_times)))
    (l_times : K.lookup a_times = some ⟨oc_times, od_times, .func (PySem.W.fnOf "times" "times" (defArgs s_times) (defBody s_times) (defScope s_times) .none kV_times dc_times pm_times an_times cd_times ct_times), sl_times⟩)
    (o_times : PySem.W.codeIn K cd_times "times" = true)
    (k_times : PySem.W.keepIn K (.ref a_times) = true)
    (n_product : PySem.W.nsIn K mainGlobals "product" = some (some (.ref a_product)))
    (l_product : K.lookup a_product = some ⟨oc_product, od_product, .func (PySem.W.fnOf "product" "product" (defArgs s_product) (defBody s_product) (defScope s_product) .none kV_product dc_product pm_product an_product cd_product ct_product), sl_product⟩)
    (o_product : PySem.W.codeIn K cd_product "product" = true)
    (k_product : PySem.W.keepIn K (.ref a_product) = true)
    (n_worth : PySem.W.nsIn K mainGlobals "worth" = some (some (.ref a_worth)))
    (l_worth : K.lookup a_worth = some ⟨oc_worth, od_worth, .func (PySem.W.fnOf "worth" "worth" (defArgs s_worth) (defBody s_worth) (defScope s_worth) .none kV_worth dc_worth pm_worth an_worth cd_worth ct_worth), sl_worth⟩)
    (o_worth : PySem.W.codeIn K cd_worth "worth" = true)
    (k_worth : PySem.W.keepIn K (.ref a_worth) = true)
    (n_is_tree_of : PySem.W.nsIn K mainGlobals "is_tree_of" = some (some (.ref a_is_tree_of)))
    (l_is_tree_of : K.lookup a_is_tree_of = some ⟨oc_is_tree_of, od_is_tree_of, .func (PySem.W.fnOf "is_tree_of" "is_tree_of" (defArgs s_is_tree_of) (defBody s_is_tree_of) (defScope s_is_tree_of) .none kV_is_tree_of dc_is_tree_of pm_is_tree_of an_is_tree_of cd_is_tree_of ct_is_tree_of), sl_is_tree_of⟩)
    (o_is_tree_of : PySem.W.codeIn K cd_is_tree_of "is_tree_of" = true)
    (k_is_tree_of : PySem.W.keepIn K (.ref a_is_tree_of) = true)
    (n_is_tree : PySem.W.nsIn K mainGlobals "is_tree" = some (some (.ref a_is_tree)))
    (l_is_tree : K.lookup a_is_tree = some ⟨oc_is_tree, od_is_tree, .func (PySem.W.fnOf "is_tree" "is_tree" (defArgs s_is_tree) (defBody s_is_tree) (defScope s_is_tree) .none kV_is_tree dc_is_tree pm_is_tree an_is_tree cd_is_tree ct_is_tree), sl_is_tree⟩)
    (o_is_tree : PySem.W.codeIn K cd_is_tree "is_tree" = true)
    (k_is_tree : PySem.W.keepIn K (.ref a_is_tree) = true)
    (n_checked_tree : PySem.W.nsIn K mainGlobals "checked_tree" = some (some (.ref a_checked_tree)))
    (l_checked_tree : K.lookup a_checked_tree = some ⟨oc_checked_tree, od_checked_tree, .func (PySem.W.fnOf "checked_tree" "checked_tree" (defArgs s_checked_tree) (defBody s_checked_tree) (defScope s_checked_tree) .none kV_checked_tree dc_checked_tree pm_checked_tree an_checked_tree cd_checked_tree ct_checked_tree), sl_checked_tree⟩)
    (o_checked_tree : PySem.W.codeIn K cd_checked_tree "checked_tree" = true)
    (k_checked_tree : PySem.W.keepIn K (.ref a_checked_tree) = true)
    (n_leaves_behind : PySem.W.nsIn K mainGlobals "leaves_behind" = some (some (.ref a_leaves_behind)))
    (l_leaves_behind : K.lookup a_leaves_behind = some ⟨oc_leaves_behind, od_leaves_behind, .func (PySem.W.fnOf "leaves_behind" "leaves_behind" (defArgs s_leaves_behind) (defBody s_leaves_behind) (defScope s_leaves_behind) .none kV_leaves_behind dc_leaves_behind pm_leaves_behind an_leaves_behind cd_leaves_behind ct_leaves_behind), sl_leaves_behind⟩)
    (o_leaves_behind : PySem.W.codeIn K cd_leaves_behind "leaves_behind" = true)
    (k_leaves_behind : PySem.W.keepIn K (.ref a_leaves_behind) = true)
    (n_leaves : PySem.W.nsIn K mainGlobals "leaves" = some (some (.ref a_leaves)))
    (l_leaves : K.lookup a_leaves = some ⟨oc_leaves, od_leaves, .func (PySem.W.fnOf "leaves" "leaves" (defArgs s_leaves) (defBody s_leaves) (defScope s_leaves) .none kV_leaves dc_leaves pm_leaves an_leaves cd_leaves ct_leaves), sl_leaves⟩)
    (o_leaves : PySem.W.codeIn K cd_leaves "leaves" = true)
    (k_leaves : PySem.W.keepIn K (.ref a_leaves) = true)
    (n_worth_by : PySem.W.nsIn K mainGlobals "worth_by" = some (some (.ref a_worth_by)))
    (l_worth_by : K.lookup a_worth_by = some ⟨oc_worth_by, od_worth_by, .func (PySem.W.fnOf "worth_by" "worth_by" (defArgs s_worth_by) (defBody s_worth_by) (defScope s_worth_by) .none kV_worth_by dc_worth_by pm_worth_by an_worth_by cd_worth_by ct_worth_by), sl_worth_by⟩)
    (o_worth_by : PySem.W.codeIn K cd_worth_by "worth_by" = true)
    (k_worth_by : PySem.W.keepIn K (.ref a_worth_by) = true)
    (n_L_cell_at : PySem.W.nsIn K mainGlobals "_law_cell_at" = some (some (.ref a_L_cell_at)))
    (l_L_cell_at : K.lookup a_L_cell_at = some ⟨oc_L_cell_at, od_L_cell_at, .func (PySem.W.fnOf "_law_cell_at" "_law_cell_at" (defArgs s_L_cell_at) (defBody s_L_cell_at) (defScope s_L_cell_at) .none kV_L_cell_at dc_L_cell_at pm_L_cell_at an_L_cell_at cd_L_cell_at ct_L_cell_at), sl_L_cell_at⟩)
    (o_L_cell_at : PySem.W.codeIn K cd_L_cell_at "_law_cell_at" = true)
    (k_L_cell_at : PySem.W.keepIn K (.ref a_L_cell_at) = true)
    (n_L_signs : PySem.W.nsIn K mainGlobals "_law_signs" = some (some (.ref a_L_signs)))
    (l_L_signs : K.lookup a_L_signs = some ⟨oc_L_signs, od_L_signs, .func (PySem.W.fnOf "_law_signs" "_law_signs" (defArgs s_L_signs) (defBody s_L_signs) (defScope s_L_signs) .none kV_L_signs dc_L_signs pm_L_signs an_L_signs cd_L_signs ct_L_signs), sl_L_signs⟩)
    (o_L_signs : PySem.W.codeIn K cd_L_signs "_law_signs" = true)
    (k_L_signs : PySem.W.keepIn K (.ref a_L_signs) = true)
    (n_L_frame : PySem.W.nsIn K mainGlobals "_law_frame" = some (some (.ref a_L_frame)))
    (l_L_frame : K.lookup a_L_frame = some ⟨oc_L_frame, od_L_frame, .func (PySem.W.fnOf "_law_frame" "_law_frame" (defArgs s_L_frame) (defBody s_L_frame) (defScope s_L_frame) .none kV_L_frame dc_L_frame pm_L_frame an_L_frame cd_L_frame ct_L_frame), sl_L_frame⟩)
    (o_L_frame : PySem.W.codeIn K cd_L_frame "_law_frame" = true)
    (k_L_frame : PySem.W.keepIn K (.ref a_L_frame) = true)
    (n_L_cells : PySem.W.nsIn K mainGlobals "_law_cells" = some (some (.ref a_L_cells)))
    (l_L_cells : K.lookup a_L_cells = some ⟨oc_L_cells, od_L_cells, .func (PySem.W.fnOf "_law_cells" "_law_cells" (defArgs s_L_cells) (defBody s_L_cells) (defScope s_L_cells) .none kV_L_cells dc_L_cells pm_L_cells an_L_cells cd_L_cells ct_L_cells), sl_L_cells⟩)
    (o_L_cells : PySem.W.codeIn K cd_L_cells "_law_cells" = true)
    (k_L_cells : PySem.W.keepIn K (.ref a_L_cells) = true)
    (n_L_thing : PySem.W.nsIn K mainGlobals "_law_thing" = some (some (.ref a_L_thing)))
    (l_L_thing : K.lookup a_L_thing = some ⟨oc_L_thing, od_L_thing, .func (PySem.W.fnOf "_law_thing" "_law_thing" (defArgs s_L_thing) (defBody s_L_thing) (defScope s_L_thing) .none kV_L_thing dc_L_thing pm_L_thing an_L_thing cd_L_thing ct_L_thing), sl_L_thing⟩)
    (o_L_thing : PySem.W.codeIn K cd_L_thing "_law_thing" = true)
    (k_L_thing : PySem.W.keepIn K (.ref a_L_thing) = true)
    (n_L_tree : PySem.W.nsIn K mainGlobals "_law_tree" = some (some (.ref a_L_tree)))
    (l_L_tree : K.lookup a_L_tree = some ⟨oc_L_tree, od_L_tree, .func (PySem.W.fnOf "_law_tree" "_law_tree" (defArgs s_L_tree) (defBody s_L_tree) (defScope s_L_tree) .none kV_L_tree dc_L_tree pm_L_tree an_L_tree cd_L_tree ct_L_tree), sl_L_tree⟩)
    (o_L_tree : PySem.W.codeIn K cd_L_tree "_law_tree" = true)
    (k_L_tree : PySem.W.keepIn K (.ref a_L_tree) = true)
    (n_L_is : PySem.W.nsIn K mainGlobals "_law_is" = some (some (.ref a_L_is)))
    (l_L_is : K.lookup a_L_is = some ⟨oc_L_is, od_L_is, .func (PySem.W.fnOf "_law_is" "_law_is" (defArgs s_L_is) (defBody s_L_is) (defScope s_L_is) .none kV_L_is dc_L_is pm_L_is an_L_is cd_L_is ct_L_is), sl_L_is⟩)
    (o_L_is : PySem.W.codeIn K cd_L_is "_law_is" = true)
    (k_L_is : PySem.W.keepIn K (.ref a_L_is) = true)
    (n_L_text : PySem.W.nsIn K mainGlobals "_law_text" = some (some (.ref a_L_text)))
    (l_L_text : K.lookup a_L_text = some ⟨oc_L_text, od_L_text, .func (PySem.W.fnOf "_law_text" "_law_text" (defArgs s_L_text) (defBody s_L_text) (defScope s_L_text) .none kV_L_text dc_L_text pm_L_text an_L_text cd_L_text ct_L_text), sl_L_text⟩)
    (o_L_text : PySem.W.codeIn K cd_L_text "_law_text" = true)
    (k_L_text : PySem.W.keepIn K (.ref a_L_text) = true)
    (n_L_elders : PySem.W.nsIn K mainGlobals "_law_elders" = some (some (.ref a_L_elders)))
    (l_L_elders : K.lookup a_L_elders = some ⟨oc_L_elders, od_L_elders, .func (PySem.W.fnOf "_law_elders" "_law_elders" (defArgs s_L_elders) (defBody s_L_elders) (defScope s_L_elders) .none kV_L_elders dc_L_elders pm_L_elders an_L_elders cd_L_elders ct_L_elders), sl_L_elders⟩)
    (o_L_elders : PySem.W.codeIn K cd_L_elders "_law_elders" = true)
    (k_L_elders : PySem.W.keepIn K (.ref a_L_elders) = true)
    (n_L_whole : PySem.W.nsIn K mainGlobals "_law_whole" = some (some (.ref a_L_whole)))
    (l_L_whole : K.lookup a_L_whole = some ⟨oc_L_whole, od_L_whole, .func (PySem.W.fnOf "_law_whole" "_law_whole" (defArgs s_L_whole) (defBody s_L_whole) (defScope s_L_whole) .none kV_L_whole dc_L_whole pm_L_whole an_L_whole cd_L_whole ct_L_whole), sl_L_whole⟩)
    (o_L_whole : PySem.W.codeIn K cd_L_whole "_law_whole" = true)
    (k_L_whole : PySem.W.keepIn K (.ref a_L_whole) = true)
    (n_L_divisor : PySem.W.nsIn K mainGlobals "_law_divisor" = some (some (.ref a_L_divisor)))
    (l_L_divisor : K.lookup a_L_divisor = some ⟨oc_L_divisor, od_L_divisor, .func (PySem.W.fnOf "_law_divisor" "_law_divisor" (defArgs s_L_divisor) (defBody s_L_divisor) (defScope s_L_divisor) .none kV_L_divisor dc_L_divisor pm_L_divisor an_L_divisor cd_L_divisor ct_L_divisor), sl_L_divisor⟩)
    (o_L_divisor : PySem.W.codeIn K cd_L_divisor "_law_divisor" = true)
    (k_L_divisor : PySem.W.keepIn K (.ref a_L_divisor) = true)
    (n_L_fraction : PySem.W.nsIn K mainGlobals "_law_fraction" = some (some (.ref a_L_fraction)))
    (l_L_fraction : K.lookup a_L_fraction = some ⟨oc_L_fraction, od_L_fraction, .func (PySem.W.fnOf "_law_fraction" "_law_fraction" (defArgs s_L_fraction) (defBody s_L_fraction) (defScope s_L_fraction) .none kV_L_fraction dc_L_fraction pm_L_fraction an_L_fraction cd_L_fraction ct_L_fraction), sl_L_fraction⟩)
    (o_L_fraction : PySem.W.codeIn K cd_L_fraction "_law_fraction" = true)
    (k_L_fraction : PySem.W.keepIn K (.ref a_L_fraction) = true)
    (n_L_spread : PySem.W.nsIn K mainGlobals "_law_spread" = some (some (.ref a_L_spread)))
    (l_L_spread : K.lookup a_L_spread = some ⟨oc_L_spread, od_L_spread, .func (PySem.W.fnOf "_law_spread" "_law_spread" (defArgs s_L_spread) (defBody s_L_spread) (defScope s_L_spread) .none kV_L_spread dc_L_spread pm_L_spread an_L_spread cd_L_spread ct_L_spread), sl_L_spread⟩)
    (o_L_spread : PySem.W.codeIn K cd_L_spread "_law_spread" = true)
    (k_L_spread : PySem.W.keepIn K (.ref a_L_spread) = true)
    (n_L_strange : PySem.W.nsIn K mainGlobals "_law_strange" = some (some (.ref a_L_strange)))
    (l_L_strange : K.lookup a_L_strange = some ⟨oc_L_strange, od_L_strange, .func (PySem.W.fnOf "_law_strange" "_law_strange" (defArgs s_L_strange) (defBody s_L_strange) (defScope s_L_strange) .none kV_L_strange dc_L_strange pm_L_strange an_L_strange cd_L_strange ct_L_strange), sl_L_strange⟩)
    (o_L_strange : PySem.W.codeIn K cd_L_strange "_law_strange" = true)
    (k_L_strange : PySem.W.keepIn K (.ref a_L_strange) = true)
    (n_L_bad : PySem.W.nsIn K mainGlobals "_law_bad" = some (some (.ref a_L_bad)))
    (l_L_bad : K.lookup a_L_bad = some ⟨oc_L_bad, od_L_bad, .func (PySem.W.fnOf "_law_bad" "_law_bad" (defArgs s_L_bad) (defBody s_L_bad) (defScope s_L_bad) .none kV_L_bad dc_L_bad pm_L_bad an_L_bad cd_L_bad ct_L_bad), sl_L_bad⟩)
    (o_L_bad : PySem.W.codeIn K cd_L_bad "_law_bad" = true)
    (k_L_bad : PySem.W.keepIn K (.ref a_L_bad) = true)
    (n_L_leaf : PySem.W.nsIn K mainGlobals "_law_leaf" = some (some (.ref a_L_leaf)))
    (l_L_leaf : K.lookup a_L_leaf = some ⟨oc_L_leaf, od_L_leaf, .func (PySem.W.fnOf "_law_leaf" "_law_leaf" (defArgs s_L_leaf) (defBody s_L_leaf) (defScope s_L_leaf) .none kV_L_leaf dc_L_leaf pm_L_leaf an_L_leaf cd_L_leaf ct_L_leaf), sl_L_leaf⟩)
    (o_L_leaf : PySem.W.codeIn K cd_L_leaf "_law_leaf" = true)
    (k_L_leaf : PySem.W.keepIn K (.ref a_L_leaf) = true)
    (n_L_worth : PySem.W.nsIn K mainGlobals "_law_worth" = some (some (.ref a_L_worth)))
    (l_L_worth : K.lookup a_L_worth = some ⟨oc_L_worth, od_L_worth, .func (PySem.W.fnOf "_law_worth" "_law_worth" (defArgs s_L_worth) (defBody s_L_worth) (defScope s_L_worth) .none kV_L_worth dc_L_worth pm_L_worth an_L_worth cd_L_worth ct_L_worth), sl_L_worth⟩)
    (o_L_worth : PySem.W.codeIn K cd_L_worth "_law_worth" = true)
    (k_L_worth : PySem.W.keepIn K (.ref a_L_worth) = true)
    (n_L_kinds : PySem.W.nsIn K mainGlobals "_law_kinds" = some (some (.ref a_L_kinds)))
    (l_L_kinds : K.lookup a_L_kinds = some ⟨oc_L_kinds, od_L_kinds, .func (PySem.W.fnOf "_law_kinds" "_law_kinds" (defArgs s_L_kinds) (defBody s_L_kinds) (defScope s_L_kinds) .none kV_L_kinds dc_L_kinds pm_L_kinds an_L_kinds cd_L_kinds ct_L_kinds), sl_L_kinds⟩)
    (o_L_kinds : PySem.W.codeIn K cd_L_kinds "_law_kinds" = true)
    (k_L_kinds : PySem.W.keepIn K (.ref a_L_kinds) = true)
    (n_L_asked : PySem.W.nsIn K mainGlobals "_law_asked" = some (some (.ref a_L_asked)))
    (l_L_asked : K.lookup a_L_asked = some ⟨oc_L_asked, od_L_asked, .func (PySem.W.fnOf "_law_asked" "_law_asked" (defArgs s_L_asked) (defBody s_L_asked) (defScope s_L_asked) .none kV_L_asked dc_L_asked pm_L_asked an_L_asked cd_L_asked ct_L_asked), sl_L_asked⟩)
    (o_L_asked : PySem.W.codeIn K cd_L_asked "_law_asked" = true)
    (k_L_asked : PySem.W.keepIn K (.ref a_L_asked) = true)
    (n_L_told : PySem.W.nsIn K mainGlobals "_law_told" = some (some (.ref a_L_told)))
    (l_L_told : K.lookup a_L_told = some ⟨oc_L_told, od_L_told, .func (PySem.W.fnOf "_law_told" "_law_told" (defArgs s_L_told) (defBody s_L_told) (defScope s_L_told) .none kV_L_told dc_L_told pm_L_told an_L_told cd_L_told ct_L_told), sl_L_told⟩)
    (o_L_told : PySem.W.codeIn K cd_L_told "_law_told" = true)
    (k_L_told : PySem.W.keepIn K (.ref a_L_told) = true)
    (n_law : PySem.W.nsIn K mainGlobals "law" = some (some (.ref a_law)))
    (l_law : K.lookup a_law = some ⟨oc_law, od_law, .func (PySem.W.fnOf "law" "law" (defArgs s_law) (defBody s_law) (defScope s_law) .none kV_law dc_law pm_law an_law cd_law ct_law), sl_law⟩)
    (o_law : PySem.W.codeIn K cd_law "law" = true)
    (k_law : PySem.W.keepIn K (.ref a_law) = true)
    (n_ValueError : PySem.W.nsIn K mainGlobals "ValueError" = some none)
    (n_abs : PySem.W.nsIn K mainGlobals "abs" = some none)
    (n_all : PySem.W.nsIn K mainGlobals "all" = some none)
    (n_bool : PySem.W.nsIn K mainGlobals "bool" = some none)
    (n_enumerate : PySem.W.nsIn K mainGlobals "enumerate" = some none)
    (n_int : PySem.W.nsIn K mainGlobals "int" = some none)
    (n_isinstance : PySem.W.nsIn K mainGlobals "isinstance" = some none)
    (n_len : PySem.W.nsIn K mainGlobals "len" = some none)
    (n_list : PySem.W.nsIn K mainGlobals "list" = some none)
    (n_max : PySem.W.nsIn K mainGlobals "max" = some none)
    (n_range : PySem.W.nsIn K mainGlobals "range" = some none)
    (n_reversed : PySem.W.nsIn K mainGlobals "reversed" = some none)
    (n_sum : PySem.W.nsIn K mainGlobals "sum" = some none)
    (n_tuple : PySem.W.nsIn K mainGlobals "tuple" = some none)
    (n_zip : PySem.W.nsIn K mainGlobals "zip" = some none)
    (n_PressError : PySem.W.nsIn K mainGlobals "PressError" = some (some (.ref c_PressError)))
    (n_NoFraction : PySem.W.nsIn K mainGlobals "NoFraction" = some (some (.ref c_NoFraction)))
    (n_NoText : PySem.W.nsIn K mainGlobals "NoText" = some (some (.ref c_NoText)))
    (n_NoTree : PySem.W.nsIn K mainGlobals "NoTree" = some (some (.ref c_NoTree)))
    (n_ONE : PySem.W.nsIn K mainGlobals "ONE" = some (some (.ref q_ONE)))
    (lk_ONE : K.lookup q_ONE = some ⟨.type "tuple", od_ONE, .seq #[.int 1 i0_ONE, .int 1 i1_ONE] nn_ONE, sl_ONE⟩)
    (x_NoFraction : PySem.W.excIn K c_NoFraction [.type "ValueError", .type "Exception", .type "BaseException", .type "object"] "ValueError.__new__" = true)
    (zga_NoFraction : PySem.W.findIn K (.ref c_NoFraction) "__getattribute__" = some (some (.builtin "BaseException.__getattribute__")))
    (zgt_NoFraction : PySem.W.findIn K (.ref c_NoFraction) "__getattr__" = some none)
    (zcl_NoFraction : PySem.W.findIn K (.ref c_NoFraction) "__class__" = some (some (.builtin "object.__class__")))
    (zob_NoFraction : PySem.W.mroIn K c_NoFraction (.type "object") = some true)
    (zbe_NoFraction : PySem.W.mroIn K c_NoFraction (.type "BaseException") = some true)
    (x_NoText : PySem.W.excIn K c_NoText [.type "ValueError", .type "Exception", .type "BaseException", .type "object"] "ValueError.__new__" = true)
    (zga_NoText : PySem.W.findIn K (.ref c_NoText) "__getattribute__" = some (some (.builtin "BaseException.__getattribute__")))
    (zgt_NoText : PySem.W.findIn K (.ref c_NoText) "__getattr__" = some none)
    (zcl_NoText : PySem.W.findIn K (.ref c_NoText) "__class__" = some (some (.builtin "object.__class__")))
    (zob_NoText : PySem.W.mroIn K c_NoText (.type "object") = some true)
    (zbe_NoText : PySem.W.mroIn K c_NoText (.type "BaseException") = some true)
    (x_NoTree : PySem.W.excIn K c_NoTree [.type "ValueError", .type "Exception", .type "BaseException", .type "object"] "ValueError.__new__" = true)
    (zga_NoTree : PySem.W.findIn K (.ref c_NoTree) "__getattribute__" = some (some (.builtin "BaseException.__getattribute__")))
    (zgt_NoTree : PySem.W.findIn K (.ref c_NoTree) "__getattr__" = some none)
    (zcl_NoTree : PySem.W.findIn K (.ref c_NoTree) "__class__" = some (some (.builtin "object.__class__")))
    (zob_NoTree : PySem.W.mroIn K c_NoTree (.type "object") = some true)
    (zbe_NoTree : PySem.W.mroIn K c_NoTree (.type "BaseException") = some true)
    (x_PressError : PySem.W.excIn K c_PressError [.type "ValueError", .type "Exception", .type "BaseException", .type "object"] "ValueError.__new__" = true)
    (zga_PressError : PySem.W.findIn K (.ref c_PressError) "__getattribute__" = some (some (.builtin "BaseException.__getattribute__")))
    (zgt_PressError : PySem.W.findIn K (.ref c_PressError) "__getattr__" = some none)
    (zcl_PressError : PySem.W.findIn K (.ref c_PressError) "__class__" = some (some (.builtin "object.__class__")))
    (zob_PressError : PySem.W.mroIn K c_PressError (.type "object") = some true)
    (zbe_PressError : PySem.W.mroIn K c_PressError (.type "BaseException") = some true)
    (i_NoFraction_ValueError : PySem.W.kitOne K (.ref c_NoFraction) (.type "ValueError") = some true)
    (i_NoText_ValueError : PySem.W.kitOne K (.ref c_NoText) (.type "ValueError") = some true)
    (i_NoTree_ValueError : PySem.W.kitOne K (.ref c_NoTree) (.type "ValueError") = some true)
    (i_NoFraction_NoTree : PySem.W.kitOne K (.ref c_NoFraction) (.ref c_NoTree) = some false)
    (i_NoText_NoTree : PySem.W.kitOne K (.ref c_NoText) (.ref c_NoTree) = some false)
    (i_NoTree_NoTree : PySem.W.kitOne K (.ref c_NoTree) (.ref c_NoTree) = some true)
    (i_NoFraction_NoText : PySem.W.kitOne K (.ref c_NoFraction) (.ref c_NoText) = some false)
    (i_NoText_NoText : PySem.W.kitOne K (.ref c_NoText) (.ref c_NoText) = some true)
    (i_NoTree_NoText : PySem.W.kitOne K (.ref c_NoTree) (.ref c_NoText) = some false)
    (u_NoFraction_PressError : PySem.W.mroIn K c_NoFraction (.ref c_PressError) = some true)
    (u_NoText_PressError : PySem.W.mroIn K c_NoText (.ref c_PressError) = some true)
    (u_NoTree_PressError : PySem.W.mroIn K c_NoTree (.ref c_PressError) = some true)
    : ∃ t, Txt K mg t := by
  have F_is_whole := fun_mk (x := "is_whole") (qual := "is_whole") (st := s_is_whole) l_is_whole o_is_whole k_is_whole
  have F_checked := fun_mk (x := "checked") (qual := "checked") (st := s_checked) l_checked o_checked k_checked
  have F_elders_at := fun_mk (x := "elders_at") (qual := "elders_at") (st := s_elders_at) l_elders_at o_elders_at k_elders_at
  have F_path_knots := fun_mk (x := "path_knots") (qual := "path_knots") (st := s_path_knots) l_path_knots o_path_knots k_path_knots
  have F_no_counts := fun_mk (x := "no_counts") (qual := "no_counts") (st := s_no_counts) l_no_counts o_no_counts k_no_counts
  have F_count_table := fun_mk (x := "count_table") (qual := "count_table") (st := s_count_table) l_count_table o_count_table k_count_table
  have F_greatest_divisor := fun_mk (x := "greatest_divisor") (qual := "greatest_divisor") (st := s_greatest_divisor) l_greatest_divisor o_greatest_divisor k_greatest_divisor
  have F_fraction := fun_mk (x := "fraction") (qual := "fraction") (st := s_fraction) l_fraction o_fraction k_fraction
  have F_times := fun_mk (x := "times") (qual := "times") (st := s_times) l_times o_times k_times
  have F_product := fun_mk (x := "product") (qual := "product") (st := s_product) l_product o_product k_product
  have F_worth := fun_mk (x := "worth") (qual := "worth") (st := s_worth) l_worth o_worth k_worth
  have F_is_tree_of := fun_mk (x := "is_tree_of") (qual := "is_tree_of") (st := s_is_tree_of) l_is_tree_of o_is_tree_of k_is_tree_of
  have F_is_tree := fun_mk (x := "is_tree") (qual := "is_tree") (st := s_is_tree) l_is_tree o_is_tree k_is_tree
  have F_checked_tree := fun_mk (x := "checked_tree") (qual := "checked_tree") (st := s_checked_tree) l_checked_tree o_checked_tree k_checked_tree
  have F_leaves_behind := fun_mk (x := "leaves_behind") (qual := "leaves_behind") (st := s_leaves_behind) l_leaves_behind o_leaves_behind k_leaves_behind
  have F_leaves := fun_mk (x := "leaves") (qual := "leaves") (st := s_leaves) l_leaves o_leaves k_leaves
  have F_worth_by := fun_mk (x := "worth_by") (qual := "worth_by") (st := s_worth_by) l_worth_by o_worth_by k_worth_by
  have F_L_cell_at := fun_mk (x := "_law_cell_at") (qual := "_law_cell_at") (st := s_L_cell_at) l_L_cell_at o_L_cell_at k_L_cell_at
  have F_L_signs := fun_mk (x := "_law_signs") (qual := "_law_signs") (st := s_L_signs) l_L_signs o_L_signs k_L_signs
  have F_L_frame := fun_mk (x := "_law_frame") (qual := "_law_frame") (st := s_L_frame) l_L_frame o_L_frame k_L_frame
  have F_L_cells := fun_mk (x := "_law_cells") (qual := "_law_cells") (st := s_L_cells) l_L_cells o_L_cells k_L_cells
  have F_L_thing := fun_mk (x := "_law_thing") (qual := "_law_thing") (st := s_L_thing) l_L_thing o_L_thing k_L_thing
  have F_L_tree := fun_mk (x := "_law_tree") (qual := "_law_tree") (st := s_L_tree) l_L_tree o_L_tree k_L_tree
  have F_L_is := fun_mk (x := "_law_is") (qual := "_law_is") (st := s_L_is) l_L_is o_L_is k_L_is
  have F_L_text := fun_mk (x := "_law_text") (qual := "_law_text") (st := s_L_text) l_L_text o_L_text k_L_text
  have F_L_elders := fun_mk (x := "_law_elders") (qual := "_law_elders") (st := s_L_elders) l_L_elders o_L_elders k_L_elders
  have F_L_whole := fun_mk (x := "_law_whole") (qual := "_law_whole") (st := s_L_whole) l_L_whole o_L_whole k_L_whole
  have F_L_divisor := fun_mk (x := "_law_divisor") (qual := "_law_divisor") (st := s_L_divisor) l_L_divisor o_L_divisor k_L_divisor
  have F_L_fraction := fun_mk (x := "_law_fraction") (qual := "_law_fraction") (st := s_L_fraction) l_L_fraction o_L_fraction k_L_fraction
  have F_L_spread := fun_mk (x := "_law_spread") (qual := "_law_spread") (st := s_L_spread) l_L_spread o_L_spread k_L_spread
  have F_L_strange := fun_mk (x := "_law_strange") (qual := "_law_strange") (st := s_L_strange) l_L_strange o_L_strange k_L_strange
  have F_L_bad := fun_mk (x := "_law_bad") (qual := "_law_bad") (st := s_L_bad) l_L_bad o_L_bad k_L_bad
  have F_L_leaf := fun_mk (x := "_law_leaf") (qual := "_law_leaf") (st := s_L_leaf) l_L_leaf o_L_leaf k_L_leaf
  have F_L_worth := fun_mk (x := "_law_worth") (qual := "_law_worth") (st := s_L_worth) l_L_worth o_L_worth k_L_worth
  have F_L_kinds := fun_mk (x := "_law_kinds") (qual := "_law_kinds") (st := s_L_kinds) l_L_kinds o_L_kinds k_L_kinds
  have F_L_asked := fun_mk (x := "_law_asked") (qual := "_law_asked") (st := s_L_asked) l_L_asked o_L_asked k_L_asked
  have F_L_told := fun_mk (x := "_law_told") (qual := "_law_told") (st := s_L_told) l_L_told o_L_told k_L_told
  have F_law := fun_mk (x := "law") (qual := "law") (st := s_law) l_law o_law k_law
  exact ⟨⟨_, _, _, _, _, _, _, _, _, _, _, _, _, _, _, _, _, _, _, _, _, _, _, _, _, _, _, _, _, _, _, _, _, _, _, _, _, _, _, _, _, _, _, _, _, _, _, _, _, _, _, _, _, _, _, _, _, _, _, _, _, _, _, _, _, _, _, _, _, _, _, _, _, _, _, _, _, _, _, _, _⟩, ⟨
    F_is_whole, (F_is_whole.binds fun _ _ _ _ _ _ us hl => match us, hl with | [_], _ => rfl), PySem.W.mg_of X G n_is_whole,
    F_checked, (F_checked.binds fun _ _ _ _ _ _ us hl => match us, hl with | [_, _], _ => rfl), PySem.W.mg_of X G n_checked,
    F_elders_at, (F_elders_at.binds fun _ _ _ _ _ _ us hl => match us, hl with | [_, _, _], _ => rfl), PySem.W.mg_of X G n_elders_at,
    F_path_knots, (F_path_knots.binds fun _ _ _ _ _ _ us hl => match us, hl with | [_, _, _], _ => rfl), PySem.W.mg_of X G n_path_knots,
    F_no_counts, (F_no_counts.binds fun _ _ _ _ _ _ us hl => match us, hl with | [_], _ => rfl), PySem.W.mg_of X G n_no_counts,
    F_count_table, (F_count_table.binds fun _ _ _ _ _ _ us hl => match us, hl with | [_, _], _ => rfl), PySem.W.mg_of X G n_count_table,
    F_greatest_divisor, (F_greatest_divisor.binds fun _ _ _ _ _ _ us hl => match us, hl with | [_, _], _ => rfl), PySem.W.mg_of X G n_greatest_divisor,
    F_fraction, (F_fraction.binds fun _ _ _ _ _ _ us hl => match us, hl with | [_, _], _ => rfl), PySem.W.mg_of X G n_fraction,
    F_times, (F_times.binds fun _ _ _ _ _ _ us hl => match us, hl with | [_, _], _ => rfl), PySem.W.mg_of X G n_times,
    F_product, (F_product.binds fun _ _ _ _ _ _ us hl => match us, hl with | [_], _ => rfl), PySem.W.mg_of X G n_product,
    F_worth, (F_worth.binds fun _ _ _ _ _ _ us hl => match us, hl with | [_], _ => rfl), PySem.W.mg_of X G n_worth,
    F_is_tree_of, (F_is_tree_of.binds fun _ _ _ _ _ _ us hl => match us, hl with | [_, _, _], _ => rfl), PySem.W.mg_of X G n_is_tree_of,
    F_is_tree, (F_is_tree.binds fun _ _ _ _ _ _ us hl => match us, hl with | [_, _], _ => rfl), PySem.W.mg_of X G n_is_tree,
    F_checked_tree, (F_checked_tree.binds fun _ _ _ _ _ _ us hl => match us, hl with | [_, _], _ => rfl), PySem.W.mg_of X G n_checked_tree,
    F_leaves_behind, (F_leaves_behind.binds fun _ _ _ _ _ _ us hl => match us, hl with | [_, _, _], _ => rfl), PySem.W.mg_of X G n_leaves_behind,
    F_leaves, (F_leaves.binds fun _ _ _ _ _ _ us hl => match us, hl with | [_, _], _ => rfl), PySem.W.mg_of X G n_leaves,
    F_worth_by, (F_worth_by.binds fun _ _ _ _ _ _ us hl => match us, hl with | [_, _, _], _ => rfl), PySem.W.mg_of X G n_worth_by,
    F_L_cell_at, (F_L_cell_at.binds fun _ _ _ _ _ _ us hl => match us, hl with | [_, _], _ => rfl), PySem.W.mg_of X G n_L_cell_at,
    F_L_signs, (F_L_signs.binds fun _ _ _ _ _ _ us hl => match us, hl with | [_, _], _ => rfl), PySem.W.mg_of X G n_L_signs,
    F_L_frame, (F_L_frame.binds fun _ _ _ _ _ _ us hl => match us, hl with | [_], _ => rfl), PySem.W.mg_of X G n_L_frame,
    F_L_cells, (F_L_cells.binds fun _ _ _ _ _ _ us hl => match us, hl with | [_, _], _ => rfl), PySem.W.mg_of X G n_L_cells,
    F_L_thing, (F_L_thing.binds fun _ _ _ _ _ _ us hl => match us, hl with | [_, _, _], _ => rfl), PySem.W.mg_of X G n_L_thing,
    F_L_tree, (F_L_tree.binds fun _ _ _ _ _ _ us hl => match us, hl with | [_, _, _, _, _], _ => rfl), PySem.W.mg_of X G n_L_tree,
    F_L_is, (F_L_is.binds fun _ _ _ _ _ _ us hl => match us, hl with | [_, _, _], _ => rfl), PySem.W.mg_of X G n_L_is,
    F_L_text, (F_L_text.binds fun _ _ _ _ _ _ us hl => match us, hl with | [_, _, _], _ => rfl), PySem.W.mg_of X G n_L_text,
    F_L_elders, (F_L_elders.binds fun _ _ _ _ _ _ us hl => match us, hl with | [_, _, _], _ => rfl), PySem.W.mg_of X G n_L_elders,
    F_L_whole, (F_L_whole.binds fun _ _ _ _ _ _ us hl => match us, hl with | [_], _ => rfl), PySem.W.mg_of X G n_L_whole,
    F_L_divisor, (F_L_divisor.binds fun _ _ _ _ _ _ us hl => match us, hl with | [_, _], _ => rfl), PySem.W.mg_of X G n_L_divisor,
    F_L_fraction, (F_L_fraction.binds fun _ _ _ _ _ _ us hl => match us, hl with | [_, _, _], _ => rfl), PySem.W.mg_of X G n_L_fraction,
    F_L_spread, (F_L_spread.binds fun _ _ _ _ _ _ us hl => match us, hl with | [_, _], _ => rfl), PySem.W.mg_of X G n_L_spread,
    F_L_strange, (F_L_strange.binds fun _ _ _ _ _ _ us hl => match us, hl with | [_, _], _ => rfl), PySem.W.mg_of X G n_L_strange,
    F_L_bad, (F_L_bad.binds fun _ _ _ _ _ _ us hl => match us, hl with | [_, _, _], _ => rfl), PySem.W.mg_of X G n_L_bad,
    F_L_leaf, (F_L_leaf.binds fun _ _ _ _ _ _ us hl => match us, hl with | [_, _, _], _ => rfl), PySem.W.mg_of X G n_L_leaf,
    F_L_worth, (F_L_worth.binds fun _ _ _ _ _ _ us hl => match us, hl with | [_, _, _], _ => rfl), PySem.W.mg_of X G n_L_worth,
    F_L_kinds, (F_L_kinds.binds fun _ _ _ _ _ _ us hl => match us, hl with | [_, _, _], _ => rfl), PySem.W.mg_of X G n_L_kinds,
    F_L_asked, (F_L_asked.binds fun _ _ _ _ _ _ us hl => match us, hl with | [_, _, _, _], _ => rfl), PySem.W.mg_of X G n_L_asked,
    F_L_told, (F_L_told.binds fun _ _ _ _ _ _ us hl => match us, hl with | [_, _], _ => rfl), PySem.W.mg_of X G n_L_told,
    F_law, (F_law.binds fun _ _ _ _ _ _ us hl => match us, hl with | [_], _ => rfl), PySem.W.mg_of X G n_law,
    PySem.W.mg_none_of X G n_ValueError,
    PySem.W.mg_none_of X G n_abs,
    PySem.W.mg_none_of X G n_all,
    PySem.W.mg_none_of X G n_bool,
    PySem.W.mg_none_of X G n_enumerate,
    PySem.W.mg_none_of X G n_int,
    PySem.W.mg_none_of X G n_isinstance,
    PySem.W.mg_none_of X G n_len,
    PySem.W.mg_none_of X G n_list,
    PySem.W.mg_none_of X G n_max,
    PySem.W.mg_none_of X G n_range,
    PySem.W.mg_none_of X G n_reversed,
    PySem.W.mg_none_of X G n_sum,
    PySem.W.mg_none_of X G n_tuple,
    PySem.W.mg_none_of X G n_zip,
    PySem.W.mg_of X G n_PressError,
    PySem.W.mg_of X G n_NoFraction,
    PySem.W.mg_of X G n_NoText,
    PySem.W.mg_of X G n_NoTree,
    PySem.W.mg_of X G n_ONE, ⟨_, _, _, lk_ONE, rfl, rfl, (by show 2 ≤ sizeLine; decide), (.cons ⟨_, rfl⟩ (.cons ⟨_, rfl⟩ .nil))⟩,
    x_NoFraction, ⟨zga_NoFraction, zgt_NoFraction, zcl_NoFraction, zob_NoFraction, zbe_NoFraction, cls_of_mro zob_NoFraction⟩,
    x_NoText, ⟨zga_NoText, zgt_NoText, zcl_NoText, zob_NoText, zbe_NoText, cls_of_mro zob_NoText⟩,
    x_NoTree, ⟨zga_NoTree, zgt_NoTree, zcl_NoTree, zob_NoTree, zbe_NoTree, cls_of_mro zob_NoTree⟩,
    x_PressError, ⟨zga_PressError, zgt_PressError, zcl_PressError, zob_PressError, zbe_PressError, cls_of_mro zob_PressError⟩,
    i_NoFraction_ValueError,
    i_NoText_ValueError,
    i_NoTree_ValueError,
    i_NoFraction_NoTree,
    i_NoText_NoTree,
    i_NoTree_NoTree,
    i_NoFraction_NoText,
    i_NoText_NoText,
    i_NoTree_NoText,
    u_NoFraction_PressError,
    u_NoText_PressError,
    u_NoTree_PressError,
    fun s v => .of_eq rfl⟩⟩
section
variable {P : Program} {w : World} {K : PySem.W.Frag} {mg : Str → Option Value} {base : Heap} {t : Adr}
seal L2.PE L2.PA L2.PS L2.PSs L2.PT L2.PW L2.PG L2.PGs L2.PI L2.PIfs L2.PF L2.PFs L2.PO
local macro_rules | `(tactic| array_mem_dec) => `(tactic| ((first | show SqL ‹PySem.W.Frag› _ _ _ | show SqT ‹PySem.W.Frag› _ _ _ | skip); first | with_reducible assumption | with_reducible exact upd_same | with_reducible exact SqT.of upd_same | with_reducible exact SqL.of upd_same | with_reducible exact Same.refl _ | (with_reducible apply new_at; (focus with_reducible assumption); (focus array_mem_dec)) | (with_reducible apply new_tup; (focus with_reducible assumption); (focus array_mem_dec)) | (with_reducible apply new_lst; (focus with_reducible assumption); (focus array_mem_dec)) | (with_reducible apply new_same; (focus with_reducible assumption); (focus array_mem_dec)) | (with_reducible apply ne_at; (focus with_reducible assumption); (focus array_mem_dec)) | (with_reducible apply ne_tup; (focus with_reducible assumption); (focus array_mem_dec)) | (with_reducible apply ne_lst; (focus with_reducible assumption); (focus array_mem_dec)) | (with_reducible apply over_same; (focus with_reducible assumption); (focus array_mem_dec)) | (with_reducible apply same_at; (focus with_reducible assumption); (focus array_mem_dec)) | (with_reducible apply same_tup; (focus with_reducible assumption); (focus array_mem_dec)) | (with_reducible apply same_lst; (focus with_reducible assumption); (focus array_mem_dec)) | (with_reducible apply SqT.of; (focus array_mem_dec)) | (with_reducible apply SqL.of; (focus array_mem_dec))))
local macro_rules | `(tactic| array_get_dec) => `(tactic| first
  | refine ⟨_, rfl, ?_⟩
  | refine ⟨_, _, rfl, rfl, cdivK (by decide) (by decide), ?_⟩
  | refine ⟨_, _, rfl, rfl, (by show (0 : Int) < _; decide), ?_⟩
  | refine ⟨_, _, rfl, rfl, ⟨by decide, by decide, by decide⟩, ?_⟩
  | refine Or.inl ⟨_, _, rfl, rfl, mulL (by decide) (by decide), ?_⟩
  | refine Or.inl ⟨_, _, rfl, rfl, mulR (by decide) (by decide), ?_⟩
  | refine ⟨_, _, rfl, rfl, ?_⟩
  | refine Or.inl ⟨_, _, rfl, rfl, ?_⟩
  | refine Or.inl ⟨rfl, ?_⟩
  | refine Or.inr (Or.inl ⟨_, _, _, _, rfl, rfl, (by array_mem_dec), (by rfl), ?_⟩)
  | refine Or.inl ⟨_, _, _, _, rfl, rfl, (by array_mem_dec), (by rfl), ?_⟩
  | refine ⟨_, _, rfl, Or.inr ⟨_, (by array_mem_dec), rfl⟩, ?_⟩
  | refine ⟨_, _, rfl, Or.inl ⟨_, (by array_mem_dec), rfl⟩, ?_⟩
  | refine ⟨_, _, rfl, lenvS (by first | assumption | (rw [sizeLine_eq]; omega)), ?_⟩
  | refine Or.inr (Or.inl ⟨_, _, rfl, rfl, (by simp only [List.length_append, List.length_cons, List.length_nil, List.length_take, List.length_drop, sizeLine_eq]; omega), ?_⟩)
  | refine Or.inr ⟨_, _, rfl, rfl, (by simp only [List.length_append, List.length_cons, List.length_nil, List.length_take, List.length_drop, sizeLine_eq]; omega), ?_⟩
  | refine ⟨_, _, rfl, ?_⟩
  | refine ⟨_, _, _, rfl, ?_⟩)
/-! ### is_whole -/
def spWhole (K : PySem.W.Frag) : Sp := fun vs H Q _ => ∃ x ty b1 b2, vs = [x] ∧ TyOf K H x ty ∧ PySem.W.kitOne K ty (.type "int") = some b1 ∧ PySem.W.kitOne K ty (.type "bool") = some b2 ∧ Q (.bl (b1 && !b2)) H
theorem ok_is_whole (T : Txt K mg t) : FnOk P w K mg base (CX1 P w) 1 t.a_is_whole t.fd_is_whole ["thing"] (spWhole K) := by
  refine T.F_is_whole.okn (k := 0) sc_is_whole (fun vs H Q E h => ?_) (fun cdv A outer s H vs Q E hr h => ?_)
  · obtain ⟨x, ty, b1, b2, rfl, _⟩ := h; rfl
  obtain ⟨x, ty, b1, b2, rfl, hty, e1, e2, q⟩ := h
  refine ⟨_, (pss_one (ps_ret (pe_and (pe_callB isiAny rfl T.m_isinstance bt_isinstance (PAs.h (pas_cons (pv 0) (pas_cons (pe_bltn (v := .ty "int") rfl T.m_int bt_int rfl) pas_nil)))) (pe_one (pe_not (pe_callB isiAny rfl T.m_isinstance bt_isinstance (PAs.h (pas_cons (pv 0) (pas_cons (pe_bltn (v := .ty "bool") rfl T.m_bool bt_bool rfl) pas_nil))))))))), ?_⟩
  refine ⟨_, rfl, .inl ⟨x, ty, _, b1, rfl, hty, e1, b1, rfl, ?_⟩⟩
  cases b1 with
  | false => exact iteF q
  | true => exact iteT ⟨_, rfl, .inl ⟨x, ty, _, b2, rfl, hty, e2, b2, rfl, q⟩⟩
/-! ### the greatest divisor -/
def spGcd : Sp := fun vs H Q _ => ∃ a b : Int, vs = [.int a, .int b] ∧ 0 ≤ a ∧ 0 ≤ b ∧ Q (.int (gcdI a b)) H
theorem neI {b : Int} (h : b ≠ 0) : (!decide (V.int b = V.int 0)) = true := by
  have : ¬ V.int b = V.int 0 := fun z => h (V.int.inj z)
  rw [decide_eq_false this]; rfl
theorem ok_greatest_divisor (T : Txt K mg t) : FnOk P w K mg base (CX1 P w) 1 t.a_greatest_divisor t.fd_greatest_divisor ["one", "other"] spGcd := by
  refine T.F_greatest_divisor.okn (k := 0) sc_greatest_divisor (fun vs H Q E h => ?_) (fun cdv A outer s H vs Q E hr h => ?_)
  · obtain ⟨a, b, rfl, _⟩ := h; rfl
  obtain ⟨a, b, rfl, ha, hb, q⟩ := h
  refine ⟨_, (pss_cons (ps_while PassesOwn.never (pt_cmpR (oNeN (hr.units0)) (pv 1) pe_int (nomark _)) (pss_cons (ps_set (i := 2) sc_greatest_divisor.nd rfl (Or.inl rfl) (pe_op op_mod (pv 0) (pv 1)))
    (pss_cons (ps_set (i := 0) sc_greatest_divisor.nd rfl (Or.inl rfl) (pv 1))
    (pss_one (ps_set (i := 1) sc_greatest_divisor.nd rfl (Or.inl rfl) (pv 2))))))
    (pss_one (ps_ret (pv 0)))), ?_⟩
  refine while_by (fun σ H' => ∃ a' b' r, σ = [some (.int a'), some (.int b'), r] ∧ 0 ≤ a' ∧ 0 ≤ b' ∧ gcdI a' b' = gcdI a b ∧ H' = H) (fun σ _ => match σ with | [_, some (.int b'), _] => b'.natAbs | _ => 0) ⟨a, b, none, rfl, ha, hb, rfl, rfl⟩ ?_ ?_
  · rintro _ _ ⟨a', b', r, rfl, h1, h2, h3, rfl⟩
    refine ⟨_, rfl, .inl ⟨rfl, _, rfl, ?_⟩⟩
    by_cases z : b' = 0
    · subst z
      refine iteF ⟨_, rfl, ?_⟩
      rw [gcdI_zero a' h1] at h3
      rw [h3]; exact q
    · rw [neI z]
      refine iteT ⟨_, rfl, _, rfl, _, _, rfl, rfl, by omega, ?_⟩
      refine ⟨_, rfl, _, rfl, ⟨b', a' % b', _, rfl, h2, Int.emod_nonneg _ z, ?_, rfl⟩, ?_⟩
      · rw [gcdI_step h1 (by omega)]; exact h3
      · show (a' % b').natAbs < b'.natAbs
        have := Int.emod_nonneg a' z
        have := Int.emod_lt_of_pos a' (show 0 < b' by omega)
        omega
  · rintro σ1 H1 Q1 Q2 hq ⟨v, e, z⟩
    refine ⟨v, e, ?_⟩
    rcases z with ⟨s, k, e2, z⟩ | ⟨a1, b1, xs, ys, h1, h2, h3, h4, h5, h6, k, hk, z⟩ | ⟨a1, b1, xs, ys, h1, h2, h3, h4, h5, h6, k, hk, z⟩
    · exact .inl ⟨s, k, e2, hq _ _ z⟩
    · exact .inr (.inl ⟨a1, b1, xs, ys, h1, h2, h3, h4, h5, h6, k, hk, hq _ _ z⟩)
    · exact .inr (.inr ⟨a1, b1, xs, ys, h1, h2, h3, h4, h5, h6, k, hk, hq _ _ z⟩)
/-! ### fraction -/
def spFr (C : Addr) : Sp := fun vs H Q E => ∃ a b : Int, vs = [.int a, .int b] ∧ (b = 0 → E (.ref C) none H) ∧ (b ≠ 0 → b.natAbs < 2 ^ 8999 ∧ ∀ p, H p = none → Q (.ref p) (upd H p (.tup [.int (num a b), .int (den a b)])))
theorem ok_fraction (T : Txt K mg t) : FnOk P w K mg base (CX1 P w) 2 t.a_fraction t.fd_fraction ["top", "bottom"] (spFr t.c_NoFraction) := by
  refine T.F_fraction.okx (k := 1) sc_fraction (fun vs H Q E h => ?_) (fun cdv A outer s H vs Q E hr h => ?_)
  · obtain ⟨a, b, rfl, _⟩ := h; rfl
  obtain ⟨a, b, rfl, h0, h1⟩ := h
  have G_is_whole := ok_is_whole (P := P) (w := w) (base := base) T
  have G_greatest_divisor := ok_greatest_divisor (P := P) (w := w) (base := base) T
  refine ⟨_, (pss_cons (ps_if (PW.pt (pw_or (pt_not (pt_val (pe_call G_is_whole hr rfl T.m_is_whole T.F_is_whole.kp T.b_is_whole .nil pass1 (pa_cons (pv 0) pa_nil)))) (pw_or1 (pt_not (pt_val (pe_call G_is_whole hr rfl T.m_is_whole T.F_is_whole.kp T.b_is_whole .nil pass1 (pa_cons (pv 1) pa_nil))))))) (pss_one (ps_raise raises1 rfl rfl T.m_NoFraction T.x_NoFraction PySem.F.excBase_ValueError (pa_cons pe_str pa_nil))) pss_nil)
    (pss_cons (ps_if (pt_cmpR (oEqA (hr.units0)) (pv 1) pe_int (nomark _)) (pss_one (ps_raise raises1 rfl rfl T.m_NoFraction T.x_NoFraction PySem.F.excBase_ValueError (pa_cons pe_str pa_nil))) pss_nil)
    (pss_cons (ps_set (i := 2) sc_fraction.nd rfl (Or.inl rfl) (pe_call G_greatest_divisor hr rfl T.m_greatest_divisor T.F_greatest_divisor.kp T.b_greatest_divisor .nil pass1 (PAs.h (pas_cons (pe_callB call_abs rfl T.m_abs bt_abs (pa_cons (pv 0) pa_nil)) (pas_cons (pe_callB call_abs rfl T.m_abs bt_abs (pa_cons (pv 1) pa_nil)) pas_nil)))))
    (pss_cons (ps_if (pt_cmpR oLt (pv 1) pe_int (nomark _)) (pss_one (ps_set (i := 2) sc_fraction.nd rfl (Or.inl rfl) (pe_un un_neg (pv 2)))) pss_nil)
    (pss_one (ps_ret (pe_tup (PAs.h (pas_cons (pe_op op_fdivL (pv 0) (pv 2)) (pas_cons (pe_op op_fdivL (pv 1) (pv 2)) pas_nil)))))))))), ?_⟩
  refine ⟨_, rfl, ⟨_, _, true, false, rfl, .int _, kit_same K _, kit_int_bool K, true, rfl, iteF ⟨_, rfl, ⟨_, _, true, false, rfl, .int _, kit_same K _, kit_int_bool K, true, rfl, iteF ?_⟩⟩⟩⟩
  refine ⟨_, rfl, .inl ⟨rfl, _, rfl, ?_⟩⟩
  by_cases z : b = 0
  · subst z
    exact iteT ⟨by decide, h0 rfl⟩
  obtain ⟨hb, q⟩ := h1 z
  have gp := gcdI_pos (a := a) z
  have gl := gcdI_le (a := a) z
  rw [decide_eq_false (show ¬ V.int b = V.int 0 from fun e => z (V.int.inj e))]
  refine iteF ⟨_, rfl, _, rfl, _, rfl, _, rfl, _, _, rfl, by split <;> omega, by split <;> omega, ?_⟩
  rw [gcdI_abs]
  refine ⟨_, rfl, .inl ⟨_, _, rfl, rfl, _, rfl, ?_⟩⟩
  have last : ∀ d : Int, d = sgn b * gcdI a b → (tRet (tTup (tCons (tOp (rI CDivL fun i j => V.int (i.fdiv j)) (tVar 0) (tVar 2)) (tCons (tOp (rI CDivL fun i j => V.int (i.fdiv j)) (tVar 1) (tVar 2)) tNil)))) { nx := fun _ H' => Q .non H', rt := Q } [some (.int a), some (.int b), some (.int d)] H := by
    intro d hd
    have dn : d ≠ 0 ∧ d.natAbs < 2 ^ 8999 := by
      have : d.natAbs = (gcdI a b).natAbs := by
        rw [hd]; unfold sgn; split <;> omega
      refine ⟨by omega, ?_⟩
      rw [this]; exact Nat.lt_of_le_of_lt gl hb
    refine ⟨_, rfl, _, rfl, _, _, rfl, rfl, dn, _, rfl, _, rfl, _, _, rfl, rfl, dn, (by show 2 ≤ sizeLine; decide), fun p hp => ?_⟩
    rw [hd]; exact q p hp
  by_cases y : b < 0
  · rw [decide_eq_true y]
    refine iteT ⟨_, rfl, _, rfl, ?_⟩
    exact last _ (by unfold sgn; rw [if_pos y]; omega)
  · rw [decide_eq_false y]
    refine iteF ?_
    exact last _ (by unfold sgn; rw [if_neg y]; omega)


/-! ### what the law asks of a fraction -/
theorem ok_L_whole (T : Txt K mg t) : FnOk P w K mg base (CX1 P w) 1 t.a_L_whole t.fd_L_whole ["found"] (spWhole K) := by
  refine T.F_L_whole.okn (k := 0) sc_L_whole (fun vs H Q E h => ?_) (fun cdv A outer s H vs Q E hr h => ?_)
  · obtain ⟨x, ty, b1, b2, rfl, _⟩ := h; rfl
  obtain ⟨x, ty, b1, b2, rfl, hty, e1, e2, q⟩ := h
  refine ⟨_, (pss_one (ps_ret (pe_and (pe_callB isiAny rfl T.m_isinstance bt_isinstance (PAs.h (pas_cons (pv 0) (pas_cons (pe_bltn (v := .ty "int") rfl T.m_int bt_int rfl) pas_nil)))) (pe_one (pe_not (pe_callB isiAny rfl T.m_isinstance bt_isinstance (PAs.h (pas_cons (pv 0) (pas_cons (pe_bltn (v := .ty "bool") rfl T.m_bool bt_bool rfl) pas_nil))))))))), ?_⟩
  refine ⟨_, rfl, .inl ⟨x, ty, _, b1, rfl, hty, e1, b1, rfl, ?_⟩⟩
  cases b1 with
  | false => exact iteF q
  | true => exact iteT ⟨_, rfl, .inl ⟨x, ty, _, b2, rfl, hty, e2, b2, rfl, q⟩⟩
theorem gcdI_emod {a b : Int} (hb : 0 < b) : gcdI b (a % b) = gcdI a b := by
  unfold gcdI
  congr 1
  show Int.gcd b (a % b) = Int.gcd a b
  rw [Int.gcd_comm b]
  have := Int.gcd_add_mul_right_left b (a % b) (a / b)
  rw [← this, Int.add_comm, Int.mul_comm, Int.mul_ediv_add_emod]
def spDiv : Sp := fun vs H Q _ => ∃ a b : Int, vs = [.int a, .int b] ∧ 0 < b ∧ Q (.int (gcdI a b)) H
theorem ok_L_divisor (T : Txt K mg t) : FnOk P w K mg base (CX1 P w) 1 t.a_L_divisor t.fd_L_divisor ["one", "other"] spDiv := by
  refine T.F_L_divisor.okn (k := 0) sc_L_divisor (fun vs H Q E h => ?_) (fun cdv A outer s H vs Q E hr h => ?_)
  · obtain ⟨a, b, rfl, _⟩ := h; rfl
  obtain ⟨a, b, rfl, hb, q⟩ := h
  refine ⟨_, (pss_cons (ps_while PassesOwn.never (pt_cmpR (oNeN (hr.units0)) (pv 1) pe_int (nomark _)) (pss_one (ps_par (i := 0) (j := 1) rfl sc_L_divisor.nd rfl rfl (by decide) rfl rfl (PAs.h (pas_cons (pv 1) (pas_cons (pe_op op_mod (pv 0) (pv 1)) pas_nil))) (by rfl))))
    (pss_one (ps_ret (pv 0)))), ?_⟩
  refine while_by (fun σ H' => ∃ a' b', σ = [some (.int a'), some (.int b')] ∧ 0 ≤ b' ∧ (b' = 0 → 0 ≤ a') ∧ gcdI a' b' = gcdI a b ∧ H' = H) (fun σ _ => match σ with | [_, some (.int b')] => b'.natAbs | _ => 0)
    ⟨a, b, rfl, by omega, fun z => by omega, rfl, rfl⟩ ?_ ?_
  · rintro _ _ ⟨a', b', rfl, h1, h2, h3, rfl⟩
    repeat array_get_dec
    refine ifn2 (fun z => ?_) (fun z => ?_)
    · have z' : b' ≠ 0 := fun e => z (congrArg _ e)
      refine ⟨_, rfl, _, rfl, _, rfl, _, _, rfl, rfl, by omega, _, _, rfl, ⟨b', a' % b', rfl, Int.emod_nonneg _ z', fun _ => h1, ?_, rfl⟩, ?_⟩
      · rw [gcdI_emod (by omega)]; exact h3
      · show (a' % b').natAbs < b'.natAbs
        have := Int.emod_nonneg a' z'
        have := Int.emod_lt_of_pos a' (show 0 < b' by omega)
        omega
    · have z' : b' = 0 := V.int.inj z
      subst z'
      refine ⟨_, rfl, ?_⟩
      rw [gcdI_zero a' (h2 rfl)] at h3
      rw [h3]; exact q
  · rintro σ1 H1 Q1 Q2 hq ⟨v, e, z⟩
    refine ⟨v, e, ?_⟩
    rcases z with ⟨s, k, e2, z⟩ | ⟨a1, b1, xs, ys, h1, h2, h3, h4, h5, h6, k, hk, z⟩ | ⟨a1, b1, xs, ys, h1, h2, h3, h4, h5, h6, k, hk, z⟩
    · exact .inl ⟨s, k, e2, hq _ _ z⟩
    · exact .inr (.inl ⟨a1, b1, xs, ys, h1, h2, h3, h4, h5, h6, k, hk, hq _ _ z⟩)
    · exact .inr (.inr ⟨a1, b1, xs, ys, h1, h2, h3, h4, h5, h6, k, hk, hq _ _ z⟩)

/-! ### a cell of the script -/
theorem at_ints {ns : List Int} {k : Int} (h0 : 0 ≤ k) (h : k < (ns.length : Int)) : ∃ v : Int, v ∈ ns ∧ atI (ns.map V.int) k = some (.int v) := by
  have hk : k.toNat < ns.length := by omega
  have q : atI (ns.map V.int) ((k.toNat : Nat) : Int) = some (.int ns[k.toNat]) := atI_nat (by rw [List.getElem?_map, List.getElem?_eq_getElem hk] <;> rfl)
  rw [show ((k.toNat : Nat) : Int) = k by omega] at q
  exact ⟨_, List.getElem_mem hk, q⟩
/-- the k-th cell -/
def cellN (ns : List Int) (k : Int) : Int := ns.getD k.toNat 0
theorem cellN_small {ns : List Int} (hb : ∀ n ∈ ns, Small n) (k : Int) : Small (cellN ns k) := by
  unfold cellN
  rw [List.getD_eq_getElem?_getD]
  cases h : ns[k.toNat]? with
  | none => exact small_zero
  | some v => exact hb v (List.mem_of_getElem? h)
def spCell (K : PySem.W.Frag) : Sp := fun vs H Q _ => ∃ (a : Addr) (ns : List Int) (k : Int), vs = [.ref a, .int k] ∧ SqL K H a (ns.map V.int) ∧ 0 ≤ k ∧ Q (.int (cellN ns k)) H
theorem ok_L_cell_at (T : Txt K mg t) : FnOk P w K mg base (CX1 P w) 1 t.a_L_cell_at t.fd_L_cell_at ["script", "k"] (spCell K) := by
  refine T.F_L_cell_at.okn (k := 0) sc_L_cell_at (fun vs H Q E h => ?_) (fun cdv A outer s H vs Q E hr h => ?_)
  · obtain ⟨a, ns, k, rfl, _⟩ := h; rfl
  obtain ⟨a, ns, k, rfl, hS, h0, q⟩ := h
  refine ⟨_, (pss_cons (ps_if (pt_cmpR oLt (pv 1) (pe_callB call_len rfl T.m_len bt_len (pa_cons (pv 0) pa_nil)) (nomark _)) (pss_one (ps_ret (pe_ix ixAny (pv 0) (pv 1) (fun _ _ => rfl)))) pss_nil)
    (pss_one (ps_ret pe_int))), ?_⟩
  repeat array_get_dec
  refine if2 (fun c => ?_) (fun c => ?_)
  · rw [List.length_map] at c
    have hk : k.toNat < ns.length := by omega
    have e : atI (ns.map V.int) ((k.toNat : Nat) : Int) = some (.int ns[k.toNat]) := atI_nat (by rw [List.getElem?_map, List.getElem?_eq_getElem hk] <;> rfl)
    rw [show ((k.toNat : Nat) : Int) = k by omega] at e
    refine ⟨_, rfl, _, rfl, .inl ⟨_, _, _, _, rfl, rfl, hS, e, ?_⟩⟩
    unfold cellN at q
    rw [List.getD_eq_getElem?_getD, List.getElem?_eq_getElem hk] at q; exact q
  · rw [List.length_map] at c
    unfold cellN at q
    rw [List.getD_eq_getElem?_getD, List.getElem?_eq_none (by omega)] at q; exact q

/-! ### parts of scripts and texts -/
def cutN (ns : List Int) (lo hi : Option Int) : List Int := (ns.drop (HT.sIx ns.length 0 lo)).take (HT.sIx ns.length ns.length hi - HT.sIx ns.length 0 lo)
theorem cut_ints (ns : List Int) (lo hi : Option Int) : cutV (ns.map V.int) lo hi = (cutN ns lo hi).map V.int := by
  unfold cutV cutN
  rw [List.length_map, List.map_take, List.map_drop]
theorem cutN_len (ns : List Int) (lo hi : Option Int) : (cutN ns lo hi).length ≤ ns.length := by
  unfold cutN
  rw [List.length_take, List.length_drop]; omega
theorem cut_to' (l : List Nat) {k : Int} (h : 0 ≤ k) : cutL l none (some k) = l.take k.toNat := by
  have := cut_to l k.toNat
  rwa [Int.toNat_of_nonneg h] at this
theorem cut_mid (l : List Nat) {a b : Nat} (h1 : a ≤ b) (h2 : b ≤ l.length) : cutL l (some (a : Int)) (some (b : Int)) = (l.drop a).take (b - a) := by
  unfold cutL
  have e : ∀ (k d : Nat), k ≤ l.length → HT.sIx l.length d (some (k : Int)) = k := fun k d hk => by
    unfold HT.sIx
    simp only
    split <;> (try split) <;> omega
  rw [e a 0 (by omega), e b l.length h2]
theorem sign_at {l : List Nat} {i : Nat} {x : V} (h : (l.map fun c => vt [c])[i]? = some x) : ∃ c, l[i]? = some c ∧ x = vt [c] := by
  rw [List.getElem?_map] at h
  cases q : l[i]? with
  | none => rw [q] at h; cases h
  | some c => rw [q] at h; exact ⟨c, rfl, (Option.some.inj h).symm⟩
theorem int_at {ns : List Int} {i : Nat} {x : V} (h : (ns.map V.int)[i]? = some x) : ∃ n, ns[i]? = some n ∧ x = .int n := by
  rw [List.getElem?_map] at h
  cases q : ns[i]? with
  | none => rw [q] at h; cases h
  | some c => rw [q] at h; exact ⟨c, rfl, (Option.some.inj h).symm⟩
theorem at_mod {α : Type} (xs : List α) (hx : 0 < xs.length) (n : Int) : ∃ v, v ∈ xs ∧ atI xs (n % (xs.length : Int)) = some v := by
  have m1 := Int.emod_nonneg n (show (xs.length : Int) ≠ 0 by omega)
  have m2 := Int.emod_lt_of_pos n (show (0 : Int) < xs.length by omega)
  obtain ⟨j, hj⟩ : ∃ j : Nat, n % (xs.length : Int) = (j : Int) := ⟨_, (Int.toNat_of_nonneg m1).symm⟩
  have hl : j < xs.length := by omega
  rw [hj]
  exact ⟨xs[j], List.getElem_mem hl, atI_nat (List.getElem?_eq_getElem hl)⟩
theorem at_back {α : Type} (xs : List α) {k : Int} (h0 : 0 < k) (h : k ≤ xs.length) : ∃ v, v ∈ xs ∧ atI xs (-k) = some v := by
  have hl : xs.length - k.toNat < xs.length := by omega
  refine ⟨xs[xs.length - k.toNat], List.getElem_mem hl, ?_⟩
  unfold atI ixN
  rw [if_neg (by omega), if_pos (by omega)]
  show xs[(-k + (xs.length : Int)).toNat]? = _
  rw [show (-k + (xs.length : Int)).toNat = xs.length - k.toNat by omega, List.getElem?_eq_getElem hl]

/-! ### signs and letters that the law draws -/
theorem ite2' {c A B : Prop} [Decidable c] (h2 : ¬ c → B) (h1 : c → A) : if c then A else B := ite2 h1 h2
theorem with_rest {F G S : Int → Prop} (k : ∀ n0, S n0 → (∀ n, F n) → G n0) (r : ∀ n, F n) : ∀ n0, S n0 → G n0 := fun n0 h => k n0 h r
theorem fdiv_small {c j : Int} (hj : 0 < j) (h : Small c) : Small (c.fdiv j) := by
  refine h.le ?_
  rw [Int.fdiv_eq_ediv_of_nonneg _ (by omega)]
  exact Int.natAbs_ediv_le_natAbs ..
theorem small_bits {c : Int} (h : Small c) : Builtin.Int.intBits c ≤ 4000000 := Nat.le_trans h (by decide)
def signs : List Nat := ((List.range 95).map (· + 32)).filter (· != 37)
theorem signs_len : signs.length = 94 := by decide +kernel
theorem signs_nodup : signs.Nodup := by decide +kernel
theorem signs_lt : ∀ c ∈ signs, 32 ≤ c ∧ c < 127 ∧ c ≠ 37 := by decide +kernel
/-- L is drawn of the signs, S is left -/
structure Drawn (k : Nat) (L S : List Nat) : Prop where
  len : L.length = k
  all : (L ++ S).Perm signs
theorem Drawn.start : Drawn 0 [] signs := ⟨rfl, .refl _⟩
theorem Drawn.left {k : Nat} {L S : List Nat} (d : Drawn k L S) : S.length + k = 94 := by
  have := d.all.length_eq
  rw [List.length_append, signs_len, d.len] at this
  omega
theorem Drawn.next {k : Nat} {L S : List Nat} (d : Drawn k L S) {j c : Nat} (h : S[j]? = some c) : Drawn (k + 1) (L ++ [c]) (S.take j ++ S.drop (j + 1)) := by
  obtain ⟨hj, e⟩ := List.getElem?_eq_some_iff.mp h
  refine ⟨by rw [List.length_append, d.len]; rfl, ?_⟩
  have p : (c :: (S.take j ++ S.drop (j + 1))).Perm S := by
    have e2 : S.take j ++ c :: S.drop (j + 1) = S := by rw [← e, ← List.drop_eq_getElem_cons hj, List.take_append_drop]
    conv => rhs; rw [← e2]
    exact List.perm_middle.symm
  rw [List.append_assoc]
  exact (List.Perm.append_left L p).trans d.all
theorem Drawn.nodup {k : Nat} {L S : List Nat} (d : Drawn k L S) : L.Nodup := (List.nodup_append.mp (d.all.nodup_iff.mpr signs_nodup)).1
theorem Drawn.mem {k : Nat} {L S : List Nat} (d : Drawn k L S) : ∀ c ∈ L, c ∈ signs := fun c hc => d.all.mem_iff.mp (List.mem_append_left _ hc)
theorem ofString_nil : Str.ofString "" = tx [] := by decide +kernel

def spSigns : Sp := fun vs H Q _ => ∃ c m : Int, vs = [.int c, .int m] ∧ Small c ∧ 0 ≤ m ∧ m ≤ 6 ∧ ∀ L S, Drawn m.toNat L S → Q (vt L) H
theorem ok_L_signs (T : Txt K mg t) : FnOk P w K mg base (CX1 P w) 1 t.a_L_signs t.fd_L_signs ["cell", "many"] spSigns := by
  refine T.F_L_signs.okn (k := 0) sc_L_signs (fun vs H Q E h => ?_) (fun cdv A outer s H vs Q E hr h => ?_)
  · obtain ⟨c, m, rfl, _⟩ := h; rfl
  obtain ⟨c, m, rfl, hs, hm0, hm6, q⟩ := h
  refine ⟨_, (pss_cons (ps_set (i := 2) sc_L_signs.nd rfl (Or.inl rfl) pe_str)
    (pss_cons (ps_set (i := 2) sc_L_signs.nd rfl (Or.inl rfl) (pe_op oAddN (pv 2) pe_str))
    (pss_cons (ps_set (i := 3) sc_L_signs.nd rfl (Or.inl rfl) (pe_op op_fdivL (pv 0) pe_int))
    (pss_cons (ps_if (pt_cmpR (oEqA (hr.units0)) (pe_op op_mod (pv 0) pe_int) pe_int (nomark _)) (pss_one (ps_set (i := 3) sc_L_signs.nd rfl (Or.inl rfl) (pe_op oAddN (pe_op oMulN (pv 3) (pe_op op_pow pe_int pe_int)) pe_int))) pss_nil)
    (pss_cons (ps_set (i := 4) sc_L_signs.nd rfl (Or.inl rfl) pe_str)
    (pss_cons (ps_for PassesOwn.never rfl (pi_range1 rfl T.m_range (pa_cons (pv 1) pa_nil)) (pg_name (i := 5) sc_L_signs.nd rfl (Or.inl rfl)) (pss_cons (ps_set (i := 6) sc_L_signs.nd rfl (Or.inl rfl) (pe_op op_mod (pv 3) (pe_callB call_len rfl T.m_len bt_len (pa_cons (pv 2) pa_nil))))
    (pss_cons (ps_set (i := 3) sc_L_signs.nd rfl (Or.inl rfl) (pe_op op_fdivL (pv 3) (pe_callB call_len rfl T.m_len bt_len (pa_cons (pv 2) pa_nil))))
    (pss_cons (ps_set (i := 4) sc_L_signs.nd rfl (Or.inl rfl) (pe_op oAddN (pv 4) (pe_ix ixAny (pv 2) (pv 6) (fun _ _ => rfl))))
    (pss_one (ps_set (i := 2) sc_L_signs.nd rfl (Or.inl rfl) (pe_op oAddN (pe_slice slAny (pv 2) po_none (po_some (pv 6))) (pe_slice slAny (pv 2) (po_some (pe_op oAddN (pv 6) pe_int)) po_none))))))))
    (pss_one (ps_ret (pv 4))))))))), ?_⟩
  have e1 : V.str (Str.ofString " !\"#$&'()*+,-./0123456789:;<=>?@ABCDEFGHIJKLMNOPQRSTUVWXYZ[\\]^_`") = vt (signs.take 64) := congrArg V.str (by decide +kernel)
  have e2 : V.str (Str.ofString "abcdefghijklmnopqrstuvwxyz{|}~") = vt (signs.drop 64) := congrArg V.str (by decide +kernel)
  refine ⟨_, rfl, .inr (.inl ⟨_, _, e1, e2, by decide +kernel, ?_⟩)⟩
  rw [List.take_append_drop]
  refine ⟨_, rfl, _, _, rfl, rfl, cdivK (by decide) (by decide), ?_⟩
  show gName 3 (V.int (c.fdiv 2)) _ _ _
  have hs1 := fdiv_small (c := c) (j := 2) (by decide) hs
  generalize c.fdiv 2 = n0 at hs1 ⊢
  revert n0
  refine with_rest (fun n0 hs1 k => ⟨_, rfl, _, _, rfl, rfl, (by show (0 : Int) < 2; decide), .inl ⟨rfl, _, rfl, ite2' (fun _ => k n0) (fun _ => ?_)⟩⟩) (fun n => ?_)
  · exact ⟨_, rfl, _, _, rfl, rfl, ⟨by decide, by decide, by decide⟩, .inl ⟨_, _, rfl, rfl, .inr (.inr ⟨small_bits hs1, by decide +kernel⟩), .inl ⟨_, _, rfl, rfl, k _⟩⟩⟩
  refine ⟨_, rfl, _, rfl, by omega, by omega, ?_⟩
  refine for_range (fun i σ H' => ∃ n L S r1 r2, σ = [some (.int c), some (.int m), some (vt S), some (.int n), some (vt L), r1, r2] ∧ H' = H ∧ Drawn i L S) ⟨n, [], signs, _, _, by rw [ofString_nil]; rfl, rfl, .start⟩ ?_ ?_
  · rintro i _ _ hi ⟨n, L, S, r1', r2', rfl, rfl, d⟩
    have hl := d.left
    have hi' : i < 6 := by omega
    have hLl := d.len
    have hS : S.length ≤ sizeLine := by rw [sizeLine_eq]; omega
    have hp : (0 : Int) < (S.length : Nat) := by omega
    have m1 := Int.emod_nonneg n (show ((S.length : Nat) : Int) ≠ 0 by omega)
    have m2 := Int.emod_lt_of_pos n hp
    obtain ⟨j, hj⟩ : ∃ j : Nat, n % ((S.length : Nat) : Int) = (j : Int) := ⟨_, (Int.toNat_of_nonneg m1).symm⟩
    have hjl : j < S.length := by omega
    have hc := List.getElem?_eq_getElem hjl
    repeat array_get_dec
    refine ⟨hp, ?_⟩
    try dsimp (config := { proj := false, eta := false, zeta := false, iota := false }) only [tNil, tC]
    rw [hj]
    repeat array_get_dec
    refine ⟨⟨by omega, Nat.lt_of_lt_of_le (show ((S.length : Nat) : Int).natAbs < 2 ^ 30 by omega) (Nat.pow_le_pow_right (by decide) (by decide))⟩, ?_⟩
    repeat array_get_dec
    refine ixS hS (atI_nat hc) ?_
    repeat array_get_dec
    refine .inr (cutT hS ?_)
    rw [cut_to]
    repeat array_get_dec
    refine .inr (cutT hS ?_)
    try dsimp (config := { proj := false, eta := false, zeta := false, iota := false }) only [tNil, tC]
    rw [show ((j : Int) + 1) = ((j + 1 : Nat) : Int) by omega, cut_from]
    repeat array_get_dec
    exact ⟨_, _, _, _, _, rfl, rfl, d.next hc⟩
  · rintro _ _ ⟨n, L, S, r1', r2', rfl, rfl, d⟩
    exact ⟨_, rfl, q L S d⟩
def spFrame : Sp := fun vs H Q _ => ∃ c : Int, vs = [.int c] ∧ Small c ∧ ∀ L S (d : Nat) H' p, 2 ≤ L.length → L.length ≤ 6 → Drawn L.length L S → d ≤ 6 → Same H H' → H p = none → H' p = some (.tup [vt L, .int d]) → Q (.ref p) H'
theorem depth_at {i : Int} (h1 : 0 ≤ i) (h2 : i < 10) : ∃ d : Nat, d ≤ 6 ∧ atI [V.int 2, .int 3, .int 1, .int 0, .int 2, .int 3, .int 4, .int 1, .int 5, .int 6] i = some (.int d) := by
  obtain ⟨j, rfl⟩ : ∃ j : Nat, i = (j : Int) := ⟨_, (Int.toNat_of_nonneg h1).symm⟩
  match j, h2 with
  | 0, _ => exact ⟨2, by decide, rfl⟩
  | 1, _ => exact ⟨3, by decide, rfl⟩
  | 2, _ => exact ⟨1, by decide, rfl⟩
  | 3, _ => exact ⟨0, by decide, rfl⟩
  | 4, _ => exact ⟨2, by decide, rfl⟩
  | 5, _ => exact ⟨3, by decide, rfl⟩
  | 6, _ => exact ⟨4, by decide, rfl⟩
  | 7, _ => exact ⟨1, by decide, rfl⟩
  | 8, _ => exact ⟨5, by decide, rfl⟩
  | 9, _ => exact ⟨6, by decide, rfl⟩
  | n + 10, h => exact absurd h (by omega)
theorem ok_L_frame (T : Txt K mg t) : FnOk P w K mg base (CX1 P w) 2 t.a_L_frame t.fd_L_frame ["cell"] spFrame := by
  refine T.F_L_frame.okn (k := 1) sc_L_frame (fun vs H Q E h => ?_) (fun cdv A outer s H vs Q E hr h => ?_)
  · obtain ⟨c, rfl, _⟩ := h; rfl
  obtain ⟨c, rfl, hs, q⟩ := h
  have G_L_signs := ok_L_signs (P := P) (w := w) (base := base) T
  refine ⟨_, (pss_cons (ps_set (i := 1) sc_L_frame.nd rfl (Or.inl rfl) (pe_op oAddN pe_int (pe_op op_mod (pv 0) pe_int)))
    (pss_cons (ps_set (i := 2) sc_L_frame.nd rfl (Or.inl rfl) (pe_ix ixAny (pe_lst (PAs.h (pas_cons pe_int (pas_cons pe_int (pas_cons pe_int (pas_cons pe_int (pas_cons pe_int (pas_cons pe_int (pas_cons pe_int (pas_cons pe_int (pas_cons pe_int (pas_cons pe_int pas_nil)))))))))))) (pe_op op_mod (pe_op op_fdivL (pv 0) pe_int) pe_int) (fun _ _ => rfl)))
    (pss_one (ps_ret (pe_tup (PAs.h (pas_cons (pe_call G_L_signs hr rfl T.m_L_signs T.F_L_signs.kp T.b_L_signs .nil pass1 (PAs.h (pas_cons (pe_op op_fdivL (pv 0) pe_int) (pas_cons (pv 1) pas_nil)))) (pas_cons (pv 2) pas_nil)))))))), ?_⟩
  have r1 := Int.emod_nonneg c (show (5 : Int) ≠ 0 by decide)
  have r2 := Int.emod_lt_of_pos c (show (0 : Int) < 5 by decide)
  have t1 := Int.emod_nonneg (c.fdiv 5) (show (10 : Int) ≠ 0 by decide)
  have t2 := Int.emod_lt_of_pos (c.fdiv 5) (show (0 : Int) < 10 by decide)
  obtain ⟨d, hd, ed⟩ := depth_at t1 t2
  repeat array_get_dec
  try dsimp (config := { proj := false, eta := false, zeta := false, iota := false }) only [tNil, tC]
  refine ⟨by rw [sizeLine_eq]; decide, fun p0 h0 => ?_⟩
  refine ⟨_, rfl, _, _, rfl, rfl, cdivK (by decide) (by decide), _, _, rfl, rfl, (by show (0 : Int) < 10; decide), ?_⟩
  refine ixL (.inl (.inl upd_same)) ed ?_
  repeat array_get_dec
  try dsimp (config := { proj := false, eta := false, zeta := false, iota := false }) only [tNil, tC]
  have hs1 := fdiv_small (c := c) (j := 50) (by decide) hs
  refine ⟨hs1, by omega, by omega, fun L S D => ?_⟩
  have hL := D.len
  refine ⟨_, rfl, by rw [sizeLine_eq]; show 2 ≤ _; decide, fun p hp => ?_⟩
  exact q L S d _ p (by omega) (by omega) (by rw [hL]; exact D) hd (new_same hp (same_new h0 _)) ((same_new h0 _).free hp) upd_same

/-! ### checked -/
def spChecked (K : PySem.W.Frag) (C : Addr) : Sp := fun vs H Q E => ∃ p L d l, vs = [.ref p, vt l] ∧ SqT K H p [vt L, d] ∧ (∀ c ∈ l, c < 16 ^ 8) ∧ ((∀ c ∈ l, c ∈ L) → Q (vt l) H) ∧ ((∃ c ∈ l, c ∉ L) → E (.ref C) none H)
theorem ok_checked (T : Txt K mg t) : FnOk P w K mg base (CX1 P w) 1 t.a_checked t.fd_checked ["frame", "text"] (spChecked K t.c_NoText) := by
  refine T.F_checked.okx (k := 0) sc_checked (fun vs H Q E h => ?_) (fun cdv A outer s H vs Q E hr h => ?_)
  · obtain ⟨p, L, d, l, rfl, _⟩ := h; rfl
  obtain ⟨p, L, d, l, rfl, hS, hc, h1, h2⟩ := h
  refine ⟨_, (pss_cons (ps_set (i := 2) sc_checked.nd rfl (Or.inl rfl) (pe_ix ixAny (pv 0) pe_int (fun _ _ => rfl)))
    (pss_cons (ps_for PassesOwn.leaving rfl (piAny (pv 1)) (pg_name (i := 3) sc_checked.nd rfl (Or.inl rfl)) (pss_one (ps_if (pt_cmpR oNotIn (pv 3) (pv 2) (by with_unfolding_all rfl)) (pss_one (ps_raise raises1 rfl rfl T.m_NoText T.x_NoText PySem.F.excBase_ValueError (pa_cons (pe_joined (pfs_cons (pf_repr (pv 3)) (pfs_cons pf_str pfs_nil))) pa_nil))) pss_nil)))
    (pss_one (ps_ret (pv 1))))), ?_⟩
  refine ⟨_, rfl, .inr (.inl ⟨p, _, 0, _, rfl, rfl, hS, rfl, ?_⟩)⟩
  refine ⟨_, rfl, .inr (.inr ⟨_, rfl, ?_⟩)⟩
  refine for_walk (walk_tx l) (fun i σ H' => ∃ r, σ = [some (.ref p), some (vt l), some (vt L), r] ∧ H' = H ∧ ∀ c ∈ l.take i, c ∈ L) ⟨_, rfl, rfl, fun c hc => nomatch hc⟩ (fun _ _ _ _ _ => trivial) ?_ ?_
  · rintro i x _ _ hx ⟨r, rfl, rfl, hL⟩
    rw [List.getElem?_map] at hx
    cases hi : l[i]? with
    | none => rw [hi] at hx; cases hx
    | some c =>
      rw [hi] at hx
      cases (show some (vt [c]) = some x from hx)
      have hm : c ∈ l := List.mem_of_getElem? hi
      refine ⟨_, rfl, _, rfl, .inl ⟨c, L, rfl, rfl, _, rfl, ?_⟩⟩
      by_cases z : c ∈ L
      · rw [if_pos rfl, decide_eq_true z]
        refine iteF ⟨_, rfl, rfl, fun c' hc' => ?_⟩
        rw [List.take_add_one, hi] at hc'
        rcases List.mem_append.mp hc' with q | q
        · exact hL c' q
        · have : c' = c := by simpa using q
          rw [this]; exact z
      · rw [if_pos rfl, decide_eq_false z]
        have ls : (Str.ofString " is no letter of the frame").length = 26 := by decide +kernel
        refine iteT ⟨_, rfl, _, rfl, ⟨by show 1 ≤ 100000; decide, fun c' hc' => ?_⟩, fun y hy => ?_⟩
        · have : c' = c := by simpa using (show c' ∈ [c] from hc')
          rw [this]; exact hc c hm
        have hy' : y.length ≤ 12 := hy
        have e0 : (Str.empty ++ y).length ≤ 12 := by rw [Str.length_append]; show 0 + y.length ≤ 12; omega
        have e1 : (Str.empty ++ y ++ Str.ofString " is no letter of the frame").length ≤ sizeLine := by rw [Str.length_append, ls, sizeLine_eq]; omega
        exact ⟨Nat.le_trans e0 (by decide), e1, e1, (by show 1 ≤ sizeLine; decide), h2 ⟨c, hm, z⟩⟩
  · rintro _ _ ⟨r, rfl, rfl, hL⟩
    rw [List.length_map, List.take_length] at hL
    exact ⟨_, rfl, h1 hL⟩

/-! ### elders -/
/-- the sign at place j of the elders of place k -/
def eldL (f d : Nat) (l : List Nat) (k : Nat) : List Nat := (List.range d).map fun j => if j < k then l.getD (k - 1 - j) 0 else f
theorem eldL_len (f d : Nat) (l : List Nat) (k : Nat) : (eldL f d l k).length = d := by unfold eldL; rw [List.length_map, List.length_range]
theorem eldL_at (f d : Nat) (l : List Nat) (k : Nat) {j : Nat} (h : j < d) : (eldL f d l k)[j]? = some (if j < k then l.getD (k - 1 - j) 0 else f) := by
  unfold eldL; rw [List.getElem?_map, List.getElem?_range h]; rfl
theorem eldL_eq (f d : Nat) (l : List Nat) {k : Nat} (hk : k ≤ l.length) : ((l.drop (k - d)).take (k - (k - d))).reverse ++ List.replicate (d - (k - (k - d))) f = eldL f d l k := by
  have hlen : ((l.drop (k - d)).take (k - (k - d))).length = k - (k - d) := by rw [List.length_take, List.length_drop]; omega
  refine List.ext_getElem? fun j => ?_
  by_cases hj : j < d
  · rw [eldL_at f d l k hj]
    by_cases hjk : j < k
    · rw [if_pos hjk, List.getElem?_append_left (by rw [List.length_reverse, hlen]; omega), List.getElem?_reverse (by rw [hlen]; omega), hlen, List.getElem?_take_of_lt (by omega), List.getElem?_drop, List.getD_eq_getElem?_getD]
      rw [show k - d + (k - (k - d) - 1 - j) = k - 1 - j by omega, List.getElem?_eq_getElem (by omega)]
      rfl
    · rw [if_neg hjk, List.getElem?_append_right (by rw [List.length_reverse, hlen]; omega), List.length_reverse, hlen, List.getElem?_replicate, if_pos (by omega)]
  · rw [List.getElem?_eq_none (by rw [List.length_append, List.length_reverse, hlen, List.length_replicate]; omega), List.getElem?_eq_none (by rw [eldL_len]; omega)]
theorem at_zero {α : Type} {f : α} {L : List α} : atI (f :: L) 0 = some f := atI_nat (j := 0) rfl
theorem flatten_ones (l : List Nat) : (l.map fun c => [c]).flatten = l := by
  induction l with
  | nil => rfl
  | cons c r ih => rw [List.map_cons, List.flatten_cons, ih]; rfl
theorem rep_ones (n c : Nat) : (List.replicate n [c]).flatten = List.replicate n c := by
  induction n with
  | zero => rfl
  | succ n ih => rw [List.replicate_succ, List.flatten_cons, ih]; rfl
theorem str_nil : V.str (Str.ofString "") = vt [] := congrArg V.str (by decide +kernel)
def spEldAt (K : PySem.W.Frag) : Sp := fun vs H Q _ => ∃ (p : Addr) (f : Nat) (L : List Nat) (d k : Nat) (l : List Nat), vs = [.ref p, vt l, .int k] ∧ SqT K H p [vt (f :: L), .int d] ∧ (f :: L).length ≤ 100 ∧ d ≤ 6 ∧ l.length ≤ 1000 ∧ k ≤ l.length ∧ Q (vt (eldL f d l k)) H
theorem ok_elders_at (T : Txt K mg t) : FnOk P w K mg base (CX1 P w) 1 t.a_elders_at t.fd_elders_at ["frame", "text", "at"] (spEldAt K) := by
  refine T.F_elders_at.okn (k := 0) sc_elders_at (fun vs H Q E h => ?_) (fun cdv A outer s H vs Q E hr h => ?_)
  · obtain ⟨p, f, L, d, k, l, rfl, _⟩ := h; rfl
  obtain ⟨p, f, L, d, k, l, rfl, hF, hL, hd, hl, hk, q⟩ := h
  have zL : (f :: L).length ≤ sizeLine := by rw [sizeLine_eq]; omega
  have zl : l.length ≤ sizeLine := by rw [sizeLine_eq]; omega
  refine ⟨_, (pss_cons (ps_set (i := 3) sc_elders_at.nd rfl (Or.inl rfl) (pe_ix ixAny (pe_ix ixAny (pv 0) pe_int (fun _ _ => rfl)) pe_int (fun _ _ => rfl)))
    (pss_cons (ps_set (i := 4) sc_elders_at.nd rfl (Or.inl rfl) (pe_ix ixAny (pv 0) pe_int (fun _ _ => rfl)))
    (pss_cons (ps_set (i := 5) sc_elders_at.nd rfl (Or.inl rfl) (pe_slice slAny (pv 1) (po_some (pe_callB (call_max2 rfl) rfl T.m_max bt_max (PAs.h (pas_cons pe_int (pas_cons (pe_op op_sub (pv 2) (pv 4)) pas_nil))))) (po_some (pv 2))))
    (pss_one (ps_ret (pe_op oAddN (pe_joinRev rfl rfl T.m_reversed bt_reversed pe_str (pv 5)) (pe_op oMulN (pv 3) (pe_op op_sub (pv 4) (pe_callB call_len rfl T.m_len bt_len (pa_cons (pv 5) pa_nil)))))))))), ?_⟩
  repeat array_get_dec
  refine ixS zL at_zero ?_
  repeat array_get_dec
  refine .inr (cutT zl ?_)
  have e : (if ((k : Int) - d) > 0 then ((k : Int) - d) else 0) = ((k - d : Nat) : Int) := by split <;> omega
  try dsimp (config := { proj := false, eta := false, zeta := false, iota := false }) only [tNil, tC]
  rw [e, cut_mid l (by omega) hk]
  have hlen : ((l.drop (k - d)).take (k - (k - d))).length = k - (k - d) := by rw [List.length_take, List.length_drop]; omega
  generalize hn : (l.drop (k - d)).take (k - (k - d)) = near at hlen ⊢
  refine ⟨[], str_nil, ?_⟩
  refine ⟨_, rfl, near, rfl, ⟨by omega, by decide⟩, ?_⟩
  rw [between_nil, flatten_ones]
  have zn : near.length ≤ sizeLine := by rw [sizeLine_eq]; omega
  repeat array_get_dec
  rw [rep_ones]
  refine .inr (.inl (catX ?_ ?_))
  · rw [List.length_reverse, List.length_replicate, sizeLine_eq]; omega
  · rw [show ((d : Int) - (near.length : Int)).toNat = d - (k - (k - d)) by omega, ← hn, eldL_eq f d l hk]; exact q

/-! ### worth -/
def oddP : Nat → Int
  | 0 => 1
  | n + 1 => oddP n * (2 * (n : Int) + 1)
def topW : List Nat → Int
  | [] => 1
  | c :: cs => topW cs * oddP c
def botW (k : Nat) : Nat → Int
  | 0 => 1
  | n + 1 => botW k n * (2 * (n : Int) + k)
def ivs (cs : List Nat) : List V := (cs.map fun (c : Nat) => (c : Int)).map V.int
theorem ivs_len (cs : List Nat) : (ivs cs).length = cs.length := by unfold ivs; rw [List.length_map, List.length_map]
theorem ivs_get (cs : List Nat) (i : Nat) : (ivs cs)[i]? = (cs[i]?).map (fun c : Nat => V.int (c : Int)) := by unfold ivs; rw [List.getElem?_map, List.getElem?_map, Option.map_map]; rfl
theorem ivs_at {cs : List Nat} {i : Nat} {x : V} (h : (ivs cs)[i]? = some x) : ∃ c, cs[i]? = some c ∧ x = .int (c : Int) := by
  rw [ivs_get] at h
  cases q : cs[i]? with
  | none => rw [q] at h; cases h
  | some c => rw [q] at h; exact ⟨c, rfl, (Option.some.inj h).symm⟩
theorem ivs_set (cs : List Nat) (j c : Nat) : (ivs cs).set j (.int (c : Int)) = ivs (cs.set j c) := by unfold ivs; rw [List.map_set, List.map_set]
theorem ints_sum (cs : List Nat) : (cs.map fun (c : Nat) => (c : Int)).sum = (cs.sum : Int) := by
  induction cs with
  | nil => rfl
  | cons c cs ih => rw [List.map_cons, List.sum_cons, ih, List.sum_cons]; push_cast; rfl
theorem topW_snoc : ∀ (cs : List Nat) (c : Nat), topW (cs ++ [c]) = topW cs * oddP c
  | [], c => by show 1 * oddP c = 1 * oddP c; rfl
  | a :: cs, c => by
    show topW (cs ++ [c]) * oddP a = topW cs * oddP a * oddP c
    rw [topW_snoc cs c, Int.mul_assoc, Int.mul_comm (oddP c), ← Int.mul_assoc]
theorem topW_set : ∀ {cs : List Nat} {j c : Nat}, cs[j]? = some c → topW (cs.set j (c + 1)) = topW cs * (2 * (c : Int) + 1)
  | [], _, _, h => by cases h
  | a :: cs, 0, c, h => by
    cases h
    show topW cs * (oddP a * (2 * (a : Int) + 1)) = topW cs * oddP a * (2 * (a : Int) + 1)
    rw [Int.mul_assoc]
  | a :: cs, j + 1, c, h => by
    show topW (cs.set j (c + 1)) * oddP a = topW cs * oddP a * (2 * (c : Int) + 1)
    rw [topW_set (cs := cs) h, Int.mul_assoc, Int.mul_comm (2 * (c : Int) + 1), ← Int.mul_assoc]
theorem sum_set : ∀ {cs : List Nat} {j c : Nat}, cs[j]? = some c → (cs.set j (c + 1)).sum = cs.sum + 1
  | [], _, _, h => by cases h
  | a :: cs, 0, c, h => by cases h; show (a + 1) + cs.sum = a + cs.sum + 1; omega
  | a :: cs, j + 1, c, h => by
    show a + (cs.set j (c + 1)).sum = a + cs.sum + 1
    rw [sum_set (cs := cs) h]; omega
theorem le_sum : ∀ {cs : List Nat} {j c : Nat}, cs[j]? = some c → c ≤ cs.sum
  | [], _, _, h => by cases h
  | a :: cs, 0, c, h => by cases h; show a ≤ a + cs.sum; omega
  | a :: cs, j + 1, c, h => by have := le_sum (cs := cs) h; show c ≤ a + cs.sum; omega
theorem pow_lt {n a b : Nat} (h : n < 2 ^ a) (hb : a ≤ b) : n < 2 ^ b := Nat.lt_of_lt_of_le h (Nat.pow_le_pow_right (by decide) hb)
theorem mul_lt {x y : Int} {a b : Nat} (hx : x.natAbs < 2 ^ a) (hy : y.natAbs < 2 ^ b) : (x * y).natAbs < 2 ^ (a + b) := by
  rw [Int.natAbs_mul, Nat.pow_add]
  exact Nat.mul_lt_mul'' hx hy
theorem oddP_bd : ∀ n : Nat, n ≤ 500 → 0 < oddP n ∧ (oddP n).natAbs < 2 ^ (1 + 10 * n)
  | 0, _ => by decide
  | n + 1, h => by
    obtain ⟨h0, h1⟩ := oddP_bd n (by omega)
    refine ⟨Int.mul_pos h0 (by omega), ?_⟩
    have := mul_lt h1 (show (2 * (n : Int) + 1).natAbs < 2 ^ 10 by omega)
    rw [show 1 + 10 * (n + 1) = 1 + 10 * n + 10 by omega]; exact this
theorem topW_bd : ∀ cs : List Nat, cs.sum ≤ 500 → 0 < topW cs ∧ (topW cs).natAbs < 2 ^ (1 + cs.length + 10 * cs.sum)
  | [], _ => by decide
  | c :: cs, h => by
    have h' : c + cs.sum ≤ 500 := h
    obtain ⟨h0, h1⟩ := topW_bd cs (by omega)
    obtain ⟨o0, o1⟩ := oddP_bd c (by omega)
    refine ⟨Int.mul_pos h0 o0, ?_⟩
    have := mul_lt h1 o1
    have e : 1 + (c :: cs).length + 10 * (c :: cs).sum = 1 + cs.length + 10 * cs.sum + (1 + 10 * c) := by
      show 1 + (cs.length + 1) + 10 * (c + cs.sum) = _; omega
    rw [e]; exact this
theorem botW_bd {k : Nat} (hk : 1 ≤ k) (hk2 : k ≤ 20) : ∀ n : Nat, n ≤ 500 → 0 < botW k n ∧ (botW k n).natAbs < 2 ^ (1 + 10 * n)
  | 0, _ => by show 0 < (1 : Int) ∧ (1 : Int).natAbs < 2 ^ 1; decide
  | n + 1, h => by
    obtain ⟨h0, h1⟩ := botW_bd hk hk2 n (by omega)
    refine ⟨Int.mul_pos h0 (by omega), ?_⟩
    have := mul_lt h1 (show (2 * (n : Int) + k).natAbs < 2 ^ 10 by omega)
    rw [show 1 + 10 * (n + 1) = 1 + 10 * n + 10 by omega]; exact this
def spWorth (K : PySem.W.Frag) : Sp := fun vs H Q _ => ∃ (p : Addr) (cs : List Nat), vs = [.ref p] ∧ SqL K H p (ivs cs) ∧ cs.sum ≤ 400 ∧ 1 ≤ cs.length ∧ cs.length ≤ 20 ∧
  ∀ r, H r = none → Q (.ref r) (upd H r (.tup [.int (num (topW cs) (botW cs.length cs.sum)), .int (den (topW cs) (botW cs.length cs.sum))]))
theorem ok_worth (T : Txt K mg t) : FnOk P w K mg base (CX1 P w) 3 t.a_worth t.fd_worth ["counts"] (spWorth K) := by
  refine T.F_worth.okn (k := 2) sc_worth (fun vs H Q E h => ?_) (fun cdv A outer s H vs Q E hr h => ?_)
  · obtain ⟨p, cs, rfl, _⟩ := h; rfl
  obtain ⟨p, cs, rfl, hS, hs, hk1, hk2, q⟩ := h
  have G_fraction := ok_fraction (P := P) (w := w) (base := base) T
  refine ⟨_, (pss_cons (ps_set (i := 1) sc_worth.nd rfl (Or.inl rfl) pe_int)
    (pss_cons (ps_for PassesOwn.never rfl (piAny (pv 0)) (pg_name (i := 2) sc_worth.nd rfl (Or.inl rfl)) (pss_one (ps_for PassesOwn.never rfl (pi_range1 rfl T.m_range (pa_cons (pv 2) pa_nil)) (pg_name (i := 3) sc_worth.nd rfl (Or.inl rfl)) (pss_one (ps_aug (i := 1) sc_worth.nd rfl (Or.inl rfl) (pe_op oAddN (pe_op oMulN pe_int (pv 3)) pe_int) ipMul)))))
    (pss_cons (ps_set (i := 4) sc_worth.nd rfl (Or.inl rfl) pe_int)
    (pss_cons (ps_for PassesOwn.never rfl (pi_range1 rfl T.m_range (pa_cons (pe_callB (callSum rfl) rfl T.m_sum bt_sum (pa_cons (pv 0) pa_nil)) pa_nil)) (pg_name (i := 3) sc_worth.nd rfl (Or.inl rfl)) (pss_one (ps_aug (i := 4) sc_worth.nd rfl (Or.inl rfl) (pe_op oAddN (pe_op oMulN pe_int (pv 3)) (pe_callB call_len rfl T.m_len bt_len (pa_cons (pv 0) pa_nil))) ipMul)))
    (pss_one (ps_ret (pe_call G_fraction hr rfl T.m_fraction T.F_fraction.kp T.b_fraction .nil pass1 (PAs.h (pas_cons (pv 1) (pas_cons (pv 4) pas_nil)))))))))), ?_⟩
  refine ⟨_, rfl, .inl ⟨p, _, rfl, hS, ?_⟩⟩
  refine for_walk walk_list (fun i σ H' => ∃ r1 r2, σ = [some (.ref p), some (.int (topW (cs.take i))), r1, r2, none] ∧ H' = H) ⟨_, _, rfl, rfl⟩ (fun i σ H' _ ⟨_, _, _, e⟩ => by rw [e]; exact hS) ?_ ?_
  · rintro i x _ H' hx ⟨r1, r2, rfl, rfl⟩
    obtain ⟨c, hc, rfl⟩ := ivs_at hx
    have hcs := le_sum hc
    have hsn : topW (cs.take (i + 1)) = topW (cs.take i) * oddP c := by rw [List.take_add_one, hc]; exact topW_snoc _ _
    repeat array_get_dec
    refine ⟨by omega, by omega, ?_⟩
    refine for_range (fun j σ H'' => ∃ r, σ = [some (.ref p), some (.int (topW (cs.take i) * oddP j)), some (.int (c : Int)), r, none] ∧ H'' = H') ⟨_, by show _ = [_, some (V.int (topW (cs.take i) * 1)), _, _, _]; rw [Int.mul_one]; rfl, rfl⟩ ?_ ?_
    · rintro j _ _ hj ⟨r, rfl, rfl⟩
      rw [Int.toNat_natCast] at hj
      repeat array_get_dec
      refine ⟨mulR (by show (-(2 ^ 64) : Int) < 2 * (0 + (j : Int)) + 1; omega) (by show 2 * (0 + (j : Int)) + 1 < (2 ^ 64 : Int); omega), ?_⟩
      try dsimp (config := { proj := false, eta := false, zeta := false, iota := false }) only [tNil, tC]
      rw [show topW (cs.take i) * oddP (j + 1) = topW (cs.take i) * oddP j * (2 * (0 + (j : Int)) + 1) by rw [Int.zero_add, Int.mul_assoc]; rfl]
      exact ⟨_, rfl, rfl⟩
    · rintro _ _ ⟨r, rfl, rfl⟩
      rw [Int.toNat_natCast, hsn]
      exact ⟨_, _, rfl, rfl⟩
  · rintro _ H' ⟨r1, r2, rfl, rfl⟩
    rw [ivs_len, List.take_length]
    obtain ⟨b0, b1⟩ := botW_bd hk1 hk2 cs.sum (by omega)
    repeat array_get_dec
    refine ⟨p, cs.map fun (c : Nat) => (c : Int), rfl, hS, ?_⟩
    rw [ints_sum]
    repeat array_get_dec
    refine ⟨by omega, by omega, ?_⟩
    refine for_range (fun j σ H'' => ∃ r1 r2, σ = [some (.ref p), some (.int (topW cs)), r1, r2, some (.int (botW cs.length j))] ∧ H'' = H') ⟨_, _, rfl, rfl⟩ ?_ ?_
    · rintro j _ _ hj ⟨r1, r2, rfl, rfl⟩
      rw [Int.toNat_natCast] at hj
      repeat array_get_dec
      rw [ivs_len]
      refine ⟨mulR (by show (-(2 ^ 64) : Int) < 2 * (0 + (j : Int)) + (cs.length : Int); omega) (by show 2 * (0 + (j : Int)) + (cs.length : Int) < (2 ^ 64 : Int); omega), ?_⟩
      try dsimp (config := { proj := false, eta := false, zeta := false, iota := false }) only [tNil, tC]
      rw [show botW cs.length (j + 1) = botW cs.length j * (2 * (0 + (j : Int)) + (cs.length : Int)) by rw [Int.zero_add]; rfl]
      exact ⟨_, _, rfl, rfl⟩
    · rintro _ _ ⟨r1, r2, rfl, rfl⟩
      rw [Int.toNat_natCast]
      repeat array_get_dec
      exact ⟨fun z => absurd z (by omega), fun _ => ⟨pow_lt b1 (by omega), q⟩⟩

/-! ### knots and counts -/
/-- place k falls in the knot -/
def falls (f d : Nat) (l kn : List Nat) (k : Nat) : Bool := decide ((eldL f d l k).take kn.length = kn)
def cntL (L : List Nat) (f d : Nat) (l kn : List Nat) (n : Nat) : List Nat := L.map fun c => ((List.range n).filter fun k => falls f d l kn k && decide (l[k]? = some c)).length
def seen (f d : Nat) (l kn : List Nat) (n : Nat) : Bool := (List.range n).any (falls f d l kn)
theorem cntL_len (L : List Nat) (f d : Nat) (l kn : List Nat) (n : Nat) : (cntL L f d l kn n).length = L.length := List.length_map ..
theorem filter_range_succ (p : Nat → Bool) (n : Nat) : ((List.range (n + 1)).filter p).length = ((List.range n).filter p).length + if p n = true then 1 else 0 := by
  rw [List.range_succ, List.filter_append, List.length_append]
  cases h : p n <;> simp [h]
theorem cntL_no {L : List Nat} {f d : Nat} {l kn : List Nat} {n : Nat} (h : falls f d l kn n = false) : cntL L f d l kn (n + 1) = cntL L f d l kn n := by
  unfold cntL
  refine List.map_congr_left fun c _ => ?_
  rw [filter_range_succ, h, Bool.false_and, if_neg Bool.false_ne_true]; rfl
theorem seen_no {f d : Nat} {l kn : List Nat} {n : Nat} (h : falls f d l kn n = false) : seen f d l kn (n + 1) = seen f d l kn n := by
  unfold seen; rw [List.range_succ, List.any_append]; simp [h]
theorem seen_yes {f d : Nat} {l kn : List Nat} {n : Nat} (h : falls f d l kn n = true) : seen f d l kn (n + 1) = true := by
  unfold seen; rw [List.range_succ, List.any_append]; simp [h]
theorem cntL_yes {L : List Nat} {f d : Nat} {l kn : List Nat} {n i c : Nat} (hL : L.Nodup) (h : falls f d l kn n = true) (hi : L[i]? = some c) (hc : l[n]? = some c) :
    ∃ v, (cntL L f d l kn n)[i]? = some v ∧ cntL L f d l kn (n + 1) = (cntL L f d l kn n).set i (v + 1) := by
  obtain ⟨hil, hic⟩ := List.getElem?_eq_some_iff.mp hi
  refine ⟨((List.range n).filter fun k => falls f d l kn k && decide (l[k]? = some c)).length, by unfold cntL; rw [List.getElem?_map, hi]; rfl, ?_⟩
  refine List.ext_getElem? fun j => ?_
  by_cases hj : j < L.length
  · rw [List.getElem?_set]
    unfold cntL
    rw [List.getElem?_map, List.getElem?_eq_getElem hj, Option.map_some, filter_range_succ, h, Bool.true_and]
    by_cases hij : i = j
    · subst hij
      rw [hic, decide_eq_true hc, if_pos rfl, if_pos rfl, if_pos (by rw [List.length_map]; exact hj)]
    · rw [if_neg hij, List.getElem?_map, List.getElem?_eq_getElem hj, Option.map_some]
      have : L[j] ≠ c := fun e => hij ((List.getElem_inj hL).mp (hic.trans e.symm))
      rw [hc, decide_eq_false (fun e => this (Option.some.inj e).symm), if_neg Bool.false_ne_true]; rfl
  · rw [List.getElem?_eq_none (by rw [cntL_len]; omega), List.getElem?_eq_none (by rw [List.length_set, cntL_len]; omega)]
theorem cntL_zero {L : List Nat} {f d : Nat} {l kn : List Nat} {n : Nat} (h : seen f d l kn n = false) : cntL L f d l kn n = List.replicate L.length 0 := by
  unfold cntL
  refine List.ext_getElem? fun j => ?_
  rw [List.getElem?_map, List.getElem?_replicate]
  by_cases hj : j < L.length
  · rw [List.getElem?_eq_getElem hj, if_pos hj, Option.map_some]
    congr 1
    rw [List.length_eq_zero_iff, List.filter_eq_nil_iff]
    intro k hk
    have := List.any_eq_false.mp h k hk
    simp [this]
  · rw [List.getElem?_eq_none (by omega), if_neg hj]; rfl
/-! ### is_knot, checked_knot -/
def spPath (K : PySem.W.Frag) : Sp := fun vs H Q _ => ∃ (p : Addr) (f : Nat) (L : List Nat) (d k : Nat) (l : List Nat), vs = [.ref p, vt l, .int k] ∧ SqT K H p [vt (f :: L), .int d] ∧ (f :: L).length ≤ 100 ∧ d ≤ 6 ∧ l.length ≤ 1000 ∧ k ≤ l.length ∧
  ∀ D, H D = none → Q (.ref D) (upd H D (.lst ((List.range (d + 1)).map fun j => vt ((eldL f d l k).take j))))
theorem ok_path_knots (T : Txt K mg t) : FnOk P w K mg base (CX1 P w) 2 t.a_path_knots t.fd_path_knots ["frame", "text", "at"] (spPath K) := by
  refine T.F_path_knots.okn (k := 1) sc_path_knots (fun vs H Q E h => ?_) (fun cdv A outer s H vs Q E hr h => ?_)
  · obtain ⟨p, f, L, d, k, l, rfl, _⟩ := h; rfl
  obtain ⟨p, f, L, d, k, l, rfl, hF, hL, hd, hl, hk, q⟩ := h
  have G_elders_at := ok_elders_at (P := P) (w := w) (base := base) T
  refine ⟨_, (pss_cons (ps_set (i := 3) sc_path_knots.nd rfl (Or.inr rfl) (pe_call G_elders_at hr rfl T.m_elders_at T.F_elders_at.kp T.b_elders_at .nil pass1 (PAs.h (pas_cons (pv 0) (pas_cons (pv 1) (pas_cons (pv 2) pas_nil))))))
    (pss_one (ps_ret (pe_lc (compSc_of (N := ["size", "path"]) (cap := [none, some 3]) (by kernel_rfl)) rfl (pi_range1 rfl T.m_range (pa_cons (pe_op oAddN (pe_callB call_len rfl T.m_len bt_len (pa_cons (pv 3) pa_nil)) pe_int) pa_nil)) ⟨fun _ => (pg_name (i := 0) (show List.Nodup (["size", "path"] : List Str) by decide +kernel) rfl (Or.inl rfl)), fun _ => pf_nil, fun _ => (pe_slice slAny (pv 1) po_none (po_some (pv 0)))⟩)))), ?_⟩
  refine ⟨_, rfl, _, rfl, _, rfl, p, f, L, d, k, l, rfl, hF, hL, hd, hl, hk, ?_⟩
  have hz := eldL_len f d l k
  generalize eldL f d l k = path at *
  have zp : path.length ≤ sizeLine := by rw [sizeLine_eq]; omega
  repeat array_get_dec
  refine ⟨by omega, by omega, fun D hD cp => ?_⟩
  refine lc_vals walk_range (caps := [some (vt path)]) (fun j v => v = vt (path.take j)) (fun _ => trivial) (by unfold upto; rw [List.length_map, List.length_range, sizeLine_eq]; omega) ?_ ?_
  · intro j x ys C hx hC
    have hj : j < (path.length + 1 : Nat) := by
      have := (List.getElem?_eq_some_iff.mp hx).1
      unfold upto at this; rw [List.length_map, List.length_range] at this; omega
    obtain rfl : x = .int (j : Int) := by
      unfold upto at hx
      rw [List.getElem?_map, List.getElem?_range (by omega)] at hx
      have : x = V.int (0 + (j : Int)) := (Option.some.inj hx).symm
      rw [Int.zero_add] at this; exact this
    refine ⟨_, rfl, _, rfl, _, rfl, .inr (cutT zp ?_)⟩
    rw [cut_to]
    exact hC _ rfl
  · intro ys hy hR
    have e : ys = (List.range (d + 1)).map fun j => vt (path.take j) := by
      unfold upto at hy
      rw [List.length_map, List.length_range] at hy
      refine List.ext_getElem? fun j => ?_
      rw [List.getElem?_map]
      by_cases hj : j < d + 1
      · rw [List.getElem?_range hj, List.getElem?_eq_getElem (by omega)]
        exact congrArg some (hR j _ (List.getElem?_eq_getElem (by omega)))
      · rw [List.getElem?_eq_none (by omega), List.getElem?_eq_none (by rw [List.length_range]; omega)]; rfl
    rw [e]; exact q D hD
theorem ivs_rep (m : Nat) : (List.replicate m [V.int 0]).flatten = ivs (List.replicate m 0) := by
  unfold ivs
  rw [List.map_replicate, List.map_replicate]
  induction m with
  | zero => rfl
  | succ m ih => rw [List.replicate_succ, List.flatten_cons, ih, List.replicate_succ]; rfl
def spNoC (K : PySem.W.Frag) : Sp := fun vs H Q _ => ∃ (p : Addr) (L : List Nat) (d : V), vs = [.ref p] ∧ SqT K H p [vt L, d] ∧ L.length ≤ 100 ∧ ∀ r H', Same H H' → H r = none → H' r = some (.lst (ivs (List.replicate L.length 0))) → Q (.ref r) H'
theorem ok_no_counts (T : Txt K mg t) : FnOk P w K mg base (CX1 P w) 1 t.a_no_counts t.fd_no_counts ["frame"] (spNoC K) := by
  refine T.F_no_counts.okn (k := 0) sc_no_counts (fun vs H Q E h => ?_) (fun cdv A outer s H vs Q E hr h => ?_)
  · obtain ⟨p, L, d, rfl, _⟩ := h; rfl
  obtain ⟨p, L, d, rfl, hF, hL, q⟩ := h
  have zL : L.length ≤ sizeLine := by rw [sizeLine_eq]; omega
  refine ⟨_, (pss_one (ps_ret (pe_op oMulN (pe_lst (pa_cons pe_int pa_nil)) (pe_callB call_len rfl T.m_len bt_len (pa_cons (pe_ix ixAny (pv 0) pe_int (fun _ _ => rfl)) pa_nil))))), ?_⟩
  refine ⟨by show 1 ≤ sizeLine; decide, fun l1 hl1 => ?_⟩
  repeat array_get_dec
  refine .inr (.inr ⟨l1, _, _, rfl, rfl, upd_same, by omega, by omega, by rw [sizeLine_eq, Int.toNat_natCast]; show 1 * L.length ≤ _; omega, fun l hl => ?_⟩)
  rw [Int.toNat_natCast, ivs_rep]
  exact q l _ (by array_mem_dec) ((same_new hl1 _).free hl) upd_same
/-! ### the table of counts -/
def key (kn : List Nat) : Key := Sum.inr (tx kn)
theorem key_inj {a b : List Nat} (h : key a = key b) : a = b := tx_inj (Sum.inr.inj h)
/-- the table holds, of each knot, the counts of its first m kn places -/
structure Tab (L : List Nat) (f d : Nat) (l : List Nat) (H : Hp) (kvs : List (Key × V)) (m : List Nat → Nat) : Prop where
  non : ∀ kn, valV kvs (key kn) = none → seen f d l kn (m kn) = false
  som : ∀ kn v, valV kvs (key kn) = some v → ∃ p, v = .ref p ∧ H p = some (.lst (ivs (cntL L f d l kn (m kn)))) ∧ seen f d l kn (m kn) = true
  one : ∀ a b p, valV kvs (key a) = some (.ref p) → valV kvs (key b) = some (.ref p) → a = b
theorem Tab.congr {L : List Nat} {f d : Nat} {l : List Nat} {H : Hp} {kvs : List (Key × V)} {m m' : List Nat → Nat} (h : Tab L f d l H kvs m) (e : ∀ kn, cntL L f d l kn (m' kn) = cntL L f d l kn (m kn) ∧ seen f d l kn (m' kn) = seen f d l kn (m kn)) : Tab L f d l H kvs m' :=
  ⟨fun kn z => by rw [(e kn).2]; exact h.non kn z, fun kn v z => by rw [(e kn).1, (e kn).2]; exact h.som kn v z, h.one⟩
theorem Tab.same {L : List Nat} {f d : Nat} {l : List Nat} {H H' : Hp} {kvs : List (Key × V)} {m : List Nat → Nat} (h : Tab L f d l H kvs m) (g : Same H H') : Tab L f d l H' kvs m :=
  ⟨h.non, fun kn v z => by obtain ⟨p, e, a, b⟩ := h.som kn v z; exact ⟨p, e, g _ _ a, b⟩, h.one⟩
/-- table[knot][letters.index(sign)] += 1 -/
theorem aug_tail {D : Ends} {H : Hp} {p tb r : Addr} {l L cs : List Nat} {n i c v : Nat} {kn : List Nat} {kvs : List (Key × V)} (e : H tb = some (.dK kvs)) (ev : valV kvs (key kn) = some (.ref r)) (er : H r = some (.lst (ivs cs))) (hc : c ∈ L) (hi : ∀ j : Nat, L[j]? = some c → j = i) (hv : cs[i]? = some v)
    (q : D.nx [some (.ref p), some (vt l), some (vt L), some (.ref tb), some (.int (n : Int)), some (vt [c]), some (vt kn)] (upd H r (.lst (ivs (cs.set i (v + 1)))))) :
    tAugS (tDGet (tVar 3) (tVar 6)) (tBM K "str" rIndex (tVar 2) (tCons (tVar 5) tNil)) (tC (.int 1)) (rGetL K) (fun x y H Q => rI0 (fun i j => V.int (i + j)) x y H Q ∨ rCatX x y H Q) rSetL D
      [some (.ref p), some (vt l), some (vt L), some (.ref tb), some (.int (n : Int)), some (vt [c]), some (vt kn)] H := by
  have hil : i < cs.length := (List.getElem?_eq_some_iff.mp hv).1
  refine ⟨_, rfl, _, rfl, tb, .ref r, rfl, by rw [← ev]; exact DGet.k (k := key kn) e, ?_⟩
  refine ⟨_, rfl, rfl, _, rfl, L, c, rfl, rfl, hc, fun j hj => ?_⟩
  obtain rfl := hi j hj
  refine ⟨r, _, _, _, rfl, rfl, SqL.of er, by omega, atI_nat (by rw [ivs_get, hv]; rfl), ?_⟩
  refine .inl ⟨_, _, rfl, rfl, ?_⟩
  refine ⟨r, _, _, j, rfl, rfl, er, ?_, ?_⟩
  · unfold ixN; rw [if_pos (by omega), if_pos (by rw [ivs_len]; omega), Int.toNat_natCast]
  · show D.nx _ (upd H r (.lst ((ivs cs).set j (.int ((v : Int) + 1)))))
    rw [show ((v : Int) + 1) = ((v + 1 : Nat) : Int) by omega, ivs_set]; exact q
theorem at_uniq {L : List Nat} (h : L.Nodup) {i j c : Nat} (hi : L[i]? = some c) (hj : L[j]? = some c) : j = i := by
  obtain ⟨h1, e1⟩ := List.getElem?_eq_some_iff.mp hi
  obtain ⟨h2, e2⟩ := List.getElem?_eq_some_iff.mp hj
  exact (List.getElem_inj h).mp (e2.trans e1.symm)
def spTable (K : PySem.W.Frag) : Sp := fun vs H Q _ => ∃ (p : Addr) (f : Nat) (L : List Nat) (d : Nat) (l : List Nat), vs = [.ref p, vt l] ∧ SqT K H p [vt (f :: L), .int d] ∧ (f :: L).Nodup ∧ (f :: L).length ≤ 100 ∧ d ≤ 6 ∧ l.length ≤ 1000 ∧ (∀ c ∈ l, c ∈ f :: L) ∧
  ∀ tb H' kvs, Same H H' → H tb = none → H' tb = some (.dK kvs) → (∀ kn q, valV kvs (key kn) = some (.ref q) → H q = none) → Tab (f :: L) f d l H' kvs (fun _ => l.length) → Q (.ref tb) H'
theorem ok_count_table (T : Txt K mg t) : FnOk P w K mg base (CX1 P w) 3 t.a_count_table t.fd_count_table ["frame", "text"] (spTable K) := by
  refine T.F_count_table.okn (k := 2) sc_count_table (fun vs H Q E h => ?_) (fun cdv A outer s H vs Q E hr h => ?_)
  · obtain ⟨p, f, L, d, l, rfl, _⟩ := h; rfl
  obtain ⟨p, f, L, d, l, rfl, hF, hnd, hL, hd, hl, hall, q⟩ := h
  have G_path_knots := ok_path_knots (P := P) (w := w) (base := base) T
  have G_no_counts := (ok_no_counts (P := P) (w := w) (base := base) T).mono (show 1 ≤ 2 by decide)
  refine ⟨_, (pss_cons (ps_set (i := 2) sc_count_table.nd rfl (Or.inl rfl) (pe_ix ixAny (pv 0) pe_int (fun _ _ => rfl)))
    (pss_cons (ps_set (i := 3) sc_count_table.nd rfl (Or.inl rfl) pe_dnewK)
    (pss_cons (ps_for PassesOwn.never rfl (pi_enum rfl T.m_enumerate bt_enumerate (pv 1)) (pg_tup rfl (pgs_cons (pg_name (i := 4) sc_count_table.nd rfl (Or.inl rfl)) (pgs_cons (pg_name (i := 5) sc_count_table.nd rfl (Or.inl rfl)) pgs_nil))) (pss_one (ps_for PassesOwn.never rfl (piAny (pe_call G_path_knots hr rfl T.m_path_knots T.F_path_knots.kp T.b_path_knots .nil pass1 (PAs.h (pas_cons (pv 0) (pas_cons (pv 1) (pas_cons (pv 4) pas_nil)))))) (pg_name (i := 6) sc_count_table.nd rfl (Or.inl rfl)) (pss_cons (ps_if (pt_cmp (pc_dnotin (hu_of hr) (pv 6) (pv 3))) (pss_one (ps_dput (hu_of hr) (pv 3) (pv 6) (pe_call G_no_counts hr rfl T.m_no_counts T.F_no_counts.kp T.b_no_counts .nil pass1 (pa_cons (pv 0) pa_nil)) rfl)) pss_nil)
    (pss_one (ps_augS (pe_dget (hu_of hr) (pv 3) (pv 6) (fun _ _ => rfl)) (pe_bm PySem.F.plainAttrs_str PySem.F.slot_str_index PySem.F.type_str_index mt_index (pv 2) (pa_cons (pv 5) pa_nil)) get_list pe_int ipAdd set_list))))))
    (pss_one (ps_ret (pv 3)))))), ?_⟩
  repeat array_get_dec
  refine fun tb htb => ?_
  refine ⟨_, rfl, l, rfl, ?_⟩
  refine for_enum (fun n σ H' => ∃ (kvs : List (Key × V)) (r1 r2 r3 : Option V), σ = [some (.ref p), some (vt l), some (vt (f :: L)), some (.ref tb), r1, r2, r3] ∧ Same H H' ∧ H' tb = some (.dK kvs) ∧ kvs.length ≤ 7 * n ∧ (∀ kn q, valV kvs (key kn) = some (.ref q) → H q = none) ∧ Tab (f :: L) f d l H' kvs (fun _ => n))
    ⟨[], _, _, _, rfl, same_new htb _, upd_same, Nat.le_refl _, fun kn q z => (by rw [valV_nil] at z; cases z), ⟨fun kn _ => rfl, fun kn v z => (by rw [valV_nil] at z; cases z), fun a b p z => (by rw [valV_nil] at z; cases z)⟩⟩ ?_ ?_
  · rintro n c _ H1 pt hc ⟨kvs, r1, r2, r3, rfl, g1, e1, hk1, hn1, tab⟩ hpt
    have hn : n < l.length := (List.getElem?_eq_some_iff.mp hc).1
    have g2 : Same H (upd H1 pt (.tup [.int (n : Int), vt [c]])) := by array_mem_dec
    have e2 : upd H1 pt (.tup [.int (n : Int), vt [c]]) tb = some (.dK kvs) := by array_mem_dec
    have tab2 := tab.same (same_new hpt (.tup [.int (n : Int), vt [c]]))
    generalize upd H1 pt (.tup [.int (n : Int), vt [c]]) = H2 at g2 e2 tab2 ⊢
    clear tab e1 g1 hpt
    refine ⟨_, rfl, _, rfl, _, rfl, p, f, L, d, n, l, rfl, same_tup g2 hF, hL, hd, hl, by omega, fun D hD => ?_⟩
    have hz := eldL_len f d l n
    have hfal : ∀ j, j ≤ d → falls f d l ((eldL f d l n).take j) n = true := fun j hj => by
      unfold falls
      rw [List.length_take, hz, Nat.min_eq_left hj]; exact decide_eq_true rfl
    have hfl : ∀ kn, falls f d l kn n = true → ∃ j, j ≤ d ∧ kn = (eldL f d l n).take j ∧ kn.length = j := fun kn h => by
      have e := of_decide_eq_true h
      have hl2 : kn.length ≤ d := by have := congrArg List.length e; rw [List.length_take, hz] at this; omega
      exact ⟨kn.length, hl2, e.symm, rfl⟩
    generalize hpa : eldL f d l n = path at hz hfal hfl ⊢
    have cL : c ∈ f :: L := hall c (List.mem_of_getElem? hc)
    obtain ⟨ci, hci⟩ := List.getElem?_of_mem cL
    have hnq : ∀ kn q, valV kvs (key kn) = some (.ref q) → H q = none ∧ q ≠ D := fun kn q z => ⟨hn1 kn q z, fun y => by
      obtain ⟨q', e, a, _⟩ := tab2.som kn _ z
      cases e
      rw [y, hD] at a; cases a⟩
    refine .inl ⟨D, _, rfl, SqL.of upd_same, ?_⟩
    have g3 : Same H (upd H2 D (.lst ((List.range (d + 1)).map fun j => vt (path.take j)))) := by array_mem_dec
    have e3 : upd H2 D (.lst ((List.range (d + 1)).map fun j => vt (path.take j))) tb = some (.dK kvs) := by array_mem_dec
    have eD3 : upd H2 D (.lst ((List.range (d + 1)).map fun j => vt (path.take j))) D = some (.lst ((List.range (d + 1)).map fun j => vt (path.take j))) := upd_same
    have tab3 := tab2.same (same_new hD (.lst ((List.range (d + 1)).map fun j => vt (path.take j))))
    generalize upd H2 D (.lst ((List.range (d + 1)).map fun j => vt (path.take j))) = H3 at g3 e3 eD3 tab3 ⊢
    clear hD tab2 e2 g2 hn1
    refine for_walk walk_list (fun j σ H' => ∃ (kvs : List (Key × V)) (r3 : Option V), σ = [some (.ref p), some (vt l), some (vt (f :: L)), some (.ref tb), some (.int (n : Int)), some (vt [c]), r3] ∧ Same H H' ∧ H' tb = some (.dK kvs) ∧ H' D = some (.lst ((List.range (d + 1)).map fun j => vt (path.take j))) ∧ kvs.length ≤ 7 * n + j ∧ (∀ kn q, valV kvs (key kn) = some (.ref q) → H q = none ∧ q ≠ D) ∧ Tab (f :: L) f d l H' kvs (fun kn => if falls f d l kn n = true ∧ kn.length < j then n + 1 else n))
      ⟨kvs, _, rfl, g3, e3, eD3, hk1, hnq, tab3.congr fun kn => by rw [if_neg (fun z => absurd z.2 (Nat.not_lt_zero _))]; exact ⟨rfl, rfl⟩⟩ (fun i σ H' _ ⟨_, _, _, _, _, e, _⟩ => SqL.of e) ?_ ?_
    · rintro j x _ H4 hx ⟨kvs, r3, rfl, g4, e4, eD4, hk4, hn4, tab4⟩
      have hj : j < d + 1 := by have := (List.getElem?_eq_some_iff.mp hx).1; rw [List.length_map, List.length_range] at this; exact this
      obtain rfl : x = vt (path.take j) := by
        rw [List.getElem?_map, List.getElem?_range hj] at hx; exact (Option.some.inj hx).symm
      have kl : (path.take j).length = j := by rw [List.length_take]; omega
      have kf := hfal j (by omega)
      have km : (if falls f d l (path.take j) n = true ∧ (path.take j).length < j then n + 1 else n) = n := if_neg (fun z => by omega)
      have cy := cntL_yes (L := f :: L) hnd kf hci hc
      obtain ⟨v, hv, hcv⟩ := cy
      -- what holds behind the step
      have done : ∀ (H5 : Hp) (kvs5 : List (Key × V)) (r : Addr), Same H H5 → H5 tb = some (.dK kvs5) → H5 D = some (.lst ((List.range (d + 1)).map fun j => vt (path.take j))) → kvs5.length ≤ 7 * n + (j + 1) → H r = none → r ≠ D → r ≠ tb → valV kvs5 (key (path.take j)) = some (.ref r) →
          (∀ kn, kn ≠ path.take j → valV kvs5 (key kn) = valV kvs (key kn)) → (∀ kn, valV kvs (key kn) = some (.ref r) → kn = path.take j) → (∀ kn q, valV kvs (key kn) = some (.ref q) → H5 q = H4 q) →
          ∃ (kvs : List (Key × V)) (r3 : Option V), [some (.ref p), some (vt l), some (vt (f :: L)), some (.ref tb), some (.int (n : Int)), some (vt [c]), some (vt (path.take j))] = [some (.ref p), some (vt l), some (vt (f :: L)), some (.ref tb), some (.int (n : Int)), some (vt [c]), r3] ∧ Same H (upd H5 r (.lst (ivs ((cntL (f :: L) f d l (path.take j) n).set ci (v + 1))))) ∧ upd H5 r (.lst (ivs ((cntL (f :: L) f d l (path.take j) n).set ci (v + 1)))) tb = some (.dK kvs) ∧ upd H5 r (.lst (ivs ((cntL (f :: L) f d l (path.take j) n).set ci (v + 1)))) D = some (.lst ((List.range (d + 1)).map fun j => vt (path.take j))) ∧ kvs.length ≤ 7 * n + (j + 1) ∧ (∀ kn q, valV kvs (key kn) = some (.ref q) → H q = none ∧ q ≠ D) ∧ Tab (f :: L) f d l (upd H5 r (.lst (ivs ((cntL (f :: L) f d l (path.take j) n).set ci (v + 1))))) kvs (fun kn => if falls f d l kn n = true ∧ kn.length < j + 1 then n + 1 else n) := by
        intro H5 kvs5 r g5 e5 eD5 hk5 hrn hrD hrt hv5 hoth huniq hold
        refine ⟨kvs5, _, rfl, over_same hrn g5, by rw [upd_ne (Ne.symm hrt)]; exact e5, by rw [upd_ne (Ne.symm hrD)]; exact eD5, hk5, fun kn q z => ?_, ?_, ?_, ?_⟩
        · by_cases h : kn = path.take j
          · subst h; rw [hv5] at z; cases z; exact ⟨hrn, hrD⟩
          · rw [hoth kn h] at z; exact hn4 kn q z
        · intro kn z
          by_cases h : kn = path.take j
          · subst h; rw [hv5] at z; cases z
          · rw [hoth kn h] at z
            have := tab4.non kn z
            by_cases hf : falls f d l kn n = true ∧ kn.length < j + 1
            · have hne : ¬ kn.length = j := fun y => h (by
                obtain ⟨j', _, e', el'⟩ := hfl kn hf.1
                rw [e', show j' = j by omega])
              have hf' : falls f d l kn n = true ∧ kn.length < j := ⟨hf.1, by omega⟩
              rw [if_pos hf]; rw [if_pos hf'] at this; exact this
            · have hf' : ¬ (falls f d l kn n = true ∧ kn.length < j) := fun y => hf ⟨y.1, by omega⟩
              rw [if_neg hf]; rw [if_neg hf'] at this; exact this
        · intro kn u z
          by_cases h : kn = path.take j
          · subst h
            rw [hv5] at z; cases z
            rw [if_pos ⟨kf, by omega⟩, hcv]
            exact ⟨r, rfl, upd_same, seen_yes kf⟩
          · rw [hoth kn h] at z
            obtain ⟨q', e', a', b'⟩ := tab4.som kn u z
            have hqr : q' ≠ r := fun y => h (huniq kn (by rw [z, e', y]))
            have a'' : H5 q' = some (.lst (ivs (cntL (f :: L) f d l kn (if falls f d l kn n = true ∧ kn.length < j then n + 1 else n)))) := by rw [hold kn q' (by rw [z, e'])]; exact a'
            refine ⟨q', e', ?_⟩
            rw [upd_ne hqr]
            by_cases hf : falls f d l kn n = true ∧ kn.length < j + 1
            · have hne : ¬ kn.length = j := fun y => h (by
                obtain ⟨j', _, e', el'⟩ := hfl kn hf.1
                rw [e', show j' = j by omega])
              have hf' : falls f d l kn n = true ∧ kn.length < j := ⟨hf.1, by omega⟩
              rw [if_pos hf]; rw [if_pos hf'] at a'' b'; exact ⟨a'', b'⟩
            · have hf' : ¬ (falls f d l kn n = true ∧ kn.length < j) := fun y => hf ⟨y.1, by omega⟩
              rw [if_neg hf]; rw [if_neg hf'] at a'' b'; exact ⟨a'', b'⟩
        · intro a b q' za zb
          by_cases ha : a = path.take j
          · by_cases hb : b = path.take j
            · rw [ha, hb]
            · subst ha
              rw [hv5] at za; cases za
              rw [hoth b hb] at zb
              exact absurd (huniq b zb) hb
          · by_cases hb : b = path.take j
            · subst hb
              rw [hv5] at zb; cases zb
              rw [hoth a ha] at za
              exact absurd (huniq a za) ha
            · rw [hoth a ha] at za
              rw [hoth b hb] at zb
              exact tab4.one a b q' za zb
      refine ⟨_, rfl, _, rfl, tb, valV kvs (key (path.take j)), rfl, DGet.k (k := key (path.take j)) e4, ?_⟩
      cases hvk : valV kvs (key (path.take j)) with
      | some u =>
        obtain ⟨r, rfl, er, _⟩ := tab4.som _ _ hvk
        rw [km] at er
        obtain ⟨hrn, hrD⟩ := hn4 _ _ hvk
        have hrt : r ≠ tb := ne_of er e4 (fun z => by cases z)
        refine ⟨_, rfl, ?_⟩
        refine iteF ?_
        refine aug_tail e4 hvk er cL (fun j' h' => at_uniq hnd hci h') hv ?_
        exact done H4 kvs r g4 e4 eD4 (by omega) hrn hrD hrt hvk (fun _ _ => rfl) (fun kn z => tab4.one _ _ r z hvk) (fun _ _ _ => rfl)
      | none =>
        refine ⟨_, rfl, ?_⟩
        refine iteT ?_
        have us := tab4.non _ hvk
        rw [km] at us
        refine ⟨_, rfl, p, f :: L, _, rfl, same_tup g4 hF, hL, fun r H5 g5 hr4 er => ?_⟩
        have hrn : H r = none := g4.free hr4
        have hrD : r ≠ D := fun z => by rw [z, eD4] at hr4; cases hr4
        have hrt : r ≠ tb := fun z => by rw [z, e4] at hr4; cases hr4
        rw [← cntL_zero us] at er
        refine ⟨_, rfl, _, rfl, tb, _, rfl, DPut.k (k := key (path.take j)) (g5 _ _ e4) (by rw [sizeLine_eq]; omega), ?_⟩
        refine aug_tail (kvs := putK kvs (key (path.take j)) (.ref r)) upd_same (by rw [valV_put, if_pos rfl]) (by rw [upd_ne hrt]; exact er) cL (fun j' h' => at_uniq hnd hci h') hv ?_
        refine done _ (putK kvs (key (path.take j)) (.ref r)) r (over_same htb (g4.trans g5)) upd_same (by rw [upd_ne (fun z => by rw [z, e4] at eD4; cases eD4)]; exact g5 _ _ eD4) (by have := length_putK kvs (key (path.take j)) (.ref r); omega) hrn hrD hrt (by rw [valV_put, if_pos rfl]) (fun kn h => by rw [valV_put, if_neg (fun z => h (key_inj z))]) (fun kn z => ?_) (fun kn q' z => ?_)
        · obtain ⟨q', e', a', _⟩ := tab4.som kn _ z
          cases e'
          rw [hr4] at a'; cases a'
        · obtain ⟨q2, e', a', _⟩ := tab4.som kn _ z
          cases e'
          rw [upd_ne (ne_of a' e4 (fun z => by cases z)), g5 _ _ a', a']
    · rintro _ H4 ⟨kvs, r3, rfl, g4, e4, eD4, hk4, hn4, tab4⟩
      rw [List.length_map, List.length_range] at hk4 tab4
      refine ⟨kvs, _, _, _, rfl, g4, e4, by omega, fun kn q' z => (hn4 kn q' z).1, tab4.congr fun kn => ?_⟩
      cases hf : falls f d l kn n with
      | true =>
        obtain ⟨j', h1, _, h2⟩ := hfl kn hf
        rw [if_pos ⟨rfl, by omega⟩]; exact ⟨rfl, rfl⟩
      | false =>
        rw [if_neg (fun z => by cases z.1)]
        exact ⟨cntL_no hf, seen_no hf⟩
  · rintro _ H1 ⟨kvs, r1, r2, r3, rfl, g1, e1, hk1, hn1, tab⟩
    exact ⟨_, rfl, q tb H1 kvs g1 htb e1 hn1 tab⟩

/-! ### shapes: what a tree is asked of a thing -/
inductive Sh where
  | non | oth | tup (bs : List Sh)
/-- a thing that is neither None nor a tuple -/
inductive Oth (K : PySem.W.Frag) (H : Hp) : V → Prop where
  | bl (b : Bool) : Oth K H (.bl b)
  | int (n : Int) : Oth K H (.int n)
  | str (z : Str) : Oth K H (.str z)
  | lst {a : Addr} {xs : List V} (e : H a = some (.lst xs)) : Oth K H (.ref a)
  | dK {a : Addr} {kvs : List (Key × V)} (e : H a = some (.dK kvs)) : Oth K H (.ref a)
theorem Oth.same {H H' : Hp} {x : V} (h : Oth K H x) (g : Same H H') : Oth K H' x := by
  cases h with
  | bl b => exact .bl b
  | int n => exact .int n
  | str z => exact .str z
  | lst e => exact .lst (g _ _ e)
  | dK e => exact .dK (g _ _ e)
theorem Oth.ne {H : Hp} {x : V} (h : Oth K H x) : decide (x = .non) = false := by cases h <;> exact decide_eq_false (fun z => nomatch z)
theorem kitsT (K : PySem.W.Frag) : PySem.W.kitOne K (.type "bool") (.type "tuple") = some false ∧ PySem.W.kitOne K (.type "int") (.type "tuple") = some false ∧ PySem.W.kitOne K (.type "str") (.type "tuple") = some false ∧
    PySem.W.kitOne K (.type "list") (.type "tuple") = some false ∧ PySem.W.kitOne K (.type "dict") (.type "tuple") = some false := by
  unfold PySem.W.kitOne PySem.W.kitCls PySem.W.subIn
  refine ⟨?_, ?_, ?_, ?_, ?_⟩ <;> kernel_rfl
theorem Oth.kit {H : Hp} {x : V} (h : Oth K H x) : ∃ ty, TyOf K H x ty ∧ PySem.W.kitOne K ty (.type "tuple") = some false := by
  obtain ⟨b1, i1, s1, l1, d1⟩ := kitsT K
  cases h with
  | bl b => exact ⟨_, .bl b, b1⟩
  | int n => exact ⟨_, .int n, i1⟩
  | str z => exact ⟨_, .str z, s1⟩
  | lst e => exact ⟨_, .lst e, l1⟩
  | dK e => exact ⟨_, .dK e, d1⟩
inductive ShAt (K : PySem.W.Frag) (H : Hp) : V → Sh → Prop where
  | non : ShAt K H .non .non
  | oth {x : V} (h : Oth K H x) : ShAt K H x .oth
  | tup {a : Addr} {vs : List V} {bs : List Sh} (e : H a = some (.tup vs)) (hl : vs.length = bs.length) (h : ∀ (i : Nat) v b, vs[i]? = some v → bs[i]? = some b → ShAt K H v b) : ShAt K H (.ref a) (.tup bs)
theorem ShAt.same {H H' : Hp} {x : V} {τ : Sh} (h : ShAt K H x τ) (g : Same H H') : ShAt K H' x τ := by
  induction h with
  | non => exact .non
  | oth h => exact .oth (h.same g)
  | tup e hl _ ih => exact .tup (g _ _ e) hl ih
def isTr (m : Nat) : Nat → Sh → Bool
  | _, .non => true
  | _, .oth => false
  | 0, .tup _ => false
  | n + 1, .tup bs => decide (bs.length = m) && bs.all (isTr m n)
def spTreeOf (K : PySem.W.Frag) (n : Nat) : Sp := fun vs H Q _ => ∃ (L : List Nat) (x : V) (τ : Sh), vs = [vt L, x, .int n] ∧ L.length ≤ 100 ∧ ShAt K H x τ ∧ ∀ H', Same H H' → Q (.bl (isTr L.length n τ)) H'
theorem ok_none {k : Nat} {f : Addr} {fd : FuncData} {ps : List Str} : FnOk P w K mg base (CX1 P w) k f fd ps (fun _ _ _ _ => False) := ⟨fun _ _ _ _ h => h.elim, fun _ _ _ _ _ _ _ _ _ _ _ _ _ h => h.elim⟩
theorem tree_of_step (T : Txt K mg t) (n : Nat) (sp : Sp) (hsp : ∀ k, n = k + 1 → sp = spTreeOf K k) (G_is_tree_of : FnOk P w K mg base (CX1 P w) n t.a_is_tree_of t.fd_is_tree_of ["letters", "thing", "steps"] sp) :
    FnOk P w K mg base (CX1 P w) (n + 1) t.a_is_tree_of t.fd_is_tree_of ["letters", "thing", "steps"] (spTreeOf K n) := by
  refine T.F_is_tree_of.okn (k := n) sc_is_tree_of (fun vs H Q E h => ?_) (fun cdv A outer s H vs Q E hr h => ?_)
  · obtain ⟨L, x, τ, rfl, _⟩ := h; rfl
  obtain ⟨L, x, τ, rfl, hL, hx, q⟩ := h
  have zL : L.length ≤ sizeLine := by rw [sizeLine_eq]; omega
  refine ⟨_, (pss_cons (ps_if (pt_cmp (pc_isN (pv 1))) (pss_one (ps_ret pe_bl)) pss_nil)
    (pss_cons (ps_if (PW.pt (pw_or (pt_cmpR (oEqA (hr.units0)) (pv 2) pe_int (nomark _)) (pw_or (pt_not (pt_val (pe_callB isiAny rfl T.m_isinstance bt_isinstance (PAs.h (pas_cons (pv 1) (pas_cons (pe_bltn (v := .ty "tuple") rfl T.m_tuple bt_tuple rfl) pas_nil)))))) (pw_or1 (pt_cmpR (oNeN (hr.units0)) (pe_callB call_len rfl T.m_len bt_len (pa_cons (pv 1) pa_nil)) (pe_callB call_len rfl T.m_len bt_len (pa_cons (pv 0) pa_nil)) (nomark _)))))) (pss_one (ps_ret pe_bl)) pss_nil)
    (pss_one (ps_ret (pe_callB (callAll rfl) rfl T.m_all bt_all (pa_cons (pe_lc (compSc_of (N := ["branch", "letters", "steps"]) (cap := [none, some 0, some 2]) (by kernel_rfl)) rfl (piAny (pv 1)) ⟨fun _ => (pg_name (i := 0) (show List.Nodup (["branch", "letters", "steps"] : List Str) by decide +kernel) rfl (Or.inl rfl)), fun _ => pf_nil, fun _ => (pe_call G_is_tree_of hr rfl T.m_is_tree_of T.F_is_tree_of.kp T.b_is_tree_of .nil pass1 (PAs.h (pas_cons (pv 1) (pas_cons (pv 0) (pas_cons (pe_op op_sub (pv 2) pe_int) pas_nil)))))⟩) pa_nil)))))), ?_⟩
  cases hx with
  | non =>
    refine ⟨_, rfl, _, rfl, iteT ?_⟩
    have : isTr L.length n Sh.non = true := by cases n <;> rfl
    rw [this] at q
    exact q H (Same.refl H)
  | oth h =>
    obtain ⟨ty, hty, ek⟩ := h.kit
    refine ⟨_, rfl, _, rfl, ?_⟩
    rw [h.ne]
    refine iteF ?_
    have hb : isTr L.length n Sh.oth = false := by cases n <;> rfl
    rw [hb] at q
    repeat array_get_dec
    refine if2 (fun _ => q H (Same.refl H)) (fun _ => ?_)
    exact ⟨_, rfl, .inl ⟨x, ty, _, false, rfl, hty, ek, false, rfl, iteT (q H (Same.refl H))⟩⟩
  | tup e hl h =>
    rename_i a vs bs
    refine ⟨_, rfl, _, rfl, iteF ?_⟩
    repeat array_get_dec
    refine if2 (fun z => ?_) (fun z => ?_)
    · have : n = 0 := by have := V.int.inj z; omega
      subst this
      exact q H (Same.refl H)
    obtain ⟨k, rfl⟩ : ∃ k, n = k + 1 := ⟨n - 1, by cases n with | zero => exact absurd rfl z | succ n => rfl⟩
    have hs := hsp k rfl
    subst hs
    refine ⟨_, rfl, .inl ⟨_, _, _, true, rfl, .tup e, kit_same K _, true, rfl, iteF ?_⟩⟩
    repeat array_get_dec
    try dsimp (config := { proj := false, eta := false, zeta := false, iota := false }) only [tNil, tC]
    refine ifn2 (fun z2 => ?_) (fun z2 => ?_)
    · have : isTr L.length (k + 1) (Sh.tup bs) = false := by
        show (decide (bs.length = L.length) && _) = false
        rw [decide_eq_false (fun e => z2 (congrArg (fun (n : Nat) => V.int (n : Int)) (hl.trans e))), Bool.false_and]
      rw [this] at q
      exact q H (Same.refl H)
    have hbl : bs.length = L.length := by
      have := V.int.inj z2
      omega
    have hq : isTr L.length (k + 1) (Sh.tup bs) = bs.all (isTr L.length k) := by
      show (decide (bs.length = L.length) && _) = _
      rw [decide_eq_true hbl, Bool.true_and]
    rw [hq] at q
    refine ⟨_, rfl, .inr (.inl ⟨_, _, rfl, .inl (.inl e), fun D hD c => ?_⟩)⟩
    refine lc_grow walk_tup hD (fun _ j v => ∀ b, bs[j]? = some b → v = .bl (isTr L.length k b)) (fun _ _ _ _ _ h => h) (fun H1 s1 => .inl (.inl (s1 _ _ e))) (by rw [sizeLine_eq]; omega) ?_ ?_
    · intro i x H1 ys C hx s1 _ hC
      have hi := (List.getElem?_eq_some_iff.mp hx).1
      have hb := List.getElem?_eq_getElem (show i < bs.length by omega)
      refine ⟨_, rfl, _, rfl, _, rfl, _, _, rfl, rfl, ?_⟩
      refine ⟨L, x, bs[i], ?_, hL, (h i x _ hx hb).same s1, fun H' s' => hC H' _ s' (fun b hb' => ?_)⟩
      · show [vt L, x, V.int (((k + 1 : Nat) : Int) - 1)] = _
        rw [show (((k + 1 : Nat) : Int) - 1) = (k : Int) by omega]
      · rw [hb] at hb'; cases hb'; rfl
    · intro H1 ys s1 hy hn hv
      have : ys = (bs.map (isTr L.length k)).map V.bl := by
        refine List.ext_getElem? fun j => ?_
        rw [List.getElem?_map, List.getElem?_map]
        cases z : bs[j]? with
        | none =>
          rw [List.getElem?_eq_none_iff] at z
          rw [List.getElem?_eq_none (by omega)]; rfl
        | some b =>
          have hj := (List.getElem?_eq_some_iff.mp z).1
          have := List.getElem?_eq_getElem (show j < ys.length by omega)
          rw [this, hv j _ this b z]; rfl
      subst this
      refine ⟨_, _, rfl, .inl (.inl hy), ?_⟩
      rw [List.all_map]
      exact q H1 s1
theorem ok_is_tree_of (T : Txt K mg t) : ∀ n, FnOk P w K mg base (CX1 P w) (n + 1) t.a_is_tree_of t.fd_is_tree_of ["letters", "thing", "steps"] (spTreeOf K n)
  | 0 => tree_of_step T 0 _ (fun _ h => nomatch h) ok_none
  | n + 1 => tree_of_step T (n + 1) _ (fun k h => by cases h; rfl) (ok_is_tree_of T n)

/-! ### is_tree -/
def spTreeAny (K : PySem.W.Frag) : Sp := fun vs H Q E => ∃ n, n ≤ 6 ∧ spTreeOf K n vs H Q E
theorem ok_tree_any (T : Txt K mg t) : FnOk P w K mg base (CX1 P w) 7 t.a_is_tree_of t.fd_is_tree_of ["letters", "thing", "steps"] (spTreeAny K) := by
  refine ⟨fun vs H Q E ⟨n, _, h⟩ => (ok_is_tree_of (P := P) (w := w) (base := base) T n).len vs H Q E h, fun A outer s H args us vs Q E hr h0 h1 h2 ⟨n, hn, h⟩ => ?_⟩
  exact ((ok_is_tree_of (P := P) (w := w) (base := base) T n).mono (show n + 1 ≤ 7 by omega)).run A outer s H args us vs Q E hr h0 h1 h2 h
def spIsTree (K : PySem.W.Frag) : Sp := fun vs H Q _ => ∃ (f : Addr) (L : List Nat) (d : Nat) (x : V) (τ : Sh), vs = [.ref f, x] ∧ SqT K H f [vt L, .int d] ∧ L.length ≤ 100 ∧ d ≤ 6 ∧ ShAt K H x τ ∧ ∀ H', Same H H' → Q (.bl (isTr L.length d τ)) H'
theorem ok_is_tree (T : Txt K mg t) : FnOk P w K mg base (CX1 P w) 8 t.a_is_tree t.fd_is_tree ["frame", "thing"] (spIsTree K) := by
  refine T.F_is_tree.okn (k := 7) sc_is_tree (fun vs H Q E h => ?_) (fun cdv A outer s H vs Q E hr h => ?_)
  · obtain ⟨f, L, d, x, τ, rfl, _⟩ := h; rfl
  obtain ⟨f, L, d, x, τ, rfl, hf, hL, hd, hx, q⟩ := h
  have G_is_tree_of := ok_tree_any (P := P) (w := w) (base := base) T
  refine ⟨_, (pss_one (ps_ret (pe_call G_is_tree_of hr rfl T.m_is_tree_of T.F_is_tree_of.kp T.b_is_tree_of .nil pass1 (PAs.h (pas_cons (pe_ix ixAny (pv 0) pe_int (fun _ _ => rfl)) (pas_cons (pv 1) (pas_cons (pe_ix ixAny (pv 0) pe_int (fun _ _ => rfl)) pas_nil))))))), ?_⟩
  refine ⟨_, rfl, ixT hf rfl ⟨_, rfl, _, rfl, ixT hf rfl ?_⟩⟩
  exact ⟨d, hd, L, x, τ, rfl, hL, hx, q⟩
/-! ### the same, by a pile -/
def EAt (K : PySem.W.Frag) (F : Hp) (r : V × Sh × Nat) : Prop := ∃ a v, r.1 = .ref a ∧ F a = some (.tup [v, .int r.2.2]) ∧ ShAt K F v r.2.1
theorem EAt.same {F F' : Hp} {r : V × Sh × Nat} (h : EAt K F r) (g : Same F F') : EAt K F' r := by
  obtain ⟨a, v, e, h1, h2⟩ := h
  exact ⟨a, v, e, g _ _ h1, h2.same g⟩
def wtP (M : Nat) (rs : List (V × Sh × Nat)) : Nat := (rs.map fun r => (M + 1) ^ r.2.2).sum
theorem wtP_app (M : Nat) (rs es : List (V × Sh × Nat)) : wtP M (rs ++ es) = wtP M rs + wtP M es := by
  unfold wtP; rw [List.map_append, List.sum_append]
theorem wtP_one (M : Nat) (r : V × Sh × Nat) : wtP M [r] = (M + 1) ^ r.2.2 := by
  unfold wtP; simp
theorem wtP_len (M : Nat) (rs : List (V × Sh × Nat)) : rs.length ≤ wtP M rs := by
  induction rs with
  | nil => exact Nat.le_refl _
  | cons r rs ih =>
    have e : wtP M (r :: rs) = (M + 1) ^ r.2.2 + wtP M rs := by unfold wtP; simp
    have := Nat.pow_pos (n := r.2.2) (show 0 < M + 1 by omega)
    rw [e, List.length_cons]; omega
theorem wtP_all (M l : Nat) (rs : List (V × Sh × Nat)) (h : ∀ r ∈ rs, r.2.2 = l) : wtP M rs = rs.length * (M + 1) ^ l := by
  induction rs with
  | nil => simp [wtP]
  | cons r rs ih =>
    have e : wtP M (r :: rs) = (M + 1) ^ r.2.2 + wtP M rs := by unfold wtP; simp
    rw [e, ih (fun r hr => h r (List.mem_cons_of_mem _ hr)), h r List.mem_cons_self, List.length_cons, Nat.add_mul, Nat.add_comm]; omega
theorem pow_7 {M d : Nat} (hM : M ≤ 6) (hd : d ≤ 6) : (M + 1) ^ d ≤ 117649 :=
  Nat.le_trans (Nat.pow_le_pow_left (show M + 1 ≤ 7 by omega) d) (Nat.le_trans (Nat.pow_le_pow_right (by decide) hd) (by decide))
def spLawIs (K : PySem.W.Frag) : Sp := fun vs H Q _ => ∃ (x : V) (τ : Sh) (M d : Nat), vs = [x, .int M, .int d] ∧ M ≤ 6 ∧ d ≤ 6 ∧ ShAt K H x τ ∧ ∀ H', Same H H' → Q (.bl (isTr M d τ)) H'
theorem ok_L_is (T : Txt K mg t) : FnOk P w K mg base (CX1 P w) 1 t.a_L_is t.fd_L_is ["thing", "many", "depth"] (spLawIs K) := by
  refine T.F_L_is.okn (k := 0) sc_L_is (fun vs H Q E h => ?_) (fun cdv A outer s H vs Q E hr h => ?_)
  · obtain ⟨x, τ, M, d, rfl, _⟩ := h; rfl
  obtain ⟨x, τ, M, d, rfl, hM, hd, hx, q⟩ := h
  refine ⟨_, (pss_cons (ps_set (i := 3) sc_L_is.nd rfl (Or.inl rfl) (pe_lst (pa_cons (pe_tup (PAs.h (pas_cons (pv 0) (pas_cons (pv 2) pas_nil)))) pa_nil)))
    (pss_cons (ps_while PassesOwn.never (pt_cmpR (oNeW (hr.units0)) (pv 3) (pe_lst pa_nil) (nomark _)) (pss_cons (ps_asg (pe_bm0 PySem.F.plainAttrs_list PySem.F.slot_list_pop PySem.F.type_list_pop mt_popL (pv 3)) (pg_tup rfl (pgs_cons (pg_name (i := 4) sc_L_is.nd rfl (Or.inl rfl)) (pgs_cons (pg_name (i := 5) sc_L_is.nd rfl (Or.inl rfl)) pgs_nil))))
    (pss_one (ps_if (pt_cmp (pc_notN (pv 4))) (pss_cons (ps_if (PW.pt (pw_or (pt_not (pt_val (pe_callB isiAny rfl T.m_isinstance bt_isinstance (PAs.h (pas_cons (pv 4) (pas_cons (pe_bltn (v := .ty "tuple") rfl T.m_tuple bt_tuple rfl) pas_nil)))))) (pw_or (pt_cmpR (oEqW (hr.units0)) (pv 5) pe_int (nomark _)) (pw_or1 (pt_cmpR (oNeW (hr.units0)) (pe_callB call_len rfl T.m_len bt_len (pa_cons (pv 4) pa_nil)) (pv 1) (nomark _)))))) (pss_one (ps_ret pe_bl)) pss_nil)
    (pss_one (ps_for PassesOwn.never rfl (piAny (pv 4)) (pg_name (i := 6) sc_L_is.nd rfl (Or.inl rfl)) (pss_one (ps_expr (pe_bm PySem.F.plainAttrs_list PySem.F.slot_list_append PySem.F.type_list_append mt_app (pv 3) (pa_cons (pe_tup (PAs.h (pas_cons (pv 6) (pas_cons (pe_op op_sub (pv 5) pe_int) pas_nil)))) pa_nil))))))) pss_nil))))
    (pss_one (ps_ret pe_bl)))), ?_⟩
  repeat array_get_dec
  refine ⟨by rw [sizeLine_eq]; show 2 ≤ _; decide, fun p0 h0 => ⟨by rw [sizeLine_eq]; show 1 ≤ _; decide, fun p hp => ?_⟩⟩
  have hB := pow_7 hM hd
  refine ⟨fun m σ H' => ∃ (F : Hp) (rs : List (V × Sh × Nat)) (r4 r5 r6 : Option V), σ = [some x, some (.int M), some (.int d), some (.ref p), r4, r5, r6] ∧ Same H F ∧ Same F H' ∧ F p = none ∧ H' p = some (.lst (rs.map (·.1))) ∧
    (∀ r ∈ rs, EAt K F r) ∧ m = wtP M rs ∧ wtP M rs ≤ (M + 1) ^ d ∧ isTr M d τ = rs.all (fun r => isTr M r.2.2 r.2.1), ⟨_, upd H p0 (.tup [x, .int d]), [(.ref p0, τ, d)], none, none, none, rfl, same_new h0 _, same_new hp _, hp, upd_same, ?_, rfl, ?_, ?_⟩, ?_⟩
  · intro r hr
    cases List.mem_singleton.mp hr
    exact ⟨p0, x, rfl, upd_same, hx.same (same_new h0 _)⟩
  · rw [wtP_one]; exact Nat.le_refl _
  · simp
  rintro m _ H' ⟨F, rs, r4, r5, r6, rfl, hF, hS, hFp, hH, hE, rfl, hw, ht⟩
  refine ⟨_, rfl, by rw [sizeLine_eq]; show 0 ≤ _; decide, fun b hb => ?_⟩
  refine .inr ⟨p, b, rs.map (·.1), rfl, rfl, .inl (.inl (new_at hb hH)), .inl (.inl upd_same), _, rfl, ?_⟩
  have hS1 : Same F (upd H' b (.lst [])) := new_same hb hS
  have hH1 := new_at (o := .lst []) hb hH
  rcases List.eq_nil_or_concat rs with rfl | ⟨is, ⟨u, τ', l⟩, rfl⟩
  · refine iteF ?_
    rw [ht] at q
    exact q _ (hF.trans hS1)
  rw [List.concat_eq_append] at *
  have ek : (!((is ++ [(u, τ', l)]).map (fun r => r.1)).isEmpty) = true := by simp
  show if (!((is ++ [(u, τ', l)]).map (fun r => r.1)).isEmpty) = true then _ else _
  rw [ek]
  refine iteT ⟨_, fun σ' H' h => h, ?_⟩
  obtain ⟨a, v, e1, e2, hv⟩ := hE (u, τ', l) (List.mem_append_right _ List.mem_cons_self)
  cases e1
  have hEi : ∀ r ∈ is, EAt K F r := fun r hr => hE r (List.mem_append_left _ hr)
  rw [List.map_append] at hH1
  have hS2 : Same F (upd (upd H' b (.lst [])) p (.lst (is.map (·.1)))) := over_same hFp hS1
  have hH2 : upd (upd H' b (.lst [])) p (.lst (is.map (·.1))) p = some (.lst (is.map (·.1))) := upd_same
  refine ⟨_, rfl, tyL (.inl (.inl hH1)), p, _, .ref a, rfl, rfl, hH1, by simp, ?_⟩
  rw [show ((is.map (·.1)) ++ [(V.ref a, τ', l)].map (·.1)).dropLast = is.map (·.1) by simp]
  generalize upd (upd H' b (.lst [])) p (.lst (is.map (·.1))) = H2 at hS2 hH2 ⊢
  refine ⟨a, _, rfl, .inl (.inl (hS2 _ _ e2)), rfl, _, _, rfl, _, _, rfl, rfl, ?_⟩
  have hwt : wtP M (is ++ [(V.ref a, τ', l)]) = wtP M is + (M + 1) ^ l := by rw [wtP_app, wtP_one]
  rw [hwt] at hw
  have hpos : 0 < (M + 1) ^ l := Nat.pow_pos (by omega)
  rw [List.all_append] at ht
  cases hv with
  | non =>
    refine ⟨_, rfl, _, rfl, iteF ?_⟩
    have hb : ∀ n, isTr M n Sh.non = true := fun n => by cases n <;> rfl
    refine ⟨_, ?_, F, is, _, _, _, rfl, hF, hS2, hFp, hH2, hEi, rfl, by omega, ?_⟩
    · rw [hwt]; omega
    · rw [ht]; simp [hb]
  | oth h =>
    obtain ⟨ty, hty, ek⟩ := (h.same hS2).kit
    refine ⟨_, rfl, _, rfl, ?_⟩
    rw [h.ne]
    refine iteT ?_
    have hb : ∀ n, isTr M n Sh.oth = false := fun n => by cases n <;> rfl
    have hf : isTr M d τ = false := by rw [ht]; simp [hb]
    rw [hf] at q
    exact ⟨_, rfl, .inl ⟨_, ty, _, false, rfl, hty, ek, false, rfl, iteT (q H2 (hF.trans hS2))⟩⟩
  | tup e hl h =>
    rename_i a' vs bs
    refine ⟨_, rfl, _, rfl, iteT ?_⟩
    refine ⟨_, rfl, .inl ⟨_, _, _, true, rfl, .tup (hS2 _ _ e), kit_same K _, true, rfl, iteF ?_⟩⟩
    refine ⟨_, rfl, .inl (.inl ⟨rfl, _, rfl, if2 (fun z => ?_) (fun z => ?_)⟩)⟩
    · have : l = 0 := by have : ((l : Nat) : Int) = 0 := V.int.inj z; omega
      subst this
      have hf : isTr M d τ = false := by rw [ht]; simp [isTr]
      rw [hf] at q
      exact q H2 (hF.trans hS2)
    obtain ⟨k, rfl⟩ : ∃ k, l = k + 1 := ⟨l - 1, by cases l with | zero => exact absurd rfl z | succ n => rfl⟩
    refine ⟨_, rfl, _, _, rfl, .inr ⟨_, .inl (.inl (hS2 _ _ e)), rfl⟩, _, rfl, .inl (.inl ⟨rfl, _, rfl, ifn2 (fun z2 => ?_) (fun z2 => ?_)⟩)⟩
    · have : ¬ bs.length = M := fun e => z2 (congrArg (fun (n : Nat) => V.int (n : Int)) (hl.trans e))
      have hf : isTr M d τ = false := by rw [ht]; simp [isTr, this]
      rw [hf] at q
      exact q H2 (hF.trans hS2)
    have hbl : bs.length = M := by
      have := V.int.inj z2
      omega
    refine ⟨_, rfl, .inr (.inl ⟨_, _, rfl, .inl (.inl (hS2 _ _ e)), ?_⟩)⟩
    refine for_walk (walk_tup (xs := vs)) (fun i σ H3 => ∃ (F2 : Hp) (es : List (V × Sh × Nat)) (r6 : Option V), σ = [some x, some (.int M), some (.int d), some (.ref p), some (.ref a'), some (.int (k + 1 : Nat)), r6] ∧ Same F F2 ∧ Same F2 H3 ∧ F2 p = none ∧
      H3 p = some (.lst ((is ++ es).map (·.1))) ∧ es.length = i ∧ ∀ (j : Nat) r, es[j]? = some r → EAt K F2 r ∧ r.2.2 = k ∧ bs[j]? = some r.2.1) ⟨F, [], r6, rfl, Same.refl _, hS2, hFp, by rw [List.append_nil]; exact hH2, rfl, fun j r h => nomatch h⟩ ?_ ?_ ?_
    · rintro i σ H3 _ ⟨F2, es, _, _, s1, s2, _⟩
      exact .inl (.inl (s2 _ _ (s1 _ _ e)))
    · rintro i y _ H3 hy ⟨F2, es, _, rfl, s1, s2, f2, h2, hn, hr⟩
      have hi := (List.getElem?_eq_some_iff.mp hy).1
      have hb := List.getElem?_eq_getElem (show i < bs.length by omega)
      refine ⟨_, rfl, tyL (.inl (.inl h2)), ?_⟩
      refine ⟨_, rfl, _, rfl, _, _, rfl, rfl, by rw [sizeLine_eq]; show 2 ≤ _; decide, fun p1 hp1 => ?_⟩
      have f3 : F2 p1 = none := s2.free hp1
      have np : p ≠ p1 := fun z => by rw [z, hp1] at h2; cases h2
      try dsimp (config := { proj := false, eta := false, zeta := false, iota := false }) only [tNil, tC]
      rw [show (((k + 1 : Nat) : Int) - 1) = (k : Int) by omega]
      refine appL (new_at hp1 h2) ?_ ?_
      · have := wtP_len M is
        have : is.length ≤ 117649 := by omega
        rw [sizeLine_eq, List.length_map, List.length_append]; omega
      refine ⟨upd F2 p1 (.tup [y, .int k]), es ++ [(.ref p1, bs[i], k)], _, rfl, s1.trans (same_new f3 _), ?_, by rw [upd_ne np]; exact f2, ?_, by rw [List.length_append, hn]; rfl, ?_⟩
      · refine over_same (by rw [upd_ne np]; exact f2) (fun b' o' hb' => ?_)
        by_cases z : b' = p1
        · rw [z, upd_same] at hb'; rw [z, upd_same]; exact hb'
        · rw [upd_ne z] at hb'; rw [upd_ne z]; exact s2 _ _ hb'
      · rw [upd_same, ← List.append_assoc, List.map_append (l₁ := is ++ es)]; rfl
      · intro j r hj
        by_cases z : j < es.length
        · rw [List.getElem?_append_left z] at hj
          obtain ⟨g1, g2, g3⟩ := hr j r hj
          exact ⟨g1.same (same_new f3 _), g2, g3⟩
        · rw [List.getElem?_append_right (by omega)] at hj
          have : j - es.length = 0 := by
            have := (List.getElem?_eq_some_iff.mp hj).1
            simp at this; omega
          rw [this] at hj
          cases hj
          have : j = i := by omega
          rw [this]
          exact ⟨⟨p1, y, rfl, upd_same, (h i y _ hy hb).same (s1.trans (same_new f3 _))⟩, rfl, hb⟩
    · rintro _ H3 ⟨F2, es, _, rfl, s1, s2, f2, h2, hn, hr⟩
      have hM' : es.length = M := by omega
      have hes : ∀ r ∈ es, EAt K F2 r ∧ r.2.2 = k := fun r hr' => by
        obtain ⟨j, hj⟩ := List.getElem?_of_mem hr'
        exact ⟨(hr j r hj).1, (hr j r hj).2.1⟩
      have hbs : bs = es.map (fun r => r.2.1) := by
        refine List.ext_getElem? fun j => ?_
        rw [List.getElem?_map]
        cases z : es[j]? with
        | none =>
          rw [List.getElem?_eq_none_iff] at z
          rw [List.getElem?_eq_none (by omega)]; rfl
        | some r => exact (hr j r z).2.2
      have hw2 := wtP_all M k es (fun r hr' => (hes r hr').2)
      have hp1 : 0 < (M + 1) ^ k := Nat.pow_pos (by omega)
      have hpw : (M + 1) ^ (k + 1) = M * (M + 1) ^ k + (M + 1) ^ k := by rw [Nat.pow_succ, Nat.mul_comm, Nat.add_mul, Nat.one_mul]
      rw [hM'] at hw2
      refine ⟨_, ?_, F2, is ++ es, _, _, _, rfl, hF.trans s1, s2, f2, h2, fun r hr' => ?_, rfl, ?_, ?_⟩
      · rw [hwt, wtP_app, hw2, hpw]; omega
      · rcases List.mem_append.mp hr' with z | z
        · exact (hEi r z).same s1
        · exact (hes r z).1
      · rw [wtP_app, hw2]; omega
      · rw [ht, List.all_append]
        congr 1
        simp only [List.all_cons, List.all_nil, Bool.and_true]
        show (decide (bs.length = M) && bs.all (isTr M k)) = _
        rw [decide_eq_true hbl, Bool.true_and, hbs, List.all_map]
        rw [Bool.eq_iff_iff, List.all_eq_true, List.all_eq_true]
        refine forall_congr' fun r => forall_congr' fun hr' => ?_
        rw [(hes r hr').2]; rfl

/-! ### what the law puts in a tree's stead -/
theorem ShAt.nons {H : Hp} {a : Addr} {ys : List V} (e : H a = some (.tup ys)) (h : ∀ (j : Nat) v, ys[j]? = some v → v = .non) : ShAt K H (.ref a) (.tup (ys.map fun _ => .non)) := by
  refine .tup e (by simp) fun i v b hv hb => ?_
  rw [List.getElem?_map, hv] at hb
  cases hb
  rw [h i v hv]; exact .non
/-- the heap grew from H to H', what stands fast of it from F to F' -/
structure Grow (F H F' H' : Hp) : Prop where
  hh : Same H H'
  ff : Same F F'
  fh : Same F' H'
  old : ∀ a, H a ≠ none → F' a = F a
theorem Grow.refl {F H : Hp} (h : Same F H) : Grow F H F H := ⟨.refl _, .refl _, h, fun _ _ => rfl⟩
theorem same_both {F H : Hp} (h : Same F H) {p : Addr} {o : HO} : Same (upd F p o) (upd H p o) := fun b u e => by
  by_cases z : b = p
  · rw [z, upd_same] at e; rw [z, upd_same]; exact e
  · rw [upd_ne z] at e; rw [upd_ne z]; exact h _ _ e
theorem Grow.new {F H F' H' : Hp} (g : Grow F H F' H') {p : Addr} (h : H' p = none) (o : HO) : Grow F H F' (upd H' p o) := ⟨new_same h g.hh, g.ff, new_same h g.fh, g.old⟩
theorem Grow.keep {F H F' H' : Hp} (g : Grow F H F' H') {p : Addr} (h : H' p = none) (o : HO) : Grow F H (upd F' p o) (upd H' p o) :=
  ⟨new_same h g.hh, new_same (g.fh.free h) g.ff, same_both g.fh, fun a ha => by
    have : a ≠ p := fun z => ha (by rw [z]; exact g.hh.free h)
    rw [upd_ne this]; exact g.old a ha⟩
def spThing (K : PySem.W.Frag) : Sp := fun vs H Q _ => ∃ (x : V) (τ : Sh) (k M : Nat), vs = [x, .int k, .int M] ∧ k < 16 ∧ 2 ≤ M ∧ M ≤ 6 ∧ ∃ F, Same F H ∧ ShAt K F x τ ∧ τ ≠ .oth ∧ ∀ F' H' v τ', Grow F H F' H' → ShAt K F' v τ' → Q v H'
theorem ok_L_thing (T : Txt K mg t) : FnOk P w K mg base (CX1 P w) 1 t.a_L_thing t.fd_L_thing ["thing", "kind", "many"] (spThing K) := by
  refine T.F_L_thing.okn (k := 0) sc_L_thing (fun vs H Q E h => ?_) (fun cdv A outer s H vs Q E hr h => ?_)
  · obtain ⟨x, τ, k, M, rfl, _⟩ := h; rfl
  obtain ⟨x, τ, k, M, rfl, hk, hM, hM6, F, hF, hx, ho, q⟩ := h
  have g0 := Grow.refl hF
  refine ⟨_, (pss_cons (ps_if (pt_cmpR (oEqA (hr.units0)) (pv 1) pe_int (nomark _)) (pss_one (ps_ret (pe_lc (compSc_of (N := ["k"]) (cap := [none]) (by kernel_rfl)) rfl (pi_range1 rfl T.m_range (pa_cons (pv 2) pa_nil)) ⟨fun _ => (pg_name (i := 0) (show List.Nodup (["k"] : List Str) by decide +kernel) rfl (Or.inl rfl)), fun _ => pf_nil, fun _ => pe_non⟩))) pss_nil)
    (pss_cons (ps_if (pt_cmpR (oEqA (hr.units0)) (pv 1) pe_int (nomark _)) (pss_one (ps_ret (pe_callTy call_tuple_of rfl T.m_tuple bt_tuple (pa_cons (pe_lc (compSc_of (N := ["k"]) (cap := [none]) (by kernel_rfl)) rfl (pi_range1 rfl T.m_range (pa_cons (pe_op oAddN (pv 2) pe_int) pa_nil)) ⟨fun _ => (pg_name (i := 0) (show List.Nodup (["k"] : List Str) by decide +kernel) rfl (Or.inl rfl)), fun _ => pf_nil, fun _ => pe_non⟩) pa_nil)))) pss_nil)
    (pss_cons (ps_if (pt_cmpR (oEqA (hr.units0)) (pv 1) pe_int (nomark _)) (pss_one (ps_ret (pe_callTy call_tuple_of rfl T.m_tuple bt_tuple (pa_cons (pe_lc (compSc_of (N := ["k"]) (cap := [none]) (by kernel_rfl)) rfl (pi_range1 rfl T.m_range (pa_cons (pe_op op_sub (pv 2) pe_int) pa_nil)) ⟨fun _ => (pg_name (i := 0) (show List.Nodup (["k"] : List Str) by decide +kernel) rfl (Or.inl rfl)), fun _ => pf_nil, fun _ => pe_non⟩) pa_nil)))) pss_nil)
    (pss_cons (ps_if (pt_cmpR (oEqA (hr.units0)) (pv 1) pe_int (nomark _)) (pss_one (ps_ret (pe_callTy call_tuple_of rfl T.m_tuple bt_tuple (pa_cons (pe_lc (compSc_of (N := ["k"]) (cap := [none]) (by kernel_rfl)) rfl (pi_range1 rfl T.m_range (pa_cons (pv 2) pa_nil)) ⟨fun _ => (pg_name (i := 0) (show List.Nodup (["k"] : List Str) by decide +kernel) rfl (Or.inl rfl)), fun _ => pf_nil, fun _ => pe_non⟩) pa_nil)))) pss_nil)
    (pss_cons (ps_if (PW.pt (pw_and (pt_cmpR (oEqA (hr.units0)) (pv 1) pe_int (nomark _)) (pw_and1 (pt_cmp (pc_notN (pv 0)))))) (pss_one (ps_ret (pe_callTy (callList rfl) rfl T.m_list bt_list (pa_cons (pv 0) pa_nil)))) pss_nil)
    (pss_one (ps_ret (pe_ix ixAny (pe_lst (PAs.h (pas_cons pe_bl (pas_cons (pe_tup pa_nil) (pas_cons pe_str (pas_cons pe_int (pas_cons pe_bl (pas_cons pe_str (pas_cons (pe_lst pa_nil) (pas_cons pe_dnewK (pas_cons pe_int (pas_cons pe_str (pas_cons (pe_op oMulN pe_str (pv 2)) (pas_cons (pe_un un_neg pe_int) pas_nil)))))))))))))) (pe_op op_sub (pv 1) pe_int) (fun _ _ => rfl))))))))), ?_⟩
  refine ⟨_, rfl, .inl ⟨rfl, _, rfl, if2 (fun z => ?_) (fun z0 => ?_)⟩⟩
  · refine ⟨_, rfl, _, rfl, by omega, by omega, fun D hD c => ?_⟩
    refine lc_vals walk_range (fun _ v => v = .non) (fun _ => trivial) (by unfold upto; rw [List.length_map, List.length_range, sizeLine_eq]; omega) (fun i x ys C hx hC => hC _ rfl) (fun ys hl hv => ?_)
    exact q _ _ _ _ (g0.keep hD _) (.oth (.lst upd_same))
  refine ⟨_, rfl, .inl ⟨rfl, _, rfl, if2 (fun z => ?_) (fun z1 => ?_)⟩⟩
  · repeat array_get_dec
    refine ⟨by omega, by omega, fun D hD c => ?_⟩
    refine lc_vals walk_range (fun _ v => v = .non) (fun _ => trivial) (by unfold upto; rw [List.length_map, List.length_range, sizeLine_eq]; omega) (fun i x ys C hx hC => hC _ rfl) (fun ys hl hv => ?_)
    exact ⟨D, ys, rfl, .inl ⟨.inl (.inl upd_same), fun l hl => q _ _ _ _ ((g0.new hD _).keep hl _) (.nons upd_same hv)⟩⟩
  refine ⟨_, rfl, .inl ⟨rfl, _, rfl, if2 (fun z => ?_) (fun z2 => ?_)⟩⟩
  · repeat array_get_dec
    refine ⟨by omega, by omega, fun D hD c => ?_⟩
    refine lc_vals walk_range (fun _ v => v = .non) (fun _ => trivial) (by unfold upto; rw [List.length_map, List.length_range, sizeLine_eq]; omega) (fun i x ys C hx hC => hC _ rfl) (fun ys hl hv => ?_)
    exact ⟨D, ys, rfl, .inl ⟨.inl (.inl upd_same), fun l hl => q _ _ _ _ ((g0.new hD _).keep hl _) (.nons upd_same hv)⟩⟩
  refine ⟨_, rfl, .inl ⟨rfl, _, rfl, if2 (fun z => ?_) (fun z3 => ?_)⟩⟩
  · repeat array_get_dec
    refine ⟨by omega, by omega, fun D hD c => ?_⟩
    refine lc_vals walk_range (fun _ v => v = .non) (fun _ => trivial) (by unfold upto; rw [List.length_map, List.length_range, sizeLine_eq]; omega) (fun i x ys C hx hC => hC _ rfl) (fun ys hl hv => ?_)
    exact ⟨D, ys, rfl, .inl ⟨.inl (.inl upd_same), fun l hl => q _ _ _ _ ((g0.new hD _).keep hl _) (.nons upd_same hv)⟩⟩
  have h4 : 4 ≤ k := by
    rcases Nat.lt_or_ge k 4 with h | h
    · match k, h with
      | 0, _ => exact absurd rfl z0
      | 1, _ => exact absurd rfl z1
      | 2, _ => exact absurd rfl z2
      | 3, _ => exact absurd rfl z3
    · exact h
  refine ⟨_, rfl, .inl ⟨rfl, _, rfl, if2 (fun z => ?_) (fun z4 => ?_)⟩⟩
  · cases hx with
    | oth h => exact absurd rfl ho
    | tup e hl h =>
      rename_i a vs bs
      refine ⟨_, rfl, _, rfl, iteT ?_⟩
      refine ⟨_, rfl, .inl ⟨a, vs, rfl, .inr (.inl (.inl (hF _ _ e))), fun l hl => ?_⟩⟩
      exact q _ _ _ _ (g0.keep hl _) (.oth (.lst upd_same))
    | non =>
      refine ⟨_, rfl, _, rfl, iteF ?_⟩
      refine ⟨by rw [sizeLine_eq]; show 0 ≤ _; decide, fun p1 h1 => ⟨by rw [sizeLine_eq]; show 0 ≤ _; decide, fun p2 h2 => fun p3 h3 => ?_⟩⟩
      repeat array_get_dec
      refine .inr (.inl ⟨[46], M, congrArg V.str (by decide +kernel), rfl, ⟨by omega, by omega, by decide⟩, ?_⟩)
      refine ⟨1, rfl, by rw [sizeLine_eq]; show 12 ≤ _; decide, fun p4 h4' => ?_⟩
      repeat array_get_dec
      try dsimp (config := { proj := false, eta := false, zeta := false, iota := false }) only [tNil, tC]
      have g4 := (((g0.keep h1 (.tup [])).keep h2 (.lst [])).keep h3 (.dK [])).new h4' (.lst [V.bl false, V.ref p1, V.str (Str.ofString "."), V.int 0, V.bl true, V.str (Str.ofString ""), V.ref p2, V.ref p3, V.int 7, V.str (Str.ofString "(..)"), vt (List.replicate (M : Int).toNat [46]).flatten, V.int (-1)])

      have f3 := ((g0.keep h1 (.tup [])).keep h2 (.lst [])).fh.free h3

      have f2 := (g0.keep h1 (.tup [])).fh.free h2

      have z1 : upd (upd (upd F p1 (.tup [])) p2 (.lst [])) p3 (.dK []) p1 = some (.tup []) := new_at f3 (new_at f2 upd_same)

      have z2 : upd (upd (upd F p1 (.tup [])) p2 (.lst [])) p3 (.dK []) p2 = some (.lst []) := new_at f3 upd_same

      have z3 : upd (upd (upd F p1 (.tup [])) p2 (.lst [])) p3 (.dK []) p3 = some (.dK []) := upd_same

      obtain ⟨j, hj, ej⟩ : ∃ j : Nat, j < 12 ∧ ((k : Nat) : Int) - 4 = (j : Int) := ⟨k - 4, by omega, by omega⟩
      rw [ej]
      refine ixL (.inl (.inl upd_same)) (atI_nat (List.getElem?_eq_getElem (show j < 12 from hj))) ?_
      have hm := List.getElem_mem (show j < [V.bl false, V.ref p1, V.str (Str.ofString "."), V.int 0, V.bl true, V.str (Str.ofString ""), V.ref p2, V.ref p3, V.int 7, V.str (Str.ofString "(..)"), vt (List.replicate (M : Int).toNat [46]).flatten, V.int (-1)].length from hj)
      simp only [List.mem_cons, List.not_mem_nil, or_false] at hm
      rcases hm with e | e | e | e | e | e | e | e | e | e | e | e <;> rw [e]
      · exact q _ _ _ _ g4 (.oth (.bl _))
      · exact q _ _ _ _ g4 (.tup z1 rfl (fun i v b h => nomatch h) (bs := []))
      · exact q _ _ _ _ g4 (.oth (.str _))
      · exact q _ _ _ _ g4 (.oth (.int _))
      · exact q _ _ _ _ g4 (.oth (.bl _))
      · exact q _ _ _ _ g4 (.oth (.str _))
      · exact q _ _ _ _ g4 (.oth (.lst z2))
      · exact q _ _ _ _ g4 (.oth (.dK z3))
      · exact q _ _ _ _ g4 (.oth (.int _))
      · exact q _ _ _ _ g4 (.oth (.str _))
      · exact q _ _ _ _ g4 (.oth (.str _))
      · exact q _ _ _ _ g4 (.oth (.int _))
  · refine iteF ?_
    refine ⟨by rw [sizeLine_eq]; show 0 ≤ _; decide, fun p1 h1 => ⟨by rw [sizeLine_eq]; show 0 ≤ _; decide, fun p2 h2 => fun p3 h3 => ?_⟩⟩
    repeat array_get_dec
    refine .inr (.inl ⟨[46], M, congrArg V.str (by decide +kernel), rfl, ⟨by omega, by omega, by decide⟩, ?_⟩)
    refine ⟨1, rfl, by rw [sizeLine_eq]; show 12 ≤ _; decide, fun p4 h4' => ?_⟩
    repeat array_get_dec
    try dsimp (config := { proj := false, eta := false, zeta := false, iota := false }) only [tNil, tC]
    have g4 := (((g0.keep h1 (.tup [])).keep h2 (.lst [])).keep h3 (.dK [])).new h4' (.lst [V.bl false, V.ref p1, V.str (Str.ofString "."), V.int 0, V.bl true, V.str (Str.ofString ""), V.ref p2, V.ref p3, V.int 7, V.str (Str.ofString "(..)"), vt (List.replicate (M : Int).toNat [46]).flatten, V.int (-1)])

    have f3 := ((g0.keep h1 (.tup [])).keep h2 (.lst [])).fh.free h3

    have f2 := (g0.keep h1 (.tup [])).fh.free h2

    have z1 : upd (upd (upd F p1 (.tup [])) p2 (.lst [])) p3 (.dK []) p1 = some (.tup []) := new_at f3 (new_at f2 upd_same)

    have z2 : upd (upd (upd F p1 (.tup [])) p2 (.lst [])) p3 (.dK []) p2 = some (.lst []) := new_at f3 upd_same

    have z3 : upd (upd (upd F p1 (.tup [])) p2 (.lst [])) p3 (.dK []) p3 = some (.dK []) := upd_same

    obtain ⟨j, hj, ej⟩ : ∃ j : Nat, j < 12 ∧ ((k : Nat) : Int) - 4 = (j : Int) := ⟨k - 4, by omega, by omega⟩
    rw [ej]
    refine ixL (.inl (.inl upd_same)) (atI_nat (List.getElem?_eq_getElem (show j < 12 from hj))) ?_
    have hm := List.getElem_mem (show j < [V.bl false, V.ref p1, V.str (Str.ofString "."), V.int 0, V.bl true, V.str (Str.ofString ""), V.ref p2, V.ref p3, V.int 7, V.str (Str.ofString "(..)"), vt (List.replicate (M : Int).toNat [46]).flatten, V.int (-1)].length from hj)
    simp only [List.mem_cons, List.not_mem_nil, or_false] at hm
    rcases hm with e | e | e | e | e | e | e | e | e | e | e | e <;> rw [e]
    · exact q _ _ _ _ g4 (.oth (.bl _))
    · exact q _ _ _ _ g4 (.tup z1 rfl (fun i v b h => nomatch h) (bs := []))
    · exact q _ _ _ _ g4 (.oth (.str _))
    · exact q _ _ _ _ g4 (.oth (.int _))
    · exact q _ _ _ _ g4 (.oth (.bl _))
    · exact q _ _ _ _ g4 (.oth (.str _))
    · exact q _ _ _ _ g4 (.oth (.lst z2))
    · exact q _ _ _ _ g4 (.oth (.dK z3))
    · exact q _ _ _ _ g4 (.oth (.int _))
    · exact q _ _ _ _ g4 (.oth (.str _))
    · exact q _ _ _ _ g4 (.oth (.str _))
    · exact q _ _ _ _ g4 (.oth (.int _))
/-! ### the cells -/
theorem cutN_60 (ns : List Int) : (cutN ns (some 3) (some 63)).length ≤ 60 := by
  unfold cutN
  rw [List.length_take, List.length_drop]
  have e1 : HT.sIx ns.length 0 (some 3) = min 3 ns.length := HT.sIx_nat _ _ 3
  have e2 : HT.sIx ns.length ns.length (some 63) = min 63 ns.length := HT.sIx_nat _ _ 63
  rw [e1, e2]; omega
def spCells (K : PySem.W.Frag) : Sp := fun vs H Q _ => ∃ (a : Addr) (ns : List Int) (M : Nat), vs = [.ref a, .int M] ∧ SqL K H a (ns.map V.int) ∧ 2 ≤ M ∧ M ≤ 6 ∧ ∀ H' p (cs : List Int), Same H H' → SqL K H' p (cs.map V.int) → cs.length ≤ 1020 → Q (.ref p) H'
theorem ok_L_cells (T : Txt K mg t) : FnOk P w K mg base (CX1 P w) 2 t.a_L_cells t.fd_L_cells ["script", "many"] (spCells K) := by
  refine T.F_L_cells.okn (k := 1) sc_L_cells (fun vs H Q E h => ?_) (fun cdv A outer s H vs Q E hr h => ?_)
  · obtain ⟨a, ns, M, rfl, _⟩ := h; rfl
  obtain ⟨a, ns, M, rfl, ha, hM, hM6, q⟩ := h
  have G_L_cell_at := ok_L_cell_at (P := P) (w := w) (base := base) T
  refine ⟨_, (pss_cons (ps_set (i := 2) sc_L_cells.nd rfl (Or.inl rfl) (pe_op op_mod (pe_op op_fdivL (pe_call G_L_cell_at hr rfl T.m_L_cell_at T.F_L_cell_at.kp T.b_L_cell_at .nil pass1 (PAs.h (pas_cons (pv 0) (pas_cons pe_int pas_nil)))) pe_int) pe_int))
    (pss_cons (ps_set (i := 3) sc_L_cells.nd rfl (Or.inl rfl) (pe_op op_fdivL pe_int (pv 1)))
    (pss_cons (ps_if (pt_cmpR (oEqA (hr.units0)) (pv 2) pe_int (nomark _)) (pss_one (ps_ret (pe_lc (compSc_of (N := ["k"]) (cap := [none]) (by kernel_rfl)) rfl (pi_range1 rfl T.m_range (pa_cons (pe_op op_mod (pe_op op_fdivL (pe_call G_L_cell_at hr rfl T.m_L_cell_at T.F_L_cell_at.kp T.b_L_cell_at .nil pass1 (PAs.h (pas_cons (pv 0) (pas_cons pe_int pas_nil)))) pe_int) (pe_op oAddN (pv 3) pe_int)) pa_nil)) ⟨fun _ => (pg_name (i := 0) (show List.Nodup (["k"] : List Str) by decide +kernel) rfl (Or.inl rfl)), fun _ => pf_nil, fun _ => pe_int⟩))) pss_nil)
    (pss_cons (ps_if (pt_cmpR (oEqA (hr.units0)) (pv 2) pe_int (nomark _)) (pss_one (ps_ret (pe_slice slAny (pe_op oMulN (pe_slice slAny (pv 0) (po_some pe_int) (po_some pe_int)) pe_int) po_none (po_some (pe_op op_mod (pe_op op_fdivL (pe_call G_L_cell_at hr rfl T.m_L_cell_at T.F_L_cell_at.kp T.b_L_cell_at .nil pass1 (PAs.h (pas_cons (pv 0) (pas_cons pe_int pas_nil)))) pe_int) (pe_op oAddN (pv 3) pe_int)))))) pss_nil)
    (pss_one (ps_ret (pe_slice slAny (pv 0) (po_some pe_int) (po_some pe_int)))))))), ?_⟩
  refine ⟨_, rfl, a, ns, 1, rfl, ha, by decide, ?_⟩
  generalize cellN ns 1 = c1
  refine ⟨_, _, rfl, rfl, cdivK (by decide) (by decide), _, _, rfl, rfl, (by show (0 : Int) < 8; decide), ?_⟩
  refine ⟨_, rfl, _, _, rfl, rfl, cdivK (by show (0 : Int) < M; omega) (by show (M : Int) < 1000000000; omega), ?_⟩
  show gName 3 (V.int ((990 : Int).fdiv M)) _ _ _
  obtain ⟨mo, hm1, hm2⟩ : ∃ mo : Nat, (990 : Int).fdiv M = (mo : Int) ∧ mo ≤ 990 := by
    rw [Int.fdiv_eq_ediv_of_nonneg _ (by omega)]
    have h1 := Int.ediv_nonneg (show (0 : Int) ≤ 990 by decide) (show (0 : Int) ≤ M by omega)
    have h2 : (990 : Int) / M ≤ 990 := Int.ediv_le_self _ (by decide)
    exact ⟨((990 : Int) / M).toNat, by omega, by omega⟩
  rw [hm1]
  have cs : ∀ c : Int, 0 ≤ c.fdiv 16 % ((mo : Int) + 1) ∧ c.fdiv 16 % ((mo : Int) + 1) ≤ mo := fun c => by
    have := Int.emod_nonneg (c.fdiv 16) (show (mo : Int) + 1 ≠ 0 by omega)
    have := Int.emod_lt_of_pos (c.fdiv 16) (show (0 : Int) < (mo : Int) + 1 by omega)
    omega
  refine ⟨_, rfl, .inl ⟨rfl, _, rfl, if2 (fun z => ?_) (fun z => ?_)⟩⟩
  · refine ⟨_, rfl, a, ns, 1, rfl, ha, by decide, ?_⟩
    have := cs (cellN ns 1)
    generalize cellN ns 1 = c1 at *
    refine ⟨_, _, rfl, rfl, cdivK (by decide) (by decide), _, rfl, .inl ⟨_, _, rfl, rfl, _, _, rfl, rfl, (by show (0 : Int) < (mo : Int) + 1; omega), ?_⟩⟩
    try dsimp (config := { proj := false, eta := false, zeta := false, iota := false }) only [tNil, tC]
    refine ⟨_, rfl, by omega, by omega, fun D hD c => ?_⟩
    refine lc_vals walk_range (fun _ v => v = .int 1) (fun _ => trivial) (by unfold upto; rw [List.length_map, List.length_range, sizeLine_eq]; omega) (fun i x ys C hx hC => hC _ rfl) (fun ys hl hv => ?_)
    have e : ys = (List.replicate ys.length (1 : Int)).map V.int := by
      rw [List.map_replicate]
      exact List.eq_replicate_of_mem fun v hv' => by
        obtain ⟨j, hj⟩ := List.getElem?_of_mem hv'
        exact hv j v hj
    refine q _ D (List.replicate ys.length 1) (same_new hD _) (.inl (.inl (by rw [← e]; exact upd_same))) ?_
    rw [List.length_replicate, hl]; unfold upto; rw [List.length_map, List.length_range]; omega
  refine ⟨_, rfl, .inl ⟨rfl, _, rfl, if2 (fun z => ?_) (fun z => ?_)⟩⟩
  · refine ⟨_, rfl, _, rfl, _, rfl, .inl ⟨a, _, rfl, ha, fun p1 h1 => ?_⟩⟩
    rw [cut_ints]
    have h60 := cutN_60 ns
    refine .inr (.inr ⟨p1, 17, _, rfl, rfl, upd_same, by decide, by decide, by rw [List.length_map, sizeLine_eq]; show _ * 17 ≤ _; omega, fun p2 h2 => ?_⟩)
    have e : (List.replicate (17 : Int).toNat ((cutN ns (some 3) (some 63)).map V.int)).flatten = ((List.replicate 17 (cutN ns (some 3) (some 63))).flatten).map V.int := by
      rw [List.map_flatten, List.map_replicate]; rfl
    rw [e]
    have hl : ((List.replicate 17 (cutN ns (some 3) (some 63))).flatten).length ≤ 1020 := by rw [len_rep]; omega
    generalize (List.replicate 17 (cutN ns (some 3) (some 63))).flatten = cs2 at *
    have s2 : Same H (upd (upd H p1 (.lst ((cutN ns (some 3) (some 63)).map V.int))) p2 (.lst (cs2.map V.int))) := new_same h2 (same_new h1 _)
    have hc2 : upd (upd H p1 (.lst ((cutN ns (some 3) (some 63)).map V.int))) p2 (.lst (cs2.map V.int)) p2 = some (.lst (cs2.map V.int)) := upd_same
    generalize upd (upd H p1 (.lst ((cutN ns (some 3) (some 63)).map V.int))) p2 (.lst (cs2.map V.int)) = H2 at s2 hc2 ⊢
    refine ⟨_, rfl, a, ns, 1, rfl, same_lst s2 ha, by decide, ?_⟩
    refine ⟨_, _, rfl, rfl, cdivK (by decide) (by decide), _, rfl, .inl ⟨_, _, rfl, rfl, _, _, rfl, rfl, (by show (0 : Int) < (mo : Int) + 1; omega), ?_⟩⟩
    try dsimp (config := { proj := false, eta := false, zeta := false, iota := false }) only [tNil, tC]
    refine ⟨_, rfl, .inl ⟨p2, _, rfl, .inl (.inl hc2), fun p3 h3 => ?_⟩⟩
    rw [cut_ints]
    exact q _ p3 _ (new_same h3 s2) (.inl (.inl upd_same)) (Nat.le_trans (cutN_len _ _ _) hl)
  · refine ⟨_, rfl, _, rfl, _, rfl, .inl ⟨a, _, rfl, ha, fun p1 h1 => ?_⟩⟩
    rw [cut_ints]
    have h60 := cutN_60 ns
    exact q _ p1 _ (same_new h1 _) (.inl (.inl upd_same)) (by omega)

/-! ### a tree that the law builds -/
abbrev Lay := Addr × List V
structure Pile (K : PySem.W.Frag) (G : Nat → Sh → Prop) (D : Nat) (H F : Hp) (p : Addr) (al : List Lay) : Prop where
  pl : H p = some (.lst (al.map fun (e : Lay) => V.ref e.1))
  ls : ∀ e ∈ al, H e.1 = some (.lst e.2)
  nd : (al.map (·.1)).Nodup
  np : ∀ e ∈ al, e.1 ≠ p
  sf : Same F H
  fp : F p = none
  fl : ∀ e ∈ al, F e.1 = none
  vl : ∀ (j : Nat) e, al[j]? = some e → ∀ v ∈ e.2, ∃ τ, ShAt K F v τ ∧ G (D - j) τ
  dp : al.length ≤ D + 1
theorem Pile.push {G : Nat → Sh → Prop} {D : Nat} {H F : Hp} {p : Addr} {al : List Lay} (h : Pile K G D H F p al) {b : Addr} (hb : H b = none) (hd : al.length ≤ D) :
    Pile K G D (upd (upd H b (.lst [])) p (.lst ((al ++ [(b, [])]).map fun (e : Lay) => V.ref e.1))) F p (al ++ [(b, [])]) := by
  have nb : ∀ e ∈ al, e.1 ≠ b := fun e he z => by have := h.ls e he; rw [z, hb] at this; cases this
  have nbp : b ≠ p := fun z => by have := h.pl; rw [← z, hb] at this; cases this
  refine ⟨upd_same, fun e he => ?_, ?_, fun e he => ?_, ?_, h.fp, fun e he => ?_, fun j e he => ?_, ?_⟩
  · rcases List.mem_append.mp he with z | z
    · rw [upd_ne (h.np e z), upd_ne (nb e z)]; exact h.ls e z
    · cases List.mem_singleton.mp z
      rw [upd_ne nbp, upd_same]
  · rw [List.map_append, List.nodup_append]
    refine ⟨h.nd, by simp, fun x hx y hy => ?_⟩
    obtain ⟨e, he, rfl⟩ := List.mem_map.mp hx
    cases List.mem_singleton.mp hy
    exact nb e he
  · rcases List.mem_append.mp he with z | z
    · exact h.np e z
    · cases List.mem_singleton.mp z; exact nbp
  · exact over_same h.fp (new_same hb h.sf)
  · rcases List.mem_append.mp he with z | z
    · exact h.fl e z
    · cases List.mem_singleton.mp z; exact h.sf.free hb
  · by_cases z : j < al.length
    · rw [List.getElem?_append_left z] at he
      exact h.vl j e he
    · rw [List.getElem?_append_right (by omega)] at he
      have := (List.getElem?_eq_some_iff.mp he).1
      have e0 : j - al.length = 0 := by simp at this; omega
      rw [e0] at he
      cases he
      exact fun v hv => nomatch hv
  · rw [List.length_append]; show _ + 1 ≤ _; omega
/-- what is on top becomes another -/
theorem Pile.top {G : Nat → Sh → Prop} {D : Nat} {H F : Hp} {p : Addr} {is : List Lay} {a : Addr} {xs : List V} (h : Pile K G D H F p (is ++ [(a, xs)])) (ys : List V) (hy : ∀ v ∈ ys, ∃ τ, ShAt K F v τ ∧ G (D - is.length) τ) :
    Pile K G D (upd H a (.lst ys)) F p (is ++ [(a, ys)]) := by
  have hnd := h.nd
  rw [List.map_append, List.nodup_append] at hnd
  have na : ∀ (e : Lay), e ∈ is → e.1 ≠ a := fun e he => hnd.2.2 e.1 (List.mem_map_of_mem he) a (by simp)
  have nap : a ≠ p := h.np (a, xs) (by simp)
  have fa : F a = none := h.fl (a, xs) (by simp)
  have em : ∀ (e : Lay), e ∈ is ++ [(a, ys)] → e ∈ is ∨ e = (a, ys) := fun e he => by
    rcases List.mem_append.mp he with z | z
    · exact .inl z
    · exact .inr (List.mem_singleton.mp z)
  refine ⟨?_, fun e he => ?_, ?_, fun e he => ?_, over_same fa h.sf, h.fp, fun e he => ?_, fun j e he => ?_, ?_⟩
  · rw [upd_ne nap.symm, h.pl]; simp
  · rcases em e he with z | rfl
    · rw [upd_ne (na e z)]; exact h.ls e (List.mem_append_left _ z)
    · exact upd_same
  · have := h.nd; simpa using this
  · rcases em e he with z | rfl
    · exact h.np e (List.mem_append_left _ z)
    · exact nap
  · rcases em e he with z | rfl
    · exact h.fl e (List.mem_append_left _ z)
    · exact fa
  · by_cases z : j < is.length
    · rw [List.getElem?_append_left z] at he
      exact h.vl j e (by rw [List.getElem?_append_left z]; exact he)
    · rw [List.getElem?_append_right (by omega)] at he
      have := (List.getElem?_eq_some_iff.mp he).1
      have e0 : j - is.length = 0 := by simp at this; omega
      rw [e0] at he
      cases he
      have : j = is.length := by omega
      rw [this]; exact hy
  · have := h.dp; rw [List.length_append] at this ⊢; exact this
/-- the top is taken away -/
theorem Pile.pop {G : Nat → Sh → Prop} {D : Nat} {H F : Hp} {p : Addr} {is : List Lay} {a : Addr} {xs : List V} (h : Pile K G D H F p (is ++ [(a, xs)])) :
    Pile K G D (upd H p (.lst (is.map fun (e : Lay) => V.ref e.1))) F p is := by
  have hi : ∀ (e : Lay), e ∈ is → e ∈ is ++ [(a, xs)] := fun e he => List.mem_append_left _ he
  refine ⟨upd_same, fun e he => ?_, ?_, fun e he => h.np e (hi e he), over_same h.fp h.sf, h.fp, fun e he => h.fl e (hi e he), fun j e he => ?_, ?_⟩
  · rw [upd_ne (h.np e (hi e he))]; exact h.ls e (hi e he)
  · have := h.nd
    rw [List.map_append, List.nodup_append] at this
    exact this.1
  · exact h.vl j e (by rw [List.getElem?_append_left (List.getElem?_eq_some_iff.mp he).1]; exact he)
  · have := h.dp; rw [List.length_append] at this; omega
/-- the heap grows beside it -/
theorem Pile.grow {G : Nat → Sh → Prop} {D : Nat} {H F H' F' : Hp} {p : Addr} {al : List Lay} (h : Pile K G D H F p al) (g : Grow F H F' H') : Pile K G D H' F' p al := by
  refine ⟨g.hh _ _ h.pl, fun e he => g.hh _ _ (h.ls e he), h.nd, h.np, g.fh, ?_, fun e he => ?_, fun j e he v hv => ?_, h.dp⟩
  · rw [g.old p (by rw [h.pl]; exact fun z => nomatch z)]; exact h.fp
  · rw [g.old e.1 (by rw [h.ls e he]; exact fun z => nomatch z)]; exact h.fl e he
  · obtain ⟨τ, h1, h2⟩ := h.vl j e he v hv
    exact ⟨τ, h1.same g.ff, h2⟩
theorem shapes {F : Hp} {G : Sh → Prop} {xs : List V} (h : ∀ v ∈ xs, ∃ τ, ShAt K F v τ ∧ G τ) : ∃ bs : List Sh, xs.length = bs.length ∧ (∀ b ∈ bs, G b) ∧ ∀ (i : Nat) v b, xs[i]? = some v → bs[i]? = some b → ShAt K F v b := by
  induction xs with
  | nil => exact ⟨[], rfl, fun b hb => (nomatch hb), fun i v b hv => nomatch hv⟩
  | cons x xs ih =>
    obtain ⟨τ, h1, h2⟩ := h x List.mem_cons_self
    obtain ⟨bs, e, h3, h4⟩ := ih fun v hv => h v (List.mem_cons_of_mem _ hv)
    refine ⟨τ :: bs, by simp [e], fun b hb => ?_, fun i v b hv hb => ?_⟩
    · rcases List.mem_cons.mp hb with rfl | hb
      · exact h2
      · exact h3 b hb
    · cases i with
      | zero => cases hv; cases hb; exact h1
      | succ i => exact h4 i v b hv hb
/-! how much is lacking -/
def cap (M j : Nat) : Nat := if j = 0 then 1 else M
def lk (M : Nat) : Nat → List Lay → Nat
  | _, [] => 0
  | j, e :: r => (cap M j - e.2.length) + lk M (j + 1) r
theorem lk_app (M : Nat) (al : List Lay) (e : Lay) : ∀ j, lk M j (al ++ [e]) = lk M j al + (cap M (j + al.length) - e.2.length) := by
  induction al with
  | nil => intro j; simp [lk]
  | cons x al ih => intro j; simp only [List.cons_append, lk, ih, List.length_cons]; rw [show j + 1 + al.length = j + (al.length + 1) by omega]; omega
structure Lens (M : Nat) (is : List Lay) (xs : List V) : Prop where
  lo : ∀ (j : Nat) e, is[j]? = some e → e.2.length < cap M j
  hi : xs.length ≤ cap M is.length
theorem Lens.down {M : Nat} {is : List Lay} {e : Lay} {xs : List V} (h : Lens M (is ++ [e]) xs) : (∀ (j : Nat) e, is[j]? = some e → e.2.length < cap M j) ∧ e.2.length < cap M is.length :=
  ⟨fun j e' he => h.lo j e' (by rw [List.getElem?_append_left (List.getElem?_eq_some_iff.mp he).1]; exact he), h.lo is.length e (by simp)⟩

theorem meet {A B : TS} {D : Ends} {σ : L2.St} {H : Hp} (S : L2.St → Hp → Prop) (k : ∀ N : L2.St → Hp → Prop, (∀ σ H, S σ H → N σ H) → A { D with nx := N } σ H) (r : ∀ σ H, S σ H → B D σ H) : tSeq A B D σ H := k (B D) r
theorem if_test {c : TT} {A B : TS} {D : Ends} {σ : L2.St} {H : Hp} (C : Prop) (k : ∀ Q : Bool → Hp → Prop, (C → Q true H) → Q false H → c σ H Q) (a : C → A D σ H) (b : B D σ H) : tIfS c A B D σ H := k _ (fun h => iteT (a h)) (iteF b)
theorem set_last {α : Type} (xs : List α) (x v : α) : (xs ++ [x]).set ((xs ++ [x]).length - 1) v = xs ++ [v] := by
  rw [List.length_append, List.set_append_right _ _ (by simp)]; simp
theorem ix_last {n : Nat} (h : 0 < n) : ixN n (-1) = some (n - 1) := by
  unfold ixN
  rw [if_neg (by omega), if_pos (by omega)]
  congr 1; omega
theorem at_last {α : Type} (xs : List α) (x : α) : atI (xs ++ [x]) (-1) = some x := by
  unfold atI
  rw [ix_last (by simp)]
  show (xs ++ [x])[(xs ++ [x]).length - 1]? = _
  simp
def GoodIf (M : Nat) (pl : Int) : Nat → Sh → Prop := fun n τ => pl = -1 → isTr M n τ = true
def spTree (K : PySem.W.Frag) : Sp := fun vs H Q _ => ∃ (c : Addr) (cs : List Int) (M D : Nat) (pl : Int) (k : Nat), vs = [.ref c, .int M, .int D, .int pl, .int k] ∧ SqL K H c (cs.map V.int) ∧ cs.length ≤ 1020 ∧ 2 ≤ M ∧ M ≤ 6 ∧ D ≤ 6 ∧ k < 16 ∧
  ∀ H' v τ, Same H H' → ShAt K H' v τ → GoodIf M pl D τ → Q v H'
theorem ok_L_tree (T : Txt K mg t) : FnOk P w K mg base (CX1 P w) 2 t.a_L_tree t.fd_L_tree ["cells", "many", "depth", "place", "kind"] (spTree K) := by
  refine T.F_L_tree.okn (k := 1) sc_L_tree (fun vs H Q E h => ?_) (fun cdv A outer s H vs Q E hr h => ?_)
  · obtain ⟨c, cs, M, D, pl, k, rfl, _⟩ := h; rfl
  obtain ⟨c, cs, M, D, pl, k, rfl, hc, hcl, hM, hM6, hD, hk, q⟩ := h
  have G_L_thing := ok_L_thing (P := P) (w := w) (base := base) T
  refine ⟨_, (pss_cons (ps_set (i := 5) sc_L_tree.nd rfl (Or.inl rfl) (pe_lst (pa_cons (pe_lst pa_nil) pa_nil)))
    (pss_cons (ps_set (i := 6) sc_L_tree.nd rfl (Or.inl rfl) pe_int)
    (pss_cons (ps_set (i := 7) sc_L_tree.nd rfl (Or.inl rfl) pe_int)
    (pss_cons (ps_while PassesOwn.never (pt_cmpR (oEqW (hr.units0)) (pe_ix ixAny (pv 5) pe_int (fun _ _ => rfl)) (pe_lst pa_nil) (nomark _)) (pss_cons (ps_if (PW.pt (pw_and (pt_cmpR oLeA (pe_callB call_len rfl T.m_len bt_len (pa_cons (pv 5) pa_nil)) (pv 2) (nomark _)) (pw_and (pt_cmpR oLt (pv 6) (pe_callB call_len rfl T.m_len bt_len (pa_cons (pv 0) pa_nil)) (nomark _)) (pw_and1 (pt_cmpR op_gt (pe_op op_mod (pe_ix ixAny (pv 0) (pv 6) (fun _ _ => rfl)) pe_int) pe_int (nomark _)))))) (pss_one (ps_expr (pe_bm PySem.F.plainAttrs_list PySem.F.slot_list_append PySem.F.type_list_append mt_app (pv 5) (pa_cons (pe_lst pa_nil) pa_nil)))) (pss_cons (ps_expr (pe_bm PySem.F.plainAttrs_list PySem.F.slot_list_append PySem.F.type_list_append mt_app (pe_ix ixAny (pv 5) (pe_un un_neg pe_int) (fun _ _ => rfl)) (pa_cons pe_non pa_nil)))
    (pss_cons (ps_if (pt_cmpR (oEqW (hr.units0)) (pv 7) (pv 3) (nomark _)) (pss_one (ps_asg (pe_call G_L_thing hr rfl T.m_L_thing T.F_L_thing.kp T.b_L_thing .nil pass1 (PAs.h (pas_cons pe_non (pas_cons (pv 4) (pas_cons (pv 1) pas_nil))))) (pg_sub (pe_ix ixAny (pv 5) (pe_un un_neg pe_int) (fun _ _ => rfl)) (pe_un un_neg pe_int) set_list))) pss_nil)
    (pss_one (ps_set (i := 7) sc_L_tree.nd rfl (Or.inl rfl) (pe_op oAddN (pv 7) pe_int))))))
    (pss_cons (ps_set (i := 6) sc_L_tree.nd rfl (Or.inl rfl) (pe_op oAddN (pv 6) pe_int))
    (pss_one (ps_while PassesOwn.never (PW.pt (pw_and (pt_cmpR op_gt (pe_callB call_len rfl T.m_len bt_len (pa_cons (pv 5) pa_nil)) pe_int (nomark _)) (pw_and1 (pt_cmpR (oEqW (hr.units0)) (pe_callB call_len rfl T.m_len bt_len (pa_cons (pe_ix ixAny (pv 5) (pe_un un_neg pe_int) (fun _ _ => rfl)) pa_nil)) (pv 1) (nomark _))))) (pss_cons (ps_set (i := 8) sc_L_tree.nd rfl (Or.inl rfl) (pe_callTy call_tuple_of rfl T.m_tuple bt_tuple (pa_cons (pe_bm0 PySem.F.plainAttrs_list PySem.F.slot_list_pop PySem.F.type_list_pop mt_popL (pv 5)) pa_nil)))
    (pss_cons (ps_expr (pe_bm PySem.F.plainAttrs_list PySem.F.slot_list_append PySem.F.type_list_append mt_app (pe_ix ixAny (pv 5) (pe_un un_neg pe_int) (fun _ _ => rfl)) (pa_cons (pv 8) pa_nil)))
    (pss_cons (ps_if (pt_cmpR (oEqW (hr.units0)) (pv 7) (pv 3) (nomark _)) (pss_one (ps_asg (pe_call G_L_thing hr rfl T.m_L_thing T.F_L_thing.kp T.b_L_thing .nil pass1 (PAs.h (pas_cons (pv 8) (pas_cons (pv 4) (pas_cons (pv 1) pas_nil))))) (pg_sub (pe_ix ixAny (pv 5) (pe_un un_neg pe_int) (fun _ _ => rfl)) (pe_un un_neg pe_int) set_list))) pss_nil)
    (pss_one (ps_set (i := 7) sc_L_tree.nd rfl (Or.inl rfl) (pe_op oAddN (pv 7) pe_int)))))))))))
    (pss_one (ps_ret (pe_ix ixAny (pe_ix ixAny (pv 5) pe_int (fun _ _ => rfl)) pe_int (fun _ _ => rfl)))))))), ?_⟩
  refine ⟨by rw [sizeLine_eq]; show 0 ≤ _; decide, fun b hb => ⟨by rw [sizeLine_eq]; show 1 ≤ _; decide, fun p hp => ?_⟩⟩
  refine ⟨fun m σ H' => ∃ (F : Hp) (is : List Lay) (a : Addr) (xs : List V) (at0 pd : Nat) (r8 : Option V), σ = [some (.ref c), some (.int M), some (.int D), some (.int pl), some (.int k), some (.ref p), some (.int at0), some (.int pd), r8] ∧ Same H F ∧ Pile K (GoodIf M pl) D H' F p (is ++ [(a, xs)]) ∧
    Lens M is xs ∧ (is = [] ∨ xs.length < M) ∧ m = (cs.length - at0) * (M + 1) + lk M 0 (is ++ [(a, xs)]), ⟨_, H, [], b, [], 0, 0, none, rfl, Same.refl H, ?_, ⟨fun j e h => (nomatch h), Nat.zero_le _⟩, .inl rfl, rfl⟩, ?_⟩
  · have nbp : b ≠ p := fun z => by rw [← z, upd_same] at hp; cases hp
    have fp : H p = none := (same_new hb _).free hp
    refine ⟨upd_same, fun e he => ?_, by simp, fun e he => ?_, over_same fp (same_new hb _), fp, fun e he => ?_, fun j e he v hv => ?_, by simp⟩
    · cases List.mem_singleton.mp he
      rw [upd_ne nbp, upd_same]
    · cases List.mem_singleton.mp he; exact nbp
    · cases List.mem_singleton.mp he; exact hb
    · cases List.mem_singleton.mp (List.mem_of_getElem? he); exact nomatch hv
  rintro m _ H' ⟨F, is, a, xs, at0, pd, r8, rfl, hF, hP, hL, hd, rfl⟩
  obtain ⟨e0, he0⟩ : ∃ e0, (is ++ [(a, xs)])[0]? = some e0 := by cases is with
    | nil => exact ⟨_, rfl⟩
    | cons e is => exact ⟨_, rfl⟩
  have hm0 := List.mem_of_getElem? he0
  have hcase : (e0.2 = [] ∧ xs.length < cap M is.length) ∨ (is = [] ∧ ∃ v, xs = [v] ∧ e0 = (a, xs)) := by
    cases is with
    | nil =>
      cases he0
      have h1 := hL.hi
      match xs, h1 with
      | [], _ => exact .inl ⟨rfl, by show 0 < 1; decide⟩
      | [v], _ => exact .inr ⟨rfl, v, rfl, rfl⟩
      | _ :: _ :: _, h1 => exact absurd h1 (by show ¬ _ + 1 + 1 ≤ 1; omega)
    | cons e is =>
      cases he0
      have h1 := hL.lo 0 e0 rfl
      have : e0.2.length = 0 := by have : e0.2.length < 1 := h1; omega
      refine .inl ⟨List.length_eq_zero_iff.mp this, ?_⟩
      rcases hd with z | z
      · cases z
      · show xs.length < if _ = 0 then 1 else M
        rw [if_neg (by simp)]; exact z
  refine ⟨_, rfl, ixL (.inl (.inl hP.pl)) (atI_nat (j := 0) (by rw [List.getElem?_map, he0]; rfl)) ?_⟩
  refine ⟨by rw [sizeLine_eq]; show 0 ≤ _; decide, fun b1 hb1 => ?_⟩
  have hP1 := hP.grow ((Grow.refl hP.sf).new hb1 (.lst []))
  refine .inr (.inl ⟨e0.1, b1, e0.2, rfl, rfl, .inl (.inl (hP1.ls e0 hm0)), .inl (.inl upd_same), _, rfl, ?_⟩)
  generalize upd H' b1 (.lst []) = H1 at hP1 ⊢
  rcases hcase with ⟨he, hx⟩ | ⟨rfl, v, rfl, rfl⟩
  · rw [he]
    refine iteT ⟨_, fun σ' H' h => h, ?_⟩
    have hlx : xs.length < M ∨ (is = [] ∧ xs = []) := by
      cases is with
      | nil => exact .inr ⟨rfl, by have : xs.length < 1 := hx; exact List.length_eq_zero_iff.mp (by omega)⟩
      | cons e is =>
        have : xs.length < M := by
          have := hx
          unfold cap at this
          rw [if_neg (by simp)] at this
          exact this
        exact .inl this
    have hlx6 : xs.length < 6 := by
      rcases hlx with z | ⟨_, z⟩
      · omega
      · rw [z]; decide
    refine meet (fun σ H2 => ∃ (F : Hp) (is' : List Lay) (a' : Addr) (xs' : List V) (pd : Nat) (r8 : Option V), σ = [some (.ref c), some (.int M), some (.int D), some (.int pl), some (.int k), some (.ref p), some (.int at0), some (.int pd), r8] ∧ Same H F ∧ Pile K (GoodIf M pl) D H2 F p (is' ++ [(a', xs')]) ∧
      Lens M is' xs' ∧ (cs.length - (at0 + 1)) * (M + 1) + lk M 0 (is' ++ [(a', xs')]) < (cs.length - at0) * (M + 1) + lk M 0 (is ++ [(a, xs)])) (fun N hN => ?_) ?_
    · have hP1l : is.length + 1 ≤ D + 1 := by have := hP1.dp; rw [List.length_append] at this; exact this
      refine if_test (is.length + 1 ≤ D ∧ at0 < cs.length) (fun Q' hq1 hq2 => ?_) (fun ⟨hc1, hc2⟩ => ?_) ?_
      · refine ⟨_, rfl, _, _, rfl, .inl ⟨_, .inl (.inl hP1.pl), rfl⟩, _, rfl, .inl ⟨_, _, rfl, rfl, _, rfl, if2 (fun z1 => ?_) (fun z1 => hq2)⟩⟩
        refine ⟨_, rfl, _, rfl, _, _, rfl, .inl ⟨_, same_lst (hF.trans hP1.sf) hc, rfl⟩, .inl ⟨_, _, rfl, rfl, _, rfl, if2 (fun z2 => ?_) (fun z2 => hq2)⟩⟩
        rw [List.length_map] at z2
        obtain ⟨v, _, ev⟩ := at_ints (ns := cs) (k := (at0 : Int)) (by omega) z2
        refine ⟨_, rfl, _, rfl, ixL (same_lst (hF.trans hP1.sf) hc) ev ⟨_, _, rfl, rfl, by show (0 : Int) < 3; decide, _, _, rfl, rfl, _, rfl, ?_⟩⟩
        rw [List.length_map, List.length_append] at z1
        cases decide (v % 3 > 0) with
        | true => exact hq1 ⟨by have : ((is.length + 1 : Nat) : Int) ≤ D := z1; omega, by omega⟩
        | false => exact hq2
      · refine ⟨_, rfl, tyL (.inl (.inl hP1.pl)), by rw [sizeLine_eq]; show 0 ≤ _; decide, fun b2 hb2 => ?_⟩
        try dsimp (config := { proj := false, eta := false, zeta := false, iota := false }) only [tNil, tC]
        refine appL (new_at hb2 hP1.pl) (by rw [List.length_map, List.length_append, sizeLine_eq]; show _ + 1 < _; omega) ?_
        have hP2 := hP1.push hb2 (by rw [List.length_append]; exact hc1)
        rw [List.map_append] at hP2
        refine hN _ _ ⟨F, is ++ [(a, xs)], b2, [], pd, r8, rfl, hF, hP2, ⟨fun j e he => ?_, Nat.zero_le _⟩, ?_⟩
        · by_cases z : j < is.length
          · rw [List.getElem?_append_left z] at he; exact hL.lo j e he
          · rw [List.getElem?_append_right (by omega)] at he
            have := (List.getElem?_eq_some_iff.mp he).1
            have e0 : j - is.length = 0 := by simp at this; omega
            rw [e0] at he
            cases he
            have : j = is.length := by omega
            rw [this]; exact hx
        · rw [lk_app M (is ++ [(a, xs)])]
          have e1 : cap M (0 + (is ++ [(a, xs)]).length) = M := by unfold cap; rw [if_neg (by simp)]
          rw [e1]
          have : (cs.length - at0) * (M + 1) = (cs.length - (at0 + 1)) * (M + 1) + (M + 1) := by
            rw [show cs.length - at0 = (cs.length - (at0 + 1)) + 1 by omega, Nat.add_mul, Nat.one_mul]
          show _ + (_ + (M - 0)) < _
          rw [this, Nat.sub_zero]
          generalize (cs.length - (at0 + 1)) * (M + 1) = B
          omega
      · have epl : H1 p = some (.lst (is.map (fun (e : Lay) => V.ref e.1) ++ [V.ref a])) := by have := hP1.pl; rw [List.map_append] at this; exact this
        have ea : H1 a = some (.lst xs) := hP1.ls (a, xs) (by simp)
        refine ⟨_, rfl, 1, rfl, ixL (.inl (.inl epl)) (at_last _ _) ⟨tyL (.inl (.inl ea)), ?_⟩⟩
        dsimp (config := { proj := false, eta := false, zeta := false, iota := false }) only [tCons, tNil, tC]
        refine appL ea (by rw [sizeLine_eq]; omega) ?_
        have hno : ∀ v ∈ xs ++ [V.non], ∃ τ, ShAt K F v τ ∧ GoodIf M pl (D - is.length) τ := fun v hv => by
          rcases List.mem_append.mp hv with z | z
          · exact hP1.vl is.length (a, xs) (by simp) v z
          · cases List.mem_singleton.mp z
            exact ⟨.non, .non, fun _ => by cases (D - is.length) <;> rfl⟩
        have hP2 := hP1.top (xs ++ [.non]) hno
        generalize upd H1 a (.lst (xs ++ [.non])) = H2 at hP2 ⊢
        have hmm : ∀ ys : List V, ys.length = xs.length + 1 → Lens M is ys ∧ (cs.length - (at0 + 1)) * (M + 1) + lk M 0 (is ++ [(a, ys)]) < (cs.length - at0) * (M + 1) + lk M 0 (is ++ [(a, xs)]) := fun ys hy => by
          refine ⟨⟨hL.lo, by omega⟩, ?_⟩
          rw [lk_app, lk_app, Nat.zero_add]
          have h1 : (cs.length - (at0 + 1)) * (M + 1) ≤ (cs.length - at0) * (M + 1) := Nat.mul_le_mul_right _ (by omega)
          show _ + (_ + (_ - ys.length)) < _ + (_ + (_ - xs.length))
          generalize (cs.length - (at0 + 1)) * (M + 1) = B at *
          generalize (cs.length - at0) * (M + 1) = C at *
          omega
        dsimp (config := { eta := false, zeta := false, iota := false }) only []
        refine meet (fun σ H3 => ∃ (F : Hp) (ys : List V), σ = [some (.ref c), some (.int M), some (.int D), some (.int pl), some (.int k), some (.ref p), some (.int at0), some (.int pd), r8] ∧ Same H F ∧ Pile K (GoodIf M pl) D H3 F p (is ++ [(a, ys)]) ∧ ys.length = xs.length + 1) (fun N2 hN2 => ?_) ?_
        · refine ⟨_, rfl, _, rfl, .inl (.inl ⟨rfl, _, rfl, if2 (fun z => ?_) (fun z => ?_)⟩)⟩
          · have hpl : pl ≠ -1 := by have : ((pd : Nat) : Int) = pl := V.int.inj z; omega
            refine ⟨_, rfl, _, rfl, .non, .non, k, M, rfl, hk, hM, hM6, F, hP2.sf, .non, (fun z => nomatch z), fun F3 H3 v τ' g hv => ?_⟩
            have hP3 := hP2.grow g
            have epl3 : H3 p = some (.lst (is.map (fun (e : Lay) => V.ref e.1) ++ [V.ref a])) := by have := hP3.pl; rw [List.map_append] at this; exact this
            have ea3 : H3 a = some (.lst (xs ++ [.non])) := hP3.ls (a, xs ++ [.non]) (by simp)
            refine ⟨_, rfl, 1, rfl, ixL (.inl (.inl epl3)) (at_last _ _) ⟨1, rfl, a, _, -1, _, rfl, rfl, ea3, ix_last (by simp), ?_⟩⟩
            rw [set_last]
            refine hN2 _ _ ⟨F3, xs ++ [v], rfl, hF.trans g.ff, hP3.top (xs ++ [v]) (fun u hu => ?_), by simp⟩
            rcases List.mem_append.mp hu with z | z
            · exact hP3.vl is.length (a, xs ++ [.non]) (by simp) u (List.mem_append_left _ z)
            · cases List.mem_singleton.mp z
              exact ⟨τ', hv, fun e => absurd e hpl⟩
          · exact hN2 _ _ ⟨F, xs ++ [.non], rfl, hF, hP2, by simp⟩
        · rintro _ H3 ⟨F3, ys, rfl, hF3, hP3, hy⟩
          obtain ⟨l1, l2⟩ := hmm ys hy
          refine ⟨_, rfl, .inl ⟨_, _, rfl, rfl, ?_⟩⟩
          exact hN _ _ ⟨F3, is, a, ys, pd + 1, r8, rfl, hF3, hP3, l1, l2⟩
    · rintro _ H2 ⟨F2, is2, a2, xs2, pd2, r82, rfl, hF2, hP2, hL2, hm2⟩
      refine ⟨_, rfl, .inl ⟨_, _, rfl, rfl, ?_⟩⟩
      generalize (cs.length - at0) * (M + 1) + lk M 0 (is ++ [(a, xs)]) = m0 at hm2 ⊢
      clear hP1 hP hL hd hm0 he0 hx hlx hlx6 he
      refine ⟨fun m' σ H' => ∃ (F : Hp) (is : List Lay) (a : Addr) (xs : List V) (pd : Nat) (r8 : Option V), σ = [some (.ref c), some (.int M), some (.int D), some (.int pl), some (.int k), some (.ref p), some (.int (at0 + 1 : Nat)), some (.int pd), r8] ∧ Same H F ∧ Pile K (GoodIf M pl) D H' F p (is ++ [(a, xs)]) ∧
        Lens M is xs ∧ (cs.length - (at0 + 1)) * (M + 1) + lk M 0 (is ++ [(a, xs)]) < m0 ∧ m' = is.length, ⟨_, F2, is2, a2, xs2, pd2, r82, rfl, hF2, hP2, hL2, hm2, rfl⟩, ?_⟩
      rintro m' _ H3 ⟨F3, is3, a3, xs3, pd3, r83, rfl, hF3, hP3, hL3, hm3, rfl⟩
      have epl : H3 p = some (.lst (is3.map (fun (e : Lay) => V.ref e.1) ++ [V.ref a3])) := by have := hP3.pl; rw [List.map_append] at this; exact this
      have ea : H3 a3 = some (.lst xs3) := hP3.ls (a3, xs3) (by simp)
      have hh := hL3.hi
      refine ⟨_, rfl, _, _, rfl, .inl ⟨_, .inl (.inl epl), rfl⟩, _, _, rfl, rfl, _, rfl, if2 (fun z1 => ?_) (fun z1 => ?_)⟩
      · have hi0 : is3.length ≠ 0 := by
          have : (1 : Int) < ((is3.map (fun (e : Lay) => V.ref e.1) ++ [V.ref a3]).length : Nat) := z1
          rw [List.length_append, List.length_map] at this
          have e1 : [V.ref a3].length = 1 := rfl
          omega
        have hcap : cap M is3.length = M := by unfold cap; rw [if_neg hi0]
        refine ⟨_, rfl, 1, rfl, ixL (.inl (.inl epl)) (at_last _ _) ⟨_, _, rfl, .inl ⟨_, .inl (.inl ea), rfl⟩, _, rfl, .inl (.inl ⟨rfl, _, rfl, if2 (fun z2 => ?_) (fun z2 => ?_)⟩)⟩⟩
        · refine ⟨_, fun σ' H' h => h, ?_⟩
          have hM3 : xs3.length = M := by have := V.int.inj z2; omega
          rcases List.eq_nil_or_concat is3 with rfl | ⟨is4, ⟨a4, xs4⟩, rfl⟩
          · exact absurd rfl hi0
          rw [List.concat_eq_append] at *
          have hP4 := hP3.pop
          have na3 : a3 ≠ p := hP3.np (a3, xs3) (by simp)
          have ea4 : upd H3 p (.lst ((is4 ++ [(a4, xs4)]).map fun (e : Lay) => V.ref e.1)) a3 = some (.lst xs3) := by rw [upd_ne na3]; exact ea
          have hd3 : is4.length + 1 ≤ D := by have := hP3.dp; rw [List.length_append, List.length_append] at this; have e1 : [(a3, xs3)].length = 1 := rfl; have e2 : [(a4, xs4)].length = 1 := rfl; omega
          obtain ⟨bs, hb1, hb2, hb3⟩ := shapes (hP3.vl (is4 ++ [(a4, xs4)]).length (a3, xs3) (by simp))
          refine ⟨_, rfl, tyL (.inl (.inl epl)), p, _, .ref a3, rfl, rfl, epl, by simp, ?_⟩
          rw [List.dropLast_concat]
          generalize upd H3 p (.lst ((is4 ++ [(a4, xs4)]).map fun (e : Lay) => V.ref e.1)) = H4 at hP4 ea4 ⊢
          refine ⟨a3, xs3, rfl, .inl ⟨.inl (.inl ea4), fun l hl => ?_⟩⟩
          have g5 := (Grow.refl hP4.sf).keep hl (.tup xs3)
          have hP5 := hP4.grow g5
          have hsh : ShAt K (upd F3 l (.tup xs3)) (.ref l) (.tup bs) := .tup upd_same hb1 fun i v b hv hb => (hb3 i v b hv hb).same g5.ff
          have hgd : GoodIf M pl (D - is4.length) (.tup bs) := fun e => by
            rw [show D - is4.length = (D - (is4 ++ [(a4, xs4)]).length) + 1 by rw [List.length_append]; show _ = D - (_ + 1) + 1; omega]
            show (decide (bs.length = M) && bs.all _) = true
            rw [decide_eq_true (hb1 ▸ hM3), Bool.true_and, List.all_eq_true]
            exact fun b hb => hb2 b hb e
          generalize upd H4 l (.tup xs3) = H5 at g5 hP5 ⊢
          generalize upd F3 l (.tup xs3) = F5 at g5 hP5 hsh ⊢
          obtain ⟨hl4, hx4⟩ := hL3.down
          have hx4' : xs4.length < 7 := by
            have : xs4.length < cap M is4.length := hx4
            unfold cap at this
            split at this <;> omega
          have epl5 : H5 p = some (.lst (is4.map (fun (e : Lay) => V.ref e.1) ++ [V.ref a4])) := by have := hP5.pl; rw [List.map_append] at this; exact this
          have ea5 : H5 a4 = some (.lst xs4) := hP5.ls (a4, xs4) (by simp)
          refine ⟨_, rfl, 1, rfl, ixL (.inl (.inl epl5)) (at_last _ _) ⟨tyL (.inl (.inl ea5)), ?_⟩⟩
          refine ⟨_, rfl, ?_⟩
          dsimp (config := { proj := false, eta := false, zeta := false, iota := false }) only [tCons, tNil, tC]
          refine appL ea5 (by rw [sizeLine_eq]; omega) ?_
          have hno : ∀ v ∈ xs4 ++ [V.ref l], ∃ τ, ShAt K F5 v τ ∧ GoodIf M pl (D - is4.length) τ := fun v hv => by
            rcases List.mem_append.mp hv with z | z
            · exact hP5.vl is4.length (a4, xs4) (by simp) v z
            · cases List.mem_singleton.mp z
              exact ⟨_, hsh, hgd⟩
          have hP6 := hP5.top (xs4 ++ [.ref l]) hno
          generalize upd H5 a4 (.lst (xs4 ++ [.ref l])) = H6 at hP6 ⊢
          have hmm : ∀ ys : List V, ys.length = xs4.length + 1 → Lens M is4 ys ∧ (cs.length - (at0 + 1)) * (M + 1) + lk M 0 (is4 ++ [(a4, ys)]) < m0 := fun ys hy => by
            refine ⟨⟨hl4, by have : xs4.length < cap M is4.length := hx4; omega⟩, ?_⟩
            rw [lk_app, lk_app, Nat.zero_add] at hm3
            rw [lk_app, Nat.zero_add]
            have : xs4.length < cap M is4.length := hx4
            have h3 : (cs.length - (at0 + 1)) * (M + 1) + (lk M 0 is4 + (cap M is4.length - xs4.length) + (cap M (0 + (is4 ++ [(a4, xs4)]).length) - xs3.length)) < m0 := hm3
            show _ + (_ + (_ - ys.length)) < _
            generalize (cs.length - (at0 + 1)) * (M + 1) = B at *
            omega
          dsimp (config := { eta := false, zeta := false, iota := false }) only []
          refine meet (fun σ H7 => ∃ (F : Hp) (ys : List V), σ = [some (.ref c), some (.int M), some (.int D), some (.int pl), some (.int k), some (.ref p), some (.int (at0 + 1 : Nat)), some (.int pd3), some (.ref l)] ∧ Same H F ∧ Pile K (GoodIf M pl) D H7 F p (is4 ++ [(a4, ys)]) ∧ ys.length = xs4.length + 1) (fun N2 hN2 => ?_) ?_
          · refine ⟨_, rfl, _, rfl, .inl (.inl ⟨rfl, _, rfl, if2 (fun z => ?_) (fun z => ?_)⟩)⟩
            · have hpl : pl ≠ -1 := by have : ((pd3 : Nat) : Int) = pl := V.int.inj z; omega
              refine ⟨_, rfl, _, rfl, _, rfl, .ref l, .tup bs, k, M, rfl, hk, hM, hM6, F5, hP6.sf, hsh, (fun z => nomatch z), fun F7 H7 v τ' g hv => ?_⟩
              have hP7 := hP6.grow g
              have epl7 : H7 p = some (.lst (is4.map (fun (e : Lay) => V.ref e.1) ++ [V.ref a4])) := by have := hP7.pl; rw [List.map_append] at this; exact this
              have ea7 : H7 a4 = some (.lst (xs4 ++ [.ref l])) := hP7.ls (a4, xs4 ++ [.ref l]) (by simp)
              refine ⟨_, rfl, 1, rfl, ixL (.inl (.inl epl7)) (at_last _ _) ⟨1, rfl, a4, _, -1, _, rfl, rfl, ea7, ix_last (by simp), ?_⟩⟩
              rw [set_last]
              refine hN2 _ _ ⟨F7, xs4 ++ [v], rfl, hF3.trans (g5.ff.trans g.ff), hP7.top (xs4 ++ [v]) (fun u hu => ?_), by simp⟩
              rcases List.mem_append.mp hu with z | z
              · exact hP7.vl is4.length (a4, xs4 ++ [.ref l]) (by simp) u (List.mem_append_left _ z)
              · cases List.mem_singleton.mp z
                exact ⟨τ', hv, fun e => absurd e hpl⟩
            · exact hN2 _ _ ⟨F5, xs4 ++ [.ref l], rfl, hF3.trans g5.ff, hP6, by simp⟩
          · rintro _ H7 ⟨F7, ys, rfl, hF7, hP7, hy⟩
            obtain ⟨l1, l2⟩ := hmm ys hy
            refine ⟨_, rfl, .inl ⟨_, _, rfl, rfl, ?_⟩⟩
            exact ⟨_, by rw [List.length_append]; exact Nat.lt_succ_self _, F7, is4, a4, ys, pd3 + 1, _, rfl, hF7, hP7, l1, l2, rfl⟩
        · exact ⟨_, hm3, F3, is3, a3, xs3, at0 + 1, pd3, r83, rfl, hF3, hP3, hL3, .inr (by
            have : xs3.length ≠ M := fun e => z2 (congrArg (fun (n : Nat) => V.int (n : Int)) e)
            omega), rfl⟩
      · have hi0 : is3 = [] := by
          have : ¬ (1 : Int) < ((is3.map (fun (e : Lay) => V.ref e.1) ++ [V.ref a3]).length : Nat) := z1
          rw [List.length_append, List.length_map] at this
          have e1 : [V.ref a3].length = 1 := rfl
          exact List.length_eq_zero_iff.mp (by omega)
        exact iteF ⟨_, hm3, F3, is3, a3, xs3, at0 + 1, pd3, r83, rfl, hF3, hP3, hL3, .inl hi0, rfl⟩
  · refine iteF ?_
    obtain ⟨τ, hv, hg⟩ := hP1.vl 0 (a, [v]) rfl v List.mem_cons_self
    refine ⟨_, rfl, ixL (.inl (.inl hP1.pl)) (atI_nat (j := 0) rfl) (ixL (.inl (.inl (hP1.ls (a, [v]) (by simp)))) (atI_nat (j := 0) rfl) ?_)⟩
    exact q _ _ _ (hF.trans hP1.sf) (hv.same hP1.sf) hg

/-! ### a tree that is checked -/
theorem isTr_tup {M n : Nat} {bs : List Sh} (h : isTr M n (.tup bs) = true) : ∃ k, n = k + 1 ∧ bs.length = M ∧ ∀ b ∈ bs, isTr M k b = true := by
  cases n with
  | zero => cases h
  | succ k =>
    have h' : (decide (bs.length = M) && bs.all (isTr M k)) = true := h
    rw [Bool.and_eq_true, List.all_eq_true] at h'
    exact ⟨k, rfl, of_decide_eq_true h'.1, h'.2⟩
theorem isTr_oth {M n : Nat} : isTr M n .oth = false := by cases n <;> rfl
def spChkTree (K : PySem.W.Frag) (C : Addr) : Sp := fun vs H Q E => ∃ (f : Addr) (L : List Nat) (d : Nat) (x : V) (τ : Sh), vs = [.ref f, x] ∧ SqT K H f [vt L, .int d] ∧ L.length ≤ 100 ∧ d ≤ 6 ∧ ShAt K H x τ ∧
  (isTr L.length d τ = true → ∀ H', Same H H' → Q x H') ∧ (isTr L.length d τ = false → ∀ H', Same H H' → E (.ref C) none H')
theorem ok_checked_tree (T : Txt K mg t) : FnOk P w K mg base (CX1 P w) 9 t.a_checked_tree t.fd_checked_tree ["frame", "thing"] (spChkTree K t.c_NoTree) := by
  refine T.F_checked_tree.okx (k := 8) sc_checked_tree (fun vs H Q E h => ?_) (fun cdv A outer s H vs Q E hr h => ?_)
  · obtain ⟨f, L, d, x, τ, rfl, _⟩ := h; rfl
  obtain ⟨f, L, d, x, τ, rfl, hf, hL, hd, hx, h1, h2⟩ := h
  have G_is_tree := ok_is_tree (P := P) (w := w) (base := base) T
  refine ⟨_, (pss_cons (ps_if (pt_not (pt_val (pe_call G_is_tree hr rfl T.m_is_tree T.F_is_tree.kp T.b_is_tree .nil pass1 (PAs.h (pas_cons (pv 0) (pas_cons (pv 1) pas_nil)))))) (pss_one (ps_raise raises1 rfl rfl T.m_NoTree T.x_NoTree PySem.F.excBase_ValueError (pa_cons pe_str pa_nil))) pss_nil)
    (pss_one (ps_ret (pv 1)))), ?_⟩
  refine ⟨_, rfl, _, rfl, f, L, d, x, τ, rfl, hf, hL, hd, hx, fun H' s' => ⟨_, rfl, ?_⟩⟩
  cases z : isTr L.length d τ with
  | true => exact iteF ⟨_, rfl, h1 z H' s'⟩
  | false => exact iteT ⟨by show 1 ≤ sizeLine; decide, h2 z H' s'⟩

/-! ### the leaves -/
def lvs (L : List Nat) : Nat → Sh → List Nat → List (List Nat)
  | _, .non, k => [k]
  | _, .oth, _ => []
  | 0, .tup _, _ => []
  | n + 1, .tup bs, k => ((L.zip bs).map fun e => lvs L n e.2 (k ++ [e.1])).flatten
theorem lvs_non (L : List Nat) (n : Nat) (k : List Nat) : lvs L n .non k = [k] := by cases n <;> rfl
theorem lvs_len (L : List Nat) (n : Nat) : ∀ (τ : Sh) (k : List Nat), (lvs L n τ k).length ≤ (L.length + 1) ^ n := by
  induction n with
  | zero => intro τ k; cases τ <;> simp [lvs]
  | succ n ih =>
    intro τ k
    have h1 : 1 ≤ (L.length + 1) ^ (n + 1) := Nat.pow_pos (by omega)
    cases τ with
    | non => simpa [lvs] using h1
    | oth => simp [lvs]
    | tup bs =>
      show (((L.zip bs).map fun e => lvs L n e.2 (k ++ [e.1])).flatten).length ≤ _
      have go : ∀ z : List (Nat × Sh), ((z.map fun e => lvs L n e.2 (k ++ [e.1])).flatten).length ≤ z.length * (L.length + 1) ^ n := fun z => by
        induction z with
        | nil => simp
        | cons e z ih2 =>
          rw [List.map_cons, List.flatten_cons, List.length_append, List.length_cons, Nat.add_mul, Nat.one_mul]
          have := ih e.2 (k ++ [e.1])
          omega
      refine Nat.le_trans (go _) ?_
      rw [Nat.pow_succ, Nat.mul_comm]
      refine Nat.mul_le_mul_left _ ?_
      rw [List.length_zip]; omega
def tk (ks : List (List Nat)) : List V := ks.map vt
theorem tk_app (a b : List (List Nat)) : tk (a ++ b) = tk a ++ tk b := List.map_append
theorem tk_len (a : List (List Nat)) : (tk a).length = a.length := List.length_map ..
def spLvB (K : PySem.W.Frag) (n : Nat) : Sp := fun vs H Q _ => ∃ (L : List Nat) (x : V) (τ : Sh) (k : List Nat), vs = [vt L, x, vt k] ∧ L.length ≤ 6 ∧ n ≤ 6 ∧ k.length + n ≤ 100 ∧ ShAt K H x τ ∧ isTr L.length n τ = true ∧
  ∀ H' p, Same H H' → H p = none → H' p = some (.lst (tk (lvs L n τ k))) → Q (.ref p) H'
theorem lvb_step (T : Txt K mg t) (n : Nat) (sp : Sp) (hsp : ∀ k, n = k + 1 → sp = spLvB K k) (G_leaves_behind : FnOk P w K mg base (CX1 P w) n t.a_leaves_behind t.fd_leaves_behind ["letters", "tree", "knot"] sp) :
    FnOk P w K mg base (CX1 P w) (n + 1) t.a_leaves_behind t.fd_leaves_behind ["letters", "tree", "knot"] (spLvB K n) := by
  refine T.F_leaves_behind.okn (k := n) sc_leaves_behind (fun vs H Q E h => ?_) (fun cdv A outer s H vs Q E hr h => ?_)
  · obtain ⟨L, x, τ, k, rfl, _⟩ := h; rfl
  obtain ⟨L, x, τ, kn, rfl, hL, hn6, hkl, hx, ht, q⟩ := h
  refine ⟨_, (pss_cons (ps_if (pt_cmp (pc_isN (pv 1))) (pss_one (ps_ret (pe_lst (pa_cons (pv 2) pa_nil)))) pss_nil)
    (pss_cons (ps_set (i := 3) sc_leaves_behind.nd rfl (Or.inl rfl) (pe_lst pa_nil))
    (pss_cons (ps_for PassesOwn.never rfl (pi_zip rfl T.m_zip bt_zip (PAs.h (pas_cons (pv 0) (pas_cons (pv 1) pas_nil)))) (pg_tup rfl (pgs_cons (pg_name (i := 4) sc_leaves_behind.nd rfl (Or.inl rfl)) (pgs_cons (pg_name (i := 5) sc_leaves_behind.nd rfl (Or.inl rfl)) pgs_nil))) (pss_one (ps_expr (pe_bm PySem.F.plainAttrs_list PySem.F.slot_list_extend PySem.F.type_list_extend mt_ext (pv 3) (pa_cons (pe_call G_leaves_behind hr rfl T.m_leaves_behind T.F_leaves_behind.kp T.b_leaves_behind .nil pass1 (PAs.h (pas_cons (pv 0) (pas_cons (pv 5) (pas_cons (pe_op oAddN (pv 2) (pv 4)) pas_nil))))) pa_nil)))))
    (pss_one (ps_ret (pv 3)))))), ?_⟩
  cases hx with
  | non =>
    refine ⟨_, rfl, _, rfl, iteT ?_⟩
    refine ⟨_, rfl, by rw [sizeLine_eq]; show 1 ≤ _; decide, fun p hp => ?_⟩
    exact q _ p (same_new hp _) hp (by rw [lvs_non]; exact upd_same)
  | oth h => rw [isTr_oth] at ht; cases ht
  | tup e hl h =>
    rename_i a vs bs
    obtain ⟨k, rfl, hbl, hbs⟩ := isTr_tup ht
    have hs := hsp k rfl
    subst hs
    refine ⟨_, rfl, _, rfl, iteF ?_⟩
    refine ⟨by rw [sizeLine_eq]; show 0 ≤ _; decide, fun p hp => ?_⟩
    refine ⟨_, rfl, _, rfl, L, a, vs, rfl, new_at hp e, ?_⟩
    have hB : (L.length + 1) ^ k ≤ 117649 := pow_7 hL (by omega)
    refine for_zip (hl ▸ hbl.symm) (fun i σ H' => ∃ r4 r5, σ = [some (vt L), some (.ref a), some (vt kn), some (.ref p), r4, r5] ∧ Same H H' ∧ H' p = some (.lst (tk (((L.zip bs).take i).map fun e => lvs L k e.2 (kn ++ [e.1])).flatten))) ⟨_, _, rfl, same_new hp _, upd_same⟩ (fun i σ H' ⟨_, _, _, g, _⟩ => g _ _ e) ?_ ?_
    · rintro i c v _ H1 q1 hc hv ⟨r4, r5, rfl, g, hp1⟩ hq1
      have hil := (List.getElem?_eq_some_iff.mp hc).1
      have hib : i < bs.length := by omega
      have hb := List.getElem?_eq_getElem hib
      have hz : (L.zip bs)[i]? = some (c, bs[i]) := by
        rw [List.getElem?_zip_eq_some]; exact ⟨hc, hb⟩
      have hzl : (L.zip bs).length = L.length := by rw [List.length_zip]; omega
      have g1 : Same H (upd H1 q1 (.tup [vt [c], v])) := new_same hq1 g
      have hp2 := new_at (o := .tup [vt [c], v]) hq1 hp1
      generalize upd H1 q1 (.tup [vt [c], v]) = H2 at g1 hp2 ⊢
      refine ⟨_, rfl, tyL (.inl (.inl hp2)), _, rfl, _, rfl, _, rfl, _, rfl, .inr (.inl (catX (by rw [sizeLine_eq]; show _ + 1 ≤ _; omega) ?_))⟩
      refine ⟨L, v, bs[i], kn ++ [c], rfl, hL, by omega, by rw [List.length_append]; show _ + 1 + _ ≤ _; omega, (h i v _ hv hb).same g1, hbs _ (List.getElem_mem _), fun H3 b s3 hb0 hb3 => ?_⟩
      have hlen : ((((L.zip bs).take i).map fun e => lvs L k e.2 (kn ++ [e.1])).flatten).length ≤ 6 * 117649 := by
        have go : ∀ z : List (Nat × Sh), ((z.map fun e => lvs L k e.2 (kn ++ [e.1])).flatten).length ≤ z.length * 117649 := fun z => by
          induction z with
          | nil => simp
          | cons e z ih2 =>
            rw [List.map_cons, List.flatten_cons, List.length_append, List.length_cons, Nat.add_mul, Nat.one_mul]
            have := lvs_len L k e.2 (kn ++ [e.1])
            omega
        refine Nat.le_trans (go _) (Nat.mul_le_mul_right _ ?_)
        rw [List.length_take]; omega
      have hln := lvs_len L k bs[i] (kn ++ [c])
      refine ⟨p, b, _, _, rfl, rfl, s3 _ _ hp2, hb3, by rw [tk_len, tk_len, sizeLine_eq]; omega, ?_⟩
      refine ⟨_, _, rfl, over_same hp (g1.trans s3), ?_⟩
      rw [upd_same, List.take_add_one, hz, List.map_append, List.flatten_append, ← tk_app]
      simp
    · rintro _ H1 ⟨r4, r5, rfl, g, hp1⟩
      refine ⟨_, rfl, ?_⟩
      refine q H1 p g hp ?_
      rw [hp1]
      have : (L.zip bs).take L.length = L.zip bs := List.take_of_length_le (by rw [List.length_zip]; omega)
      rw [this]; rfl

theorem ok_lvb (T : Txt K mg t) : ∀ n, FnOk P w K mg base (CX1 P w) (n + 1) t.a_leaves_behind t.fd_leaves_behind ["letters", "tree", "knot"] (spLvB K n)
  | 0 => lvb_step T 0 _ (fun _ h => nomatch h) ok_none
  | n + 1 => lvb_step T (n + 1) _ (fun k h => by cases h; rfl) (ok_lvb T n)
def spLvAny (K : PySem.W.Frag) : Sp := fun vs H Q E => ∃ n, n ≤ 6 ∧ spLvB K n vs H Q E
theorem ok_lv_any (T : Txt K mg t) : FnOk P w K mg base (CX1 P w) 7 t.a_leaves_behind t.fd_leaves_behind ["letters", "tree", "knot"] (spLvAny K) := by
  refine ⟨fun vs H Q E ⟨n, _, h⟩ => (ok_lvb (P := P) (w := w) (base := base) T n).len vs H Q E h, fun A outer s H args us vs Q E hr h0 h1 h2 ⟨n, hn, h⟩ => ?_⟩
  exact ((ok_lvb (P := P) (w := w) (base := base) T n).mono (show n + 1 ≤ 7 by omega)).run A outer s H args us vs Q E hr h0 h1 h2 h
theorem str_nil0 : V.str (Str.ofString "") = vt [] := congrArg V.str (by decide +kernel)
def spLeaves (K : PySem.W.Frag) (C : Addr) : Sp := fun vs H Q E => ∃ (f : Addr) (L : List Nat) (d : Nat) (x : V) (τ : Sh), vs = [.ref f, x] ∧ SqT K H f [vt L, .int d] ∧ L.length ≤ 6 ∧ d ≤ 6 ∧ ShAt K H x τ ∧
  (isTr L.length d τ = true → ∀ H' p, Same H H' → H p = none → H' p = some (.lst (tk (lvs L d τ []))) → Q (.ref p) H') ∧ (isTr L.length d τ = false → ∀ H', Same H H' → E (.ref C) none H')
theorem ok_leaves (T : Txt K mg t) : FnOk P w K mg base (CX1 P w) 10 t.a_leaves t.fd_leaves ["frame", "tree"] (spLeaves K t.c_NoTree) := by
  refine T.F_leaves.okx (k := 9) sc_leaves (fun vs H Q E h => ?_) (fun cdv A outer s H vs Q E hr h => ?_)
  · obtain ⟨f, L, d, x, τ, rfl, _⟩ := h; rfl
  obtain ⟨f, L, d, x, τ, rfl, hf, hL, hd, hx, h1, h2⟩ := h
  have G_checked_tree := ok_checked_tree (P := P) (w := w) (base := base) T
  have G_leaves_behind := (ok_lv_any (P := P) (w := w) (base := base) T).mono (show 7 ≤ 9 by decide)
  refine ⟨_, (pss_one (ps_ret (pe_call G_leaves_behind hr rfl T.m_leaves_behind T.F_leaves_behind.kp T.b_leaves_behind .nil pass1 (PAs.h (pas_cons (pe_ix ixAny (pv 0) pe_int (fun _ _ => rfl)) (pas_cons (pe_call G_checked_tree hr rfl T.m_checked_tree T.F_checked_tree.kp T.b_checked_tree .nil passes1 (PAs.h (pas_cons (pv 0) (pas_cons (pv 1) pas_nil)))) (pas_cons pe_str pas_nil))))))), ?_⟩
  refine ⟨_, rfl, ixT hf rfl ⟨_, rfl, _, rfl, f, L, d, x, τ, rfl, hf, by omega, hd, hx, fun z H1 s1 => ?_, fun z H1 s1 => h2 z H1 s1⟩⟩
  refine ⟨d, hd, L, x, τ, [], by rw [← str_nil0]; rfl, hL, hd, by show 0 + _ ≤ _; omega, hx.same s1, z, fun H2 p s2 hp e2 => h1 z H2 p (s1.trans s2) (s1.free hp) e2⟩
/-! ### one leaf, and one alone, lies on each way down -/
def onWay (r : List Nat) (ks : List (List Nat)) : Nat := (ks.filter fun k => k.isPrefixOf r).length
theorem onWay_app (r : List Nat) (a b : List (List Nat)) : onWay r (a ++ b) = onWay r a + onWay r b := by
  unfold onWay; rw [List.filter_append, List.length_append]
theorem lvs_pre (L : List Nat) (n : Nat) : ∀ (τ : Sh) (k : List Nat), ∀ x ∈ lvs L n τ k, k <+: x := by
  induction n with
  | zero => intro τ k x hx; cases τ with
    | non => cases List.mem_singleton.mp hx; exact List.prefix_rfl
    | oth => cases hx
    | tup bs => cases hx
  | succ n ih =>
    intro τ k x hx
    cases τ with
    | non => cases List.mem_singleton.mp hx; exact List.prefix_rfl
    | oth => cases hx
    | tup bs =>
      obtain ⟨l, hl, hx⟩ := List.mem_flatten.mp hx
      obtain ⟨e, _, rfl⟩ := List.mem_map.mp hl
      exact (List.prefix_append k [e.1]).trans (ih _ _ x hx)
theorem onWay_none {r : List Nat} {L : List Nat} {n : Nat} {τ : Sh} {k : List Nat} (h : ¬ k <+: r) : onWay r (lvs L n τ k) = 0 := by
  unfold onWay
  rw [List.length_eq_zero_iff, List.filter_eq_nil_iff]
  intro x hx hp
  exact h ((lvs_pre L n τ k x hx).trans (List.isPrefixOf_iff_prefix.mp hp))
theorem onWay_self {k r : List Nat} (hk : k <+: r) : onWay r [k] = 1 := by
  unfold onWay
  rw [List.filter_cons, if_pos (List.isPrefixOf_iff_prefix.mpr hk)]; rfl
theorem onWay_one (L : List Nat) (hnd : L.Nodup) (n : Nat) : ∀ (τ : Sh) (k r : List Nat), isTr L.length n τ = true → k <+: r → k.length + n ≤ r.length → (∀ c ∈ r, c ∈ L) → onWay r (lvs L n τ k) = 1 := by
  induction n with
  | zero =>
    intro τ k r ht hk hr hc
    cases τ with
    | non => rw [lvs_non]; exact onWay_self hk
    | oth => rw [isTr_oth] at ht; cases ht
    | tup bs => cases ht
  | succ n ih =>
    intro τ k r ht hk hr hc
    cases τ with
    | non => rw [lvs_non]; exact onWay_self hk
    | oth => rw [isTr_oth] at ht; cases ht
    | tup bs =>
      obtain ⟨n', e, hbl, hbs⟩ := isTr_tup ht
      cases e
      obtain ⟨u, rfl⟩ := hk
      rw [List.length_append] at hr
      cases u with
      | nil => exact absurd hr (by show ¬ _ ≤ _ + 0; omega)
      | cons c0 u =>
        have hc0 : c0 ∈ L := hc c0 (by simp)
        show onWay (k ++ c0 :: u) (((L.zip bs).map fun e => lvs L n e.2 (k ++ [e.1])).flatten) = 1
        have pre : ∀ c, (k ++ [c]) <+: (k ++ c0 :: u) ↔ c = c0 := fun c => by
          rw [List.prefix_append_right_inj, List.cons_prefix_cons]; simp
        have go : ∀ (Ls : List Nat) (bs : List Sh), Ls.Nodup → Ls.length = bs.length → (∀ b ∈ bs, isTr L.length n b = true) → onWay (k ++ c0 :: u) (((Ls.zip bs).map fun e => lvs L n e.2 (k ++ [e.1])).flatten) = if c0 ∈ Ls then 1 else 0 := by
          intro Ls
          induction Ls with
          | nil => intro bs _ _ _; rfl
          | cons l Ls ihl =>
            intro bs hn hlen hb
            cases bs with
            | nil => cases hlen
            | cons b bs =>
              rw [List.zip_cons_cons, List.map_cons, List.flatten_cons, onWay_app, ihl bs (List.nodup_cons.mp hn).2 (by simpa using hlen) fun b hb' => hb b (List.mem_cons_of_mem _ hb')]
              by_cases z : l = c0
              · subst z
                rw [if_neg (List.nodup_cons.mp hn).1, if_pos List.mem_cons_self]
                exact ih b (k ++ [l]) _ (hb b List.mem_cons_self) ((pre l).mpr rfl) (by simp at hr ⊢; omega) hc
              · have : onWay (k ++ c0 :: u) (lvs L n (l, b).2 (k ++ [(l, b).1])) = 0 := onWay_none fun h => z ((pre l).mp h)
                rw [this, Nat.zero_add]
                have : (c0 ∈ l :: Ls) ↔ c0 ∈ Ls := by
                  rw [List.mem_cons]; exact ⟨fun h => h.resolve_left (Ne.symm z), .inr⟩
                simp only [this]
        rw [go L bs hnd hbl.symm hbs, if_pos hc0]

/-! ### texts and rows that the law draws -/
def spText (K : PySem.W.Frag) : Sp := fun vs H Q _ => ∃ (c : Addr) (cs : List Int) (L : List Nat) (b : Bool), vs = [.ref c, vt L, .bl b] ∧ SqL K H c (cs.map V.int) ∧ 2 ≤ L.length ∧ L.length ≤ 6 ∧ cs.length ≤ 100 ∧ ∀ l : List Nat, (∀ x ∈ l, x ∈ L) → l.length = cs.length → Q (vt l) H
theorem ok_L_text (T : Txt K mg t) : FnOk P w K mg base (CX1 P w) 1 t.a_L_text t.fd_L_text ["cells", "letters", "lean"] (spText K) := by
  refine T.F_L_text.okn (k := 0) sc_L_text (fun vs H Q E h => ?_) (fun cdv A outer s H vs Q E hr h => ?_)
  · obtain ⟨c, cs, L, b, rfl, _⟩ := h; rfl
  obtain ⟨c, cs, L, b, rfl, hc, hL2, hL6, hcl, q⟩ := h
  have zL : L.length ≤ sizeLine := by rw [sizeLine_eq]; omega
  refine ⟨_, (pss_cons (ps_set (i := 3) sc_L_text.nd rfl (Or.inl rfl) pe_str)
    (pss_cons (ps_for PassesOwn.never rfl (piAny (pv 0)) (pg_name (i := 4) sc_L_text.nd rfl (Or.inl rfl)) (pss_cons (ps_set (i := 5) sc_L_text.nd rfl (Or.inl rfl) (pe_op op_fdivL (pv 4) pe_int))
    (pss_one (ps_if (PW.pt (pw_and (pt_val (pv 2)) (pw_and (pt_cmpR op_gt (pe_callB call_len rfl T.m_len bt_len (pa_cons (pv 3) pa_nil)) pe_int (nomark _)) (pw_and1 (pt_cmpR op_gt (pe_op op_mod (pv 5) pe_int) pe_int (nomark _)))))) (pss_one (ps_set (i := 3) sc_L_text.nd rfl (Or.inl rfl) (pe_op oAddN (pv 3) (pe_ix ixAny (pv 3) (pe_op op_sub (pe_un un_neg pe_int) (pe_op op_mod (pe_op op_fdivL (pv 5) pe_int) pe_int)) (fun _ _ => rfl))))) (pss_one (ps_set (i := 3) sc_L_text.nd rfl (Or.inl rfl) (pe_op oAddN (pv 3) (pe_ix ixAny (pv 1) (pe_op op_mod (pe_op op_fdivL (pv 5) pe_int) (pe_callB call_len rfl T.m_len bt_len (pa_cons (pv 1) pa_nil))) (fun _ _ => rfl)))))))))
    (pss_one (ps_ret (pv 3))))), ?_⟩
  show gName 3 (V.str (Str.ofString "")) _ _ _
  rw [str_nil0]
  refine ⟨_, rfl, .inl ⟨c, _, rfl, hc, ?_⟩⟩
  refine for_walk (walk_list (xs := cs.map V.int)) (fun i σ H' => ∃ l r4 r5, σ = [some (.ref c), some (vt L), some (.bl b), some (vt l), r4, r5] ∧ H' = H ∧ (∀ x ∈ l, x ∈ L) ∧ l.length = i) ⟨[], _, _, rfl, rfl, fun x h => (nomatch h), rfl⟩ (fun i σ H' _ ⟨_, _, _, _, e, _⟩ => e ▸ hc) ?_ ?_
  · rintro i x _ _ hx ⟨l, r4, r5, rfl, rfl, hl, hn⟩
    obtain ⟨n, hnn, rfl⟩ := int_at hx
    have hi := (List.getElem?_eq_some_iff.mp hnn).1
    have zl : l.length ≤ sizeLine := by rw [sizeLine_eq]; omega
    refine ⟨_, rfl, _, _, rfl, rfl, cdivK (by decide) (by decide), ?_⟩
    show gName 5 (V.int (n.fdiv 3)) _ _ _
    generalize n.fdiv 3 = pk
    dsimp (config := { eta := false, zeta := false, iota := false }) only [gName]
    refine if_test (2 < l.length) (fun Q' h1 h2 => ?_) (fun z => ?_) ?_
    · refine ⟨_, rfl, b, rfl, ?_⟩
      cases b with
      | false => exact iteF h2
      | true =>
        refine iteT ⟨_, rfl, _, _, rfl, lenvS zl, _, _, rfl, rfl, _, rfl, if2 (fun z => ?_) (fun _ => h2)⟩
        have z' : 2 < l.length := by have : (2 : Int) < ((l.length : Nat) : Int) := z; omega
        refine ⟨_, rfl, _, _, rfl, rfl, (by show (0 : Int) < 4; decide), _, _, rfl, rfl, _, rfl, ?_⟩
        cases decide (pk % 4 > 0) with
        | true => exact h1 z'
        | false => exact h2
    · have m1 := Int.emod_nonneg (pk.fdiv 4) (show (3 : Int) ≠ 0 by decide)
      have m2 := Int.emod_lt_of_pos (pk.fdiv 4) (show (0 : Int) < 3 by decide)
      obtain ⟨s1, hs1, es⟩ := at_back l (k := 1 + pk.fdiv 4 % 3) (by omega) (by omega)
      refine ⟨_, rfl, _, rfl, 1, rfl, _, rfl, _, _, rfl, rfl, cdivK (by decide) (by decide), _, _, rfl, rfl, (by show (0 : Int) < 3; decide), _, _, rfl, rfl, ?_⟩
      try dsimp (config := { proj := false, eta := false, zeta := false, iota := false }) only [tNil, tC]
      rw [show (-1 : Int) - pk.fdiv 4 % 3 = -(1 + pk.fdiv 4 % 3) by omega]
      refine ixS zl es (.inr (.inl (catX (by rw [sizeLine_eq]; show _ + 1 ≤ _; omega) ?_)))
      refine ⟨l ++ [s1], _, _, rfl, rfl, fun x hx => ?_, by rw [List.length_append, hn]; rfl⟩
      rcases List.mem_append.mp hx with z | z
      · exact hl x z
      · cases List.mem_singleton.mp z; exact hl s1 hs1
    · obtain ⟨s1, hs1, es⟩ := at_mod L (by omega) (pk.fdiv 4)
      refine ⟨_, rfl, _, rfl, _, rfl, _, _, rfl, rfl, cdivK (by decide) (by decide), _, rfl, _, _, rfl, lenvS zL, _, _, rfl, rfl, (by show (0 : Int) < (L.length : Nat); omega), ?_⟩
      refine ixS zL es (.inr (.inl (catX (by rw [sizeLine_eq]; show _ + 1 ≤ _; omega) ?_)))
      refine ⟨l ++ [s1], _, _, rfl, rfl, fun x hx => ?_, by rw [List.length_append, hn]; rfl⟩
      rcases List.mem_append.mp hx with z | z
      · exact hl x z
      · cases List.mem_singleton.mp z; exact hs1
  · rintro _ _ ⟨l, r4, r5, rfl, rfl, hl, hn⟩
    rw [List.length_map] at hn
    exact ⟨_, rfl, q l hl hn⟩

/-! ### products over the leaves -/
def prodI : List Int → Int
  | [] => 1
  | x :: xs => x * prodI xs
theorem prodI_app (a b : List Int) : prodI (a ++ b) = prodI a * prodI b := by
  induction a with
  | nil => simp [prodI]
  | cons x a ih => show x * prodI (a ++ b) = x * prodI a * prodI b; rw [ih, Int.mul_assoc]
theorem prodI_pos : ∀ {a : List Int}, (∀ x ∈ a, 1 ≤ x) → 1 ≤ prodI a
  | [], _ => Int.le_refl _
  | x :: a, h => by
    have h1 := h x List.mem_cons_self
    have h2 := prodI_pos (a := a) fun y hy => h y (List.mem_cons_of_mem _ hy)
    show 1 ≤ x * prodI a
    have := Int.mul_le_mul h1 h2 (by decide) (by omega)
    simpa using this
theorem prodI_le {a b : List Int} (ha : ∀ x ∈ a, 1 ≤ x) (hb : ∀ x ∈ b, 1 ≤ x) : prodI a ≤ prodI (a ++ b) := by
  rw [prodI_app]
  have h1 := prodI_pos ha
  have h2 := prodI_pos hb
  have := Int.mul_le_mul_of_nonneg_left h2 (show 0 ≤ prodI a by omega)
  simpa using this
theorem onWay_split {r : List Nat} : ∀ {ks : List (List Nat)}, onWay r ks = 1 → ∃ a k b, ks = a ++ k :: b ∧ k <+: r ∧ (∀ x ∈ a, ¬ x <+: r) ∧ ∀ x ∈ b, ¬ x <+: r
  | [], h => by cases h
  | k :: ks, h => by
    by_cases z : k <+: r
    · refine ⟨[], k, ks, rfl, z, fun x hx => (nomatch hx), fun x hx hp => ?_⟩
      have h1 : onWay r ([k] ++ ks) = 1 := h
      rw [onWay_app, onWay_self z] at h1
      have h2 : onWay r ks = 0 := by omega
      unfold onWay at h2
      rw [List.length_eq_zero_iff, List.filter_eq_nil_iff] at h2
      exact h2 x hx (List.isPrefixOf_iff_prefix.mpr hp)
    · have h1 : onWay r ([k] ++ ks) = 1 := h
      have h0 : onWay r [k] = 0 := by
        unfold onWay
        rw [List.filter_cons, if_neg (fun hp => z (List.isPrefixOf_iff_prefix.mp hp))]; rfl
      rw [onWay_app, h0, Nat.zero_add] at h1
      obtain ⟨a, k', b, rfl, hk, ha, hb⟩ := onWay_split h1
      refine ⟨k :: a, k', b, rfl, hk, fun x hx => ?_, hb⟩
      rcases List.mem_cons.mp hx with rfl | hx
      · exact z
      · exact ha x hx
theorem falls_iff {f d : Nat} {l kn : List Nat} {k : Nat} : falls f d l kn k = true ↔ kn <+: eldL f d l k := by
  unfold falls
  rw [decide_eq_true_iff, List.prefix_iff_eq_take]
  exact ⟨Eq.symm, Eq.symm⟩
theorem falls_no {f d : Nat} {l kn : List Nat} {k : Nat} (h : ¬ kn <+: eldL f d l k) : falls f d l kn k = false := by
  cases z : falls f d l kn k with
  | false => rfl
  | true => exact absurd (falls_iff.mp z) h
/-- the product of what f tells of each leaf -/
def overLv (ks : List (List Nat)) (g : List Nat → Int) : Int := prodI (ks.map g)
theorem overLv_step {ks : List (List Nat)} {r : List Nat} (h : onWay r ks = 1) {g g' : List Nat → Int} (hn : ∀ k, ¬ k <+: r → g' k = g k) {k0 : List Nat} (hm : k0 ∈ ks) (hp : k0 <+: r) {x : Int} (hy : g' k0 = g k0 * x) : overLv ks g' = overLv ks g * x := by
  obtain ⟨a, k, b, rfl, hk, ha, hb⟩ := onWay_split h
  have ek : k0 = k := by
    rcases List.mem_append.mp hm with z | z
    · exact absurd hp (ha _ z)
    · rcases List.mem_cons.mp z with z | z
      · exact z
      · exact absurd hp (hb _ z)
  subst ek
  unfold overLv
  rw [List.map_append, List.map_append, prodI_app, prodI_app, List.map_cons, List.map_cons]
  have e1 : a.map g' = a.map g := List.map_congr_left fun y hy => hn y (ha y hy)
  have e2 : b.map g' = b.map g := List.map_congr_left fun y hy => hn y (hb y hy)
  rw [e1, e2]
  show _ * (g' k0 * _) = _ * (g k0 * _) * x
  rw [hy]
  simp only [Int.mul_assoc, Int.mul_comm, Int.mul_left_comm]
/-- the signs that came at the places of a leaf -/
def sg (f d : Nat) (l kn : List Nat) (n : Nat) : List Nat := ((List.range n).filter (falls f d l kn)).map fun k => l.getD k 0
theorem sg_yes {f d : Nat} {l kn : List Nat} {n : Nat} (h : falls f d l kn n = true) : sg f d l kn (n + 1) = sg f d l kn n ++ [l.getD n 0] := by
  unfold sg
  rw [List.range_succ, List.filter_append, List.map_append, List.filter_cons, if_pos h]; rfl
theorem sg_no {f d : Nat} {l kn : List Nat} {n : Nat} (h : falls f d l kn n = false) : sg f d l kn (n + 1) = sg f d l kn n := by
  unfold sg
  rw [List.range_succ, List.filter_append, List.filter_cons, if_neg (by rw [h]; decide)]; simp
theorem sg_count {L : List Nat} {f d : Nat} {l kn : List Nat} {j c : Nat} (hj : L[j]? = some c) : ∀ n, n ≤ l.length → (cntL L f d l kn n)[j]? = some ((sg f d l kn n).count c) := by
  intro n
  unfold cntL
  rw [List.getElem?_map, hj]
  induction n with
  | zero => intro _; rfl
  | succ n ih =>
    intro hn
    have ih' := Option.some.inj (ih (by omega))
    refine congrArg some ?_
    show ((List.range (n + 1)).filter fun k => falls f d l kn k && decide (l[k]? = some c)).length = _
    rw [filter_range_succ]
    have hl : l[n]? = some (l.getD n 0) := by rw [List.getD_eq_getElem?_getD, List.getElem?_eq_getElem (show n < l.length by omega)]; rfl
    cases z : falls f d l kn n with
    | false => rw [sg_no z, if_neg (by simp)]; exact ih'
    | true =>
      rw [sg_yes z, List.count_append, hl]
      by_cases e : l.getD n 0 = c
      · rw [if_pos (by rw [e, Bool.true_and]; exact decide_eq_true rfl), e, List.count_cons_self, List.count_nil]
        exact congrArg (· + 1) ih'
      · rw [if_neg (by rw [Bool.true_and, decide_eq_false (fun h => e (Option.some.inj h))]; decide), List.count_cons_of_ne e, List.count_nil]
        exact ih'
theorem sg_len {L : List Nat} (hL : L.Nodup) {f d : Nat} {l kn : List Nat} (hl : ∀ c ∈ l, c ∈ L) : ∀ n, n ≤ l.length → (cntL L f d l kn n).sum = (sg f d l kn n).length := by
  intro n
  induction n with
  | zero =>
    intro _
    rw [cntL_zero (by rfl), sg]
    simp
  | succ n ih =>
    intro hn
    have ih' := ih (by omega)
    cases z : falls f d l kn n with
    | false => rw [cntL_no z, sg_no z]; exact ih'
    | true =>
      have hln : l[n]? = some (l.getD n 0) := by rw [List.getD_eq_getElem?_getD, List.getElem?_eq_getElem (show n < l.length by omega)]; rfl
      obtain ⟨j, hj⟩ := List.getElem?_of_mem (hl _ (List.mem_of_getElem? hln))
      obtain ⟨v, hv, e⟩ := cntL_yes (d := d) (kn := kn) (f := f) hL z hj hln
      rw [e, sum_set hv, sg_yes z, List.length_append, ih']; rfl
theorem sg_le (f d : Nat) (l kn : List Nat) (n : Nat) : (sg f d l kn n).length ≤ n := by
  unfold sg
  rw [List.length_map]
  have := List.length_filter_le (falls f d l kn) (List.range n)
  rw [List.length_range] at this
  exact this
/-- what comes at place n -/
structure AllT (L : List Nat) (f d : Nat) (l : List Nat) (ks : List (List Nat)) (n : Nat) (tp bt : Int) : Prop where
  tp : tp = overLv ks fun k => topW (cntL L f d l k n)
  bt : bt = overLv ks fun k => botW L.length (cntL L f d l k n).sum
theorem AllT.start (L : List Nat) (f d : Nat) (l : List Nat) (ks : List (List Nat)) : AllT L f d l ks 0 1 1 := by
  have e : ∀ k, cntL L f d l k 0 = List.replicate L.length 0 := fun k => cntL_zero rfl
  have ez : ∀ m, topW (List.replicate m 0) = 1 := fun m => by
    induction m with
    | zero => rfl
    | succ m ih => show topW (List.replicate m 0) * oddP 0 = 1; rw [ih]; rfl
  have one : ∀ (ks : List (List Nat)) (g : List Nat → Int), (∀ k, g k = 1) → overLv ks g = 1 := fun ks g hg => by
    unfold overLv
    induction ks with
    | nil => rfl
    | cons k ks ih => show g k * prodI _ = 1; rw [hg k, ih]; rfl
  exact ⟨(one _ _ fun k => by rw [e, ez]).symm, (one _ _ fun k => by rw [e, List.sum_replicate_nat, Nat.mul_zero]; rfl).symm⟩
theorem AllT.step {L : List Nat} (hL : L.Nodup) {f d : Nat} {l : List Nat} {ks : List (List Nat)} {n : Nat} {tp bt : Int} (h : AllT L f d l ks n tp bt) (hl : ∀ c ∈ l, c ∈ L) (hn : n < l.length) (h1 : onWay (eldL f d l n) ks = 1) {k0 : List Nat} (hm : k0 ∈ ks) (hp : k0 <+: eldL f d l n) :
    AllT L f d l ks (n + 1) (tp * (2 * ((sg f d l k0 n).count (l.getD n 0) : Int) + 1)) (bt * (2 * ((sg f d l k0 n).length : Int) + L.length)) := by
  have hln : l[n]? = some (l.getD n 0) := by rw [List.getD_eq_getElem?_getD, List.getElem?_eq_getElem hn]; rfl
  obtain ⟨j, hj⟩ := List.getElem?_of_mem (hl _ (List.mem_of_getElem? hln))
  have z := falls_iff.mpr hp
  obtain ⟨v, hv, e⟩ := cntL_yes (d := d) (kn := k0) (f := f) hL z hj hln
  have hc := sg_count (f := f) (d := d) (l := l) (kn := k0) hj n (by omega)
  rw [hv] at hc
  have ev := Option.some.inj hc
  constructor
  · rw [h.tp]
    refine (overLv_step h1 (fun k hk => by rw [cntL_no (falls_no hk)]) hm hp ?_).symm
    rw [e, topW_set hv, ev]
  · rw [h.bt]
    refine (overLv_step h1 (fun k hk => by rw [cntL_no (falls_no hk)]) hm hp ?_).symm
    rw [e, sum_set hv, sg_len hL hl n (by omega)]
    rfl
theorem overLv_le {ks : List (List Nat)} {g : List Nat → Int} (h : ∀ k, 1 ≤ g k) (p : List Nat → Bool) (i : Nat) : 1 ≤ overLv ((ks.filter p).take i) g ∧ overLv ((ks.filter p).take i) g ≤ overLv ks g := by
  have hm : ∀ (zs : List (List Nat)), ∀ x ∈ zs.map g, 1 ≤ x := fun zs x hx => by
    obtain ⟨k, _, rfl⟩ := List.mem_map.mp hx; exact h k
  have h1 : overLv ((ks.filter p).take i) g ≤ overLv (ks.filter p) g := by
    have e : ks.filter p = (ks.filter p).take i ++ (ks.filter p).drop i := (List.take_append_drop ..).symm
    unfold overLv
    conv => rhs; rw [e, List.map_append]
    exact prodI_le (hm _) (hm _)
  have h2 : ∀ zs : List (List Nat), overLv (zs.filter p) g ≤ overLv zs g := fun zs => by
    induction zs with
    | nil => exact Int.le_refl _
    | cons k zs ih =>
      have hk := h k
      have hp := prodI_pos (hm zs)
      have hf := prodI_pos (hm (zs.filter p))
      rw [List.filter_cons]
      split
      · show g k * overLv (zs.filter p) g ≤ g k * overLv zs g
        exact Int.mul_le_mul_of_nonneg_left ih (by omega)
      · show overLv (zs.filter p) g ≤ g k * overLv zs g
        refine Int.le_trans ih ?_
        have := Int.mul_le_mul_of_nonneg_right hk (show 0 ≤ overLv zs g by have : 1 ≤ overLv zs g := hp; omega)
        simpa using this
  exact ⟨prodI_pos (hm _), Int.le_trans h1 (h2 ks)⟩
/-- leaves in which no place falls tell 1 -/
theorem overLv_filter {ks : List (List Nat)} {g : List Nat → Int} {p : List Nat → Bool} (h : ∀ k, p k = false → g k = 1) : overLv (ks.filter p) g = overLv ks g := by
  induction ks with
  | nil => rfl
  | cons k ks ih =>
    rw [List.filter_cons]
    split
    · show g k * overLv (ks.filter p) g = g k * overLv ks g; rw [ih]
    · rename_i z
      show overLv (ks.filter p) g = g k * overLv ks g
      rw [ih, h k (by simpa using z), Int.one_mul]

/-! ### a comprehension that asks, and makes things -/
theorem lc_growF {J : It} {xs : List V} {Ok : Hp → Prop} (Wk : Walk J xs Ok) {tt : TT} {te : TE} {H : Hp} {D : Addr} {Q : VK} {caps : L2.St} (hD : H D = none) (p : V → Bool) (R : Hp → V → V → Prop) (hm : ∀ H1 H2 x v, (∀ b o, b ≠ D → H1 b = some o → H2 b = some o) → R H1 x v → R H2 x v)
    (hl : ∀ H1, Same H H1 → Ok H1) (hz : xs.length < sizeLine)
    (hs : ∀ (i : Nat) (x : V) (H1 : Hp) (ys : List V) (C : Bool → Hp → Prop) , xs[i]? = some x → Same H H1 → H1 D = some (.lst ys) → C (p x) H1 → tt (some x :: caps) H1 C)
    (he : ∀ (i : Nat) (x : V) (H1 : Hp) (ys : List V) (C : VK), xs[i]? = some x → p x = true → Same H H1 → H1 D = some (.lst ys) → (∀ H2 v, Same H1 H2 → R H2 x v → C v H2) → te (some x :: caps) H1 C)
    (hd : ∀ H1 ys, Same H H1 → H1 D = some (.lst ys) → ys.length = (xs.filter p).length → (∀ (j : Nat) v x, ys[j]? = some v → (xs.filter p)[j]? = some x → R H1 x v) → Q (.ref D) H1) : LCgo J (gName 0) tt te D (none :: caps) (upd H D (.lst [])) Q := by
  refine lc_walk Wk (fun i σ H' => ∃ r ys, σ = r :: caps ∧ Same H H' ∧ H' D = some (.lst ys) ∧ ys.length = ((xs.take i).filter p).length ∧ ∀ (j : Nat) v x, ys[j]? = some v → ((xs.take i).filter p)[j]? = some x → R H' x v) ⟨none, [], rfl, same_new hD _, upd_same, rfl, fun j v x h => nomatch h⟩ (fun i σ H' _ ⟨_, _, _, e, _⟩ => hl _ e) ?_ ?_
  · rintro i x σ H' hx ⟨r, ys, rfl, hS, hy, hn, hR⟩
    have hi := (List.getElem?_eq_some_iff.mp hx).1
    have ht : xs.take (i + 1) = xs.take i ++ [x] := by rw [List.take_add_one, hx]; rfl
    simp only [gName]
    refine hs i x H' ys _ hx hS hy ?_
    cases hp : p x with
    | true =>
      rw [if_pos rfl]
      have hyl : ys.length < sizeLine := by
        have := List.length_filter_le p (xs.take i)
        rw [List.length_take] at this
        omega
      refine he i x H' ys _ hx hp hS hy fun H2 v h2 hv => ⟨ys, h2 _ _ hy, hyl, _, _, rfl, same_over (hS.trans h2) hD _, upd_same, ?_, fun j u z hu hz' => ?_⟩
      · rw [ht, List.filter_append, List.filter_cons, if_pos hp, List.length_append, List.length_append, hn]; rfl
      · have up : ∀ b o, b ≠ D → H2 b = some o → upd H2 D (.lst (ys ++ [v])) b = some o := fun b o hb e => by rw [upd_ne hb]; exact e
        rw [ht, List.filter_append, List.filter_cons, if_pos hp, List.filter_nil] at hz'
        by_cases q : j < ys.length
        · rw [List.getElem?_append_left q] at hu
          rw [List.getElem?_append_left (by omega)] at hz'
          exact hm _ _ _ _ up (hm _ _ _ _ (fun b o _ e => h2 b o e) (hR j u z hu hz'))
        · rw [List.getElem?_append_right (by omega)] at hu
          rw [List.getElem?_append_right (by omega)] at hz'
          have : j - ys.length = 0 := by
            have := (List.getElem?_eq_some_iff.mp hu).1
            simp at this; omega
          rw [← hn, this] at hz'
          rw [this] at hu
          cases hu; cases hz'
          exact hm _ _ _ _ up hv
    | false =>
      rw [if_neg Bool.false_ne_true]
      refine ⟨_, ys, rfl, hS, hy, ?_, ?_⟩
      · rw [ht, List.filter_append, List.filter_cons, if_neg (by rw [hp]; decide), List.filter_nil, List.append_nil]; exact hn
      · rw [ht, List.filter_append, List.filter_cons, if_neg (by rw [hp]; decide), List.filter_nil, List.append_nil]; exact hR
  · rintro σ H' ⟨r, ys, rfl, hS, hy, hn, hR⟩
    rw [List.take_length] at hn hR
    exact hd H' ys hS hy hn hR
/-! ### fractions multiplied -/
def FrV (K : PySem.W.Frag) (H : Hp) (x : V) (A B : Int) : Prop := ∃ p n d, x = .ref p ∧ SqT K H p [.int n, .int d] ∧ 0 < n ∧ 0 < d ∧ n * B = A * d ∧ gcdI n d = 1 ∧ n ≤ A ∧ d ≤ B
theorem FrV.same {H H' : Hp} {x : V} {A B : Int} (h : FrV K H x A B) (g : Same H H') : FrV K H' x A B := by
  obtain ⟨p, n, d, e, h1, h2⟩ := h
  exact ⟨p, n, d, e, same_tup g h1, h2⟩
theorem num_pos {t b : Int} (ht : 0 < t) (hb : 0 < b) : 0 < num t b := by
  have h := num_cross (t := t) (b := b) (by omega)
  have hd := den_pos (t := t) (b := b) (by omega)
  have : 0 < num t b * b := by rw [h]; exact Int.mul_pos ht hd
  exact Int.pos_of_mul_pos_left this hb
theorem FrV.made {H : Hp} {p : Addr} {t b : Int} (ht : 0 < t) (hb : 0 < b) (e : SqT K H p [.int (num t b), .int (den t b)]) : FrV K H (.ref p) t b := by
  have h0 : b ≠ 0 := by omega
  have l1 := num_le (t := t) h0
  have l2 := den_le (t := t) h0
  have p1 := num_pos ht hb
  have p2 := den_pos (t := t) h0
  exact ⟨p, _, _, rfl, e, p1, p2, num_cross h0, num_gcd h0, by omega, by omega⟩
theorem FrV.times {n d m e A B C D : Int} (hd : 0 < d) (he : 0 < e) (hn : 0 < n) (hm : 0 < m) (h1 : n * B = A * d) (h2 : m * D = C * e) : num (n * m) (d * e) * (B * D) = A * C * den (n * m) (d * e) := by
  have hde : 0 < d * e := Int.mul_pos hd he
  have hx := num_cross (t := n * m) (b := d * e) (by omega)
  refine Int.eq_of_mul_eq_mul_right (a := d * e) (by omega) ?_
  calc num (n * m) (d * e) * (B * D) * (d * e) = (num (n * m) (d * e) * (d * e)) * (B * D) := by simp only [Int.mul_assoc, Int.mul_comm, Int.mul_left_comm]
    _ = (n * m * den (n * m) (d * e)) * (B * D) := by rw [hx]
    _ = (n * B) * (m * D) * den (n * m) (d * e) := by simp only [Int.mul_assoc, Int.mul_comm, Int.mul_left_comm]
    _ = (A * d) * (C * e) * den (n * m) (d * e) := by rw [h1, h2]
    _ = A * C * den (n * m) (d * e) * (d * e) := by simp only [Int.mul_assoc, Int.mul_comm, Int.mul_left_comm]
def spTimes (K : PySem.W.Frag) : Sp := fun vs H Q _ => ∃ x y A B C D, vs = [x, y] ∧ FrV K H x A B ∧ FrV K H y C D ∧ A < 2 ^ 4000 ∧ B < 2 ^ 4000 ∧ C < 2 ^ 4000 ∧ D < 2 ^ 4000 ∧ ∀ H' z, Same H H' → FrV K H' z (A * C) (B * D) → Q z H'
theorem abs_lt {n A : Int} {k : Nat} (h0 : 0 < n) (h : n ≤ A) (hA : A < 2 ^ k) : n.natAbs < 2 ^ k := by
  have : (n.natAbs : Int) < ((2 ^ k : Nat) : Int) := by
    rw [Int.natCast_pow]
    have : (n.natAbs : Int) = n := by omega
    rw [this]; exact Int.lt_of_le_of_lt h hA
  exact Int.ofNat_lt.mp this
theorem ok_times (T : Txt K mg t) : FnOk P w K mg base (CX1 P w) 3 t.a_times t.fd_times ["one", "other"] (spTimes K) := by
  refine T.F_times.okn (k := 2) sc_times (fun vs H Q E h => ?_) (fun cdv A outer s H vs Q E hr h => ?_)
  · obtain ⟨x, y, _, _, _, _, rfl, _⟩ := h; rfl
  obtain ⟨_, _, a, b, c, e, rfl, ⟨p, n, d, rfl, h1, n0, d0, c1, g1, l1, l2⟩, ⟨q', m, f, rfl, h2, m0, f0, c2, g2, l3, l4⟩, ba, bb, bc, be, q⟩ := h
  have G_fraction := ok_fraction (P := P) (w := w) (base := base) T
  refine ⟨_, (pss_one (ps_ret (pe_call G_fraction hr rfl T.m_fraction T.F_fraction.kp T.b_fraction .nil pass1 (PAs.h (pas_cons (pe_op oMulN (pe_ix ixAny (pv 0) pe_int (fun _ _ => rfl)) (pe_ix ixAny (pv 1) pe_int (fun _ _ => rfl))) (pas_cons (pe_op oMulN (pe_ix ixAny (pv 0) pe_int (fun _ _ => rfl)) (pe_ix ixAny (pv 1) pe_int (fun _ _ => rfl))) pas_nil)))))), ?_⟩
  have an := abs_lt n0 l1 ba
  have ad := abs_lt d0 l2 bb
  have am := abs_lt m0 l3 bc
  have af := abs_lt f0 l4 be
  have mo1 : MulOk n m := mulB (pow_lt an (by decide)) (pow_lt am (by decide))
  have mo2 : MulOk d f := mulB (pow_lt ad (by decide)) (pow_lt af (by decide))
  have hde : 0 < d * f := Int.mul_pos d0 f0
  refine ⟨_, rfl, ixT h1 rfl ⟨_, rfl, ixT h2 rfl (.inl ⟨_, _, rfl, rfl, mo1, _, rfl, ixT h1 rfl ⟨_, rfl, ixT h2 rfl (.inl ⟨_, _, rfl, rfl, mo2, ?_⟩)⟩⟩)⟩⟩
  refine ⟨n * m, d * f, rfl, fun z => absurd z (by omega), fun _ => ⟨pow_lt (mul_lt ad af) (by decide), fun r hr0 => ?_⟩⟩
  refine q _ _ (same_new hr0 _) ⟨r, _, _, rfl, .inl (.inl upd_same), num_pos (Int.mul_pos n0 m0) hde, den_pos (by omega), FrV.times d0 f0 n0 m0 c1 c2, num_gcd (by omega), ?_, ?_⟩
  · have := num_le (t := n * m) (b := d * f) (by omega)
    have h3 := Int.mul_le_mul l1 l3 (by omega) (by omega)
    have := num_pos (Int.mul_pos n0 m0) hde
    have := Int.mul_pos n0 m0
    omega
  · have := den_le (t := n * m) (b := d * f) (by omega)
    have h3 := Int.mul_le_mul l2 l4 (by omega) (by omega)
    have := den_pos (t := n * m) (b := d * f) (by omega)
    omega

theorem prodI_one (a : List Int) (x : Int) : prodI (a ++ [x]) = prodI a * x := by
  rw [prodI_app]; show _ * (x * 1) = _; rw [Int.mul_one]
def spProduct (K : PySem.W.Frag) : Sp := fun vs H Q _ => ∃ (p : Addr) (xs : List V) (ab : List (Int × Int)), vs = [.ref p] ∧ SqL K H p xs ∧ xs.length = ab.length ∧ (∀ (i : Nat) x e, xs[i]? = some x → ab[i]? = some e → FrV K H x e.1 e.2) ∧
  (∀ i, prodI ((ab.take i).map (·.1)) < 2 ^ 4000 ∧ prodI ((ab.take i).map (·.2)) < 2 ^ 4000) ∧ (∀ e ∈ ab, e.1 < 2 ^ 4000 ∧ e.2 < 2 ^ 4000) ∧ ∀ H' z, Same H H' → FrV K H' z (prodI (ab.map (·.1))) (prodI (ab.map (·.2))) → Q z H'
theorem ok_product (T : Txt K mg t) : FnOk P w K mg base (CX1 P w) 4 t.a_product t.fd_product ["many"] (spProduct K) := by
  refine T.F_product.okn (k := 3) sc_product (fun vs H Q E h => ?_) (fun cdv A outer s H vs Q E hr h => ?_)
  · obtain ⟨p, xs, ab, rfl, _⟩ := h; rfl
  obtain ⟨p, xs, ab, rfl, hp, hl, hf, hb, hb1, q⟩ := h
  have G_times := ok_times (P := P) (w := w) (base := base) T
  refine ⟨_, (pss_cons (ps_set (i := 1) sc_product.nd rfl (Or.inl rfl) (pe_glob (v := .ref t.q_ONE) rfl T.m_ONE rfl))
    (pss_cons (ps_for PassesOwn.never rfl (piAny (pv 0)) (pg_name (i := 2) sc_product.nd rfl (Or.inl rfl)) (pss_one (ps_set (i := 1) sc_product.nd rfl (Or.inl rfl) (pe_call G_times hr rfl T.m_times T.F_times.kp T.b_times .nil pass1 (PAs.h (pas_cons (pv 1) (pas_cons (pv 2) pas_nil)))))))
    (pss_one (ps_ret (pv 1))))), ?_⟩
  refine ⟨_, rfl, .inl ⟨p, xs, rfl, hp, ?_⟩⟩
  refine for_walk (walk_list (xs := xs)) (fun i σ H' => ∃ v r2, σ = [some (.ref p), some v, r2] ∧ Same H H' ∧ FrV K H' v (prodI ((ab.take i).map (·.1))) (prodI ((ab.take i).map (·.2)))) ⟨_, _, rfl, Same.refl _, t.q_ONE, 1, 1, rfl, .inr T.tc_ONE, by decide, by decide, rfl, by decide, Int.le_refl _, Int.le_refl _⟩ (fun i σ H' _ ⟨_, _, _, g, _⟩ => same_lst g hp) ?_ ?_
  · rintro i x _ H' hx ⟨v, r2, rfl, g, hv⟩
    have hi := (List.getElem?_eq_some_iff.mp hx).1
    have he := List.getElem?_eq_getElem (show i < ab.length by omega)
    have hm := List.getElem_mem (show i < ab.length by omega)
    refine ⟨_, rfl, _, rfl, v, x, _, _, _, _, rfl, hv, (hf i x _ hx he).same g, (hb i).1, (hb i).2, (hb1 _ hm).1, (hb1 _ hm).2, fun H2 z s2 hz => ?_⟩
    refine ⟨z, _, rfl, g.trans s2, ?_⟩
    rw [List.take_add_one, he, List.map_append, List.map_append]
    show FrV K H2 z (prodI (_ ++ [ab[i].1])) (prodI (_ ++ [ab[i].2]))
    rw [prodI_one, prodI_one]
    exact hz
  · rintro _ H' ⟨v, r2, rfl, g, hv⟩
    rw [hl, List.take_length] at hv
    exact ⟨_, rfl, q H' v g hv⟩
theorem topW_zeros0 (m : Nat) : topW (List.replicate m 0) = 1 := by
  induction m with
  | zero => rfl
  | succ m ih => show topW (List.replicate m 0) * oddP 0 = 1; rw [ih]; rfl
theorem int_lt {n : Int} {k : Nat} (h : n.natAbs < 2 ^ k) : n < 2 ^ k := by
  have h1 : (n.natAbs : Int) < ((2 ^ k : Nat) : Int) := Int.ofNat_lt.mpr h
  rw [Int.natCast_pow] at h1
  have h2 : n ≤ (n.natAbs : Int) := Int.le_natAbs
  exact Int.lt_of_le_of_lt h2 h1
def topOf (L : List Nat) (f d : Nat) (l : List Nat) (k : List Nat) : Int := topW (cntL L f d l k l.length)
def botOf (L : List Nat) (f d : Nat) (l : List Nat) (k : List Nat) : Int := botW L.length (cntL L f d l k l.length).sum
theorem cnt_sum {L : List Nat} (hL : L.Nodup) {f d : Nat} {l k : List Nat} (hl : ∀ c ∈ l, c ∈ L) : (cntL L f d l k l.length).sum ≤ l.length := by
  rw [sg_len hL hl _ (Nat.le_refl _)]
  exact sg_le ..
theorem topOf_pos {L : List Nat} (hL : L.Nodup) {f d : Nat} {l : List Nat} (hl : ∀ c ∈ l, c ∈ L) (hn : l.length ≤ 110) (k : List Nat) : 1 ≤ topOf L f d l k := by
  have := (topW_bd (cntL L f d l k l.length) (by have := cnt_sum (f := f) (d := d) (k := k) hL hl; omega)).1
  unfold topOf; omega
theorem botOf_pos {L : List Nat} (hL : L.Nodup) (h1 : 1 ≤ L.length) (h2 : L.length ≤ 20) {f d : Nat} {l : List Nat} (hl : ∀ c ∈ l, c ∈ L) (hn : l.length ≤ 110) (k : List Nat) : 1 ≤ botOf L f d l k := by
  have := (botW_bd h1 h2 (cntL L f d l k l.length).sum (by have := cnt_sum (f := f) (d := d) (k := k) hL hl; omega)).1
  unfold botOf; omega
def spWorthBy (K : PySem.W.Frag) (C1 C2 : Addr) : Sp := fun vs H Q E => ∃ (p : Addr) (f : Nat) (L : List Nat) (d : Nat) (x : V) (τ : Sh) (l : List Nat), vs = [.ref p, x, vt l] ∧ SqT K H p [vt (f :: L), .int d] ∧ (f :: L).Nodup ∧ (f :: L).length ≤ 6 ∧ d ≤ 6 ∧ l.length ≤ 110 ∧ (∀ c ∈ l, c < 16 ^ 8) ∧ ShAt K H x τ ∧
  (isTr (f :: L).length d τ = false → ∀ H', Same H H' → E (.ref C1) none H') ∧
  (isTr (f :: L).length d τ = true → (∃ c ∈ l, c ∉ f :: L) → ∀ H', Same H H' → E (.ref C2) none H') ∧
  (isTr (f :: L).length d τ = true → (∀ c ∈ l, c ∈ f :: L) → overLv (lvs (f :: L) d τ []) (topOf (f :: L) f d l) < 2 ^ 4000 ∧ overLv (lvs (f :: L) d τ []) (botOf (f :: L) f d l) < 2 ^ 4000 ∧
    ∀ H' z, Same H H' → FrV K H' z (overLv (lvs (f :: L) d τ []) (topOf (f :: L) f d l)) (overLv (lvs (f :: L) d τ []) (botOf (f :: L) f d l)) → Q z H')
theorem ok_worth_by (T : Txt K mg t) : FnOk P w K mg base (CX1 P w) 11 t.a_worth_by t.fd_worth_by ["frame", "tree", "text"] (spWorthBy K t.c_NoTree t.c_NoText) := by
  refine T.F_worth_by.okx (k := 10) sc_worth_by (fun vs H Q E h => ?_) (fun cdv A outer s H vs Q E hr h => ?_)
  · obtain ⟨p, f, L, d, x, τ, l, rfl, _⟩ := h; rfl
  obtain ⟨p, f, L, d, x, τ, l, rfl, hp, hnd, hL6, hd, hll, hc16, hx, q1, q2, q3⟩ := h
  have G_leaves := ok_leaves (P := P) (w := w) (base := base) T
  have G_checked := (ok_checked (P := P) (w := w) (base := base) T).mono (show 1 ≤ 10 by decide)
  have G_count_table := (ok_count_table (P := P) (w := w) (base := base) T).mono (show 3 ≤ 10 by decide)
  have G_product := (ok_product (P := P) (w := w) (base := base) T).mono (show 4 ≤ 10 by decide)
  have G_worth := (ok_worth (P := P) (w := w) (base := base) T).mono (show 3 ≤ 10 by decide)
  refine ⟨_, (pss_cons (ps_set (i := 3) sc_worth_by.nd rfl (Or.inl rfl) (pe_call G_leaves hr rfl T.m_leaves T.F_leaves.kp T.b_leaves .nil passes1 (PAs.h (pas_cons (pv 0) (pas_cons (pv 1) pas_nil)))))
    (pss_cons (ps_set (i := 4) sc_worth_by.nd rfl (Or.inr rfl) (pe_call G_count_table hr rfl T.m_count_table T.F_count_table.kp T.b_count_table .nil pass1 (PAs.h (pas_cons (pv 0) (pas_cons (pe_call G_checked hr rfl T.m_checked T.F_checked.kp T.b_checked .nil passes1 (PAs.h (pas_cons (pv 0) (pas_cons (pv 2) pas_nil)))) pas_nil)))))
    (pss_one (ps_ret (pe_call G_product hr rfl T.m_product T.F_product.kp T.b_product .nil pass1 (pa_cons (pe_lc (compSc_of (N := ["knot", "table"]) (cap := [none, some 4]) (by kernel_rfl)) rfl (piAny (pv 3)) ⟨fun _ => (pg_name (i := 0) (show List.Nodup (["knot", "table"] : List Str) by decide +kernel) rfl (Or.inl rfl)), fun _ => (pf_one (pt_cmp (pc_din (hu_of hr) (pv 0) (pv 1)))), fun _ => (pe_call G_worth hr rfl T.m_worth T.F_worth.kp T.b_worth .nil pass1 (pa_cons (pe_dget (hu_of hr) (pv 1) (pv 0) (fun _ _ => rfl)) pa_nil))⟩) pa_nil)))))), ?_⟩
  refine ⟨_, rfl, _, rfl, p, f :: L, d, x, τ, rfl, hp, hL6, hd, hx, fun z H1 pk s1 _ e1 => ?_, fun z H1 s1 => q1 z H1 s1⟩
  have hp1 := same_tup s1 hp
  refine ⟨_, rfl, _, rfl, _, rfl, p, f :: L, _, l, rfl, hp1, hc16, fun hall => ?_, fun hbad => q2 z hbad H1 s1⟩
  obtain ⟨bT, bB, q⟩ := q3 z hall
  refine ⟨p, f, L, d, l, rfl, hp1, hnd, by omega, hd, by omega, hall, fun tb H2 kvs s2 _ e2 _ hT => ?_⟩
  have e12 := s2 _ _ e1
  generalize hks : lvs (f :: L) d τ [] = ks at *
  have hL1 : 1 ≤ (f :: L).length := by simp
  have pT := topOf_pos (f := f) (d := d) hnd hall (by omega)
  have pB := botOf_pos (f := f) (d := d) hnd hL1 (by omega) hall (by omega)
  have hkl : ks.length ≤ 117649 := by rw [← hks]; exact Nat.le_trans (lvs_len _ _ _ _) (pow_7 hL6 hd)
  refine ⟨_, rfl, .inl ⟨pk, _, rfl, .inl (.inl e12), fun D hD c => ?_⟩⟩
  refine lc_growF (walk_list (xs := tk ks)) (caps := [some (.ref tb)]) hD (fun v => match v with | .str y => (valV kvs (Sum.inr y)).isSome | _ => false)
    (fun H1 x v => ∃ k a, x = vt k ∧ v = .ref a ∧ a ≠ D ∧ H1 a = some (.tup [.int (num (topOf (f :: L) f d l k) (botOf (f :: L) f d l k)), .int (den (topOf (f :: L) f d l k) (botOf (f :: L) f d l k))]))
    (fun H1 H2 x v up ⟨k, a, e1, e2, ne, e⟩ => ⟨k, a, e1, e2, ne, up _ _ ne e⟩) (fun H1 g => .inl (.inl (g _ _ e12))) (by rw [tk_len, sizeLine_eq]; omega) ?_ ?_ ?_
  · intro i y H3 ys C hy g hD3 hC
    unfold tk at hy
    rw [List.getElem?_map] at hy
    cases hki : ks[i]? with
    | none => rw [hki] at hy; cases hy
    | some kk =>
      rw [hki] at hy
      cases hy
      exact ⟨_, rfl, _, rfl, tb, _, rfl, DGet.k (k := key kk) (g _ _ e2), _, rfl, hC⟩
  · intro i y H3 ys C hy hpy g hD3 hC
    unfold tk at hy
    rw [List.getElem?_map] at hy
    cases hki : ks[i]? with
    | none => rw [hki] at hy; cases hy
    | some kk =>
      rw [hki] at hy
      cases hy
      have hpy' : (valV kvs (key kk)).isSome = true := hpy
      cases hv : valV kvs (key kk) with
      | none => rw [hv] at hpy'; cases hpy'
      | some u =>
        obtain ⟨r, rfl, er, _⟩ := hT.som kk u hv
        have hcs := cnt_sum (f := f) (d := d) (k := kk) hnd hall
        refine ⟨_, rfl, _, rfl, tb, _, rfl, hv ▸ DGet.k (k := key kk) (g _ _ e2), ?_⟩
        refine ⟨r, cntL (f :: L) f d l kk l.length, rfl, .inl (.inl (g _ _ er)), by omega, by rw [cntL_len]; exact hL1, by rw [cntL_len]; omega, fun a ha => ?_⟩
        refine hC _ _ (same_new ha _) ⟨kk, a, rfl, rfl, (fun z => by rw [z, hD3] at ha; cases ha), ?_⟩
        rw [upd_same, cntL_len]; rfl
  · intro H3 ys g hD3 hyl hR
    have hfm : (tk ks).filter (fun v => match v with | .str y => (valV kvs (Sum.inr y)).isSome | _ => false) = tk (ks.filter fun k => (valV kvs (key k)).isSome) := by
      unfold tk
      rw [List.filter_map]; rfl
    rw [hfm] at hyl hR
    rw [tk_len] at hyl
    have hz : ∀ k, (valV kvs (key k)).isSome = false → cntL (f :: L) f d l k l.length = List.replicate (f :: L).length 0 := fun k hk => by
      cases hv : valV kvs (key k) with
      | none => exact cntL_zero (hT.non k hv)
      | some u => rw [hv] at hk; cases hk
    have eT : overLv (ks.filter fun k => (valV kvs (key k)).isSome) (topOf (f :: L) f d l) = overLv ks (topOf (f :: L) f d l) := overLv_filter fun k hk => by unfold topOf; rw [hz k hk, topW_zeros0]
    have eB : overLv (ks.filter fun k => (valV kvs (key k)).isSome) (botOf (f :: L) f d l) = overLv ks (botOf (f :: L) f d l) := overLv_filter fun k hk => by unfold botOf; rw [hz k hk, List.sum_replicate_nat, Nat.mul_zero]; rfl
    refine ⟨D, ys, (ks.filter fun k => (valV kvs (key k)).isSome).map fun k => (topOf (f :: L) f d l k, botOf (f :: L) f d l k), rfl, .inl (.inl hD3), by rw [hyl, List.length_map], ?_, fun i => ?_, ?_, fun H4 z' s4 hz4 => ?_⟩
    · intro i y e hy he
      rw [List.getElem?_map] at he
      cases hki : (ks.filter fun k => (valV kvs (key k)).isSome)[i]? with
      | none => rw [hki] at he; cases he
      | some kk =>
        rw [hki] at he
        cases he
        obtain ⟨k', a, ek, rfl, _, ea⟩ := hR i y (vt kk) hy (by unfold tk; rw [List.getElem?_map, hki]; rfl)
        have : kk = k' := vtx.mp ek
        subst this
        exact FrV.made (Int.lt_of_lt_of_le (by decide) (pT kk)) (Int.lt_of_lt_of_le (by decide) (pB kk)) (.inl (.inl ea))
    · rw [← List.map_take, List.map_map, List.map_map]
      have t1 := overLv_le (ks := ks) pT (fun k => (valV kvs (key k)).isSome) i
      have t2 := overLv_le (ks := ks) pB (fun k => (valV kvs (key k)).isSome) i
      exact ⟨Int.lt_of_le_of_lt t1.2 bT, Int.lt_of_le_of_lt t2.2 bB⟩
    · intro e he
      obtain ⟨k, hk, rfl⟩ := List.mem_map.mp he
      have hcs := cnt_sum (f := f) (d := d) (k := k) hnd hall
      have b1 := (topW_bd (cntL (f :: L) f d l k l.length) (by omega)).2
      have b2 := (botW_bd hL1 (by omega) (cntL (f :: L) f d l k l.length).sum (by omega)).2
      rw [cntL_len] at b1
      exact ⟨int_lt (pow_lt b1 (by omega)), int_lt (pow_lt b2 (by omega))⟩
    · rw [List.map_map, List.map_map] at hz4
      have hz5 : FrV K H4 z' (overLv (ks.filter fun k => (valV kvs (key k)).isSome) (topOf (f :: L) f d l)) (overLv (ks.filter fun k => (valV kvs (key k)).isSome) (botOf (f :: L) f d l)) := hz4
      rw [eT, eB] at hz5
      exact q H4 z' ((s1.trans s2).trans (g.trans s4)) hz5

/-! ### what the law reckons -/
def spLEld (K : PySem.W.Frag) : Sp := fun vs H Q _ => ∃ (p : Addr) (f : Nat) (L l : List Nat) (d a : Nat), vs = [.ref p, vt l, .int a] ∧ SqT K H p [vt (f :: L), .int d] ∧ (f :: L).length ≤ 6 ∧ d ≤ 6 ∧ l.length ≤ 1000 ∧ a ≤ l.length ∧ Q (vt (eldL f d l a)) H
theorem ok_L_elders (T : Txt K mg t) : FnOk P w K mg base (CX1 P w) 1 t.a_L_elders t.fd_L_elders ["frame", "text", "at"] (spLEld K) := by
  refine T.F_L_elders.okn (k := 0) sc_L_elders (fun vs H Q E h => ?_) (fun cdv A outer s H vs Q E hr h => ?_)
  · obtain ⟨p, f, L, l, d, a, rfl, _⟩ := h; rfl
  obtain ⟨p, f, L, l, d, a, rfl, hf, hL6, hd, hll, ha, q⟩ := h
  have zL : (f :: L).length ≤ sizeLine := by rw [sizeLine_eq]; omega
  have zl : l.length ≤ sizeLine := by rw [sizeLine_eq]; omega
  refine ⟨_, (pss_cons (ps_set (i := 3) sc_L_elders.nd rfl (Or.inl rfl) pe_str)
    (pss_cons (ps_for PassesOwn.never rfl (pi_range1 rfl T.m_range (pa_cons (pe_ix ixAny (pv 0) pe_int (fun _ _ => rfl)) pa_nil)) (pg_name (i := 4) sc_L_elders.nd rfl (Or.inl rfl)) (pss_one (ps_if (pt_cmpR op_gt (pv 2) (pv 4) (nomark _)) (pss_one (ps_set (i := 3) sc_L_elders.nd rfl (Or.inl rfl) (pe_op oAddN (pv 3) (pe_ix ixAny (pv 1) (pe_op op_sub (pe_op op_sub (pv 2) pe_int) (pv 4)) (fun _ _ => rfl))))) (pss_one (ps_set (i := 3) sc_L_elders.nd rfl (Or.inl rfl) (pe_op oAddN (pv 3) (pe_ix ixAny (pe_ix ixAny (pv 0) pe_int (fun _ _ => rfl)) pe_int (fun _ _ => rfl))))))))
    (pss_one (ps_ret (pv 3))))), ?_⟩
  show gName 3 (V.str (Str.ofString "")) _ _ _
  rw [str_nil0]
  refine ⟨_, rfl, ixT hf rfl ⟨_, rfl, by omega, by omega, ?_⟩⟩
  refine for_range (fun i σ H' => ∃ r4, σ = [some (.ref p), some (vt l), some (.int a), some (vt ((eldL f d l a).take i)), r4] ∧ H' = H) ⟨none, by rw [List.take_zero]; rfl, rfl⟩ ?_ ?_
  · rintro i _ _ hi ⟨r4, rfl, rfl⟩
    have hid : i < d := by omega
    have he := eldL_at f d l a hid
    have hnx : (eldL f d l a).take (i + 1) = (eldL f d l a).take i ++ [if i < a then l.getD (a - 1 - i) 0 else f] := by rw [List.take_add_one, he]; rfl
    have hzr : ((eldL f d l a).take i).length ≤ 6 := by rw [List.length_take]; omega
    refine ⟨_, rfl, _, rfl, _, _, rfl, rfl, _, rfl, if2 (fun z => ?_) (fun z => ?_)⟩
    · have z' : i < a := by have : (0 + (i : Int)) < ((a : Nat) : Int) := z; omega
      have hj : a - 1 - i < l.length := by omega
      refine ⟨_, rfl, _, rfl, _, rfl, _, _, rfl, rfl, _, rfl, _, _, rfl, rfl, ?_⟩
      try dsimp (config := { proj := false, eta := false, zeta := false, iota := false }) only [tNil, tC]
      rw [show (a : Int) - 1 - (0 + (i : Int)) = ((a - 1 - i : Nat) : Int) by omega]
      refine ixS zl (atI_nat (List.getElem?_eq_getElem hj)) (.inr (.inl (catX (by rw [sizeLine_eq]; show _ + 1 ≤ _; omega) ?_)))
      refine ⟨some (.int (0 + (i : Int))), ?_, rfl⟩
      rw [hnx, if_pos z', List.getD_eq_getElem?_getD, List.getElem?_eq_getElem hj]; rfl
    · have z' : ¬ i < a := by have : ¬ (0 + (i : Int)) < ((a : Nat) : Int) := z; omega
      refine ⟨_, rfl, _, rfl, ixT hf rfl (ixS zL (atI_nat (j := 0) rfl) (.inr (.inl (catX (by rw [sizeLine_eq]; show _ + 1 ≤ _; omega) ?_))))⟩
      refine ⟨some (.int (0 + (i : Int))), ?_, rfl⟩
      rw [hnx, if_neg z']; rfl
  · rintro _ _ ⟨r4, rfl, rfl⟩
    refine ⟨_, rfl, ?_⟩
    rw [show ((d : Int)).toNat = d by omega, List.take_of_length_le (by rw [eldL_len]; exact Nat.le_refl _)]
    exact q
theorem lvs_child {L : List Nat} {n : Nat} {bs : List Sh} {k : List Nat} {j c : Nat} {b : Sh} (hc : L[j]? = some c) (hb : bs[j]? = some b) {x : List Nat} (hx : x ∈ lvs L n b (k ++ [c])) : x ∈ lvs L (n + 1) (.tup bs) k := by
  show x ∈ ((L.zip bs).map fun e => lvs L n e.2 (k ++ [e.1])).flatten
  rw [List.mem_flatten]
  refine ⟨_, List.mem_map_of_mem (a := (c, b)) ?_, hx⟩
  refine List.mem_of_getElem? (i := j) ?_
  rw [List.getElem?_zip_eq_some]; exact ⟨hc, hb⟩
def spLeaf (K : PySem.W.Frag) : Sp := fun vs H Q _ => ∃ (p : Addr) (L r : List Nat) (d : Nat) (x : V) (τ : Sh), vs = [.ref p, x, vt r] ∧ SqT K H p [vt L, .int d] ∧ L.Nodup ∧ L.length ≤ 6 ∧ d ≤ 6 ∧ r.length = d ∧ (∀ c ∈ r, c ∈ L) ∧ ShAt K H x τ ∧ isTr L.length d τ = true ∧
  ∀ k, k ∈ lvs L d τ [] → k <+: r → Q (vt k) H
theorem ok_L_leaf (T : Txt K mg t) : FnOk P w K mg base (CX1 P w) 1 t.a_L_leaf t.fd_L_leaf ["frame", "tree", "row"] (spLeaf K) := by
  refine T.F_L_leaf.okn (k := 0) sc_L_leaf (fun vs H Q E h => ?_) (fun cdv A outer s H vs Q E hr h => ?_)
  · obtain ⟨p, L, r, d, x, τ, rfl, _⟩ := h; rfl
  obtain ⟨p, L, r, d, x, τ, rfl, hp, hnd, hL6, hd, hrl, hrL, hx, ht, q⟩ := h
  have zL : L.length ≤ sizeLine := by rw [sizeLine_eq]; omega
  have zr : r.length ≤ sizeLine := by rw [sizeLine_eq]; omega
  refine ⟨_, (pss_cons (ps_set (i := 3) sc_L_leaf.nd rfl (Or.inl rfl) pe_int)
    (pss_cons (ps_while PassesOwn.never (pt_cmp (pc_notN (pv 1))) (pss_cons (ps_set (i := 1) sc_L_leaf.nd rfl (Or.inl rfl) (pe_ix ixAny (pv 1) (pe_bm PySem.F.plainAttrs_str PySem.F.slot_str_find PySem.F.type_str_find mt_find (pe_ix ixAny (pv 0) pe_int (fun _ _ => rfl)) (pa_cons (pe_ix ixAny (pv 2) (pv 3) (fun _ _ => rfl)) pa_nil)) (fun _ _ => rfl)))
    (pss_one (ps_set (i := 3) sc_L_leaf.nd rfl (Or.inl rfl) (pe_op oAddN (pv 3) pe_int)))))
    (pss_one (ps_ret (pe_slice slAny (pv 2) po_none (po_some (pv 3))))))), ?_⟩
  refine ⟨fun m σ H' => ∃ v τ' n, σ = [some (.ref p), some v, some (vt r), some (.int (n : Nat))] ∧ H' = H ∧ m + n = d ∧ ShAt K H v τ' ∧ isTr L.length m τ' = true ∧ ∀ k, k ∈ lvs L m τ' (r.take n) → k ∈ lvs L d τ [], ⟨d, x, τ, 0, rfl, rfl, rfl, hx, ht, fun k hk => hk⟩, ?_⟩
  rintro m _ _ ⟨v, τ', n, rfl, rfl, hmn, hv, ht', hk⟩
  cases hv with
  | oth h => rw [isTr_oth] at ht'; cases ht'
  | non =>
    refine ⟨_, rfl, _, rfl, iteF ?_⟩
    refine ⟨_, rfl, _, rfl, _, rfl, .inr (cutT zr ?_)⟩
    rw [cut_to]
    exact q _ (hk _ (by rw [lvs_non]; exact List.mem_cons_self)) (List.take_prefix ..)
  | tup e hl h =>
    rename_i a vs bs
    obtain ⟨m', rfl, hbl, hbs⟩ := isTr_tup ht'
    refine ⟨_, rfl, _, rfl, iteT ⟨_, fun σ' H' h => h, ?_⟩⟩
    have hn : n < r.length := by omega
    have hc := List.getElem?_eq_getElem hn
    have hcL := hrL _ (List.getElem_mem hn)
    refine ⟨_, rfl, _, rfl, ixT hp rfl ⟨rfl, _, rfl, _, rfl, ixS zr (atI_nat hc) ⟨L, r[n], rfl, rfl, hcL, fun j hj => ?_⟩⟩⟩
    have hjl := (List.getElem?_eq_some_iff.mp hj).1
    have hb := List.getElem?_eq_getElem (show j < bs.length by omega)
    have hv := List.getElem?_eq_getElem (show j < vs.length by omega)
    refine ixT (.inl (.inl e)) (atI_nat hv) ?_
    refine ⟨_, rfl, .inl ⟨_, _, rfl, rfl, ?_⟩⟩
    refine ⟨m', Nat.lt_succ_self _, _, _, n + 1, rfl, rfl, by omega, h j _ _ hv hb, hbs _ (List.getElem_mem _), fun k hk' => hk k ?_⟩
    have et : r.take (n + 1) = r.take n ++ [r[n]] := by rw [List.take_add_one, hc]; rfl
    rw [et] at hk'
    exact lvs_child hj hb hk'
def spLWorth (K : PySem.W.Frag) : Sp := fun vs H Q _ => ∃ (p : Addr) (f : Nat) (L : List Nat) (d : Nat) (x : V) (τ : Sh) (l : List Nat), vs = [.ref p, x, vt l] ∧ SqT K H p [vt (f :: L), .int d] ∧ (f :: L).Nodup ∧ (f :: L).length ≤ 6 ∧ d ≤ 6 ∧ l.length ≤ 110 ∧ (∀ c ∈ l, c ∈ f :: L) ∧ ShAt K H x τ ∧ isTr (f :: L).length d τ = true ∧
  ∀ H' r tp bt, Same H H' → H' r = some (.tup [.int tp, .int bt]) → AllT (f :: L) f d l (lvs (f :: L) d τ []) l.length tp bt → tp < 2 ^ 4000 → bt < 2 ^ 4000 → Q (.ref r) H'
theorem eldL_mem {f d : Nat} {l L : List Nat} {k : Nat} (hk : k ≤ l.length) (hl : ∀ c ∈ l, c ∈ f :: L) : ∀ c ∈ eldL f d l k, c ∈ f :: L := fun c hc => by
  unfold eldL at hc
  obtain ⟨j, _, rfl⟩ := List.mem_map.mp hc
  split
  · rename_i z
    rw [List.getD_eq_getElem?_getD, List.getElem?_eq_getElem (show k - 1 - j < l.length by omega)]
    exact hl _ (List.getElem_mem _)
  · exact List.mem_cons_self
theorem grow_lt {a b : Int} {k : Nat} (ha : a.natAbs < 2 ^ k) (hb : b.natAbs < 2 ^ 10) : (a * b).natAbs < 2 ^ (k + 10) := mul_lt ha hb
theorem ok_L_worth (T : Txt K mg t) : FnOk P w K mg base (CX1 P w) 2 t.a_L_worth t.fd_L_worth ["frame", "tree", "text"] (spLWorth K) := by
  refine T.F_L_worth.okn (k := 1) sc_L_worth (fun vs H Q E h => ?_) (fun cdv A outer s H vs Q E hr h => ?_)
  · obtain ⟨p, f, L, d, x, τ, l, rfl, _⟩ := h; rfl
  obtain ⟨p, f, L, d, x, τ, l, rfl, hp, hnd, hL6, hd, hll, hl, hx, ht, q⟩ := h
  have G_L_leaf := ok_L_leaf (P := P) (w := w) (base := base) T
  have G_L_elders := ok_L_elders (P := P) (w := w) (base := base) T
  have zl : l.length ≤ sizeLine := by rw [sizeLine_eq]; omega
  have zL : (f :: L).length ≤ sizeLine := by rw [sizeLine_eq]; omega
  refine ⟨_, (pss_cons (ps_set (i := 3) sc_L_worth.nd rfl (Or.inl rfl) pe_dnewK)
    (pss_cons (ps_set (i := 4) sc_L_worth.nd rfl (Or.inl rfl) pe_int)
    (pss_cons (ps_set (i := 5) sc_L_worth.nd rfl (Or.inl rfl) pe_int)
    (pss_cons (ps_for PassesOwn.never rfl (pi_range1 rfl T.m_range (pa_cons (pe_callB call_len rfl T.m_len bt_len (pa_cons (pv 2) pa_nil)) pa_nil)) (pg_name (i := 6) sc_L_worth.nd rfl (Or.inl rfl)) (pss_cons (ps_set (i := 7) sc_L_worth.nd rfl (Or.inl rfl) (pe_call G_L_leaf hr rfl T.m_L_leaf T.F_L_leaf.kp T.b_L_leaf .nil pass1 (PAs.h (pas_cons (pv 0) (pas_cons (pv 1) (pas_cons (pe_call G_L_elders hr rfl T.m_L_elders T.F_L_elders.kp T.b_L_elders .nil pass1 (PAs.h (pas_cons (pv 0) (pas_cons (pv 2) (pas_cons (pv 6) pas_nil))))) pas_nil))))))
    (pss_cons (ps_set (i := 8) sc_L_worth.nd rfl (Or.inl rfl) (pe_dget2 (hu_of hr) (pv 3) (pv 7) pe_str ⟨rfl, rfl, rfl, rfl⟩))
    (pss_cons (ps_set (i := 4) sc_L_worth.nd rfl (Or.inl rfl) (pe_op oMulN (pv 4) (pe_op oAddN (pe_op oMulN pe_int (pe_bm PySem.F.plainAttrs_str PySem.F.slot_str_count PySem.F.type_str_count mt_count (pv 8) (pa_cons (pe_ix ixAny (pv 2) (pv 6) (fun _ _ => rfl)) pa_nil))) pe_int)))
    (pss_cons (ps_set (i := 5) sc_L_worth.nd rfl (Or.inl rfl) (pe_op oMulN (pv 5) (pe_op oAddN (pe_op oMulN pe_int (pe_callB call_len rfl T.m_len bt_len (pa_cons (pv 8) pa_nil))) (pe_callB call_len rfl T.m_len bt_len (pa_cons (pe_ix ixAny (pv 0) pe_int (fun _ _ => rfl)) pa_nil)))))
    (pss_one (ps_dput (hu_of hr) (pv 3) (pv 7) (pe_op oAddN (pv 8) (pe_ix ixAny (pv 2) (pv 6) (fun _ _ => rfl))) rfl)))))))
    (pss_one (ps_ret (pe_tup (PAs.h (pas_cons (pv 4) (pas_cons (pv 5) pas_nil)))))))))), ?_⟩
  refine fun tb htb => ?_
  refine ⟨_, rfl, _, _, rfl, lenvS zl, _, rfl, by omega, by omega, ?_⟩
  generalize hks : lvs (f :: L) d τ [] = ks at *
  refine for_range (fun i σ H' => ∃ tp bt kvs r6 r7 r8, σ = [some (.ref p), some x, some (vt l), some (.ref tb), some (.int tp), some (.int bt), r6, r7, r8] ∧ Same H H' ∧ H' tb = some (.dK kvs) ∧ kvs.length ≤ i ∧ AllT (f :: L) f d l ks i tp bt ∧ tp.natAbs < 2 ^ (1 + 10 * i) ∧ bt.natAbs < 2 ^ (1 + 10 * i) ∧
    ∀ k ∈ ks, (valV kvs (key k) = none ∧ sg f d l k i = []) ∨ valV kvs (key k) = some (vt (sg f d l k i))) ⟨1, 1, [], _, _, _, rfl, same_new htb _, upd_same, Nat.le_refl _, AllT.start .., by decide, by decide, fun k hk => .inl ⟨rfl, rfl⟩⟩ ?_ ?_
  · rintro i _ H1 hi ⟨tp, bt, kvs, r6, r7, r8, rfl, g, e1, hkl, hA, ba, bb, hsg⟩
    have hil : i < l.length := by omega
    rw [Int.zero_add]
    have hp1 := same_tup g hp
    have hx1 := hx.same g
    have hrow := eldL_mem (d := d) (k := i) (by omega) hl
    refine ⟨_, rfl, _, rfl, _, rfl, _, rfl, _, rfl, p, f, L, l, d, i, rfl, hp1, hL6, hd, by omega, by omega, ?_⟩
    refine ⟨p, f :: L, eldL f d l i, d, x, τ, rfl, hp1, hnd, hL6, hd, eldL_len .., hrow, hx1, ht, fun k0 hk0 hpre => ?_⟩
    rw [hks] at hk0
    have hone : onWay (eldL f d l i) ks = 1 := by
      rw [← hks]
      exact onWay_one (f :: L) hnd d τ [] _ ht List.nil_prefix (by rw [eldL_len]; show 0 + _ ≤ _; omega) hrow
    have hc := List.getElem?_eq_getElem hil
    have hcD : l.getD i 0 = l[i] := by rw [List.getD_eq_getElem?_getD, hc]; rfl
    have hst := hA.step hnd hl hil hone hk0 hpre
    rw [hcD] at hst
    have hz := falls_iff.mpr hpre
    have hsl := sg_le f d l k0 i
    have hcn : (sg f d l k0 i).count l[i] ≤ 110 := Nat.le_trans List.count_le_length (by omega)
    refine ⟨_, rfl, tb, rfl, .inl ⟨kvs, .inl e1⟩, _, rfl, ?_⟩
    refine ⟨valV kvs (key k0), DGet.k (k := key k0) e1, ?_⟩
    have hcame : (valV kvs (key k0)).getD (V.str (Str.ofString "")) = vt (sg f d l k0 i) := by
      rcases hsg k0 hk0 with ⟨z1, z2⟩ | z
      · rw [z1, z2]; exact str_nil0
      · rw [z]; rfl
    rw [hcame]
    have zs : (sg f d l k0 i).length ≤ sizeLine := by rw [sizeLine_eq]; omega
    generalize hS : sg f d l k0 i = S at *
    refine ⟨_, rfl, _, rfl, rfl, _, rfl, _, rfl, ixS zl (atI_nat hc) ⟨S, l[i], rfl, rfl, ?_⟩⟩
    refine .inl ⟨_, _, rfl, rfl, mulL (by decide) (by decide), .inl ⟨_, _, rfl, rfl, .inl ⟨_, _, rfl, rfl, mulR (by omega) (by omega), ?_⟩⟩⟩
    refine ⟨_, rfl, _, rfl, _, _, rfl, lenvS zs, .inl ⟨_, _, rfl, rfl, mulL (by decide) (by decide), _, rfl, ixT hp1 rfl ⟨_, _, rfl, lenvS zL, .inl ⟨_, _, rfl, rfl, .inl ⟨_, _, rfl, rfl, mulR (by omega) (by omega), ?_⟩⟩⟩⟩⟩
    refine ⟨_, rfl, _, rfl, _, rfl, ixS zl (atI_nat hc) (.inr (.inl (catX (by rw [sizeLine_eq]; show _ + 1 ≤ _; omega) ?_)))⟩
    refine ⟨_, rfl, _, rfl, tb, _, rfl, .inl ⟨kvs, key k0, e1, rfl, by rw [sizeLine_eq]; omega, rfl⟩, ?_⟩
    refine ⟨_, _, putK kvs (key k0) (vt (S ++ [l[i]])), _, _, _, rfl, over_same htb g, upd_same, ?_, hst, ?_, ?_, fun k hk => ?_⟩
    · have := length_putK kvs (key k0) (vt (S ++ [l[i]])); omega
    · refine pow_lt (grow_lt ba ?_) (by omega)
      show _ < 1024; omega
    · refine pow_lt (grow_lt bb ?_) (by omega)
      show _ < 1024; omega
    · refine .imp (fun h => h) (fun h => h) ?_
      rw [valV_put]
      by_cases e : k = k0
      · subst e
        rw [if_pos rfl, sg_yes hz, hS, hcD]
        exact .inr rfl
      · rw [if_neg (fun z => e (key_inj z))]
        have hnf : falls f d l k i = false := falls_no fun hkp => by
          obtain ⟨a1, k1, b1, e1', hk1, ha1, hb1⟩ := onWay_split hone
          have u : ∀ y ∈ ks, y <+: eldL f d l i → y = k1 := fun y hy hyp => by
            rw [e1'] at hy
            rcases List.mem_append.mp hy with z | z
            · exact absurd hyp (ha1 _ z)
            · rcases List.mem_cons.mp z with z | z
              · exact z
              · exact absurd hyp (hb1 _ z)
          exact e ((u k hk hkp).trans (u k0 hk0 hpre).symm)
        rw [sg_no hnf]
        exact hsg k hk
  · rintro _ H1 ⟨tp, bt, kvs, r6, r7, r8, rfl, g, e1, hkl, hA, ba, bb, hsg⟩
    rw [show ((l.length : Int)).toNat = l.length by omega] at hA ba bb
    refine ⟨_, rfl, _, rfl, by rw [sizeLine_eq]; show 2 ≤ _; decide, fun r hr0 => ?_⟩
    exact q _ r tp bt (new_same hr0 g) upd_same hA (int_lt (pow_lt ba (by omega))) (int_lt (pow_lt bb (by omega)))

/-! ### what the law makes of its script, and asks -/
def lackV (L : List Nat) : V → Bool
  | .str z => !decide (z.cps.toList.headD 0 ∈ L)
  | _ => false
/-- what is lacked: signs that are no letters -/
theorem lacked_ok {k : Nat} {L S : List Nat} (dr : Drawn k L S) (hk : k ≤ 50) : ∃ lk : List Nat, ((signs.map fun c => vt [c]).filter (lackV L)).map (fun v => v) = lk.map (fun c => vt [c]) ∧ (∀ c ∈ lk, c ∉ L ∧ c < 127) ∧ 0 < lk.length ∧ lk.length ≤ 94 := by
  refine ⟨signs.filter fun c => !decide (c ∈ L), ?_, fun c hc => ?_, ?_, ?_⟩
  · rw [List.map_id', List.filter_map]; rfl
  · obtain ⟨h1, h2⟩ := List.mem_filter.mp hc
    exact ⟨by simpa using h2, (signs_lt c h1).2.1⟩
  · have hl := dr.left
    have hS0 : 0 < S.length := by omega
    have hm : S[0] ∈ signs := dr.all.mem_iff.mp (List.mem_append_right _ (List.getElem_mem hS0))
    have hn : S[0] ∉ L := fun z => (List.nodup_append.mp (dr.all.nodup_iff.mpr signs_nodup)).2.2 _ z _ (List.getElem_mem hS0) rfl
    exact List.length_pos_of_mem (List.mem_filter.mpr ⟨hm, by simpa using hn⟩)
  · exact Nat.le_trans (List.length_filter_le _ _) (by rw [signs_len]; exact Nat.le_refl _)

def spLFr (K : PySem.W.Frag) : Sp := fun vs H Q _ => ∃ x A B, vs = [x, .int A, .int B] ∧ FrV K H x A B ∧ A < 2 ^ 4000 ∧ B < 2 ^ 4000 ∧ Q (.bl true) H
theorem ok_L_fraction (T : Txt K mg t) : FnOk P w K mg base (CX1 P w) 2 t.a_L_fraction t.fd_L_fraction ["found", "top", "bottom"] (spLFr K) := by
  refine T.F_L_fraction.okn (k := 1) sc_L_fraction (fun vs H Q E h => ?_) (fun cdv A outer s H vs Q E hr h => ?_)
  · obtain ⟨x, a, b, rfl, _⟩ := h; rfl
  obtain ⟨_, a, b, rfl, ⟨p, n, d, rfl, hq, n0, d0, cr, gc, l1, l2⟩, ba, bb, q⟩ := h
  have G_L_whole := ok_L_whole (P := P) (w := w) (base := base) T
  have G_L_divisor := ok_L_divisor (P := P) (w := w) (base := base) T
  have an := abs_lt n0 l1 ba
  have ad := abs_lt d0 l2 bb
  have aa := abs_lt (show 0 < a by omega) (Int.le_refl a) ba
  have ab := abs_lt (show 0 < b by omega) (Int.le_refl b) bb
  refine ⟨_, (pss_cons (ps_if (PW.pt (pw_or (pt_not (pt_val (pe_callB isiAnyT rfl T.m_isinstance bt_isinstance (PAs.h (pas_cons (pv 0) (pas_cons (pe_bltn (v := .ty "tuple") rfl T.m_tuple bt_tuple rfl) pas_nil)))))) (pw_or (pt_cmpR (oNeN (hr.units0)) (pe_callB call_len rfl T.m_len bt_len (pa_cons (pv 0) pa_nil)) pe_int (nomark _)) (pw_or (pt_not (pt_val (pe_call G_L_whole hr rfl T.m_L_whole T.F_L_whole.kp T.b_L_whole .nil pass1 (pa_cons (pe_ix ixAny (pv 0) pe_int (fun _ _ => rfl)) pa_nil)))) (pw_or1 (pt_not (pt_val (pe_call G_L_whole hr rfl T.m_L_whole T.F_L_whole.kp T.b_L_whole .nil pass1 (pa_cons (pe_ix ixAny (pv 0) pe_int (fun _ _ => rfl)) pa_nil))))))))) (pss_one (ps_ret pe_bl)) pss_nil)
    (pss_cons (ps_if (PW.pt (pw_or (pt_cmpR oLt (pe_ix ixAny (pv 0) pe_int (fun _ _ => rfl)) pe_int (nomark _)) (pw_or (pt_cmpR oLt (pe_ix ixAny (pv 0) pe_int (fun _ _ => rfl)) pe_int (nomark _)) (pw_or1 (pt_cmpR (oNeN (hr.units0)) (pe_op oMulN (pe_ix ixAny (pv 0) pe_int (fun _ _ => rfl)) (pv 2)) (pe_op oMulN (pv 1) (pe_ix ixAny (pv 0) pe_int (fun _ _ => rfl))) (nomark _)))))) (pss_one (ps_ret pe_bl)) pss_nil)
    (pss_one (ps_ret (pe_cmpR (oEqA (hr.units0)) (pe_call G_L_divisor hr rfl T.m_L_divisor T.F_L_divisor.kp T.b_L_divisor .nil pass1 (PAs.h (pas_cons (pe_ix ixAny (pv 0) pe_int (fun _ _ => rfl)) (pas_cons (pe_ix ixAny (pv 0) pe_int (fun _ _ => rfl)) pas_nil)))) pe_int (nomark _)))))), ?_⟩
  refine ⟨_, rfl, .inr ⟨p, _, rfl, hq, true, rfl, iteF ?_⟩⟩
  refine ⟨_, rfl, _, _, rfl, .inr ⟨_, hq, rfl⟩, .inl ⟨rfl, _, rfl, ifnF rfl ?_⟩⟩
  refine ⟨_, rfl, ixT hq rfl ⟨_, _, true, false, rfl, .int _, kit_same K _, kit_int_bool K, true, rfl, iteF ?_⟩⟩
  refine ⟨_, rfl, ixT hq rfl ⟨_, _, true, false, rfl, .int _, kit_same K _, kit_int_bool K, true, rfl, iteF ?_⟩⟩
  refine ⟨_, rfl, ixT hq rfl (.inl ⟨_, _, rfl, rfl, _, rfl, ifF (by omega) ?_⟩)⟩
  refine ⟨_, rfl, ixT hq rfl (.inl ⟨_, _, rfl, rfl, _, rfl, ifF (by omega) ?_⟩)⟩
  refine ⟨_, rfl, ixT hq rfl ⟨_, rfl, .inl ⟨_, _, rfl, rfl, mulB (pow_lt an (by decide)) (pow_lt ab (by decide)), _, rfl, _, rfl, ixT hq rfl (.inl ⟨_, _, rfl, rfl, mulB (pow_lt aa (by decide)) (pow_lt ad (by decide)), .inl ⟨rfl, _, rfl, ifnF (congrArg V.int cr) ?_⟩⟩)⟩⟩⟩
  refine ⟨_, rfl, ixT hq rfl ⟨_, rfl, ixT hq rfl ⟨n, d, rfl, d0, .inl ⟨rfl, ?_⟩⟩⟩⟩
  rw [decide_eq_true (congrArg V.int gc)]
  exact q
def spSpread (K : PySem.W.Frag) : Sp := fun vs H Q _ => ∃ (a : Addr) (ns : List Int) (n : Nat), vs = [.ref a, .int n] ∧ SqL K H a (ns.map V.int) ∧ 0 < ns.length ∧ ns.length ≤ 100 ∧ n ≤ 100 ∧ ∀ H' p (ms : List Int), Same H H' → H' p = some (.lst (ms.map V.int)) → ms.length = n → Q (.ref p) H'
theorem ok_L_spread (T : Txt K mg t) : FnOk P w K mg base (CX1 P w) 1 t.a_L_spread t.fd_L_spread ["cells", "size"] (spSpread K) := by
  refine T.F_L_spread.okn (k := 0) sc_L_spread (fun vs H Q E h => ?_) (fun cdv A outer s H vs Q E hr h => ?_)
  · obtain ⟨a, ns, n, rfl, _⟩ := h; rfl
  obtain ⟨a, ns, n, rfl, ha, hn0, hn1, hn, q⟩ := h
  refine ⟨_, (pss_cons (ps_set (i := 2) sc_L_spread.nd rfl (Or.inl rfl) (pe_lst pa_nil))
    (pss_cons (ps_for PassesOwn.never rfl (pi_range1 rfl T.m_range (pa_cons (pv 1) pa_nil)) (pg_name (i := 3) sc_L_spread.nd rfl (Or.inl rfl)) (pss_cons (ps_set (i := 4) sc_L_spread.nd rfl (Or.inl rfl) (pe_op op_fdivL (pv 3) (pe_callB call_len rfl T.m_len bt_len (pa_cons (pv 0) pa_nil))))
    (pss_one (ps_expr (pe_bm PySem.F.plainAttrs_list PySem.F.slot_list_append PySem.F.type_list_append mt_app (pv 2) (pa_cons (pe_op oAddN (pe_op op_fdivL (pe_ix ixAny (pv 0) (pe_op op_mod (pv 3) (pe_callB call_len rfl T.m_len bt_len (pa_cons (pv 0) pa_nil))) (fun _ _ => rfl)) (pe_op oAddN pe_int (pe_op oMulN pe_int (pv 4)))) (pe_op oMulN pe_int (pv 4))) pa_nil))))))
    (pss_one (ps_ret (pv 2))))), ?_⟩
  refine ⟨by rw [sizeLine_eq]; show 0 ≤ _; decide, fun p hp => ?_⟩
  refine ⟨_, rfl, _, rfl, by omega, by omega, ?_⟩
  refine for_range (fun i σ H' => ∃ (ms : List Int) (r3 r4 : Option V), σ = [some (.ref a), some (.int n), some (.ref p), r3, r4] ∧ Same H H' ∧ H' p = some (.lst (ms.map V.int)) ∧ ms.length = i) ⟨[], _, _, rfl, same_new hp _, upd_same, rfl⟩ ?_ ?_
  · rintro i _ H' hi ⟨ms, r3, r4, rfl, g, e, hl⟩
    have ha' := same_lst g ha
    have hml : (0 : Int) < ((ns.map V.int).length : Nat) := by rw [List.length_map]; omega
    have hml2 : (((ns.map V.int).length : Nat) : Int) < 1000000000 := by rw [List.length_map]; omega
    refine ⟨_, rfl, _, rfl, _, _, rfl, .inl ⟨_, ha', rfl⟩, _, _, rfl, rfl, cdivK hml hml2, ?_⟩
    have d1 : 0 ≤ (0 + (i : Int)).fdiv ((ns.map V.int).length : Nat) := by
      rw [Int.fdiv_eq_ediv_of_nonneg _ (by omega)]
      exact Int.ediv_nonneg (by omega) (by omega)
    have d2 : (0 + (i : Int)).fdiv ((ns.map V.int).length : Nat) ≤ 100 := by
      rw [Int.fdiv_eq_ediv_of_nonneg _ (by omega)]
      have := Int.ediv_le_self (b := ((ns.map V.int).length : Nat)) (show 0 ≤ 0 + (i : Int) by omega)
      have : (i : Int) ≤ 100 := by omega
      omega
    show gName 4 (V.int ((0 + (i : Int)).fdiv ((ns.map V.int).length : Nat))) _ _ _
    generalize (0 + (i : Int)).fdiv ((ns.map V.int).length : Nat) = ag at d1 d2 ⊢
    obtain ⟨v, hv, ev⟩ := at_mod (ns.map V.int) (by omega) (0 + (i : Int))
    obtain ⟨w0, _, rfl⟩ := List.mem_map.mp hv
    refine ⟨_, rfl, tyL (.inl (.inl e)), ?_⟩
    refine ⟨_, rfl, _, rfl, _, rfl, _, _, rfl, .inl ⟨_, ha', rfl⟩, _, _, rfl, rfl, hml, ixL ha' ev ?_⟩
    refine ⟨_, rfl, .inl ⟨_, _, rfl, rfl, mulL (by decide) (by decide), .inl ⟨_, _, rfl, rfl, ?_⟩⟩⟩
    try dsimp (config := { proj := false, eta := false, zeta := false, iota := false }) only [tNil, tC]
    refine ⟨_, _, rfl, rfl, cdivK (by omega) (by omega), ?_⟩
    refine ⟨_, rfl, .inl ⟨_, _, rfl, rfl, mulL (by decide) (by decide), .inl ⟨_, _, rfl, rfl, ?_⟩⟩⟩
    try dsimp (config := { proj := false, eta := false, zeta := false, iota := false }) only [tNil, tC]
    refine appL e (by rw [List.length_map, sizeLine_eq]; omega) ?_
    refine ⟨ms ++ [w0.fdiv (1 + 18 * ag) + 3 * ag], _, _, rfl, over_same hp g, by rw [upd_same, List.map_append]; rfl, by rw [List.length_append, hl]; rfl⟩
  · rintro _ H' ⟨ms, r3, r4, rfl, g, e, hl⟩
    exact ⟨_, rfl, q H' p ms g e (by omega)⟩

theorem some_signs : V.str (Str.ofString " !\"#$&'()*+,-./0123456789:;<=>?@ABCDEFGHIJKLMNOPQRSTUVWXYZ[\\]^_`") = vt (signs.take 64) := congrArg V.str (by decide +kernel)
theorem more_signs : V.str (Str.ofString "abcdefghijklmnopqrstuvwxyz{|}~") = vt (signs.drop 64) := congrArg V.str (by decide +kernel)
def spStrange (K : PySem.W.Frag) : Sp := fun vs H Q _ => ∃ (L S : List Nat) (c : Int), vs = [vt L, .int c] ∧ Drawn L.length L S ∧ L.length ≤ 6 ∧ ∀ H' s, Same H H' → s ∉ L → s < 127 → Q (vt [s]) H'
theorem ok_L_strange (T : Txt K mg t) : FnOk P w K mg base (CX1 P w) 1 t.a_L_strange t.fd_L_strange ["letters", "cell"] (spStrange K) := by
  refine T.F_L_strange.okn (k := 0) sc_L_strange (fun vs H Q E h => ?_) (fun cdv A outer s H vs Q E hr h => ?_)
  · obtain ⟨L, S, c, rfl, _⟩ := h; rfl
  obtain ⟨L, S, c, rfl, hDr, hL6, q⟩ := h
  refine ⟨_, (pss_cons (ps_set (i := 2) sc_L_strange.nd rfl (Or.inl rfl) pe_str)
    (pss_cons (ps_set (i := 2) sc_L_strange.nd rfl (Or.inl rfl) (pe_op oAddN (pv 2) pe_str))
    (pss_cons (ps_set (i := 2) sc_L_strange.nd rfl (Or.inl rfl) (pe_bm PySem.F.plainAttrs_str PySem.F.slot_str_join PySem.F.type_str_join mt_join pe_str (pa_cons (pe_lc (compSc_of (N := ["sign", "letters"]) (cap := [none, some 0]) (by kernel_rfl)) rfl (piAny (pv 2)) ⟨fun _ => (pg_name (i := 0) (show List.Nodup (["sign", "letters"] : List Str) by decide +kernel) rfl (Or.inl rfl)), fun _ => (pf_one (pt_cmpR oNotIn (pv 0) (pv 1) (by with_unfolding_all rfl))), fun _ => (pv 0)⟩) pa_nil)))
    (pss_one (ps_ret (pe_ix ixAny (pv 2) (pe_op op_mod (pv 1) (pe_callB call_len rfl T.m_len bt_len (pa_cons (pv 2) pa_nil))) (fun _ _ => rfl))))))), ?_⟩
  refine ⟨_, rfl, .inr (.inl ⟨_, _, some_signs, more_signs, by decide +kernel, ?_⟩)⟩
  rw [List.take_append_drop]
  show gName 2 (vt signs) _ _ _
  refine ⟨rfl, ?_⟩
  refine ⟨_, rfl, .inr (.inr ⟨_, rfl, fun D hD c2 => ?_⟩)⟩
  refine lc_pure (walk_tx signs) (caps := [some (vt L)]) (lackV L) (fun v => v) (fun _ => trivial) (by rw [List.length_map, signs_len]; decide) ?_ ?_
  · intro i x ys R hx hy h1 h2
    obtain ⟨c, _, rfl⟩ := sign_at hx
    refine ⟨_, rfl, _, rfl, .inl ⟨c, L, rfl, rfl, _, rfl, ?_⟩⟩
    rw [if_pos rfl]
    by_cases z : c ∈ L
    · rw [decide_eq_true z]
      exact iteF (h2 (by show (!decide (c ∈ L)) = false; rw [decide_eq_true z]; rfl))
    · rw [decide_eq_false z]
      refine iteT ⟨_, rfl, ys, upd_same, hy, ?_⟩
      rw [upd_upd]; exact h1 (by show (!decide (c ∈ L)) = true; rw [decide_eq_false z]; rfl)
  obtain ⟨lk, hlk, hk1, hk2⟩ := lacked_ok hDr (by omega)
  rw [hlk]
  have elk : (lk.map fun c => vt [c]) = (lk.map fun c => [c]).map vt := by rw [List.map_map]; rfl
  rw [elk]
  have s1 : Same H (upd H D (.lst ((lk.map fun c => [c]).map vt))) := same_new hD _
  have e1 : upd H D (.lst ((lk.map fun c => [c]).map vt)) D = some (.lst ((lk.map fun c => [c]).map vt)) := upd_same
  generalize upd H D (.lst ((lk.map fun c => [c]).map vt)) = H1 at s1 e1 ⊢
  refine ⟨[], D, lk.map fun c => [c], str_nil0, rfl, .inl (.inl (.inl e1)), ?_, ?_⟩
  · rw [flatten_ones, List.length_map]; show _ + _ * 0 ≤ _; omega
  rw [between_nil, flatten_ones]
  have zk : lk.length ≤ sizeLine := by rw [sizeLine_eq]; omega
  obtain ⟨v, hv, ev⟩ := at_mod lk hk2.1 c
  refine ⟨_, rfl, _, rfl, _, rfl, _, _, rfl, lenvS zk, _, _, rfl, rfl, (by show (0 : Int) < (lk.length : Nat); omega), ixS zk ev ?_⟩
  exact q H1 v s1 (hk1 v hv).1 (hk1 v hv).2
def spBad (K : PySem.W.Frag) : Sp := fun vs H Q _ => ∃ (L S l : List Nat) (c : Int), vs = [vt L, vt l, .int c] ∧ Drawn L.length L S ∧ L.length ≤ 6 ∧ l.length ≤ 98 ∧ (∀ c ∈ l, c ∈ L) ∧ ∀ H' (b : List Nat), Same H H' → (∃ c ∈ b, c ∉ L) → (∀ c ∈ b, c < 16 ^ 8) → b.length ≤ 110 → Q (vt b) H'
theorem ok_L_bad (T : Txt K mg t) : FnOk P w K mg base (CX1 P w) 2 t.a_L_bad t.fd_L_bad ["letters", "text", "cell"] (spBad K) := by
  refine T.F_L_bad.okn (k := 1) sc_L_bad (fun vs H Q E h => ?_) (fun cdv A outer s H vs Q E hr h => ?_)
  · obtain ⟨L, S, l, c, rfl, _⟩ := h; rfl
  obtain ⟨L, S, l, c, rfl, hDr, hL6, hll, hl, q⟩ := h
  have G_L_strange := ok_L_strange (P := P) (w := w) (base := base) T
  have zl : l.length ≤ sizeLine := by rw [sizeLine_eq]; omega
  have hl16 : ∀ c ∈ l, c < 16 ^ 8 := fun c hc => Nat.lt_trans (signs_lt c (hDr.mem c (hl c hc))).2.1 (by decide)
  refine ⟨_, (pss_cons (ps_set (i := 3) sc_L_bad.nd rfl (Or.inl rfl) (pe_op op_mod (pv 2) (pe_op oAddN (pe_callB call_len rfl T.m_len bt_len (pa_cons (pv 1) pa_nil)) pe_int)))
    (pss_cons (ps_set (i := 4) sc_L_bad.nd rfl (Or.inl rfl) (pe_op op_fdivL (pv 2) pe_int))
    (pss_cons (ps_set (i := 5) sc_L_bad.nd rfl (Or.inl rfl) (pe_call G_L_strange hr rfl T.m_L_strange T.F_L_strange.kp T.b_L_strange .nil pass1 (PAs.h (pas_cons (pv 0) (pas_cons (pe_op op_fdivL (pv 4) pe_int) pas_nil)))))
    (pss_cons (ps_set (i := 6) sc_L_bad.nd rfl (Or.inl rfl) (pe_call G_L_strange hr rfl T.m_L_strange T.F_L_strange.kp T.b_L_strange .nil pass1 (PAs.h (pas_cons (pv 0) (pas_cons (pe_op op_fdivL (pv 4) pe_int) pas_nil)))))
    (pss_cons (ps_if (pt_cmpR (oEqA (hr.units0)) (pe_op op_mod (pv 4) pe_int) pe_int (nomark _)) (pss_one (ps_ret (pe_op oAddN (pe_op oAddN (pe_slice slAny (pv 1) po_none (po_some (pv 3))) (pv 5)) (pe_slice slAny (pv 1) (po_some (pv 3)) po_none)))) pss_nil)
    (pss_cons (ps_if (pt_cmpR (oEqA (hr.units0)) (pe_op op_mod (pv 4) pe_int) pe_int (nomark _)) (pss_one (ps_ret (pe_op oAddN (pe_op oAddN (pe_op oAddN (pe_slice slAny (pv 1) po_none (po_some (pv 3))) (pv 5)) (pv 6)) (pe_slice slAny (pv 1) (po_some (pv 3)) po_none)))) pss_nil)
    (pss_cons (ps_if (pt_cmpR (oEqA (hr.units0)) (pe_op op_mod (pv 4) pe_int) pe_int (nomark _)) (pss_one (ps_ret (pe_op oAddN (pe_op oAddN (pe_op oAddN (pv 5) (pe_slice slAny (pv 1) po_none (po_some (pv 3)))) (pv 6)) (pe_slice slAny (pv 1) (po_some (pv 3)) po_none)))) pss_nil)
    (pss_one (ps_ret (pe_op oAddN (pe_op oMulN (pv 5) (pv 3)) (pv 6))))))))))), ?_⟩
  have a1 := Int.emod_nonneg c (show ((l.length : Nat) : Int) + 1 ≠ 0 by omega)
  have a2 := Int.emod_lt_of_pos c (show (0 : Int) < ((l.length : Nat) : Int) + 1 by omega)
  refine ⟨_, rfl, _, rfl, _, _, rfl, lenvS zl, .inl ⟨_, _, rfl, rfl, _, _, rfl, rfl, (by show (0 : Int) < ((l.length : Nat) : Int) + 1; omega), ?_⟩⟩
  show gName 3 (V.int (c % (((l.length : Nat) : Int) + 1))) _ _ _
  obtain ⟨at0, hat⟩ : ∃ k : Nat, c % (((l.length : Nat) : Int) + 1) = (k : Int) := ⟨_, (Int.toNat_of_nonneg a1).symm⟩
  rw [hat] at a1 a2 ⊢
  refine ⟨_, rfl, _, _, rfl, rfl, cdivK (by decide) (by decide), ?_⟩
  show gName 4 (V.int (c.fdiv 101)) _ _ _
  generalize c.fdiv 101 = re
  refine ⟨_, rfl, _, rfl, _, _, rfl, rfl, cdivK (by decide) (by decide), L, S, _, rfl, hDr, hL6, fun H1 o1 s1 ho1 hb1 => ?_⟩
  refine ⟨_, rfl, _, rfl, _, _, rfl, rfl, cdivK (by decide) (by decide), L, S, _, rfl, hDr, hL6, fun H2 o2 s2 ho2 hb2 => ?_⟩
  have s12 := s1.trans s2
  have b1 : o1 < 16 ^ 8 := Nat.lt_trans hb1 (by decide)
  have b2 : o2 < 16 ^ 8 := Nat.lt_trans hb2 (by decide)
  have fin : ∀ b : List Nat, o1 ∈ b ∨ o2 ∈ b → (∀ c ∈ b, c ∈ l ∨ c = o1 ∨ c = o2) → b.length ≤ 110 → Q (vt b) H2 := fun b hb hm hlen => by
    refine q H2 b s12 ?_ (fun c hc => ?_) hlen
    · rcases hb with h | h
      · exact ⟨o1, h, ho1⟩
      · exact ⟨o2, h, ho2⟩
    · rcases hm c hc with h | rfl | rfl
      · exact hl16 c h
      · exact b1
      · exact b2
  have lt := List.length_take (i := at0) (l := l)
  have ld := List.length_drop (i := at0) (l := l)
  refine ⟨_, rfl, _, _, rfl, rfl, (by show (0 : Int) < 4; decide), .inl ⟨rfl, _, rfl, if2 (fun _ => ?_) (fun _ => ?_)⟩⟩
  · refine ⟨_, rfl, _, rfl, _, rfl, .inr (cutT zl ?_)⟩
    rw [cut_to]
    refine ⟨_, rfl, .inr (.inl (catX (by rw [sizeLine_eq]; show _ + 1 ≤ _; omega) ?_))⟩
    refine ⟨_, rfl, _, rfl, _, rfl, .inr (cutT zl ?_)⟩
    rw [cut_from]
    refine .inr (.inl (catX (by rw [List.length_append, sizeLine_eq]; show _ + 1 + _ ≤ _; omega) ?_))
    refine fin _ (.inl (by simp)) (fun c hc => ?_) (by rw [List.length_append, List.length_append]; show _ + 1 + _ ≤ _; omega)
    simp only [List.mem_append, List.mem_singleton] at hc
    rcases hc with (h | h) | h
    · exact .inl (List.mem_of_mem_take h)
    · exact .inr (.inl h)
    · exact .inl (List.mem_of_mem_drop h)
  refine ⟨_, rfl, _, _, rfl, rfl, (by show (0 : Int) < 4; decide), .inl ⟨rfl, _, rfl, if2 (fun _ => ?_) (fun _ => ?_)⟩⟩
  · refine ⟨_, rfl, _, rfl, _, rfl, .inr (cutT zl ?_)⟩
    rw [cut_to]
    refine ⟨_, rfl, .inr (.inl (catX (by rw [sizeLine_eq]; show _ + 1 ≤ _; omega) ?_))⟩
    refine ⟨_, rfl, .inr (.inl (catX (by rw [List.length_append, sizeLine_eq]; show _ + 1 + 1 ≤ _; omega) ?_))⟩
    refine ⟨_, rfl, _, rfl, _, rfl, .inr (cutT zl ?_)⟩
    rw [cut_from]
    refine .inr (.inl (catX (by rw [List.length_append, List.length_append, sizeLine_eq]; show _ + 1 + 1 + _ ≤ _; omega) ?_))
    refine fin _ (.inl (by simp)) (fun c hc => ?_) (by rw [List.length_append, List.length_append, List.length_append]; show _ + 1 + 1 + _ ≤ _; omega)
    simp only [List.mem_append, List.mem_singleton] at hc
    rcases hc with ((h | h) | h) | h
    · exact .inl (List.mem_of_mem_take h)
    · exact .inr (.inl h)
    · exact .inr (.inr h)
    · exact .inl (List.mem_of_mem_drop h)
  refine ⟨_, rfl, _, _, rfl, rfl, (by show (0 : Int) < 4; decide), .inl ⟨rfl, _, rfl, if2 (fun _ => ?_) (fun _ => ?_)⟩⟩
  · refine ⟨_, rfl, _, rfl, _, rfl, _, rfl, .inr (cutT zl ?_)⟩
    rw [cut_to]
    refine .inr (.inl (catX (by rw [sizeLine_eq]; show 1 + _ ≤ _; omega) ?_))
    refine ⟨_, rfl, .inr (.inl (catX (by rw [List.length_append, sizeLine_eq]; show 1 + _ + 1 ≤ _; omega) ?_))⟩
    refine ⟨_, rfl, _, rfl, _, rfl, .inr (cutT zl ?_)⟩
    rw [cut_from]
    refine .inr (.inl (catX (by rw [List.length_append, List.length_append, sizeLine_eq]; show 1 + _ + 1 + _ ≤ _; omega) ?_))
    refine fin _ (.inl (by simp)) (fun c hc => ?_) (by rw [List.length_append, List.length_append, List.length_append]; show 1 + _ + 1 + _ ≤ _; omega)
    simp only [List.mem_append, List.mem_singleton] at hc
    rcases hc with ((h | h) | h) | h
    · exact .inr (.inl h)
    · exact .inl (List.mem_of_mem_take h)
    · exact .inr (.inr h)
    · exact .inl (List.mem_of_mem_drop h)
  · refine ⟨_, rfl, _, rfl, .inr (.inl ⟨[o1], at0, rfl, rfl, ⟨by omega, by omega, by show 1 ≤ 4000; decide⟩, ?_⟩)⟩
    rw [rep_ones]
    refine ⟨_, rfl, .inr (.inl (catX (by rw [List.length_replicate, sizeLine_eq]; show _ + 1 ≤ _; omega) ?_))⟩
    refine fin _ (.inr (by simp)) (fun c hc => ?_) (by rw [List.length_append, List.length_replicate]; show _ + 1 ≤ _; omega)
    simp only [List.mem_append, List.mem_singleton] at hc
    rcases hc with h | h
    · exact .inr (.inl (List.eq_of_mem_replicate h))
    · exact .inr (.inr h)

def spTold (K : PySem.W.Frag) : Sp := fun vs H Q _ => ∃ (a : Addr) (ns : List Int) (L : List Nat), vs = [.ref a, vt L] ∧ SqL K H a (ns.map V.int) ∧ 2 ≤ L.length ∧ L.length ≤ 6 ∧ ∀ H' (l : List Nat), Same H H' → (∀ c ∈ l, c ∈ L) → l.length ≤ 98 → Q (vt l) H'
theorem ok_L_told (T : Txt K mg t) : FnOk P w K mg base (CX1 P w) 2 t.a_L_told t.fd_L_told ["script", "letters"] (spTold K) := by
  refine T.F_L_told.okn (k := 1) sc_L_told (fun vs H Q E h => ?_) (fun cdv A outer s H vs Q E hr h => ?_)
  · obtain ⟨a, ns, L, rfl, _⟩ := h; rfl
  obtain ⟨a, ns, L, rfl, ha, hL2, hL6, q⟩ := h
  have G_L_cell_at := ok_L_cell_at (P := P) (w := w) (base := base) T
  have G_L_spread := ok_L_spread (P := P) (w := w) (base := base) T
  have G_L_text := ok_L_text (P := P) (w := w) (base := base) T
  refine ⟨_, (pss_cons (ps_set (i := 2) sc_L_told.nd rfl (Or.inl rfl) (pe_slice slAny (pv 0) (po_some pe_int) (po_some pe_int)))
    (pss_cons (ps_set (i := 3) sc_L_told.nd rfl (Or.inl rfl) (pe_op op_fdivL (pe_call G_L_cell_at hr rfl T.m_L_cell_at T.F_L_cell_at.kp T.b_L_cell_at .nil pass1 (PAs.h (pas_cons (pv 0) (pas_cons pe_int pas_nil)))) pe_int))
    (pss_cons (ps_if (PW.pt (pw_and (pt_cmpR (oEqW (hr.units0)) (pe_op op_mod (pv 3) pe_int) pe_int (nomark _)) (pw_and1 (pt_cmpR (oNeW (hr.units0)) (pv 2) (pe_lst pa_nil) (nomark _))))) (pss_one (ps_set (i := 2) sc_L_told.nd rfl (Or.inl rfl) (pe_call G_L_spread hr rfl T.m_L_spread T.F_L_spread.kp T.b_L_spread .nil pass1 (PAs.h (pas_cons (pv 2) (pas_cons (pe_op oAddN pe_int (pe_op op_mod (pe_op op_fdivL (pv 3) pe_int) pe_int)) pas_nil)))))) pss_nil)
    (pss_cons (ps_set (i := 4) sc_L_told.nd rfl (Or.inl rfl) (pe_call G_L_text hr rfl T.m_L_text T.F_L_text.kp T.b_L_text .nil pass1 (PAs.h (pas_cons (pv 2) (pas_cons (pv 1) (pas_cons (pe_cmpR (oEqW (hr.units0)) (pe_op op_mod (pe_call G_L_cell_at hr rfl T.m_L_cell_at T.F_L_cell_at.kp T.b_L_cell_at .nil pass1 (PAs.h (pas_cons (pv 0) (pas_cons pe_int pas_nil)))) pe_int) pe_int (nomark _)) pas_nil))))))
    (pss_cons (ps_if (pt_cmpR oIn (pe_op op_mod (pv 3) pe_int) (pe_tup (PAs.h (pas_cons pe_int (pas_cons pe_int (pas_cons pe_int pas_nil))))) (by with_unfolding_all rfl)) (pss_one (ps_ret (pe_slice slAny (pv 4) po_none (po_some (pe_op op_mod (pe_op op_fdivL (pv 3) pe_int) (pe_op oAddN (pe_callB call_len rfl T.m_len bt_len (pa_cons (pv 4) pa_nil)) pe_int)))))) pss_nil)
    (pss_one (ps_ret (pv 4)))))))), ?_⟩
  refine ⟨_, rfl, _, rfl, _, rfl, .inl ⟨a, _, rfl, ha, fun p1 h1 => ?_⟩⟩
  rw [cut_ints]
  have h60 := cutN_60 ns
  have s1 : Same H (upd H p1 (.lst ((cutN ns (some 3) (some 63)).map V.int))) := same_new h1 _
  have e1 : upd H p1 (.lst ((cutN ns (some 3) (some 63)).map V.int)) p1 = some (.lst ((cutN ns (some 3) (some 63)).map V.int)) := upd_same
  generalize cutN ns (some 3) (some 63) = ms at h60 s1 e1 ⊢
  generalize upd H p1 (.lst (ms.map V.int)) = H1 at s1 e1 ⊢
  refine ⟨_, rfl, a, ns, 2, rfl, same_lst s1 ha, by decide, _, _, rfl, rfl, cdivK (by decide) (by decide), ?_⟩
  show gName 3 (V.int ((cellN ns 2).fdiv 8)) _ _ _
  generalize (cellN ns 2).fdiv 8 = way
  dsimp (config := { eta := false, zeta := false, iota := false }) only [gName]
  refine meet (fun σ H2 => ∃ (pc : Addr) (cs : List Int), σ = [some (.ref a), some (vt L), some (.ref pc), some (.int way), none] ∧ Same H H2 ∧ H2 pc = some (.lst (cs.map V.int)) ∧ cs.length ≤ 98) (fun N hN => ?_) ?_
  · refine ⟨_, rfl, _, _, rfl, rfl, (by show (0 : Int) < 8; decide), .inl (.inl ⟨rfl, _, rfl, if2 (fun _ => ?_) (fun _ => ?_)⟩)⟩
    · refine ⟨_, rfl, by rw [sizeLine_eq]; show 0 ≤ _; decide, fun b hb => ?_⟩
      have s2 : Same H (upd H1 b (.lst [])) := new_same hb s1
      have e2 := new_at (o := .lst []) hb e1
      refine .inr ⟨p1, b, _, rfl, rfl, .inl (.inl e2), .inl (.inl upd_same), _, rfl, ?_⟩
      generalize upd H1 b (.lst []) = H2 at s2 e2 ⊢
      cases ms with
      | nil => exact iteF (hN _ _ ⟨p1, [], rfl, s2, e2, by show 0 ≤ 98; decide⟩)
      | cons m ms =>
        refine iteT ?_
        have a1 := Int.emod_nonneg (way.fdiv 8) (show (5 : Int) ≠ 0 by decide)
        have a2 := Int.emod_lt_of_pos (way.fdiv 8) (show (0 : Int) < 5 by decide)
        obtain ⟨n, hn⟩ : ∃ n : Nat, 94 + way.fdiv 8 % 5 = (n : Int) := ⟨(94 + way.fdiv 8 % 5).toNat, by omega⟩
        refine ⟨_, rfl, _, rfl, _, _, rfl, rfl, cdivK (by decide) (by decide), _, _, rfl, rfl, (by show (0 : Int) < 5; decide), .inl ⟨_, _, rfl, rfl, ?_⟩⟩
        refine ⟨p1, m :: ms, n, congrArg (fun z => [V.ref p1, V.int z]) hn, .inl (.inl e2), by simp, by omega, by omega, fun H3 p3 ms3 s3 e3 hl3 => ?_⟩
        exact hN _ _ ⟨p3, ms3, rfl, s2.trans s3, e3, by omega⟩
    · exact iteF (hN _ _ ⟨p1, ms, rfl, s1, e1, by omega⟩)
  rintro _ H2 ⟨pc, cs, rfl, s2, e2, hcl⟩
  refine ⟨_, rfl, _, rfl, _, rfl, a, ns, 1, rfl, same_lst s2 ha, by decide, _, _, rfl, rfl, (by show (0 : Int) < 2; decide), .inl (.inl ⟨rfl, ?_⟩)⟩
  refine ⟨pc, cs, L, _, rfl, .inl (.inl e2), hL2, hL6, by omega, fun l hl hll => ?_⟩
  have zl : l.length ≤ sizeLine := by rw [sizeLine_eq]; omega
  refine ⟨_, rfl, _, _, rfl, rfl, (by show (0 : Int) < 8; decide), by rw [sizeLine_eq]; show 3 ≤ _; decide, fun b hb => ?_⟩
  have s3 : Same H (upd H2 b (.tup [.int 2, .int 3, .int 4])) := new_same hb s2
  have e3 : upd H2 b (.tup [.int 2, .int 3, .int 4]) b = some (.tup [.int 2, .int 3, .int 4]) := upd_same
  try dsimp (config := { proj := false, eta := false, zeta := false, iota := false }) only [tNil, tC]
  generalize upd H2 b (.tup [.int 2, .int 3, .int 4]) = H3 at s3 e3 ⊢
  refine .inr ⟨b, _, rfl, .inr (.inl (.inl e3)), rfl, rfl, _, rfl, iteU (fun _ => ?_) (fun _ => ?_)⟩
  · have a1 := Int.emod_nonneg (way.fdiv 8) (show ((l.length : Nat) : Int) + 1 ≠ 0 by omega)
    refine ⟨_, rfl, _, rfl, _, _, rfl, rfl, cdivK (by decide) (by decide), _, rfl, _, _, rfl, lenvS zl, .inl ⟨_, _, rfl, rfl, _, _, rfl, rfl, (by show (0 : Int) < ((l.length : Nat) : Int) + 1; omega), _, rfl, .inr (cutT zl ?_)⟩⟩
    rw [cut_to' l a1]
    exact q H3 _ s3 (fun c hc => hl c (List.mem_of_mem_take hc)) (by rw [List.length_take]; omega)
  · exact ⟨_, rfl, q H3 l s3 hl (by omega)⟩
/-- what kinds of error are told -/
def spKinds (K : PySem.W.Frag) : Sp := fun vs H Q _ => ∃ (p : Addr) (f : Nat) (L : List Nat) (d : Nat) (x : V) (τ : Sh) (l : List Nat), vs = [.ref p, x, vt l] ∧ SqT K H p [vt (f :: L), .int d] ∧ (f :: L).Nodup ∧ (f :: L).length ≤ 6 ∧ d ≤ 6 ∧ l.length ≤ 110 ∧ (∀ c ∈ l, c < 16 ^ 8) ∧ ShAt K H x τ ∧
  (isTr (f :: L).length d τ = false ∨ ∃ c ∈ l, c ∉ f :: L) ∧ ∀ H' r, Same H H' → H' r = some (.lst [.bl true, .bl (!isTr (f :: L).length d τ), .bl (isTr (f :: L).length d τ)]) → Q (.ref r) H'
theorem ok_L_kinds (T : Txt K mg t) : FnOk P w K mg base (CX1 P w) 12 t.a_L_kinds t.fd_L_kinds ["frame", "tree", "text"] (spKinds K) := by
  refine T.F_L_kinds.okn (k := 11) sc_L_kinds (fun vs H Q E h => ?_) (fun cdv A outer s H vs Q E hr h => ?_)
  · obtain ⟨p, f, L, d, x, τ, l, rfl, _⟩ := h; rfl
  obtain ⟨p, f, L, d, x, τ, l, rfl, hp, hnd, hL6, hd, hll, hc16, hx, hbad, q⟩ := h
  have G_worth_by := ok_worth_by (P := P) (w := w) (base := base) T
  refine ⟨_, (pss_cons (ps_set (i := 3) sc_L_kinds.nd rfl (Or.inl rfl) (pe_lst pa_nil))
    (pss_cons (ps_tryU (i := 4) rfl rfl rfl rfl sc_L_kinds.nd rfl rfl rfl T.m_PressError T.x_PressError (by decide) (fun pins xe Φ hx => (pss_one (ps_expr (pe_callX G_worth_by hr rfl T.m_worth_by T.F_worth_by.kp T.b_worth_by .nil hx (PAs.h (pas_cons (pv 0) (pas_cons (pv 1) (pas_cons (pv 2) pas_nil)))))))) (fun pins e => (pss_one (ps_set (i := 3) sc_L_kinds.nd rfl (Or.inl rfl) (pe_lst (PAs.h (pas_cons (pe_callB isiAny rfl T.m_isinstance bt_isinstance (PAs.h (pas_cons (pv 4) (pas_cons (pe_bltn (v := .ty "ValueError") rfl T.m_ValueError bt_ValueError rfl) pas_nil)))) (pas_cons (pe_callB isiAny rfl T.m_isinstance bt_isinstance (PAs.h (pas_cons (pv 4) (pas_cons (pe_glob (v := .ref t.c_NoTree) rfl T.m_NoTree rfl) pas_nil)))) (pas_cons (pe_callB isiAny rfl T.m_isinstance bt_isinstance (PAs.h (pas_cons (pv 4) (pas_cons (pe_glob (v := .ref t.c_NoText) rfl T.m_NoText rfl) pas_nil)))) pas_nil)))))))))
    (pss_one (ps_ret (pv 3))))), ?_⟩
  refine ⟨by rw [sizeLine_eq]; show 0 ≤ _; decide, fun b hb => ?_⟩
  have s0 : Same H (upd H b (.lst [])) := same_new hb _
  generalize upd H b (.lst []) = H0 at s0 ⊢
  refine fun pins0 xe0 => ?_
  refine ⟨_, rfl, _, rfl, _, rfl, p, f, L, d, x, τ, l, rfl, same_tup s0 hp, hnd, hL6, hd, hll, hc16, hx.same s0, fun z H1 s1 => ?_, fun z hz H1 s1 => ?_, fun z hz => ?_⟩
  · rw [z] at q
    refine ⟨_, rfl, T.u_NoTree_PressError, fun y hy pins1 ev1 => ?_⟩
    have e0 : upd H1 y (excO y t.c_NoTree) y = some (excO y t.c_NoTree) := upd_same
    have sx : Same H (upd H1 y (excO y t.c_NoTree)) := new_same hy (s0.trans s1)
    generalize upd H1 y (excO y t.c_NoTree) = H2 at e0 sx ⊢
    refine ⟨_, rfl, .inr ⟨y, _, _, true, rfl, e0, T.z_NoTree, .inr (.inl ⟨_, rfl, T.i_NoTree_ValueError⟩), ?_⟩⟩
    refine ⟨_, rfl, .inr ⟨y, _, _, true, rfl, e0, T.z_NoTree, .inl ⟨_, rfl, T.i_NoTree_NoTree⟩, ?_⟩⟩
    refine ⟨_, rfl, .inr ⟨y, _, _, false, rfl, e0, T.z_NoTree, .inl ⟨_, rfl, T.i_NoTree_NoText⟩, ?_⟩⟩
    refine ⟨by rw [sizeLine_eq]; show 3 ≤ _; decide, fun r hr0 => ?_⟩
    exact ⟨_, rfl, q _ r (new_same hr0 sx) upd_same⟩
  · rw [z] at q
    refine ⟨_, rfl, T.u_NoText_PressError, fun y hy pins1 ev1 => ?_⟩
    have e0 : upd H1 y (excO y t.c_NoText) y = some (excO y t.c_NoText) := upd_same
    have sx : Same H (upd H1 y (excO y t.c_NoText)) := new_same hy (s0.trans s1)
    generalize upd H1 y (excO y t.c_NoText) = H2 at e0 sx ⊢
    refine ⟨_, rfl, .inr ⟨y, _, _, true, rfl, e0, T.z_NoText, .inr (.inl ⟨_, rfl, T.i_NoText_ValueError⟩), ?_⟩⟩
    refine ⟨_, rfl, .inr ⟨y, _, _, false, rfl, e0, T.z_NoText, .inl ⟨_, rfl, T.i_NoText_NoTree⟩, ?_⟩⟩
    refine ⟨_, rfl, .inr ⟨y, _, _, true, rfl, e0, T.z_NoText, .inl ⟨_, rfl, T.i_NoText_NoText⟩, ?_⟩⟩
    refine ⟨by rw [sizeLine_eq]; show 3 ≤ _; decide, fun r hr0 => ?_⟩
    exact ⟨_, rfl, q _ r (new_same hr0 sx) upd_same⟩
  · exfalso
    rcases hbad with h | ⟨c, h1, h2⟩
    · exact absurd (h.symm.trans z) (by decide)
    · exact h2 (hz c h1)
def spAsked (K : PySem.W.Frag) : Sp := fun vs H Q _ => ∃ (p : Addr) (f : Nat) (L : List Nat) (d : Nat) (x : V) (τ : Sh) (l b : List Nat), vs = [.ref p, x, vt l, vt b] ∧ SqT K H p [vt (f :: L), .int d] ∧ (f :: L).Nodup ∧ (f :: L).length ≤ 6 ∧ d ≤ 6 ∧ l.length ≤ 110 ∧ b.length ≤ 110 ∧ (∀ c ∈ l, c ∈ f :: L) ∧ (∀ c ∈ b, c < 16 ^ 8) ∧ (∀ c ∈ l, c < 16 ^ 8) ∧ ShAt K H x τ ∧
  (b = l ∨ ∃ c ∈ b, c ∉ f :: L) ∧ ∀ H', Same H H' → Q (.bl true) H'
theorem ok_L_asked (T : Txt K mg t) : FnOk P w K mg base (CX1 P w) 13 t.a_L_asked t.fd_L_asked ["frame", "thing", "text", "bad"] (spAsked K) := by
  refine T.F_L_asked.okn (k := 12) sc_L_asked (fun vs H Q E h => ?_) (fun cdv A outer s H vs Q E hr h => ?_)
  · obtain ⟨p, f, L, d, x, τ, l, b, rfl, _⟩ := h; rfl
  obtain ⟨p, f, L, d, x, τ, l, b, rfl, hp, hnd, hL6, hd, hll, hbl, hl, hb16, hl16, hx, hbad, q⟩ := h
  have G_L_is := (ok_L_is (P := P) (w := w) (base := base) T).mono (show 1 ≤ 12 by decide)
  have G_L_kinds := ok_L_kinds (P := P) (w := w) (base := base) T
  have G_L_worth := (ok_L_worth (P := P) (w := w) (base := base) T).mono (show 2 ≤ 12 by decide)
  have G_L_fraction := (ok_L_fraction (P := P) (w := w) (base := base) T).mono (show 2 ≤ 12 by decide)
  have G_worth_by := (ok_worth_by (P := P) (w := w) (base := base) T).mono (show 11 ≤ 12 by decide)
  have zL : (f :: L).length ≤ sizeLine := by rw [sizeLine_eq]; omega
  refine ⟨_, (pss_cons (ps_if (pt_not (pt_val (pe_call G_L_is hr rfl T.m_L_is T.F_L_is.kp T.b_L_is .nil pass1 (PAs.h (pas_cons (pv 1) (pas_cons (pe_callB call_len rfl T.m_len bt_len (pa_cons (pe_ix ixAny (pv 0) pe_int (fun _ _ => rfl)) pa_nil)) (pas_cons (pe_ix ixAny (pv 0) pe_int (fun _ _ => rfl)) pas_nil))))))) (pss_one (ps_ret (pe_cmpR (oEqA (hr.units0)) (pe_call G_L_kinds hr rfl T.m_L_kinds T.F_L_kinds.kp T.b_L_kinds .nil pass1 (PAs.h (pas_cons (pv 0) (pas_cons (pv 1) (pas_cons (pv 3) pas_nil))))) (pe_lst (PAs.h (pas_cons pe_bl (pas_cons pe_bl (pas_cons pe_bl pas_nil))))) (nomark _)))) pss_nil)
    (pss_cons (ps_if (pt_cmpR (oNeN (hr.units0)) (pv 3) (pv 2) (nomark _)) (pss_one (ps_ret (pe_cmpR (oEqA (hr.units0)) (pe_call G_L_kinds hr rfl T.m_L_kinds T.F_L_kinds.kp T.b_L_kinds .nil pass1 (PAs.h (pas_cons (pv 0) (pas_cons (pv 1) (pas_cons (pv 3) pas_nil))))) (pe_lst (PAs.h (pas_cons pe_bl (pas_cons pe_bl (pas_cons pe_bl pas_nil))))) (nomark _)))) pss_nil)
    (pss_cons (ps_set (i := 4) sc_L_asked.nd rfl (Or.inl rfl) (pe_call G_L_worth hr rfl T.m_L_worth T.F_L_worth.kp T.b_L_worth .nil pass1 (PAs.h (pas_cons (pv 0) (pas_cons (pv 1) (pas_cons (pv 2) pas_nil))))))
    (pss_one (ps_ret (pe_call G_L_fraction hr rfl T.m_L_fraction T.F_L_fraction.kp T.b_L_fraction .nil pass1 (PAs.h (pas_cons (pe_call G_worth_by hr rfl T.m_worth_by T.F_worth_by.kp T.b_worth_by .nil pass1 (PAs.h (pas_cons (pv 0) (pas_cons (pv 1) (pas_cons (pv 2) pas_nil))))) (pas_cons (pe_ix ixAny (pv 4) pe_int (fun _ _ => rfl)) (pas_cons (pe_ix ixAny (pv 4) pe_int (fun _ _ => rfl)) pas_nil)))))))))), ?_⟩
  refine ⟨_, rfl, _, rfl, ixT hp rfl ⟨_, _, rfl, lenvS zL, _, rfl, ixT hp rfl ?_⟩⟩
  refine ⟨x, τ, (f :: L).length, d, rfl, hL6, hd, hx, fun H1 s1 => ⟨_, rfl, ?_⟩⟩
  have hp1 := same_tup s1 hp
  have hx1 := hx.same s1
  cases z : isTr (f :: L).length d τ with
  | false =>
    refine iteT ⟨_, rfl, _, rfl, _, rfl, p, f, L, d, x, τ, b, rfl, hp1, hnd, hL6, hd, hbl, hb16, hx1, .inl z, fun H2 r s2 e2 => ?_⟩
    rw [z] at e2
    refine ⟨by rw [sizeLine_eq]; show 3 ≤ _; decide, fun c hc => ?_⟩
    refine .inr (.inl ⟨r, c, _, _, rfl, rfl, .inl (.inl (new_at hc e2)), .inl (.inl upd_same), rfl, rfl, ?_⟩)
    exact q _ (new_same hc (s1.trans s2))
  | true =>
    refine iteF ⟨_, rfl, _, rfl, .inl ⟨rfl, _, rfl, ifn2 (fun ne => ?_) (fun eq => ?_)⟩⟩
    · have hb2 : ∃ c ∈ b, c ∉ f :: L := hbad.resolve_left fun e => ne (by rw [e])
      refine ⟨_, rfl, _, rfl, _, rfl, p, f, L, d, x, τ, b, rfl, hp1, hnd, hL6, hd, hbl, hb16, hx1, .inr hb2, fun H2 r s2 e2 => ?_⟩
      rw [z] at e2
      refine ⟨by rw [sizeLine_eq]; show 3 ≤ _; decide, fun c hc => ?_⟩
      refine .inr (.inl ⟨r, c, _, _, rfl, rfl, .inl (.inl (new_at hc e2)), .inl (.inl upd_same), rfl, rfl, ?_⟩)
      exact q _ (new_same hc (s1.trans s2))
    · refine ⟨_, rfl, _, rfl, _, rfl, p, f, L, d, x, τ, l, rfl, hp1, hnd, hL6, hd, hll, hl, hx1, z, fun H2 r tp bt s2 e2 hA bt1 bt2 => ?_⟩
      have eT : tp = overLv (lvs (f :: L) d τ []) (topOf (f :: L) f d l) := hA.tp
      have eB : bt = overLv (lvs (f :: L) d τ []) (botOf (f :: L) f d l) := hA.bt
      refine ⟨_, rfl, _, rfl, _, rfl, p, f, L, d, x, τ, l, rfl, same_tup s2 hp1, hnd, hL6, hd, hll, hl16, hx1.same s2, fun z2 => absurd (z.symm.trans z2) (by decide), fun _ ⟨c, h1, h2⟩ => absurd (hl c h1) h2, fun _ _ => ⟨eT ▸ bt1, eB ▸ bt2, fun H3 y s3 hy => ?_⟩⟩
      rw [← eT, ← eB] at hy
      have e3 := s3 _ _ e2
      refine ⟨_, rfl, ixT (.inl (.inl e3)) rfl ⟨_, rfl, ixT (.inl (.inl e3)) rfl ?_⟩⟩
      exact ⟨y, tp, bt, rfl, hy, bt1, bt2, q H3 (s1.trans (s2.trans s3))⟩

theorem two_at (c : Int) : ∃ m : Int, atI [V.int 7, .int 1000] (c % 2) = some (.int m) ∧ 0 < m := by
  have h1 := Int.emod_nonneg c (show (2 : Int) ≠ 0 by decide)
  have h2 := Int.emod_lt_of_pos c (show (0 : Int) < 2 by decide)
  obtain ⟨j, hj⟩ : ∃ j : Nat, c % 2 = (j : Int) := ⟨_, (Int.toNat_of_nonneg h1).symm⟩
  rw [hj] at h2 ⊢
  match j, h2 with
  | 0, _ => exact ⟨7, rfl, by decide⟩
  | 1, _ => exact ⟨1000, rfl, by decide⟩
  | n + 2, h => exact absurd h (by omega)
def spLaw (K : PySem.W.Frag) : Sp := fun vs H Q _ => ∃ (a : Addr) (ns : List Int), vs = [.ref a] ∧ SqL K H a (ns.map V.int) ∧ ns.length ≤ 63 ∧ (∀ n ∈ ns, Small n) ∧ ∀ H', Q (.bl true) H'
theorem ok_law (T : Txt K mg t) : FnOk P w K mg base (CX1 P w) 14 t.a_law t.fd_law ["script"] (spLaw K) := by
  refine T.F_law.okn (k := 13) sc_law (fun vs H Q E h => ?_) (fun cdv A outer s H vs Q E hr h => ?_)
  · obtain ⟨a, ns, rfl, _⟩ := h; rfl
  obtain ⟨a, ns, rfl, ha, hl, hs, q⟩ := h
  have G_L_cell_at := (ok_L_cell_at (P := P) (w := w) (base := base) T).mono (show 1 ≤ 13 by decide)
  have G_L_frame := (ok_L_frame (P := P) (w := w) (base := base) T).mono (show 2 ≤ 13 by decide)
  have G_L_cells := (ok_L_cells (P := P) (w := w) (base := base) T).mono (show 2 ≤ 13 by decide)
  have G_L_tree := (ok_L_tree (P := P) (w := w) (base := base) T).mono (show 2 ≤ 13 by decide)
  have G_L_told := (ok_L_told (P := P) (w := w) (base := base) T).mono (show 2 ≤ 13 by decide)
  have G_L_bad := (ok_L_bad (P := P) (w := w) (base := base) T).mono (show 2 ≤ 13 by decide)
  have G_L_asked := ok_L_asked (P := P) (w := w) (base := base) T
  refine ⟨_, (pss_cons (ps_set (i := 1) sc_law.nd rfl (Or.inl rfl) (pe_call G_L_frame hr rfl T.m_L_frame T.F_L_frame.kp T.b_L_frame .nil pass1 (pa_cons (pe_call G_L_cell_at hr rfl T.m_L_cell_at T.F_L_cell_at.kp T.b_L_cell_at .nil pass1 (PAs.h (pas_cons (pv 0) (pas_cons pe_int pas_nil)))) pa_nil)))
    (pss_cons (ps_set (i := 2) sc_law.nd rfl (Or.inl rfl) (pe_callB call_len rfl T.m_len bt_len (pa_cons (pe_ix ixAny (pv 1) pe_int (fun _ _ => rfl)) pa_nil)))
    (pss_cons (ps_set (i := 3) sc_law.nd rfl (Or.inl rfl) (pe_call G_L_cells hr rfl T.m_L_cells T.F_L_cells.kp T.b_L_cells .nil pass1 (PAs.h (pas_cons (pv 0) (pas_cons (pv 2) pas_nil)))))
    (pss_cons (ps_set (i := 4) sc_law.nd rfl (Or.inl rfl) (pe_op op_fdivL (pe_call G_L_cell_at hr rfl T.m_L_cell_at T.F_L_cell_at.kp T.b_L_cell_at .nil pass1 (PAs.h (pas_cons (pv 0) (pas_cons pe_int pas_nil)))) pe_int))
    (pss_cons (ps_set (i := 5) sc_law.nd rfl (Or.inl rfl) (pe_call G_L_tree hr rfl T.m_L_tree T.F_L_tree.kp T.b_L_tree .nil pass1 (PAs.h (pas_cons (pv 3) (pas_cons (pv 2) (pas_cons (pe_ix ixAny (pv 1) pe_int (fun _ _ => rfl)) (pas_cons (pe_un un_neg pe_int) (pas_cons pe_int pas_nil))))))))
    (pss_cons (ps_set (i := 6) sc_law.nd rfl (Or.inl rfl) (pe_call G_L_tree hr rfl T.m_L_tree T.F_L_tree.kp T.b_L_tree .nil pass1 (PAs.h (pas_cons (pv 3) (pas_cons (pv 2) (pas_cons (pe_ix ixAny (pv 1) pe_int (fun _ _ => rfl)) (pas_cons (pe_op op_mod (pe_op op_fdivL (pv 4) pe_int) (pe_ix ixAny (pe_lst (PAs.h (pas_cons pe_int (pas_cons pe_int pas_nil)))) (pe_op op_mod (pe_op op_fdivL (pv 4) pe_int) pe_int) (fun _ _ => rfl))) (pas_cons (pe_op op_mod (pv 4) pe_int) pas_nil))))))))
    (pss_cons (ps_set (i := 7) sc_law.nd rfl (Or.inl rfl) (pe_call G_L_told hr rfl T.m_L_told T.F_L_told.kp T.b_L_told .nil pass1 (PAs.h (pas_cons (pv 0) (pas_cons (pe_ix ixAny (pv 1) pe_int (fun _ _ => rfl)) pas_nil)))))
    (pss_cons (ps_set (i := 8) sc_law.nd rfl (Or.inl rfl) (pv 7))
    (pss_cons (ps_if (pt_cmpR (oEqA (hr.units0)) (pe_op op_mod (pe_call G_L_cell_at hr rfl T.m_L_cell_at T.F_L_cell_at.kp T.b_L_cell_at .nil pass1 (PAs.h (pas_cons (pv 0) (pas_cons pe_int pas_nil)))) pe_int) pe_int (nomark _)) (pss_one (ps_set (i := 8) sc_law.nd rfl (Or.inl rfl) (pe_call G_L_bad hr rfl T.m_L_bad T.F_L_bad.kp T.b_L_bad .nil pass1 (PAs.h (pas_cons (pe_ix ixAny (pv 1) pe_int (fun _ _ => rfl)) (pas_cons (pv 7) (pas_cons (pv 4) pas_nil))))))) pss_nil)
    (pss_cons (ps_for PassesOwn.never rfl (piAny (pe_lst (PAs.h (pas_cons (pv 5) (pas_cons (pv 6) (pas_cons (pe_lst (pa_cons (pv 5) pa_nil)) pas_nil)))))) (pg_name (i := 9) sc_law.nd rfl (Or.inl rfl)) (pss_one (ps_if (pt_not (pt_val (pe_call G_L_asked hr rfl T.m_L_asked T.F_L_asked.kp T.b_L_asked .nil pass1 (PAs.h (pas_cons (pv 1) (pas_cons (pv 9) (pas_cons (pv 7) (pas_cons (pv 8) pas_nil)))))))) (pss_one (ps_ret pe_bl)) pss_nil)))
    (pss_one (ps_ret (pe_and (pe_call G_L_asked hr rfl T.m_L_asked T.F_L_asked.kp T.b_L_asked .nil pass1 (PAs.h (pas_cons (pv 1) (pas_cons pe_non (pas_cons (pe_slice slAny (pv 7) (po_some pe_int) po_none) (pas_cons (pe_slice slAny (pv 7) (po_some pe_int) po_none) pas_nil)))))) (pe_one (pe_call G_L_asked hr rfl T.m_L_asked T.F_L_asked.kp T.b_L_asked .nil pass1 (PAs.h (pas_cons (pv 1) (pas_cons (pv 5) (pas_cons (pv 7) (pas_cons (pv 7) pas_nil)))))))))))))))))))), ?_⟩
  refine ⟨_, rfl, a, ns, 0, rfl, ha, by decide, ?_⟩
  refine ⟨_, rfl, cellN_small hs 0, fun LL S d H1 f1 hL2 hL6 hDr hd s1 _ e1 => ?_⟩
  obtain ⟨f, L, rfl⟩ : ∃ f L', LL = f :: L' := by
    cases LL with
    | nil => simp at hL2
    | cons f L' => exact ⟨f, L', rfl⟩
  have zL : (f :: L).length ≤ sizeLine := by rw [sizeLine_eq]; omega
  refine ⟨_, rfl, ixT (.inl (.inl e1)) rfl ⟨_, _, rfl, lenvS zL, ?_⟩⟩
  refine ⟨_, rfl, _, rfl, a, ns, (f :: L).length, rfl, same_lst s1 ha, hL2, hL6, fun H3 pc cs s3 hcs hcl => ?_⟩
  refine ⟨_, rfl, a, ns, 2, rfl, same_lst (s1.trans s3) ha, by decide, _, _, rfl, rfl, cdivK (by decide) (by decide), ?_⟩
  show gName 4 (V.int ((cellN ns 2).fdiv 6464)) _ _ _
  generalize (cellN ns 2).fdiv 6464 = ce
  refine ⟨_, rfl, _, rfl, _, rfl, ixT (.inl (.inl (s3 _ _ e1))) rfl ⟨1, rfl, pc, cs, (f :: L).length, d, -1, 0, rfl, hcs, hcl, hL2, hL6, hd, by decide, fun H4 v τ s4 hv hg => ?_⟩⟩
  have e14 := s4 _ _ (s3 _ _ e1)
  have hcs4 := same_lst s4 hcs
  have hk0 := Int.emod_nonneg ce (show (16 : Int) ≠ 0 by decide)
  have hk1 := Int.emod_lt_of_pos ce (show (0 : Int) < 16 by decide)
  obtain ⟨k, hk⟩ : ∃ k : Nat, ce % 16 = (k : Int) := ⟨_, (Int.toNat_of_nonneg hk0).symm⟩
  refine ⟨_, rfl, _, rfl, _, rfl, ixT (.inl (.inl e14)) rfl ⟨_, rfl, _, _, rfl, rfl, cdivK (by decide) (by decide), by rw [sizeLine_eq]; show 2 ≤ _; decide, fun pz hpz => ?_⟩⟩
  have sz : Same H4 (upd H4 pz (.lst [.int 7, .int 1000])) := same_new hpz _
  have ez : upd H4 pz (.lst [.int 7, .int 1000]) pz = some (.lst [.int 7, .int 1000]) := upd_same
  try dsimp (config := { proj := false, eta := false, zeta := false, iota := false }) only [tNil, tC]
  generalize upd H4 pz (.lst [.int 7, .int 1000]) = H5 at sz ez ⊢
  obtain ⟨md, hm1, hm2⟩ := two_at (ce.fdiv 16)
  refine ⟨_, rfl, _, _, rfl, rfl, cdivK (by decide) (by decide), _, _, rfl, rfl, (by show (0 : Int) < 2; decide), ixL (.inl (.inl ez)) hm1 ?_⟩
  refine ⟨_, _, rfl, rfl, hm2, _, rfl, _, _, rfl, rfl, (by show (0 : Int) < 16; decide), ?_⟩
  refine ⟨pc, cs, (f :: L).length, d, ce.fdiv 32 % md, k, congrArg (fun z => [V.ref pc, V.int (f :: L).length, V.int d, V.int (ce.fdiv 32 % md), V.int z]) hk, same_lst sz hcs4, hcl, hL2, hL6, hd, by omega, fun H6 v6 τ6 s6 hv6 _ => ?_⟩
  have s46 := sz.trans s6
  have e16 := s46 _ _ e14
  have s06 := (s1.trans s3).trans (s4.trans s46)
  have hnd : (f :: L).Nodup := hDr.nodup
  refine ⟨_, rfl, _, rfl, ixT (.inl (.inl e16)) rfl ⟨a, ns, f :: L, rfl, same_lst s06 ha, hL2, hL6, fun H7 l s7 hlL hll => ?_⟩⟩
  have hl16 : ∀ c ∈ l, c < 16 ^ 8 := fun c hc => Nat.lt_trans (signs_lt c (hDr.mem c (hlL c hc))).2.1 (by decide)
  have zl : l.length ≤ sizeLine := by rw [sizeLine_eq]; omega
  have e17 := s7 _ _ e16
  have hv7 := (hv.same s46).same s7
  have hv67 := hv6.same s7
  have s07 := s06.trans s7
  refine ⟨_, rfl, ?_⟩
  dsimp (config := { eta := false, zeta := false, iota := false }) only [gName]
  refine meet (fun σ H8 => ∃ b : List Nat, σ = [some (.ref a), some (.ref f1), some (.int (f :: L).length), some (.ref pc), some (.int ce), some v, some v6, some (vt l), some (vt b), none] ∧ Same H7 H8 ∧ (b = l ∨ ∃ c ∈ b, c ∉ f :: L) ∧ (∀ c ∈ b, c < 16 ^ 8) ∧ b.length ≤ 110) (fun N hN => ?_) ?_
  · refine ⟨_, rfl, a, ns, 2, rfl, same_lst s07 ha, by decide, _, _, rfl, rfl, (by show (0 : Int) < 4; decide), .inl ⟨rfl, _, rfl, if2 (fun _ => ?_) (fun _ => ?_)⟩⟩
    · refine ⟨_, rfl, ixT (.inl (.inl e17)) rfl ⟨_, rfl, _, rfl, f :: L, S, l, ce, rfl, hDr, hL6, hll, hlL, fun H8 b s8 hb1 hb2 hb3 => ?_⟩⟩
      exact hN _ _ ⟨b, rfl, s8, .inr hb1, hb2, hb3⟩
    · exact hN _ _ ⟨l, rfl, Same.refl _, .inl rfl, hl16, by omega⟩
  rintro _ H8 ⟨b, rfl, s8, hbad, hb16, hbl⟩
  refine ⟨_, rfl, _, rfl, _, rfl, by rw [sizeLine_eq]; show 1 ≤ _; decide, fun p1 h1 => ⟨by rw [sizeLine_eq]; show 3 ≤ _; decide, fun p4 h4 => ?_⟩⟩
  have s9 : Same H8 (upd (upd H8 p1 (.lst [v])) p4 (.lst [v, v6, .ref p1])) := new_same h4 (same_new h1 _)
  have t1 : upd (upd H8 p1 (.lst [v])) p4 (.lst [v, v6, .ref p1]) p1 = some (.lst [v]) := new_at h4 upd_same
  have t4 : upd (upd H8 p1 (.lst [v])) p4 (.lst [v, v6, .ref p1]) p4 = some (.lst [v, v6, .ref p1]) := upd_same
  try dsimp (config := { proj := false, eta := false, zeta := false, iota := false }) only [tNil, tC]
  generalize upd (upd H8 p1 (.lst [v])) p4 (.lst [v, v6, .ref p1]) = H9 at s9 t1 t4 ⊢
  have s79 := s8.trans s9
  have hv9 := hv7.same s79
  have e19 := s79 _ _ e17
  have hall : ∀ x ∈ [v, v6, .ref p1], ∃ τ, ShAt K H9 x τ := fun x hx => by
    simp only [List.mem_cons, List.not_mem_nil, or_false] at hx
    rcases hx with rfl | rfl | rfl
    · exact ⟨_, hv9⟩
    · exact ⟨_, hv67.same s79⟩
    · exact ⟨_, .oth (.lst t1)⟩
  refine .inl ⟨p4, _, rfl, .inl (.inl t4), ?_⟩
  refine for_walk (walk_list (xs := [v, v6, .ref p1])) (fun i σ H' => ∃ r9, σ = [some (.ref a), some (.ref f1), some (.int (f :: L).length), some (.ref pc), some (.int ce), some v, some v6, some (vt l), some (vt b), r9] ∧ Same H9 H') ⟨_, rfl, Same.refl _⟩ (fun i σ H' _ ⟨_, _, g⟩ => .inl (.inl (g _ _ t4))) ?_ ?_
  · rintro i x _ H' hx ⟨r9, rfl, g⟩
    obtain ⟨τx, hx'⟩ := hall x (List.mem_of_getElem? hx)
    refine ⟨_, rfl, _, rfl, _, rfl, _, rfl, f1, f, L, d, x, τx, l, b, rfl, .inl (.inl (g _ _ e19)), hnd, hL6, hd, by omega, hbl, hlL, hb16, hl16, hx'.same g, hbad, fun H'' g' => ⟨true, rfl, iteF ?_⟩⟩
    exact ⟨_, rfl, g.trans g'⟩
  · rintro _ H' ⟨r9, rfl, g⟩
    have d1 : ∀ c ∈ l.drop 1, c ∈ f :: L := fun c hc => hlL c (List.mem_of_mem_drop hc)
    have d2 : ∀ c ∈ l.drop 1, c < 16 ^ 8 := fun c hc => hl16 c (List.mem_of_mem_drop hc)
    have d3 : (l.drop 1).length ≤ 110 := by rw [List.length_drop]; omega
    have ec : cutL l (some 1) none = l.drop 1 := cut_from l 1
    refine ⟨_, rfl, _, rfl, _, rfl, .inr (cutT zl ?_)⟩
    rw [ec]
    refine ⟨_, rfl, _, rfl, .inr (cutT zl ?_)⟩
    rw [ec]
    refine ⟨f1, f, L, d, .non, .non, l.drop 1, l.drop 1, rfl, .inl (.inl (g _ _ e19)), hnd, hL6, hd, d3, d3, d1, d2, d2, .non, .inl rfl, fun H2 g2 => ⟨true, rfl, iteT ?_⟩⟩
    refine ⟨_, rfl, _, rfl, _, rfl, _, rfl, f1, f, L, d, v, τ, l, l, rfl, .inl (.inl (g2 _ _ (g _ _ e19))), hnd, hL6, hd, by omega, by omega, hlL, hl16, hl16, (hv9.same g).same g2, .inl rfl, fun H3 _ => q H3⟩

end
theorem fin {P : Program} {w : World} {K : PySem.W.Frag} {mg : Str → Option Value} {fa : Addr} (hmg : mg "law" = some (.ref fa)) (h : ∃ t, Txt K mg t) :
    ∃ fd : FuncData, (∀ (s : Shared) (v : Value), BindsTo s fd ⟨[v], []⟩ [("script", v)]) ∧ ∀ base : Heap, K.In base → base.Ns mainGlobals mg → FnOk P w K mg base (CX1 P w) 14 fa fd ["script"] (spLaw K) := by
  obtain ⟨t, T⟩ := h
  have e := hmg.symm.trans T.m_law
  cases e
  exact ⟨_, T.bl, fun base _ _ => ok_law T⟩
theorem walk {l : PySem.W.OpenLaw} {q : Program} {loose : List Str} {XP : (Str → Option Value) → Heap → Prop} {YP : World → Heap → Prop} {d : DefRec} {K : Params → PySem.W.Frag} (hn : l.most = some 63) (hdf : d.params.defaults = [])
    (hY : ∀ (w : World) (h : Heap), YP w h → (K w.params).In h)
    (F : ∀ (w : World) (mg : Str → Option Value) (fa : Addr) (h : Heap), (K w.params).In h → h.Ns mainGlobals mg → mg d.name = some (.ref fa) →
      ∃ fd : FuncData, (∀ (s : Shared) (u : Value), BindsTo s fd ⟨[u], []⟩ [("script", u)]) ∧ ∀ base : Heap, (K w.params).In base → base.Ns mainGlobals mg → FnOk l.prog w (K w.params) mg base (CX1 l.prog w) 14 fa fd ["script"] (spLaw (K w.params))) :
    PySem.W.WalkO q loose XP YP l.row.toRowW d [] (fun f vs => PySem.call f vs) :=
  L2.walk_b (n := 63) (k := 14) (x := "script") (CX := fun w => CX1 l.prog w) (sp := fun w => spLaw (K w.params)) hn (by decide) hdf ⟨rfl, by decide, by decide⟩ hY F (fun _ _ a ns hl hb _ hS => ⟨a, ns, rfl, hS, hl, hb, fun _ => rfl⟩) fun _ _ _ _ _ z => cx1_none z
end Bp
theorem PySem.W.Fast.tw11818672320138928279 : True := .intro
theorem PySem.W.Fast.tw2328661022476928678 : True := .intro
theorem PySem.W.Fast.tw10515994608512105274 : True := .intro
theorem PySem.W.Fast.tw17660171176223440127 : True := .intro
theorem PySem.W.Fast.tw6452062275869471531 : True := .intro
theorem PySem.W.Fast.tw5106140934084727116 : True := .intro
theorem PySem.W.Fast.tw62786723882372496 : True := .intro
theorem PySem.W.Fast.tw4219739496915022673 : True := .intro
theorem PySem.W.Fast.tw17024632764398910310 : True := .intro
theorem PySem.W.Fast.tw397671853391272748 : True := .intro
theorem PySem.W.Fast.tw1134902084075508906 : True := .intro
theorem PySem.W.Fast.tw6320764982765719545 : True := .intro
theorem PySem.W.Fast.tw7024113350923438159 : True := .intro
theorem PySem.W.Fast.tw1123512282142993844 : True := .intro
theorem PySem.W.Fast.tw3747987851937225773 : True := .intro
theorem PySem.W.Fast.tw16411080193813260611 : True := .intro
theorem PySem.W.Fast.tw2106203327876016715 : True := .intro
theorem PySem.W.Fast.tw16452988900778976510 : True := .intro
theorem PySem.W.Fast.tw8814468611887715340 : True := .intro
open PySem PySem.W PyProof.Rows
set_option maxRecDepth 100000 in
set_option maxHeartbeats 0 in
theorem PySem.Challenge.cw_boughpress_k34_worth_by_a_tree_holds : PySem.Challenge.rw_boughpress_k34_worth_by_a_tree.Holds := by
  w_on; o_law; k_head; (case hw => w_witness2)
  k_fill
  refine Bp.walk (l := PySem.Challenge.rw_boughpress_k34_worth_by_a_tree) rfl rfl (fun w h Y => PySem.W.kIn_of Y) ?F
  case F =>
    intro w mg fa h KX G hmg
    refine Bp.fin hmg ?_
    refine' Bp.txt_mk KX G ?n_is_whole ?l_is_whole ?o_is_whole ?k_is_whole ?n_checked ?l_checked ?o_checked ?k_checked ?n_elders_at ?l_elders_at ?o_elders_at ?k_elders_at ?n_path_knots ?l_path_knots ?o_path_knots ?k_path_knots ?n_no_counts ?l_no_counts ?o_no_counts ?k_no_counts ?n_count_table ?l_count_table ?o_count_table ?k_count_table ?n_greatest_divisor ?l_greatest_divisor ?o_greatest_divisor ?k_greatest_divisor ?n_fraction ?l_fraction ?o_fraction ?k_fraction ?n_times ?l_times ?o_times ?k_times ?n_product ?l_product ?o_product ?k_product ?n_worth ?l_worth ?o_worth ?k_worth ?n_is_tree_of ?l_is_tree_of ?o_is_tree_of ?k_is_tree_of ?n_is_tree ?l_is_tree ?o_is_tree ?k_is_tree ?n_checked_tree ?l_checked_tree ?o_checked_tree ?k_checked_tree ?n_leaves_behind ?l_leaves_behind ?o_leaves_behind ?k_leaves_behind ?n_leaves ?l_leaves ?o_leaves ?k_leaves ?n_worth_by ?l_worth_by ?o_worth_by ?k_worth_by ?n_L_cell_at ?l_L_cell_at ?o_L_cell_at ?k_L_cell_at ?n_L_signs ?l_L_signs ?o_L_signs ?k_L_signs ?n_L_frame ?l_L_frame ?o_L_frame ?k_L_frame ?n_L_cells ?l_L_cells ?o_L_cells ?k_L_cells ?n_L_thing ?l_L_thing ?o_L_thing ?k_L_thing ?n_L_tree ?l_L_tree ?o_L_tree ?k_L_tree ?n_L_is ?l_L_is ?o_L_is ?k_L_is ?n_L_text ?l_L_text ?o_L_text ?k_L_text ?n_L_elders ?l_L_elders ?o_L_elders ?k_L_elders ?n_L_whole ?l_L_whole ?o_L_whole ?k_L_whole ?n_L_divisor ?l_L_divisor ?o_L_divisor ?k_L_divisor ?n_L_fraction ?l_L_fraction ?o_L_fraction ?k_L_fraction ?n_L_spread ?l_L_spread ?o_L_spread ?k_L_spread ?n_L_strange ?l_L_strange ?o_L_strange ?k_L_strange ?n_L_bad ?l_L_bad ?o_L_bad ?k_L_bad ?n_L_leaf ?l_L_leaf ?o_L_leaf ?k_L_leaf ?n_L_worth ?l_L_worth ?o_L_worth ?k_L_worth ?n_L_kinds ?l_L_kinds ?o_L_kinds ?k_L_kinds ?n_L_asked ?l_L_asked ?o_L_asked ?k_L_asked ?n_L_told ?l_L_told ?o_L_told ?k_L_told ?n_law ?l_law ?o_law ?k_law ?n_ValueError ?n_abs ?n_all ?n_bool ?n_enumerate ?n_int ?n_isinstance ?n_len ?n_list ?n_max ?n_range ?n_reversed ?n_sum ?n_tuple ?n_zip ?n_PressError ?n_NoFraction ?n_NoText ?n_NoTree ?n_ONE ?lk_ONE ?x_NoFraction ?zga_NoFraction ?zgt_NoFraction ?zcl_NoFraction ?zob_NoFraction ?zbe_NoFraction ?x_NoText ?zga_NoText ?zgt_NoText ?zcl_NoText ?zob_NoText ?zbe_NoText ?x_NoTree ?zga_NoTree ?zgt_NoTree ?zcl_NoTree ?zob_NoTree ?zbe_NoTree ?x_PressError ?zga_PressError ?zgt_PressError ?zcl_PressError ?zob_PressError ?zbe_PressError ?i_NoFraction_ValueError ?i_NoText_ValueError ?i_NoTree_ValueError ?i_NoFraction_NoTree ?i_NoText_NoTree ?i_NoTree_NoTree ?i_NoFraction_NoText ?i_NoText_NoText ?i_NoTree_NoText ?u_NoFraction_PressError ?u_NoText_PressError ?u_NoTree_PressError
    (case n_is_whole => k_is)
    (case l_is_whole => k_is)
    (case o_is_whole => k_is)
    (case k_is_whole => k_is)
    (case n_checked => k_is)
    (case l_checked => k_is)
    (case o_checked => k_is)
    (case k_checked => k_is)
    (case n_elders_at => k_is)
    (case l_elders_at => k_is)
    (case o_elders_at => k_is)
    (case k_elders_at => k_is)
    (case n_path_knots => k_is)
    (case l_path_knots => k_is)
    (case o_path_knots => k_is)
    (case k_path_knots => k_is)
    (case n_no_counts => k_is)
    (case l_no_counts => k_is)
    (case o_no_counts => k_is)
    (case k_no_counts => k_is)
    (case n_count_table => k_is)
    (case l_count_table => k_is)
    (case o_count_table => k_is)
    (case k_count_table => k_is)
    (case n_greatest_divisor => k_is)
    (case l_greatest_divisor => k_is)
    (case o_greatest_divisor => k_is)
    (case k_greatest_divisor => k_is)
    (case n_fraction => k_is)
    (case l_fraction => k_is)
    (case o_fraction => k_is)
    (case k_fraction => k_is)
    (case n_times => k_is)
    (case l_times => k_is)
    (case o_times => k_is)
    (case k_times => k_is)
    (case n_product => k_is)
    (case l_product => k_is)
    (case o_product => k_is)
    (case k_product => k_is)
    (case n_worth => k_is)
    (case l_worth => k_is)
    (case o_worth => k_is)
    (case k_worth => k_is)
    (case n_is_tree_of => k_is)
    (case l_is_tree_of => k_is)
    (case o_is_tree_of => k_is)
    (case k_is_tree_of => k_is)
    (case n_is_tree => k_is)
    (case l_is_tree => k_is)
    (case o_is_tree => k_is)
    (case k_is_tree => k_is)
    (case n_checked_tree => k_is)
    (case l_checked_tree => k_is)
    (case o_checked_tree => k_is)
    (case k_checked_tree => k_is)
    (case n_leaves_behind => k_is)
    (case l_leaves_behind => k_is)
    (case o_leaves_behind => k_is)
    (case k_leaves_behind => k_is)
    (case n_leaves => k_is)
    (case l_leaves => k_is)
    (case o_leaves => k_is)
    (case k_leaves => k_is)
    (case n_worth_by => k_is)
    (case l_worth_by => k_is)
    (case o_worth_by => k_is)
    (case k_worth_by => k_is)
    (case n_L_cell_at => k_is)
    (case l_L_cell_at => k_is)
    (case o_L_cell_at => k_is)
    (case k_L_cell_at => k_is)
    (case n_L_signs => k_is)
    (case l_L_signs => k_is)
    (case o_L_signs => k_is)
    (case k_L_signs => k_is)
    (case n_L_frame => k_is)
    (case l_L_frame => k_is)
    (case o_L_frame => k_is)
    (case k_L_frame => k_is)
    (case n_L_cells => k_is)
    (case l_L_cells => k_is)
    (case o_L_cells => k_is)
    (case k_L_cells => k_is)
    (case n_L_thing => k_is)
    (case l_L_thing => k_is)
    (case o_L_thing => k_is)
    (case k_L_thing => k_is)
    (case n_L_tree => k_is)
    (case l_L_tree => k_is)
    (case o_L_tree => k_is)
    (case k_L_tree => k_is)
    (case n_L_is => k_is)
    (case l_L_is => k_is)
    (case o_L_is => k_is)
    (case k_L_is => k_is)
    (case n_L_text => k_is)
    (case l_L_text => k_is)
    (case o_L_text => k_is)
    (case k_L_text => k_is)
    (case n_L_elders => k_is)
    (case l_L_elders => k_is)
    (case o_L_elders => k_is)
    (case k_L_elders => k_is)
    (case n_L_whole => k_is)
    (case l_L_whole => k_is)
    (case o_L_whole => k_is)
    (case k_L_whole => k_is)
    (case n_L_divisor => k_is)
    (case l_L_divisor => k_is)
    (case o_L_divisor => k_is)
    (case k_L_divisor => k_is)
    (case n_L_fraction => k_is)
    (case l_L_fraction => k_is)
    (case o_L_fraction => k_is)
    (case k_L_fraction => k_is)
    (case n_L_spread => k_is)
    (case l_L_spread => k_is)
    (case o_L_spread => k_is)
    (case k_L_spread => k_is)
    (case n_L_strange => k_is)
    (case l_L_strange => k_is)
    (case o_L_strange => k_is)
    (case k_L_strange => k_is)
    (case n_L_bad => k_is)
    (case l_L_bad => k_is)
    (case o_L_bad => k_is)
    (case k_L_bad => k_is)
    (case n_L_leaf => k_is)
    (case l_L_leaf => k_is)
    (case o_L_leaf => k_is)
    (case k_L_leaf => k_is)
    (case n_L_worth => k_is)
    (case l_L_worth => k_is)
    (case o_L_worth => k_is)
    (case k_L_worth => k_is)
    (case n_L_kinds => k_is)
    (case l_L_kinds => k_is)
    (case o_L_kinds => k_is)
    (case k_L_kinds => k_is)
    (case n_L_asked => k_is)
    (case l_L_asked => k_is)
    (case o_L_asked => k_is)
    (case k_L_asked => k_is)
    (case n_L_told => k_is)
    (case l_L_told => k_is)
    (case o_L_told => k_is)
    (case k_L_told => k_is)
    (case n_law => k_is)
    (case l_law => k_is)
    (case o_law => k_is)
    (case k_law => k_is)
    (case n_ValueError => k_is)
    (case n_abs => k_is)
    (case n_all => k_is)
    (case n_bool => k_is)
    (case n_enumerate => k_is)
    (case n_int => k_is)
    (case n_isinstance => k_is)
    (case n_len => k_is)
    (case n_list => k_is)
    (case n_max => k_is)
    (case n_range => k_is)
    (case n_reversed => k_is)
    (case n_sum => k_is)
    (case n_tuple => k_is)
    (case n_zip => k_is)
    (case n_PressError => k_is)
    (case n_NoFraction => k_is)
    (case n_NoText => k_is)
    (case n_NoTree => k_is)
    (case n_ONE => k_is)
    (case lk_ONE => k_is)
    (case x_NoFraction => k_exc)
    (case zga_NoFraction => k_is)
    (case zgt_NoFraction => k_is)
    (case zcl_NoFraction => k_is)
    (case zob_NoFraction => k_is)
    (case zbe_NoFraction => k_is)
    (case x_NoText => k_exc)
    (case zga_NoText => k_is)
    (case zgt_NoText => k_is)
    (case zcl_NoText => k_is)
    (case zob_NoText => k_is)
    (case zbe_NoText => k_is)
    (case x_NoTree => k_exc)
    (case zga_NoTree => k_is)
    (case zgt_NoTree => k_is)
    (case zcl_NoTree => k_is)
    (case zob_NoTree => k_is)
    (case zbe_NoTree => k_is)
    (case x_PressError => k_exc)
    (case zga_PressError => k_is)
    (case zgt_PressError => k_is)
    (case zcl_PressError => k_is)
    (case zob_PressError => k_is)
    (case zbe_PressError => k_is)
    (case i_NoFraction_ValueError => kit_is)
    (case i_NoText_ValueError => kit_is)
    (case i_NoTree_ValueError => kit_is)
    (case i_NoFraction_NoTree => kit_is)
    (case i_NoText_NoTree => kit_is)
    (case i_NoTree_NoTree => kit_is)
    (case i_NoFraction_NoText => kit_is)
    (case i_NoText_NoText => kit_is)
    (case i_NoTree_NoText => kit_is)
    (case u_NoFraction_PressError => k_is)
    (case u_NoText_PressError => k_is)
    (case u_NoTree_PressError => k_is)
#print axioms PySem.Challenge.cw_boughpress_k34_worth_by_a_tree_holds
